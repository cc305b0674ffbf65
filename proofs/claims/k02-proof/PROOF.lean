import PyProof.Rows.All
import Wide.All
import OpenK.AllK
import Wide.FinOn
import HandS.Base
import HandS.Call
import HandS.List
import HandS.Comp
import HandS.Dict
import HandS.Iter
import HandS.Text
import HandS.Ends
import HandS.Words
import HandS.WordsList
import PySem.Challenge.RW_answerpiles_k02_deeds_told
import HandS.IsInst
import HandS.Walk
import HandS.Exc
import HandS.ExcOwn
import HandS.ExcInit
import HandS.ExcField
import HandS.ExcIs
import HandS.WordsExc
import HandS.Defaults
import HandS.MakeKwOnly
import KE.KIsAll
import PyProof.ReprRoads
import PyProof.ReprLen
import HandS.Strs
import HandS.TupSets
import KE.GoesMore
import HandS.DictTup
import KE.KSortTupUse
import PyProof.Rows.SortStr
import PyProof.Rows.SortShellK
import HandS.WordsDict
import KE.KDictPairs
import PyProof.InstNe
import HandS.Small
import HandS.SetTxt0
import HandS.SetFor
import PyProof.DictUpdate
import HandS.Style
import HandS.More
import HandS.Property
import HandS.RaiseMore
import HandS.HeadEnd
set_option Elab.async false
set_option linter.all false
set_option maxRecDepth 100000
set_option maxHeartbeats 2000000
namespace My
open PySem PySem.Spec PyProof.Rows L2
def topOf (nm : Str) : List Stmt → Stmt
  | [] => .Pass ⟨0, 0, 0, 0⟩
  | s :: r => match s with
    | .FunctionDef n _ _ _ _ _ _ _ _ _ => if n = nm then s else topOf nm r
    | .ClassDef n _ _ _ _ _ _ _ _ _ _ => if n = nm then s else topOf nm r
    | _ => topOf nm r
def topI (i : Nat) : Stmt := PySem.Challenge.pw_answerpiles_k02_deeds_told.main.body.getD i (.Pass ⟨0, 0, 0, 0⟩)
/-- built-in names that the module leaves alone -/
structure Bn (mg : Str → Option Value) : Prop where
  max : mg "max" = none
  min : mg "min" = none
  int : mg "int" = none
  str : mg "str" = none
  bool : mg "bool" = none
  len : mg "len" = none
  all : mg "all" = none
  range : mg "range" = none
  dict : mg "dict" = none
  enumerate : mg "enumerate" = none
  isinstance : mg "isinstance" = none
  repr : mg "repr" = none
  list : mg "list" = none
  tuple : mg "tuple" = none
  set : mg "set" = none
  sorted : mg "sorted" = none
end My

set_option Elab.async false
set_option linter.all false
set_option maxRecDepth 100000
set_option maxHeartbeats 2000000
namespace My
open PySem PySem.Spec PyProof.Rows L2
/-! ### what a reading says, as equations -/
section
variable {σ : L2.St} {H : Hp} {Q : VK} {D : Ends} {ta tb tc te : TE} {t u : TS} {tt tu : TT} {i j : Nat} {v x y : V} {g : TG}
theorem rd_seq : tSeq t u D σ H = t { D with nx := u D } σ H := rfl
theorem rd_next : tNext D σ H = D.nx σ H := rfl
theorem rd_brk : tBreak D σ H = D.bk σ H := rfl
theorem rd_cont : tCont D σ H = D.ct σ H := rfl
theorem rd_asg : tAsg te g D σ H = te σ H fun x H1 => g x σ H1 D.nx := rfl
theorem rd_gname {Q : L2.St → Hp → Prop} : gName i v σ H Q = Q (σ.set i (some v)) H := rfl
theorem rd_var : tVar i σ H Q = ∃ v, σ[i]? = some (some v) ∧ Q v H := rfl
theorem rd_c : tC v σ H Q = Q v H := rfl
theorem rd_op {r : R2} : tOp r ta tb σ H Q = ta σ H fun x H1 => tb σ H1 fun y H2 => r x y H2 Q := rfl
theorem rd_un {r : V → Hp → VK → Prop} : tUn r ta σ H Q = ta σ H fun x H1 => r x H1 Q := rfl
theorem rd_rI0 {f : Int → Int → V} {a b : Int} : rI0 f (.int a) (.int b) H Q = Q (f a b) H := by
  simp [rI0]
theorem rd_rI {C : Int → Int → Prop} {f : Int → Int → V} {a b : Int} : rI C f (.int a) (.int b) H Q = (C a b ∧ Q (f a b) H) := by
  simp [rI]
theorem rd_rU {f : Int → V} {a : Int} : rU f (.int a) H Q = Q (f a) H := by
  simp [rU]
theorem rd_test {Q : Bool → Hp → Prop} : tTest te σ H Q = te σ H fun x H' => ∃ k, x = .bl k ∧ Q k H' := rfl
theorem rd_B {Q : Bool → Hp → Prop} : tB te σ H Q = te σ H fun x H' => ∃ k, x = .bl k ∧ Q k H' := rfl
theorem rd_and {Q : Bool → Hp → Prop} : tAnd tt tu σ H Q = tt σ H fun c H1 => if c = true then tu σ H1 Q else Q false H1 := rfl
theorem rd_or {Q : Bool → Hp → Prop} : tOr tt tu σ H Q = tt σ H fun c H1 => if c = true then Q true H1 else tu σ H1 Q := rfl
theorem rd_not {Q : Bool → Hp → Prop} : tNot tt σ H Q = tt σ H fun c H1 => Q (!c) H1 := rfl
theorem rd_andV : tAndV ta tb σ H Q = ta σ H fun x H1 => ∃ c, x = .bl c ∧ if c = true then tb σ H1 Q else Q (.bl false) H1 := rfl
theorem rd_orV : tOrV ta tb σ H Q = ta σ H fun x H1 => ∃ c, x = .bl c ∧ if c = true then Q (.bl true) H1 else tb σ H1 Q := rfl
theorem rd_notV : tNotV ta σ H Q = ta σ H fun x H1 => ∃ c, x = .bl c ∧ Q (.bl (!c)) H1 := rfl
theorem rd_ifx : tIf tt ta tb σ H Q = tt σ H fun c H1 => if c = true then ta σ H1 Q else tb σ H1 Q := rfl
theorem rd_ifs : tIfS tt t u D σ H = tt σ H fun b H1 => if b = true then t D σ H1 else u D σ H1 := rfl
theorem rd_drop : tDrop te D σ H = te σ H fun _ H1 => D.nx σ H1 := rfl
theorem rd_ret : tRet te D σ H = te σ H D.rt := rfl
theorem rd_nil {Q : List V → Hp → Prop} : tNil σ H Q = Q [] H := rfl
theorem rd_cons {tr : TA} {Q : List V → Hp → Prop} : tCons ta tr σ H Q = ta σ H fun x H1 => tr σ H1 fun xs H2 => Q (x :: xs) H2 := rfl
theorem rd_cb {r : List V → Hp → VK → Prop} {tr : TA} : tCB r tr σ H Q = tr σ H fun vs H1 => r vs H1 Q := rfl
theorem rd_tup {tr : TA} : tTup tr σ H Q = tr σ H fun xs H1 => xs.length ≤ sizeLine ∧ ∀ p, H1 p = none → Q (.ref p) (upd H1 p (.tup xs)) := rfl
theorem rd_lst {tr : TA} : tLst tr σ H Q = tr σ H fun xs H1 => xs.length ≤ sizeLine ∧ ∀ p, H1 p = none → Q (.ref p) (upd H1 p (.lst xs)) := rfl
theorem rd_call {sp : Sp} {dvs : List V} {E : XK} {tr : TA} : tCall sp dvs E tr σ H Q = tr σ H fun vs H1 => sp (vs ++ dvs) H1 Q E := rfl
theorem rd_bm {K : PySem.W.Frag} {T : String} {r : V → List V → Hp → VK → Prop} {tr : TA} : tBM K T r ta tr σ H Q = ta σ H fun x H1 => tyV K T x H1 ∧ tr σ H1 fun xs H2 => r x xs H2 Q := rfl
/-- a new thing -/
theorem tyL {K : PySem.W.Frag} {a : Addr} {xs : List V} (h : SqL K H a xs) : tyV K "list" (.ref a) H := Or.inl ⟨rfl, _, h⟩
end
theorem sz {n : Nat} (h : n ≤ 100000) : n ≤ sizeLine := Nat.le_trans h (by decide)
theorem szl {n : Nat} (h : n < 100000) : n < sizeLine := Nat.lt_of_lt_of_le h (by decide)
theorem Same.new {H H' : Hp} {p : Addr} {o : HO} (e : Same H H') (h : H p = none) : Same H (upd H' p o) := fun a u ha => by
  rw [upd_ne (ne_of_none ha h)]
  exact e a u ha
theorem Same.new' {H H' : Hp} {p : Addr} {o : HO} (e : Same H H') (h : H' p = none) : Same H (upd H' p o) := fun a u ha => by
  rw [upd_ne (ne_of_none (e a u ha) h)]
  exact e a u ha
theorem ex_bl {P : Bool → Prop} {b : Bool} : (∃ k, V.bl b = V.bl k ∧ P k) = P b := by simp
end My
namespace My
open PySem PySem.Spec PyProof.Rows L2
section
variable {σ : L2.St} {H : Hp} {Q : VK} {D : Ends} {tb : TS} {j : Nat}
/-- for x in range(m) -/
theorem for_r1 {ta : TA} {m : Int} (hm : 0 ≤ m ∧ m ≤ 100000) (h : ∀ Q : List V → Hp → Prop, Q [.int m] H → ta σ H Q) (Pv : Nat → L2.St → Hp → Prop) (h0 : Pv 0 σ H)
    (hs : ∀ (i : Nat) (σ' : L2.St) (H' : Hp), (i : Int) < m → Pv i σ' H' → tb { D with nx := Pv (i + 1), ct := Pv (i + 1), bk := D.nx } (σ'.set j (some (.int (i : Int)))) H') (hd : ∀ σ' H', Pv m.toNat σ' H' → D.nx σ' H') : tFor (iRng1 ta) (gName j) tb D σ H :=
  h _ ⟨m, rfl, by omega, by omega, for_range (lo := 0) (n := m.toNat) Pv h0 (fun i σ' H' hi p => by
    have e0 : (0 : Int) + (i : Int) = (i : Int) := Int.zero_add _
    show tb { D with nx := Pv (i + 1), ct := Pv (i + 1), bk := D.nx } (σ'.set j (some (.int ((0 : Int) + (i : Int))))) H'
    rw [e0]
    exact hs i σ' H' (by omega) p) hd⟩
end
end My

namespace L2
theorem PE.imp {X : Cx} {e : PySem.Expr} {t t' : TE} (h : PE X e t) (k : ∀ σ H Q, t' σ H Q → t σ H Q) : PE X e t' := ⟨fun pins s σ H Q I q => h.run pins s σ H Q I (k σ H Q q)⟩
theorem PT.imp {X : Cx} {e : PySem.Expr} {t t' : TT} (h : PT X e t) (k : ∀ σ H Q, t' σ H Q → t σ H Q) : PT X e t' := ⟨fun pins s σ H Q I q => h.run pins s σ H Q I (k σ H Q q)⟩
theorem PS.imp {X : Cx} {e : PySem.Stmt} {t t' : TS} (h : PS X e t) (k : ∀ D σ H, t' D σ H → t D σ H) : PS X e t' := ⟨fun pins s σ H D I q => h.run pins s σ H D I (k D σ H q)⟩
theorem OpR.imp {X : Cx} {f : PySem.Value → PySem.Value → PySem.Sem PySem.Value} {r r' : R2} (h : OpR X f r) (k : ∀ x y H Q, r' x y H Q → r x y H Q) : OpR X f r' := fun pins s σ H x y v u Q I rx ry q => h pins s σ H x y v u Q I rx ry (k x y H Q q)
theorem IxR.imp {X : Cx} {r r' : R2} (h : IxR X r) (k : ∀ x y H Q, r' x y H Q → r x y H Q) : IxR X r' := fun e1 e2 pins s σ H x y v u Q I rx ry q hs => h e1 e2 pins s σ H x y v u Q I rx ry (k x y H Q q) hs
theorem CallR.imp {X : Cx} {f : PySem.Value} {r r' : List V → Hp → VK → Prop} (h : CallR X f r) (k : ∀ xs H Q, r' xs H Q → r xs H Q) : CallR X f r' := fun pins s σ H xs us Q I rx q => h pins s σ H xs us Q I rx (k xs H Q q)
/-- a reading, closed upward -/
def Mon (t : TE) : TE := fun σ H Q => ∃ R : VK, t σ H R ∧ ∀ v H', R v H' → Q v H'
theorem PE.mon {X : Cx} {e : PySem.Expr} {t : TE} (h : PE X e t) : PE X e (Mon t) := ⟨fun pins s σ H Q I ⟨R, q, k⟩ => thn (h.run pins s σ H R I q) fun v s' ⟨x, H', I', r, q'⟩ => ⟨x, H', I', r, k x H' q'⟩⟩
end L2
namespace My
open PySem PySem.Spec PyProof.Rows L2
/-- xs.append(e), xs a list that stands in H -/
def tApp (ta te : TE) : TE := fun σ H Q => ta σ H fun x H1 => ∃ l, x = .ref l ∧ (∃ xs, H1 l = some (.lst xs)) ∧ te σ H1 fun y H2 => ∃ xs, H2 l = some (.lst xs) ∧ xs.length < sizeLine ∧ Q .non (upd H2 l (.lst (xs ++ [y])))
theorem rd_app {σ : L2.St} {H : Hp} {Q : VK} {ta te : TE} : tApp ta te σ H Q = ta σ H fun x H1 => ∃ l, x = .ref l ∧ (∃ xs, H1 l = some (.lst xs)) ∧ te σ H1 fun y H2 => ∃ xs, H2 l = some (.lst xs) ∧ xs.length < sizeLine ∧ Q .non (upd H2 l (.lst (xs ++ [y]))) := rfl
theorem pe_app {X : Cx} {o e : Expr} {ta te : TE} {apos cpos : Pos} (ho : PE X o ta) (he : PE X e te)
    (hbase : attributeBase o "append" X.env (eval o X.env) = eval o X.env := by rfl)
    (hfew : ((backTo cpos (starEach (e :: []) X.env)).all (fun x => !x.1) && (backToKw cpos (keywordEach [] X.env)).all (fun x => x.1.isSome)
      && decide ((e :: []).length + ([] : List Keyword).length + (if ([] : List Keyword).isEmpty then 0 else 1) < 30)) = true := by rfl)
    (hline : (apos.endLine == cpos.line) = true := by rfl) (hs : starEach (e :: []) X.env = (false, eval e X.env) :: starEach [] X.env := by rfl) (hplain : (backTo cpos (starEach [] X.env)).any (·.1) = false := by rfl) :
    PE X (.Call (.Attribute o "append" apos) [e] [] cpos) (tApp ta te) :=
  (pe_bm PySem.F.plainAttrs_list PySem.F.slot_list_append PySem.F.type_list_append mt_append ho.mon (pa_cons he.mon pa_nil hs) hbase hfew hline hs hplain).imp fun σ H Q q =>
    ⟨_, q, fun x H1 ⟨l, ex, ⟨xs, hl⟩, q1⟩ => ⟨by subst ex; exact tyL (SqL.of hl), _, q1, fun y H2 ⟨ys, hl2, hz, q2⟩ => ⟨l, ys, y, ex, rfl, hl2, hz, q2⟩⟩⟩
theorem fmod_r {a m : Int} (h : 0 < m) : 0 ≤ a.fmod m ∧ a.fmod m < m := ⟨Int.fmod_nonneg_of_pos a h, Int.fmod_lt_of_pos a h⟩
end My

set_option Elab.async false
set_option linter.all false
set_option maxRecDepth 100000
set_option maxHeartbeats 2000000
namespace My
open PySem PySem.Spec PyProof.Rows L2
abbrev sNum : Stmt := topI 19
/-- all drawn numbers lie from 0 to 839 -/
def Dn (ns : List Int) : Prop := ∀ n ∈ ns, 0 ≤ n ∧ n < 840
/-- _law_numbers: a new list of drawn numbers -/
def spNum : Sp := fun vs H Q _ => ∃ (c k m : Int), vs = [.int c, .int k, .int m] ∧ 0 ≤ k ∧ k ≤ 1000 ∧ 0 ≤ m ∧ m ≤ 1000 ∧
  ∀ (p : Addr) (ns : List Int) (H' : Hp), H p = none → Same H H' → H' p = some (.lst (ns.map V.int)) → Dn ns → Q (.ref p) H'
theorem scNum : FnScope ["cell", "salt", "many", "whole", "left", "result", "k", "one"] ["cell", "salt", "many"] (defScope sNum) := ⟨rfl, rfl, rfl, by decide +kernel, rfl, by decide +kernel, by decide +kernel⟩
section
variable {P : Program} {w : World} {K : PySem.W.Frag} {mg : Str → Option Value} {base : Heap}
local macro_rules | `(tactic| walk_at "rd") => `(tactic| simp only [rd_seq, rd_next, rd_brk, rd_cont, rd_asg, rd_gname, rd_var, rd_c, rd_op, rd_un, rd_rI0, rd_rI, rd_rU, rd_test, rd_B, rd_and, rd_or, rd_not, rd_andV, rd_orV, rd_notV, rd_ifx, rd_ifs, rd_drop, rd_ret, rd_nil, rd_cons, rd_cb, rd_tup, rd_lst, rd_call, rd_bm, rd_app, L2.start, and_assoc, exists_and_left, List.map_cons, List.map_nil, List.length_cons, List.length_nil, List.cons_append, List.nil_append, List.append_nil, List.replicate_succ, List.replicate_zero, List.replicate, List.set_cons_zero, List.set_cons_succ, List.getElem?_cons_zero, List.getElem?_cons_succ, Option.some.injEq, exists_eq_left', exists_eq_left, exists_eq, V.int.injEq, V.ref.injEq, V.str.injEq, V.bl.injEq, HO.lst.injEq, HO.tup.injEq, ex_bl, List.cons.injEq, and_true, true_and, Nat.reduceAdd, Nat.reduceSub, reduceCtorEq, false_and, or_false, exists_false, false_or, decide_eq_true_eq, if_true, if_false, Bool.false_eq_true, Bool.not_true, Bool.not_false, upd_same])
theorem num_end {H H' : Hp} {p : Addr} {ns : List Int} {v : Int} {i : Nat} (hp : H p = none) (sm : Same H H') (dn : Dn ns) (len : ns.length = i) (hi : i < 1000) (hv : 0 ≤ v ∧ v < 840) :
    (ns.map V.int).length < sizeLine ∧ Same H (upd H' p (.lst (ns.map V.int ++ [.int v]))) ∧ ∃ x : List Int, ns.map V.int ++ [.int v] = x.map V.int ∧ Dn x ∧ x.length = i + 1 :=
  ⟨szl (by rw [List.length_map]; omega), My.Same.new sm hp, ns ++ [v], by rw [List.map_append]; rfl, fun n hn => by
    rcases List.mem_append.mp hn with h | h
    · exact dn n h
    · rw [List.mem_singleton.mp h]; exact hv, by rw [List.length_append, len]; rfl⟩
theorem num_math {w0 k : Int} {i : Nat} (k0 : 0 ≤ k) (k1 : k ≤ 1000) (hi : i < 1000) :
    CMul 7717 k ∧ CPow (w0.fmod 2147483629 + 7717 * k + 3) 3 ∧ CMul 99991 ((i : Int) + 1) ∧ CMul (((w0.fmod 2147483629 + 7717 * k + 3) ^ Int.toNat 3).fmod 2147483647 + 99991 * ((i : Int) + 1)) ((i : Int) + 5) ∧
    ∀ a : Int, CPow (a.fmod 2147483629) 5 ∧ ∀ b : Int, CMul (b.fmod 2147483647) 48271 := by
  have h1 := fmod_r (a := w0) (m := 2147483629) (by decide)
  have h2 := fmod_r (a := (w0.fmod 2147483629 + 7717 * k + 3) ^ Int.toNat 3) (m := 2147483647) (by decide)
  refine ⟨.inl ⟨by decide, by decide⟩, ⟨by decide, by decide, by omega⟩, .inl ⟨by decide, by decide⟩, .inr ⟨by omega, by omega⟩, fun a => ⟨⟨by decide, by decide, ?_⟩, fun b => .inr ⟨by decide, by decide⟩⟩⟩
  have h3 := fmod_r (a := a) (m := 2147483629) (by decide)
  omega
theorem cdiv (a : Int) {m : Int} (h : m ≠ 0 ∧ m.natAbs < 1073741824 := by decide) : CDivN a m := h
theorem ok_num {f : Addr} {fd : FuncData} (F : Fun K "_law_numbers" "_law_numbers" sNum f fd) (B : Bn mg) : FnOk P w K mg base CX0 1 f fd ["cell", "salt", "many"] spNum := by
  refine F.ok scNum (fun vs H Q E h => ?_) (fun cdv A outer s H vs Q E hr h => ?_)
  · obtain ⟨c, k, m, rfl, _⟩ := h
    rfl
  · obtain ⟨c, k, m, rfl, k0, k1, m0, m1, q⟩ := h
    refine ⟨_, pss_cons (ps_set (i := 3) scNum.nd rfl (Or.inl rfl) (pe_callB (call_max2 rfl) (by rfl) B.max (by decide +kernel) (pa_cons (pe_callTy call_int1 (by rfl) B.int (by decide +kernel) (pa_cons (pv 0) pa_nil)) (pa_cons (pe_callTy call_int1 (by rfl) B.int (by decide +kernel) (pa_cons (pe_op op_sub (pe_un un_neg pe_int) (pv 0)) pa_nil)) pa_nil))))
      (pss_cons (ps_set (i := 4) scNum.nd rfl (Or.inl rfl) (pv 3))
      (pss_cons (ps_set (i := 5) scNum.nd rfl (Or.inl rfl) (pe_lst pa_nil))
      (pss_cons (ps_for PassesOwn.never rfl (pi_range1 (by rfl) B.range (pa_cons (pv 2) pa_nil)) (pg_name (i := 6) scNum.nd rfl (Or.inl rfl))
        (pss_one (ps_if (PW.pt (pw_and (pt_cmpR op_ge (pv 3) (pe_op op_pow pe_int pe_int) (nomark _)) (pw_and1 (pt_cmpR op_gt (pv 4) pe_int (nomark _)))))
          (pss_cons (ps_expr (pe_app (pv 5) (pe_op op_modN (pe_callTy call_int1 (by rfl) B.int (by decide +kernel) (pa_cons (pv 4) pa_nil)) pe_int)))
            (pss_one (ps_set (i := 4) scNum.nd rfl (Or.inl rfl) (pe_op op_fdivN (pv 4) pe_int))))
          (pss_cons (ps_set (i := 7) scNum.nd rfl (Or.inl rfl) (pe_op op_modN (pe_callTy call_int1 (by rfl) B.int (by decide +kernel) (pa_cons (pe_op op_pow (pe_op op_add (pe_op op_add (pe_op op_modN (pe_callTy call_int1 (by rfl) B.int (by decide +kernel) (pa_cons (pv 3) pa_nil)) pe_int) (pe_op op_mul pe_int (pv 1))) pe_int) pe_int) pa_nil)) pe_int))
          (pss_cons (ps_set (i := 7) scNum.nd rfl (Or.inl rfl) (pe_op op_modN (pe_callTy call_int1 (by rfl) B.int (by decide +kernel) (pa_cons (pe_op op_mul (pe_op op_add (pv 7) (pe_op op_mul pe_int (pe_op op_add (pv 6) pe_int))) (pe_op op_add (pv 6) pe_int)) pa_nil)) pe_int))
          (pss_cons (ps_set (i := 7) scNum.nd rfl (Or.inl rfl) (pe_op op_modN (pe_callTy call_int1 (by rfl) B.int (by decide +kernel) (pa_cons (pe_op op_mul (pe_op op_modN (pe_callTy call_int1 (by rfl) B.int (by decide +kernel) (pa_cons (pe_op op_pow (pv 7) pe_int) pa_nil)) pe_int) pe_int) pa_nil)) pe_int))
          (pss_one (ps_expr (pe_app (pv 5) (pe_op op_modN (pe_callTy call_int1 (by rfl) B.int (by decide +kernel) (pa_cons (pe_op op_fdivN (pv 7) pe_int) pa_nil)) pe_int)))))))))
        )
      (pss_one (ps_ret (pv 5)))))), ?_⟩
    walk_at "rd"
    refine ⟨sz (by decide), fun p hp => ?_⟩
    generalize (if -1 - c > c then -1 - c else c) = w0
    refine for_r1 (m := m) ⟨m0, by omega⟩ (fun Q q => ?_) (fun i σ' H' => ∃ (left : Int) (ns : List Int) (kv ov : Option V), σ' = [some (.int c), some (.int k), some (.int m), some (.int w0), some (.int left), some (.ref p), kv, ov] ∧ Same H H' ∧ H' p = some (.lst (ns.map V.int)) ∧ Dn ns ∧ ns.length = i)
      ⟨w0, [], none, none, rfl, My.Same.new (Same.refl H) hp, upd_same, (fun n hn => nomatch hn), rfl⟩ ?_ ?_
    · walk_at "rd"
      exact q
    · rintro i _ H' hi ⟨left, ns, kv, ov, rfl, sm, hl, dn, len⟩
      walk_at "rd"
      simp only [hl]
      walk_at "rd"
      have hi' : i < 1000 := by omega
      obtain ⟨a1, a2, a3, a4, a5⟩ := num_math (w0 := w0) (i := i) k0 k1 hi'
      refine ⟨⟨by decide, by decide, by decide⟩, ?_⟩
      split
      · split
        · obtain ⟨b1, b2, b3⟩ := num_end hp sm dn len hi' (fmod_r (a := left) (m := 840) (by decide))
          exact ⟨⟨_, rfl⟩, by decide, b1, cdiv _, b2, b3⟩
        · refine ⟨by decide, a1, a2, by decide, a3, a4, by decide, (a5 _).1, by decide, (a5 0).2 _, by decide, ⟨_, rfl⟩, cdiv _, by decide, num_end hp sm dn len hi' (fmod_r (by decide))⟩
      · refine ⟨by decide, a1, a2, by decide, a3, a4, by decide, (a5 _).1, by decide, (a5 0).2 _, by decide, ⟨_, rfl⟩, cdiv _, by decide, num_end hp sm dn len hi' (fmod_r (by decide))⟩
    · rintro _ H' ⟨left, ns, kv, ov, rfl, sm, hl, dn, len⟩
      walk_at "rd"
      exact q p ns H' hp sm hl dn
end
end My

set_option Elab.async false
set_option linter.all false
set_option maxRecDepth 100000
set_option maxHeartbeats 2000000
namespace My
open PySem PySem.Spec PyProof.Rows L2
section
variable {X : Cx}
/-! ### lists that stand in H -/
def rIxLst : R2 := fun x y H Q => ∃ p i, x = .ref p ∧ y = .int i ∧ ∃ xs, H p = some (.lst xs) ∧ 0 ≤ i ∧ ∃ v, xs[i.toNat]? = some v ∧ Q v H
theorem rd_ixLst {x y : V} {H : Hp} {Q : VK} : rIxLst x y H Q = ∃ p i, x = .ref p ∧ y = .int i ∧ ∃ xs, H p = some (.lst xs) ∧ 0 ≤ i ∧ ∃ v, xs[i.toNat]? = some v ∧ Q v H := rfl
theorem atI_pos {xs : List V} {i : Int} {v : V} (h0 : 0 ≤ i) (h : xs[i.toNat]? = some v) : atI xs i = some v := by
  have e : i = (i.toNat : Int) := (Int.toNat_of_nonneg h0).symm
  rw [e]
  exact atI_nat h
theorem ix_lst : IxR X rIxLst := ix_list.imp fun _ _ _ _ ⟨p, i, ex, ey, xs, hp, h0, v, hv, q⟩ => ⟨p, xs, i, v, ex, ey, SqL.of hp, atI_pos h0 hv, q⟩
/-- the script, or another list that is read -/
def rIxSq (K : PySem.W.Frag) : R2 := fun x y H Q => ∃ p i, x = .ref p ∧ y = .int i ∧ ∃ xs, SqL K H p xs ∧ 0 ≤ i ∧ ∃ v, xs[i.toNat]? = some v ∧ Q v H
theorem rd_ixSq {K : PySem.W.Frag} {x y : V} {H : Hp} {Q : VK} : rIxSq K x y H Q = ∃ p i, x = .ref p ∧ y = .int i ∧ ∃ xs, SqL K H p xs ∧ 0 ≤ i ∧ ∃ v, xs[i.toNat]? = some v ∧ Q v H := rfl
theorem ix_sq : IxR X (rIxSq X.K) := ix_list.imp fun _ _ _ _ ⟨p, i, ex, ey, xs, hp, h0, v, hv, q⟩ => ⟨p, xs, i, v, ex, ey, hp, atI_pos h0 hv, q⟩
def rLenL : List V → Hp → VK → Prop := fun vs H Q => ∃ p, vs = [.ref p] ∧ ∃ xs, H p = some (.lst xs) ∧ Q (.int (xs.length : Int)) H
theorem rd_lenL {vs : List V} {H : Hp} {Q : VK} : rLenL vs H Q = ∃ p, vs = [.ref p] ∧ ∃ xs, H p = some (.lst xs) ∧ Q (.int (xs.length : Int)) H := rfl
theorem call_lenL : CallR X (.builtin "len") rLenL := call_len_seq.imp fun _ _ _ ⟨p, e, xs, hp, q⟩ => ⟨p, xs, e, .inl (SqL.of hp), q⟩
def rLenSq (K : PySem.W.Frag) : List V → Hp → VK → Prop := fun vs H Q => ∃ p, vs = [.ref p] ∧ ∃ xs, SqL K H p xs ∧ Q (.int (xs.length : Int)) H
theorem rd_lenSq {K : PySem.W.Frag} {vs : List V} {H : Hp} {Q : VK} : rLenSq K vs H Q = ∃ p, vs = [.ref p] ∧ ∃ xs, SqL K H p xs ∧ Q (.int (xs.length : Int)) H := rfl
theorem call_lenSq : CallR X (.builtin "len") (rLenSq X.K) := call_len_seq.imp fun _ _ _ ⟨p, e, xs, hp, q⟩ => ⟨p, xs, e, .inl hp, q⟩
def rSetLst : V → V → V → Hp → (Hp → Prop) → Prop := fun o i v H Q => ∃ p k, o = .ref p ∧ i = .int k ∧ ∃ xs, H p = some (.lst xs) ∧ 0 ≤ k ∧ k.toNat < xs.length ∧ Q (upd H p (.lst (xs.set k.toNat v)))
theorem rd_setLst {o i v : V} {H : Hp} {Q : Hp → Prop} : rSetLst o i v H Q = ∃ p k, o = .ref p ∧ i = .int k ∧ ∃ xs, H p = some (.lst xs) ∧ 0 ≤ k ∧ k.toNat < xs.length ∧ Q (upd H p (.lst (xs.set k.toNat v))) := rfl
theorem set_lst : PSet X rSetLst := fun pins s σ H o i y vo vi vy Q I ro ri ry ⟨p, k, eo, ei, xs, hp, h0, hk, q⟩ => set_list pins s σ H o i y vo vi vy Q I ro ri ry ⟨p, xs, k, k.toNat, eo, ei, hp, by
  unfold ixN
  rw [if_pos h0, if_pos (by omega)], q⟩
theorem rd_sub {to ti : TE} {t : TSet} {v : V} {σ : L2.St} {H : Hp} {Q : L2.St → Hp → Prop} : gSub to ti t v σ H Q = to σ H fun o H1 => ti σ H1 fun i H2 => t o i v H2 fun H3 => Q σ H3 := rfl
/-- script != [] -/
def rNeNil (K : PySem.W.Frag) : R2 := fun x y H Q => ∃ a b, x = .ref a ∧ y = .ref b ∧ ∃ ns : List Int, SqL K H a (ns.map V.int) ∧ H b = some (.lst []) ∧ Q (.bl (!ns.isEmpty)) H
theorem rd_neNil {K : PySem.W.Frag} {x y : V} {H : Hp} {Q : VK} : rNeNil K x y H Q = ∃ a b, x = .ref a ∧ y = .ref b ∧ ∃ ns : List Int, SqL K H a (ns.map V.int) ∧ H b = some (.lst []) ∧ Q (.bl (!ns.isEmpty)) H := rfl
theorem dpInts {K : PySem.W.Frag} {H : Hp} : ∀ ns : List Int, DpAll K H (ns.map V.int) (ns.map PyData.int)
  | [] => .nil
  | _ :: r => .cons (.int _) (dpInts r)
theorem canInts : ∀ ns : List Int, PyData.canLayAll0 (ns.map PyData.int) = true
  | [] => by simp [PyData.canLayAll0]
  | _ :: r => by simp [PyData.canLayAll0, PyData.canLay0, canInts r]
theorem depInts : ∀ ns : List Int, PyData.depthAll (ns.map PyData.int) = 0
  | [] => by simp [PyData.depthAll]
  | _ :: r => by simp [PyData.depthAll, PyData.depth, depInts r]
theorem shInts (ns : List Int) : SeqAt.shaped (.list (ns.map PyData.int)) = true := by
  unfold SeqAt.shaped
  simp [PyData.canLay0, PyData.depth, canInts, depInts]
theorem op_neNil (hu : X.A.units + 64 < cLine) : OpR X (compareOp .NotEq) (rNeNil X.K) := (op_neD hu).imp fun x y H Q ⟨a, b, ex, ey, ns, ha, hb, q⟩ => by
  subst ex ey
  refine ⟨.list (ns.map .int), .list [], .lst ha (dpInts ns), .lst (SqL.of hb) .nil, shInts ns, by decide, ?_⟩
  cases ns with
  | nil => exact q
  | cons n r => exact q
end
end My

set_option Elab.async false
set_option linter.all false
set_option maxRecDepth 100000
set_option maxHeartbeats 2000000
namespace My
open PySem PySem.Spec PyProof.Rows L2
/-- a def of the module as it stands behind the top -/
structure Df (K : PySem.W.Frag) (mg : Str → Option Value) (nm : Str) (st : Stmt) (ps : List Str) where
  f : Addr
  fd : FuncData
  F : Fun K nm nm st f fd
  g : mg nm = some (.ref f)
  b : Binds K fd ps []
/-- a call of such a def, nothing raised -/
theorem pc {X : Cx} {nm : Str} {st : Stmt} {ps : List Str} {sp : Sp} {k : Nat} {p pos : Pos} {e : Expr} {es : List Expr} {t : TA} (D : Df X.K X.mg nm st ps) (G : FnOk X.prog X.w X.K X.mg X.base CX0 k D.f D.fd ps sp) (hr : Room k X.A) (ha : PA X (e :: es) t)
    (hg : Gl X nm := by rfl) (hd : (nm == ("__debug__" : Str)) = false := by decide +kernel)
    (he : starEach (e :: es) X.env = (false, eval e X.env) :: starEach es X.env := by rfl) (hpl : (backTo pos (starEach es X.env)).any (·.1) = false := by rfl) :
    PE X (.Call (.Name nm p) (e :: es) [] pos) (tCall sp [] E0 t) := pe_call G hr hg D.g D.F.kp D.b .nil pass0 ha hd he hpl
end My

set_option Elab.async false
set_option linter.all false
set_option maxRecDepth 100000
set_option maxHeartbeats 2000000
namespace My
open PySem PySem.Spec PyProof.Rows L2
local macro_rules | `(tactic| walk_at "rd") => `(tactic| simp only [rd_seq, rd_next, rd_brk, rd_cont, rd_asg, rd_gname, rd_var, rd_c, rd_op, rd_un, rd_rI0, rd_rI, rd_rU, rd_test, rd_B, rd_and, rd_or, rd_not, rd_andV, rd_orV, rd_notV, rd_ifx, rd_ifs, rd_drop, rd_ret, rd_nil, rd_cons, rd_cb, rd_tup, rd_lst, rd_call, rd_bm, rd_app, rd_ixLst, rd_ixSq, rd_lenL, rd_lenSq, rd_setLst, rd_sub, rd_neNil, Int.reduceToNat, Int.reduceLE, Int.reduceLT, Nat.reduceLT, Nat.reduceLeDiff, Int.reduceNeg, Int.toNat_natCast, Int.reduceAdd, L2.start, and_assoc, exists_and_left, List.map_cons, List.map_nil, List.length_cons, List.length_nil, List.cons_append, List.nil_append, List.append_nil, List.replicate_succ, List.replicate_zero, List.replicate, List.set_cons_zero, List.set_cons_succ, List.getElem?_cons_zero, List.getElem?_cons_succ, Option.some.injEq, exists_eq_left', exists_eq_left, exists_eq, V.int.injEq, V.ref.injEq, V.str.injEq, V.bl.injEq, HO.lst.injEq, HO.tup.injEq, ex_bl, List.cons.injEq, and_true, true_and, Nat.reduceAdd, Nat.reduceSub, reduceCtorEq, false_and, or_false, exists_false, false_or, decide_eq_true_eq, if_true, if_false, Bool.false_eq_true, Bool.not_true, Bool.not_false, upd_same])
local macro_rules | `(tactic| walk_at "rdh") => `(tactic| simp only [rd_seq, rd_next, rd_brk, rd_cont, rd_asg, rd_gname, rd_var, rd_c, rd_op, rd_un, rd_rI0, rd_rI, rd_rU, rd_test, rd_B, rd_and, rd_or, rd_not, rd_andV, rd_orV, rd_notV, rd_ifx, rd_ifs, rd_drop, rd_ret, rd_nil, rd_cons, rd_cb, rd_tup, rd_lst, rd_call, rd_bm, rd_app, rd_ixLst, rd_ixSq, rd_lenL, rd_lenSq, rd_setLst, rd_sub, rd_neNil, Int.reduceToNat, Int.reduceLE, Int.reduceLT, Nat.reduceLT, Nat.reduceLeDiff, Int.reduceNeg, Int.toNat_natCast, Int.reduceAdd, L2.start, and_assoc, exists_and_left, List.map_cons, List.map_nil, List.length_cons, List.length_nil, List.cons_append, List.nil_append, List.append_nil, List.replicate_succ, List.replicate_zero, List.replicate, List.set_cons_zero, List.set_cons_succ, List.getElem?_cons_zero, List.getElem?_cons_succ, Option.some.injEq, exists_eq_left', exists_eq_left, exists_eq, V.int.injEq, V.ref.injEq, V.str.injEq, V.bl.injEq, HO.lst.injEq, HO.tup.injEq, ex_bl, List.cons.injEq, and_true, true_and, Nat.reduceAdd, Nat.reduceSub, reduceCtorEq, false_and, or_false, exists_false, false_or, decide_eq_true_eq, if_true, if_false, Bool.false_eq_true, Bool.not_true, Bool.not_false, upd_same, *])
abbrev sOpn : Stmt := topI 20
abbrev sDrw : Stmt := topI 21
abbrev sPck : Stmt := topI 22
abbrev NOpn : List Str := ["script", "k", "many", "cell"]
theorem scOpn : FnScope NOpn ["script", "k", "many"] (defScope sOpn) := ⟨rfl, rfl, rfl, by decide +kernel, rfl, by decide +kernel, by decide +kernel⟩
abbrev NDrw : List Str := ["pool", "many", "at"]
theorem scDrw : FnScope NDrw ["pool", "many"] (defScope sDrw) := ⟨rfl, rfl, rfl, by decide +kernel, rfl, by decide +kernel, by decide +kernel⟩
abbrev NPck : List Str := ["pool", "some"]
theorem scPck : FnScope NPck ["pool", "some"] (defScope sPck) := ⟨rfl, rfl, rfl, by decide +kernel, rfl, by decide +kernel, by decide +kernel⟩
/-- _law_opened: a new pool of drawn numbers -/
def spOpn (K : PySem.W.Frag) : Sp := fun vs H Q _ => ∃ (a : Addr) (ns : List Int) (k m : Int), vs = [.ref a, .int k, .int m] ∧ SqL K H a (ns.map V.int) ∧ 0 ≤ k ∧ k ≤ 1000 ∧ (ns ≠ [] → k.toNat < ns.length) ∧ 0 ≤ m ∧ m ≤ 1000 ∧
  ∀ (p q : Addr) (zs : List Int) (H' : Hp), H p = none → H q = none → p ≠ q → Same H H' → H' p = some (.lst [.ref q, .int 0]) → H' q = some (.lst (zs.map V.int)) → Q (.ref p) H'
/-- _law_draw: a number below many; the pool's place moves on -/
def spDrw : Sp := fun vs H Q _ => ∃ (p q : Addr) (at_ m : Int) (zs : List Int), vs = [.ref p, .int m] ∧ 0 < m ∧ H p = some (.lst [.ref q, .int at_]) ∧ 0 ≤ at_ ∧ H q = some (.lst (zs.map V.int)) ∧
  ∀ r : Int, 0 ≤ r → r < m → Q (.int r) (upd H p (.lst [.ref q, .int (at_ + 1)]))
/-- _law_pick: one of some -/
def spPck : Sp := fun vs H Q _ => ∃ (p q a : Addr) (at_ : Int) (zs : List Int) (xs : List V), vs = [.ref p, .ref a] ∧ H p = some (.lst [.ref q, .int at_]) ∧ 0 ≤ at_ ∧ H q = some (.lst (zs.map V.int)) ∧ H a = some (.lst xs) ∧ a ≠ p ∧ 0 < xs.length ∧
  ∀ (i : Nat) (x : V), xs[i]? = some x → Q x (upd H p (.lst [.ref q, .int (at_ + 1)]))
section
variable {P : Program} {w : World} {K : PySem.W.Frag} {mg : Str → Option Value} {base : Heap}
theorem ok_opn {f : Addr} {fd : FuncData} (F : Fun K "_law_opened" "_law_opened" sOpn f fd) (B : Bn mg) (D_law_numbers : Df K mg "_law_numbers" sNum ["cell", "salt", "many"]) (G_law_numbers : FnOk P w K mg base CX0 1 D_law_numbers.f D_law_numbers.fd ["cell", "salt", "many"] spNum) :
    FnOk P w K mg base CX0 2 f fd ["script", "k", "many"] (spOpn K) := by
  refine F.ok scOpn (fun vs H Q E h => ?_) (fun cdv A outer s H vs Q E hr h => ?_)
  · obtain ⟨a, ns, k, m, rfl, _⟩ := h
    rfl
  · obtain ⟨a, ns, k, m, rfl, hS, k0, k1, kn, m0, m1, q⟩ := h
    have hu64 := hr.units
    have hr1 := hr
    refine ⟨_, (pss_cons (ps_set (i := 3) scOpn.nd rfl (Or.inl rfl) (pe_ifExp (pt_cmpR (op_neNil hu64) (pv 0) (pe_lst pa_nil) (nomark _)) (pe_ix ix_sq (pv 0) (pv 1) (fun _ _ => rfl)) pe_int))
      (pss_one (ps_ret (pe_lst (pa_cons (pc D_law_numbers G_law_numbers hr1 (pa_cons (pv 3) (pa_cons (pv 1) (pa_cons (pv 2) pa_nil)))) (pa_cons pe_int pa_nil)))))), ?_⟩
    walk_at "rd"
    refine ⟨sz (by decide), fun b hb => ?_⟩
    have hS' : SqL K (upd H b (.lst [])) a (ns.map V.int) := Same.seq (My.Same.new (Same.refl H) hb) hS
    refine ⟨ns, hS', ?_⟩
    have fin : ∀ c : Int, spNum [.int c, .int k, .int m] (upd H b (.lst [])) (fun x H1 => 2 ≤ sizeLine ∧ ∀ (p : Addr), H1 p = none → Q (.ref p) (upd H1 p (.lst [x, .int 0]))) E0 := fun c =>
      ⟨c, k, m, rfl, k0, k1, m0, m1, fun p' zs H1 hp' sm hl dn => ⟨sz (by decide), fun p2 hp2 => q p2 p' zs _ ((Same.trans (My.Same.new (Same.refl H) hb) sm).free hp2) ((My.Same.new (Same.refl H) hb).free hp')
        (Ne.symm (ne_of_none hl hp2)) (My.Same.new' (Same.trans (My.Same.new (Same.refl H) hb) sm) hp2) upd_same (by rw [upd_ne (ne_of_none hl hp2)]; exact hl)⟩⟩
    split
    · rename_i hne
      have hne' : ns ≠ [] := by rintro rfl; simp at hne
      refine ⟨_, hS', k0, V.int (ns[k.toNat]'(kn hne')), ?_, fin _⟩
      rw [List.getElem?_map, List.getElem?_eq_getElem (kn hne')]
      rfl
    · exact fin 5
theorem ok_drw {f : Addr} {fd : FuncData} (F : Fun K "_law_draw" "_law_draw" sDrw f fd) (B : Bn mg) :
    FnOk P w K mg base CX0 1 f fd ["pool", "many"] spDrw := by
  refine F.ok scDrw (fun vs H Q E h => ?_) (fun cdv A outer s H vs Q E hr h => ?_)
  · obtain ⟨p, q, at_, m, zs, rfl, _⟩ := h
    rfl
  · obtain ⟨p, r, at_, m, zs, rfl, m0, hp, a0, hq, q⟩ := h
    have hu64 := hr.units
    have hr1 := hr
    refine ⟨_, (pss_cons (ps_set (i := 2) scDrw.nd rfl (Or.inl rfl) (pe_ix ix_lst (pv 0) pe_int (fun _ _ => rfl)))
      (pss_cons (ps_asg (pe_op op_add (pv 2) pe_int) (pg_sub (pv 0) pe_int set_lst))
      (pss_one (ps_ret (pe_ifExp (pt_cmpR op_lt (pv 2) (pe_callB call_lenL (by rfl) B.len (by decide +kernel) (pa_cons (pe_ix ix_lst (pv 0) pe_int (fun _ _ => rfl)) pa_nil)) (nomark _)) (pe_op op_modN (pe_callTy call_int1 (by rfl) B.int (by decide +kernel) (pa_cons (pe_ix ix_lst (pe_ix ix_lst (pv 0) pe_int (fun _ _ => rfl)) (pv 2) (fun _ _ => rfl)) pa_nil)) (pv 1)) pe_int))))), ?_⟩
    have hrp : r ≠ p := ne_of hq hp (by intro z; injection z with z; cases zs with | nil => cases z | cons a l => injection z with z; cases z)
    walk_at "rd"
    have hu1 := fun o => upd_ne (H := H) (o := o) hrp
    walk_at "rdh"
    split
    · rename_i hlt
      rw [List.length_map] at hlt
      have hi : at_.toNat < zs.length := by omega
      refine ⟨V.int (zs[at_.toNat]'hi), ?_, .inl ⟨_, rfl, by omega, q _ (fmod_r m0).1 (fmod_r m0).2⟩⟩
      rw [List.getElem?_map, List.getElem?_eq_getElem hi]
      rfl
    · trivial
theorem ok_pck {f : Addr} {fd : FuncData} (F : Fun K "_law_pick" "_law_pick" sPck f fd) (B : Bn mg) (D_law_draw : Df K mg "_law_draw" sDrw ["pool", "many"]) (G_law_draw : FnOk P w K mg base CX0 1 D_law_draw.f D_law_draw.fd ["pool", "many"] spDrw) :
    FnOk P w K mg base CX0 2 f fd ["pool", "some"] spPck := by
  refine F.ok scPck (fun vs H Q E h => ?_) (fun cdv A outer s H vs Q E hr h => ?_)
  · obtain ⟨p, q, a, at_, zs, xs, rfl, _⟩ := h
    rfl
  · obtain ⟨p, r, a, at_, zs, xs, rfl, hp, a0, hq, ha, hap, hx, q⟩ := h
    have hr1 := hr
    refine ⟨_, (pss_one (ps_ret (pe_ix ix_lst (pv 1) (pc D_law_draw G_law_draw hr1 (pa_cons (pv 0) (pa_cons (pe_callB call_lenL (by rfl) B.len (by decide +kernel) (pa_cons (pv 1) pa_nil)) pa_nil))) (fun _ _ => rfl)))), ?_⟩
    walk_at "rd"
    simp only [ha]
    walk_at "rd"
    refine ⟨p, r, at_, (xs.length : Int), zs, rfl, by omega, hp, a0, hq, fun i i0 i1 => ⟨i, rfl, xs, ?_⟩⟩
    rw [upd_ne hap]
    have hi : i.toNat < xs.length := by omega
    exact ⟨ha, i0, _, List.getElem?_eq_getElem hi, q _ _ (List.getElem?_eq_getElem hi)⟩
end
end My

set_option Elab.async false
set_option linter.all false
set_option maxRecDepth 100000
set_option maxHeartbeats 2000000
namespace My
open PySem PySem.Spec PyProof.Rows L2
/-! ### types of values -/
def tyO : Option HO → Option String
  | some (.lst _) => some "list"
  | some (.tup _) => some "tuple"
  | some (.dK _) => some "dict"
  | _ => none
def tyS (H : Hp) : V → Option String
  | .non => some "NoneType"
  | .bl _ => some "bool"
  | .int _ => some "int"
  | .str _ => some "str"
  | .ref a => tyO (H a)
  | _ => none
theorem tyO_cases {o : Option HO} {t : String} (h : tyO o = some t) : (∃ xs, o = some (.lst xs) ∧ t = "list") ∨ (∃ xs, o = some (.tup xs) ∧ t = "tuple") ∨ ∃ xs, o = some (.dK xs) ∧ t = "dict" := by
  cases o with
  | none => cases h
  | some o =>
    cases o <;> first | (cases h; exact .inl ⟨_, rfl, rfl⟩) | (cases h; exact .inr (.inl ⟨_, rfl, rfl⟩)) | (cases h; exact .inr (.inr ⟨_, rfl, rfl⟩)) | cases h
theorem tyX_of {K : PySem.W.Frag} {H : Hp} : ∀ {v : V} {t : String}, tyS H v = some t → TyX K H v (.type t)
  | .non, _, h => by cases h; exact .base .non
  | .bl b, _, h => by cases h; exact .base (.bl b)
  | .int i, _, h => by cases h; exact .base (.int i)
  | .str x, _, h => by cases h; exact .base (.str x)
  | .ref a, t, h => by
    rcases tyO_cases (show tyO (H a) = some t from h) with ⟨xs, e, rfl⟩ | ⟨xs, e, rfl⟩ | ⟨xs, e, rfl⟩
    · exact .base (.lst e)
    · exact .base (.tup e)
    · exact .base (.dK e)
def isStr : V → Bool
  | .str _ => true
  | _ => false
def isBl : V → Bool
  | .bl _ => true
  | _ => false
theorem k1 : kitB "NoneType" "str" = some false ∧ kitB "bool" "str" = some false ∧ kitB "int" "str" = some false ∧ kitB "str" "str" = some true ∧ kitB "list" "str" = some false ∧ kitB "tuple" "str" = some false ∧ kitB "dict" "str" = some false := by decide +kernel
theorem k2 : kitB "NoneType" "bool" = some false ∧ kitB "bool" "bool" = some true ∧ kitB "int" "bool" = some false ∧ kitB "str" "bool" = some false ∧ kitB "list" "bool" = some false ∧ kitB "tuple" "bool" = some false ∧ kitB "dict" "bool" = some false := by decide +kernel
theorem kitStr {H : Hp} : ∀ {v : V} {t : String}, tyS H v = some t → kitB t "str" = some (isStr v)
  | .non, _, h => by cases h; exact k1.1
  | .bl b, _, h => by cases h; exact k1.2.1
  | .int i, _, h => by cases h; exact k1.2.2.1
  | .str x, _, h => by cases h; exact k1.2.2.2.1
  | .ref a, t, h => by
    rcases tyO_cases (show tyO (H a) = some t from h) with ⟨xs, e, rfl⟩ | ⟨xs, e, rfl⟩ | ⟨xs, e, rfl⟩
    · exact k1.2.2.2.2.1
    · exact k1.2.2.2.2.2.1
    · exact k1.2.2.2.2.2.2
theorem kitBl {H : Hp} : ∀ {v : V} {t : String}, tyS H v = some t → kitB t "bool" = some (isBl v)
  | .non, _, h => by cases h; exact k2.1
  | .bl b, _, h => by cases h; exact k2.2.1
  | .int i, _, h => by cases h; exact k2.2.2.1
  | .str x, _, h => by cases h; exact k2.2.2.2.1
  | .ref a, t, h => by
    rcases tyO_cases (show tyO (H a) = some t from h) with ⟨xs, e, rfl⟩ | ⟨xs, e, rfl⟩ | ⟨xs, e, rfl⟩
    · exact k2.2.2.2.2.1
    · exact k2.2.2.2.2.2.1
    · exact k2.2.2.2.2.2.2
section
variable {X : Cx}
/-- isinstance(v, str), isinstance(v, bool) -/
def rIsStr : List V → Hp → VK → Prop := fun vs H Q => ∃ v, vs = [v, .ty "str"] ∧ (tyS H v).isSome = true ∧ Q (.bl (isStr v)) H
def rIsBl : List V → Hp → VK → Prop := fun vs H Q => ∃ v, vs = [v, .ty "bool"] ∧ (tyS H v).isSome = true ∧ Q (.bl (isBl v)) H
theorem rd_isStr {v c : V} {H : Hp} {Q : VK} : rIsStr [v, c] H Q = (c = .ty "str" ∧ (tyS H v).isSome = true ∧ Q (.bl (isStr v)) H) := by
  simp [rIsStr, and_assoc]
theorem rd_isBl {v c : V} {H : Hp} {Q : VK} : rIsBl [v, c] H Q = (c = .ty "bool" ∧ (tyS H v).isSome = true ∧ Q (.bl (isBl v)) H) := by
  simp [rIsBl, and_assoc]
theorem call_isStr : CallR X (.builtin "isinstance") rIsStr := call_isi.imp fun _ _ _ ⟨v, e, h, q⟩ => by
  obtain ⟨t, ht⟩ := Option.isSome_iff_exists.mp h
  exact ⟨v, .ty "str", .type t, .type "str", isStr v, e, .ty "str", tyX_of ht, kit_ty (kitStr ht), q⟩
theorem call_isBl : CallR X (.builtin "isinstance") rIsBl := call_isi.imp fun _ _ _ ⟨v, e, h, q⟩ => by
  obtain ⟨t, ht⟩ := Option.isSome_iff_exists.mp h
  exact ⟨v, .ty "bool", .type t, .type "bool", isBl v, e, .ty "bool", tyX_of ht, kit_ty (kitBl ht), q⟩
/-! ### x in a tuple of texts -/
def hasS (ws : List Str) : V → Bool
  | .str x => ws.contains x
  | _ => false
theorem inV_strs (x : Str) : ∀ ws : List Str, inV (.str x) (ws.map V.str) = ws.contains x
  | [] => rfl
  | w :: r => by
    have ih := inV_strs x r
    unfold inV at ih ⊢
    rw [List.map_cons, List.any_cons, ih, List.contains_cons]
    congr 1
    show (w == x) = (x == w)
    exact Bool.eq_iff_iff.mpr ⟨fun h => beq_iff_eq.mpr (beq_iff_eq.mp h).symm, fun h => beq_iff_eq.mpr (beq_iff_eq.mp h).symm⟩
theorem flat_strs : ∀ ws : List Str, (ws.map V.str).all flatV = true
  | [] => rfl
  | _ :: r => by rw [List.map_cons, List.all_cons, flat_strs r]; rfl
def rInS (K : PySem.W.Frag) : R2 := fun x y H Q => ∃ a, y = .ref a ∧ isStr x = true ∧ ∃ ws : List Str, SqT K H a (ws.map V.str) ∧ Q (.bl (hasS ws x)) H
theorem rd_inS {K : PySem.W.Frag} {x y : V} {H : Hp} {Q : VK} : rInS K x y H Q = ∃ a, y = .ref a ∧ isStr x = true ∧ ∃ ws : List Str, SqT K H a (ws.map V.str) ∧ Q (.bl (hasS ws x)) H := rfl
theorem op_inS : OpR X (compareOp .In) (rInS X.K) := op_in_seq.imp fun x _ _ _ ⟨a, ey, hx, ws, hs, q⟩ => by
  cases x with
  | str x =>
    refine ⟨a, ws.map V.str, ey, .inr hs, rfl, flat_strs ws, ?_⟩
    show _ 
    rw [if_neg Bool.false_ne_true, inV_strs]
    exact q
  | _ => cases hx
end
/-! ### words -/
def letters : Str := "abcdefghijklmnopqrstuvwxyz"
def isWord : V → Bool
  | .str x => (decide (1 ≤ x.length) && decide (x.length ≤ 8)) && x.cps.toList.all fun c => decide (c ∈ letters.cps.toList)
  | _ => false
theorem rd_chain {σ : L2.St} {H : Hp} {Q : Bool → Hp → Prop} {r r' : R2} {ta tb tc : TE} : tTest (tChain r r' ta tb tc) σ H Q = tChain r r' ta tb tc σ H fun x H' => ∃ k, x = .bl k ∧ Q k H' := rfl
theorem rd_chain' {σ : L2.St} {H : Hp} {Q : VK} {r r' : R2} {ta tb tc : TE} : tChain r r' ta tb tc σ H Q = ta σ H fun x H1 => tb σ H1 fun y H2 => r x y H2 fun z H3 => ∃ k, z = .bl k ∧ (if k = true then tc σ H3 fun w' H4 => r' y w' H4 Q else Q (.bl false) H3) := rfl
end My
namespace My
open PySem PySem.Spec PyProof.Rows L2
section
variable {X : Cx} {pos : Pos}
theorem pe_tyStr (hm : X.mg "str" = none) (hg : Gl X "str" := by rfl) : PE X (.Name "str" pos) (tC (.ty "str")) := pe_bltn (v := .ty "str") (u := .type "str") hg hm (by decide +kernel) rfl
theorem pe_tyBool (hm : X.mg "bool" = none) (hg : Gl X "bool" := by rfl) : PE X (.Name "bool" pos) (tC (.ty "bool")) := pe_bltn (v := .ty "bool") (u := .type "bool") hg hm (by decide +kernel) rfl
theorem pe_gS {x z : Str} {t : Tok} (hm : X.mg x = some (.str z t)) (hg : Gl X x := by rfl) (hd : (x == ("__debug__" : Str)) = false := by decide) : PE X (.Name x pos) (tC (.str z)) := pe_glob (v := .str z) hg hm ⟨t, rfl⟩ hd
theorem pe_gR {x : Str} {a : Addr} (hm : X.mg x = some (.ref a)) (hg : Gl X x := by rfl) (hd : (x == ("__debug__" : Str)) = false := by decide) : PE X (.Name x pos) (tC (.ref a)) := pe_glob (v := .ref a) hg hm rfl hd
end
end My

set_option Elab.async false
set_option linter.all false
set_option maxRecDepth 100000
set_option maxHeartbeats 2000000
namespace My
open PySem PySem.Spec PyProof.Rows L2
theorem take_more {α : Type} : ∀ {l : List α} {i : Nat} {x : α}, l[i]? = some x → l.take (i + 1) = l.take i ++ [x]
  | [], i, x, h => by simp at h
  | a :: l, 0, x, h => by
    have e : a = x := Option.some.inj h
    subst e
    rfl
  | a :: l, i + 1, x, h => by
    have ih := take_more (l := l) (i := i) (x := x) h
    show a :: l.take (i + 1) = a :: l.take i ++ [x]
    rw [ih]
    rfl
/-- [e for c in text], e leaving the heap as it is -/
theorem lc_str {tl te : TE} {σ : L2.St} {H : Hp} {Q : VK} {j : Nat} {vs : List Nat} {z : Str} (f : Nat → V) (hz : z.length ≤ 100000) (hl : ∀ Q : VK, Q (.str z) H → tl σ H Q) (hw : ∀ x, wipe ((wipe σ vs).set j (some x)) vs = wipe σ vs)
    (he : ∀ (c : Nat) (H' : Hp) (R : VK), Same H H' → R (f c) H' → te ((wipe σ vs).set j (some (.str ⟨#[c]⟩))) H' R)
    (hq : ∀ (D : Addr) (H' : Hp), H D = none → Same H H' → H' D = some (.lst (z.cps.toList.map f)) → Q (.ref D) H') : tLc (iStr tl) (gName j) tYes te vs σ H Q := by
  refine hl _ ⟨z, rfl, fun D hD => lc_it (walk_str (z := z)) (fun i H' => Same H H' ∧ H' D = some (.lst ((z.cps.toList.take i).map f))) ⟨My.Same.new (Same.refl H) hD, upd_same⟩ (fun _ _ _ _ => trivial) ?_ ?_⟩
  · rintro i x H' H2 hi ⟨sm, hl'⟩ ⟨rfl, c, hc, rfl⟩
    refine ⟨hw _, ?_⟩
    simp only [tYes, if_true]
    refine he c _ _ sm ⟨_, hl', szl ?_, My.Same.new sm hD, ?_⟩
    · have hz' : z.cps.size ≤ 100000 := hz
      rw [List.length_map, List.length_take]
      omega
    · rw [upd_same]
      have hc' : z.cps.toList[i]? = some c := by rw [Array.getElem?_toList]; exact hc
      rw [take_more hc', List.map_append]
      rfl
  · rintro H' ⟨sm, hl'⟩
    have e : z.cps.toList.take z.cps.size = z.cps.toList := List.take_of_length_le (by simp)
    rw [e] at hl'
    exact hq D H' hD sm hl'
def rAllB : List V → Hp → VK → Prop := fun vs H Q => ∃ a, vs = [.ref a] ∧ ∃ bs : List Bool, H a = some (.lst (bs.map V.bl)) ∧ Q (.bl (bs.all id)) H
theorem rd_allB {a : Addr} {H : Hp} {Q : VK} : rAllB [.ref a] H Q = ∃ bs : List Bool, H a = some (.lst (bs.map V.bl)) ∧ Q (.bl (bs.all id)) H := by
  simp [rAllB]
theorem cr_allB {X : Cx} (hc : X.calm = true) : CallR X (.builtin "all") rAllB := (cr_all hc).imp fun _ _ _ ⟨a, e, bs, h, q⟩ => ⟨a, bs, e, SqL.of h, q⟩
end My

set_option Elab.async false
set_option linter.all false
set_option maxRecDepth 100000
set_option maxHeartbeats 2000000
namespace My
open PySem PySem.Spec PyProof.Rows L2
local macro_rules | `(tactic| walk_at "rd") => `(tactic| simp only [rd_seq, rd_next, rd_brk, rd_cont, rd_asg, rd_gname, rd_var, rd_c, rd_op, rd_un, rd_rI0, rd_rI, rd_rU, rd_test, rd_B, rd_and, rd_or, rd_not, rd_andV, rd_orV, rd_notV, rd_ifx, rd_ifs, rd_drop, rd_ret, rd_nil, rd_cons, rd_cb, rd_tup, rd_lst, rd_call, rd_bm, rd_app, rd_ixLst, rd_ixSq, rd_lenL, rd_lenSq, rd_setLst, rd_sub, rd_neNil, rd_isStr, rd_allB, rd_isBl, rd_inS, rd_chain, rd_chain', L2.wipe, Int.reduceToNat, Int.reduceLE, Int.reduceLT, Nat.reduceLT, Nat.reduceLeDiff, Int.reduceNeg, Int.toNat_natCast, Int.reduceAdd, L2.start, and_assoc, exists_and_left, List.map_cons, List.map_nil, List.length_cons, List.length_nil, List.cons_append, List.nil_append, List.append_nil, List.replicate_succ, List.replicate_zero, List.replicate, List.set_cons_zero, List.set_cons_succ, List.getElem?_cons_zero, List.getElem?_cons_succ, Option.some.injEq, exists_eq_left', exists_eq_left, exists_eq, V.int.injEq, V.ref.injEq, V.str.injEq, V.bl.injEq, HO.lst.injEq, HO.tup.injEq, ex_bl, List.cons.injEq, and_true, true_and, Nat.reduceAdd, Nat.reduceSub, reduceCtorEq, false_and, or_false, exists_false, false_or, decide_eq_true_eq, if_true, if_false, Bool.false_eq_true, Bool.not_true, Bool.not_false, upd_same])
local macro_rules | `(tactic| walk_at "rdh") => `(tactic| simp only [rd_seq, rd_next, rd_brk, rd_cont, rd_asg, rd_gname, rd_var, rd_c, rd_op, rd_un, rd_rI0, rd_rI, rd_rU, rd_test, rd_B, rd_and, rd_or, rd_not, rd_andV, rd_orV, rd_notV, rd_ifx, rd_ifs, rd_drop, rd_ret, rd_nil, rd_cons, rd_cb, rd_tup, rd_lst, rd_call, rd_bm, rd_app, rd_ixLst, rd_ixSq, rd_lenL, rd_lenSq, rd_setLst, rd_sub, rd_neNil, rd_isStr, rd_allB, rd_isBl, rd_inS, rd_chain, rd_chain', L2.wipe, Int.reduceToNat, Int.reduceLE, Int.reduceLT, Nat.reduceLT, Nat.reduceLeDiff, Int.reduceNeg, Int.toNat_natCast, Int.reduceAdd, L2.start, and_assoc, exists_and_left, List.map_cons, List.map_nil, List.length_cons, List.length_nil, List.cons_append, List.nil_append, List.append_nil, List.replicate_succ, List.replicate_zero, List.replicate, List.set_cons_zero, List.set_cons_succ, List.getElem?_cons_zero, List.getElem?_cons_succ, Option.some.injEq, exists_eq_left', exists_eq_left, exists_eq, V.int.injEq, V.ref.injEq, V.str.injEq, V.bl.injEq, HO.lst.injEq, HO.tup.injEq, ex_bl, List.cons.injEq, and_true, true_and, Nat.reduceAdd, Nat.reduceSub, reduceCtorEq, false_and, or_false, exists_false, false_or, decide_eq_true_eq, if_true, if_false, Bool.false_eq_true, Bool.not_true, Bool.not_false, upd_same, *])
abbrev sOne : Stmt := topI 6
abbrev sWrd : Stmt := topI 11
abbrev NOne : List Str := ["value", "words"]
theorem scOne : FnScope NOne ["value", "words"] (defScope sOne) := ⟨rfl, rfl, rfl, by decide +kernel, rfl, by decide +kernel, by decide +kernel⟩
abbrev NWrd : List Str := ["value", "letter"]
theorem scWrd : FnScope NWrd ["value"] (defScope sWrd) := ⟨rfl, rfl, rfl, by decide +kernel, rfl, by decide +kernel, by decide +kernel⟩
def spOne (K : PySem.W.Frag) : Sp := fun vs H Q _ => ∃ (v : V) (a : Addr) (ws : List Str), vs = [v, .ref a] ∧ (tyS H v).isSome = true ∧ SqT K H a (ws.map V.str) ∧ Q (.bl (hasS ws v)) H
def spWrd : Sp := fun vs H Q _ => ∃ v : V, vs = [v] ∧ (tyS H v).isSome = true ∧ (∀ x, v = .str x → x.length ≤ 1000) ∧ ∀ H', Same H H' → Q (.bl (isWord v)) H'
section
variable {P : Program} {w : World} {K : PySem.W.Frag} {mg : Str → Option Value} {base : Heap}
theorem ok_one {f : Addr} {fd : FuncData} (F : Fun K "is_one_of" "is_one_of" sOne f fd) (B : Bn mg) : FnOk P w K mg base CX0 1 f fd ["value", "words"] (spOne K) := by
  refine F.ok scOne (fun vs H Q E h => ?_) (fun cdv A outer s H vs Q E hr h => ?_)
  · obtain ⟨v, a, ws, rfl, _⟩ := h
    rfl
  · obtain ⟨v, a, ws, rfl, ht, hS, q⟩ := h
    refine ⟨_, (pss_one (ps_ret (pe_and (pe_callB call_isStr (by rfl) B.isinstance (by decide +kernel) (pa_cons (pv 0) (pa_cons (pe_tyStr B.str) pa_nil))) (pe_one (pe_cmpR op_inS (pv 0) (pv 1) (by rfl)))))), ?_⟩
    walk_at "rd"
    refine ⟨ht, ?_⟩
    cases v with
    | str x => exact ⟨rfl, ws, hS, q⟩
    | _ => exact q
theorem ok_wrd {f : Addr} {fd : FuncData} (F : Fun K "is_word" "is_word" sWrd f fd) (B : Bn mg) {tk : Tok} (gL : mg "LETTERS" = some (.str letters tk)) : FnOk P w K mg base CX0 1 f fd ["value"] spWrd := by
  refine F.ok scWrd (fun vs H Q E h => ?_) (fun cdv A outer s H vs Q E hr h => ?_)
  · obtain ⟨v, rfl, _⟩ := h
    rfl
  · obtain ⟨v, rfl, ht, hlen, q⟩ := h
    refine ⟨_, (pss_cons (ps_if (PW.pt (pw_or (pt_not (pt_val (pe_callB call_isStr (by rfl) B.isinstance (by decide +kernel) (pa_cons (pv 0) (pa_cons (pe_tyStr B.str) pa_nil))))) (pw_or1 (pt_not (pt_chain op_le op_le pe_int (pe_callB call_len_str (by rfl) B.len (by decide +kernel) (pa_cons (pv 0) pa_nil)) pe_int)))))
        (pss_one (ps_ret pe_bl))
        pss_nil)
      (pss_one (ps_ret (pe_callB (cr_allB rfl) (by rfl) B.all (by decide +kernel) (pa_cons (pe_lc (own := [("letter", 1)]) (g := gName 1) rfl scWrd.nd (pi_str (pv 0)) (blkOk_by (own := [("letter", 1)]) (N := NWrd) (sc := defScope sWrd) (by decide +kernel)) (fun _ _ _ _ _ => pg_name (i := 1) scWrd.nd rfl (Or.inl rfl)) (fun _ _ _ _ _ => pts_nil) (fun _ _ _ _ _ => (pe_cmpR op_in_sign (pv 1) (pe_gS gL) (by rfl)))) pa_nil))))), ?_⟩
    walk_at "rd"
    refine ⟨ht, ?_⟩
    cases v with
    | str x =>
      have hx := hlen x rfl
      refine ⟨x, rfl, sz (by omega), ?_⟩
      have e : isWord (.str x) = ((decide (1 ≤ x.length) && decide (x.length ≤ 8)) && x.cps.toList.all fun c => decide (c ∈ letters.cps.toList)) := rfl
      split
      · rename_i h1
        split
        · rename_i h2
          have h2' : ¬ x.length ≤ 8 := by
            simp at h2
            omega
          have z := q H (Same.refl H)
          rw [e, decide_eq_false h2'] at z
          simpa using z
        · rename_i h2
          have h2' : x.length ≤ 8 := by
            simp at h2
            omega
          refine lc_str (fun c => .bl (decide (c ∈ letters.cps.toList))) (by omega) (fun Q q => ⟨_, rfl, q⟩) (fun _ => rfl) (fun c H' R sm r => ?_) (fun D H' hD sm hl => ?_)
          · walk_at "rd"
            exact ⟨c, rfl, r⟩
          · walk_at "rd"
            refine ⟨x.cps.toList.map fun c => decide (c ∈ letters.cps.toList), by rw [hl, List.map_map]; rfl, ?_⟩
            have z := q H' sm
            rw [e, decide_eq_true (show 1 ≤ x.length by omega), decide_eq_true h2'] at z
            rw [List.all_map]
            exact z
      · rename_i h1
        have h1' : ¬ 1 ≤ x.length := by omega
        have z := q H (Same.refl H)
        rw [e, decide_eq_false h1'] at z
        simpa using z
    | _ => exact q H (Same.refl H)
end
end My

set_option Elab.async false
set_option linter.all false
set_option maxRecDepth 100000
set_option maxHeartbeats 2000000
namespace My
open PySem PySem.Spec PyProof.Rows L2
/-- an error class of the module with one field, made by its own __init__ at fI -/
structure Xc (K : PySem.W.Frag) (mg : Str → Option Value) (nm fld qual : Str) (st : Stmt) where
  C : Addr
  fI : Addr
  fd : FuncData
  oex : OexC K C
  iC : PySem.W.findIn K (.ref C) "__init__" = some (some (.ref fI))
  tI : PySem.W.typeIn K (.ref fI) = some (.type "function")
  F : Fun K "__init__" qual st fI fd
  b : Binds K fd ["self", fld] []
  g : mg nm = some (.ref C)
  no : PySem.W.findIn K (.ref C) fld = some none
  xf : XfC K C
/-- what its __init__ promises -/
def spXi (C : Addr) (fld : Str) : Sp := fun vs H Q _ => ∃ (a : Addr) (v : V), vs = [.ref a, v] ∧ H a = some (exo a C none) ∧ ∀ dx, H dx = none → dx ≠ a → Q .non (upd (upd H dx (exd dx [(fld, v)])) a (exo a C (some dx)))
/-- raise C(text): E is wished of the class, the new dict d that holds the field, and a heap in which all else is as it was -/
def tRz (C : Addr) (fld m : Str) (W : WX) : TS := fun _ σ H => ∀ d H', H d = none → Same H H' → H' d = some (.xd [(fld, .str m)]) → W (.ref C) (some d) σ H'
theorem ps_rz {X : Cx} {nm fld qual m : Str} {st : Stmt} {W : WX} {k j : Nat} {p p2 pos pos2 : Pos} (T : Xc X.K X.mg nm fld qual st) (F1 : FnOk X.prog X.w X.K X.mg X.base CX0 k T.fI T.fd ["self", fld] (spXi T.C fld)) (hc : X.calm = true) (hr : Room (k + 1) X.A) (tk : Takes X W)
    (hg : Gl X nm := by rfl) (hdb : (nm == ("__debug__" : Str)) = false := by decide +kernel)
    (he : starEach (.Constant (.str m) j p2 :: []) X.env = (false, eval (.Constant (.str m) j p2) X.env) :: starEach [] X.env := by rfl) (hpl : (backTo pos (starEach [] X.env)).any (·.1) = false := by rfl) :
    PS X (.Raise (some (.Call (.Name nm p) [.Constant (.str m) j p2] [] pos)) none pos2) (tRz T.C fld m W) := by
  refine PS.imp (ps_raise hc tk (pmk_oex T.oex T.iC T.tI F1 hr T.b .nil pass0 hg T.g (pa_cons pe_str pa_nil) hdb he hpl)) fun D σ H q => ?_
  show _ ∧ _
  refine ⟨by show 1 ≤ 1000; decide, fun a ha => ⟨a, .str m, rfl, upd_same, fun dx hdx hne => ?_⟩⟩
  have hdx' : H dx = none := by rw [upd_ne hne] at hdx; exact hdx
  refine ⟨rfl, dx, [(fld, .str m)], upd_same, by rw [upd_ne hne, upd_same], hdx', ?_⟩
  refine q dx _ hdx' (fun b o e => ?_) upd_same
  have h1 : b ≠ dx := ne_of_none e hdx'
  have h2 : b ≠ a := ne_of_none e ha
  rw [upd_ne h1, del_ne h2, upd_ne h2, upd_ne h1, upd_ne h2]
  exact e
/-- what a call in a try's body may let out: wished at all slots -/
theorem passAll {X : Cx} {W : WX} (tk : Takes X W) : Passes (L2.CX X.prog X.w) X (fun cls d H => ∀ σ : L2.St, σ.length = X.N.length → W cls d σ H) := fun pins σ H s e s' I c => tk e s' (XE.of_call I (fun _ _ _ h => h σ I.len) c)
end My

set_option Elab.async false
set_option linter.all false
set_option maxRecDepth 100000
set_option maxHeartbeats 2000000
namespace My
open PySem PySem.Spec PyProof.Rows L2
theorem rd_fldS {K : PySem.W.Frag} {ta tv : TE} {f : Str} {D : Ends} {σ : L2.St} {H : Hp} : sFld K ta tv f D σ H = tv σ H fun y H1 => ta σ H1 fun x H2 => ∃ a C dx fs, x = .ref a ∧ H2 a = some (.ins C dx fs) ∧ Cls K C ∧ NoAttr K C f ∧ fs.length < 1000 ∧ D.nx σ (upd H2 a (.ins C dx (putF f y fs))) := by
  unfold sFld
  rfl
theorem rd_fldE {K : PySem.W.Frag} {ta : TE} {f : Str} {σ : L2.St} {H : Hp} {Q : VK} : tFld K ta f σ H Q = ta σ H fun x H1 => ∃ a C dx fs v, x = .ref a ∧ H1 a = some (.ins C dx fs) ∧ Cls K C ∧ NoAttr K C f ∧ fs.lookup f = some v ∧ Q v H1 := rfl
theorem rd_eq {x y : V} {H : Hp} {Q : VK} : L2.rEq x y H Q = (scal x y = true ∧ Q (.bl (decide (x = y))) H) := rfl
theorem rd_ne {x y : V} {H : Hp} {Q : VK} : L2.rNe x y H Q = (scal x y = true ∧ Q (.bl (!decide (x = y))) H) := rfl
theorem rd_rz {C : Addr} {fld m : Str} {W : WX} {D : Ends} {σ : L2.St} {H : Hp} : tRz C fld m W D σ H = ∀ d H', H d = none → Same H H' → H' d = some (.xd [(fld, .str m)]) → W (.ref C) (some d) σ H' := rfl
theorem tyS_same {H H' : Hp} {v : V} (e : Same H H') (h : (tyS H v).isSome = true) : (tyS H' v).isSome = true := by
  cases v with
  | ref a =>
    obtain ⟨t, ht⟩ := Option.isSome_iff_exists.mp h
    rcases tyO_cases (show tyO (H a) = some t from ht) with ⟨xs, z, _⟩ | ⟨xs, z, _⟩ | ⟨xs, z, _⟩
    all_goals
      show (tyO (H' a)).isSome = true
      rw [e a _ z]
      rfl
  | _ => exact h
/-- a value whose type is known; a text is short -/
def Ty (H : Hp) (v : V) : Prop := (tyS H v).isSome = true ∧ ∀ x, v = .str x → x.length ≤ 1000
theorem Ty.same {H H' : Hp} {v : V} (h : Ty H v) (e : Same H H') : Ty H' v := ⟨tyS_same e h.1, h.2⟩
end My

set_option Elab.async false
set_option linter.all false
set_option maxRecDepth 100000
set_option maxHeartbeats 4000000
namespace PySem.W
open PySem PySem.Spec PySem.Calls PyProof.Rows
/-- isinstance says True by the type alone: nothing else is asked of the object -/
theorem ans_yes {K : Frag} {x t c : Value} {G : Heap → Prop}
    (ty : ∀ (M : Model) (h : Heap), K.In h → G h → Looks M h (typeOf x) t)
    (ne : (t == c) = false) (e : kitCls K t c = some true) :
    Answers (fun s => K.In s.heap ∧ G s.heap) x c true := by
  intro dep tk prog w A R ⟨h0, g, d, tt, os⟩ ⟨⟨KX, p⟩, fin⟩
  have L1 := ty (model prog w) h0 KX p
  have L2 := kit_cls (M := model prog w) KX e
  unfold Builtin.«isinstance.nested»
  refine wpAny_bind (L1.at ?_)
  rw [ne]
  rw [if_neg Bool.false_ne_true]
  refine wpAny_bind (L2.1.at ?_)
  rw [if_pos (by decide)]
  k_delta "plainIsInstance"
  refine wpAny_bind ?_
  refine wpAny_bind (L2.2.1.at ?_)
  simp only [Bool.not_true, Bool.false_eq_true, if_false]
  have L3 : Looks (model prog w) h0 (isInstance x c) true := L1.andThen L2.2.2
  refine wpAny_bind (L3.at ?_)
  have done := fin tt
  first
    | exact wpAny_pure (wpAny_pure done)
    | (simp only [if_true]; exact wpAny_pure (wpAny_pure done))
    | (simp only [if_true]; exact wpAny_pure done)
    | (simp only [if_true]; exact wpAny_bind (wpAny_pure (wpAny_pure done)))
end PySem.W
namespace My
open PySem PySem.Spec PyProof.Rows L2
/-- isinstance(e, c), e the caught error, its class another one below c -/
def rIsUp (D a : Addr) : List V → Hp → VK → Prop := fun vs H Q => ∃ c : Addr, vs = [.ref a, .ref c] ∧ Q (.bl true) H
theorem call_isUp {X : Cx} {a D c : Addr} {oe : Obj} {pn : List (Addr × Obj)} {d : Option Addr} {cls : Value} (hz : Zc cls d oe) (hne : D ≠ c) (e : PySem.W.kitCls X.K (.ref D) (.ref c) = some true) :
    CallR (X.suite a ((a, oe) :: pn)) (.builtin "isinstance") (fun vs H Q => cls = .ref D ∧ vs = [.ref a, .ref c] ∧ Q (.bl true) H) := by
  intro pins s σ H xs us Q I r h
  obtain ⟨ec, rfl, q⟩ := h
  subst ec
  obtain ⟨u1, u2, rfl, r1, r2⟩ := vals2 r
  cases (show u1 = Value.ref a from r1)
  cases (show u2 = Value.ref c from r2)
  obtain ⟨hget, _⟩ := I.pin (a, oe) (List.mem_append.mpr (.inl List.mem_cons_self))
  have ty : ∀ (M : Model) (h : Heap), X.K.In h → h.get? a = some oe → PySem.W.Looks M h (typeOf (.ref a)) (.ref D) := fun M h _ ho A Q E s k q => wpAny_typeOf_ref (k _ _ ho) (by rw [hz.1]; exact q)
  have ne : (Value.ref D == Value.ref c) = false := by simpa using hne
  exact PySem.call_isinstance (S := fun _ R s' => (X.K.In s'.heap ∧ s'.heap.get? a = some oe) ∧ ∀ tk, R (.ok (.ret (.bool true))) { s' with toks := tk })
    (fun prog w A R s' hs => PySem.isinstance_outer (PySem.W.ans_yes (K := X.K) (G := fun h => h.get? a = some oe) ty ne e 0 _ prog w A R s' hs) (fun z => nomatch z)) ⟨⟨I.kIn, hget⟩, fun tk => ⟨.bl true, H, I.kept (t' := tk) fun _ _ z => z, rfl, q⟩⟩
end My

set_option Elab.async false
set_option linter.all false
set_option maxRecDepth 100000
set_option maxHeartbeats 2000000
namespace My
open PySem PySem.Spec PyProof.Rows L2
section
variable {X : Cx}
/-- d[k], d a dict that stands in H, k a text that is there -/
def tDg (td ty : TE) : TE := fun σ H Q => td σ H fun x H1 => ty σ H1 fun y H2 => ∃ a k, x = .ref a ∧ y = .str k ∧ ∃ kvs : List (Key × V), H2 a = some (.dK kvs) ∧ ∃ v, valV kvs (Sum.inr k) = some v ∧ Q v H2
theorem rd_dg {td ty : TE} {σ : L2.St} {H : Hp} {Q : VK} : tDg td ty σ H Q = td σ H fun x H1 => ty σ H1 fun y H2 => ∃ a k, x = .ref a ∧ y = .str k ∧ ∃ kvs : List (Key × V), H2 a = some (.dK kvs) ∧ ∃ v, valV kvs (Sum.inr k) = some v ∧ Q v H2 := rfl
theorem pe_dg {o i : Expr} {td ty : TE} {pos : Pos} (hu : X.A.units + 64 < cLine) (ho : PE X o td) (hi : PE X i ty) (hs : NoSl i := by exact fun _ _ => rfl) : PE X (.Subscript o i pos) (tDg td ty) :=
  (pe_dget (by omega) ho.mon hi.mon hs).imp fun σ H Q q => ⟨_, q, fun x H1 q1 => ⟨_, q1, fun y H2 ⟨a, k, ex, ey, kvs, ha, v, hv, q2⟩ => ⟨a, v, ex, .inl ⟨kvs, Sum.inr k, .inl ha, ey, hv.symm⟩, q2⟩⟩⟩
/-- d[k] = v -/
def sDp (td ty tv : TE) : TS := fun D σ H => tv σ H fun v H1 => td σ H1 fun x H2 => ty σ H2 fun y H3 => ∃ a k, x = .ref a ∧ y = .str k ∧ ∃ kvs : List (Key × V), H3 a = some (.dK kvs) ∧ kvs.length < sizeLine ∧ D.nx σ (upd H3 a (.dK (putK kvs (Sum.inr k) v)))
theorem rd_dp {td ty tv : TE} {σ : L2.St} {H : Hp} {D : Ends} : sDp td ty tv D σ H = tv σ H fun v H1 => td σ H1 fun x H2 => ty σ H2 fun y H3 => ∃ a k, x = .ref a ∧ y = .str k ∧ ∃ kvs : List (Key × V), H3 a = some (.dK kvs) ∧ kvs.length < sizeLine ∧ D.nx σ (upd H3 a (.dK (putK kvs (Sum.inr k) v))) := rfl
theorem ps_dp {o i value : Expr} {td ty tv : TE} {pos pos' : Pos} (hu : X.A.units + 64 < cLine) (ho : PE X o td) (hi : PE X i ty) (hv : PE X value tv) (hs : swapsWith value (some (.Subscript o i pos')) pos.line X.env = pure false := by rfl) : PS X (.Assign [.Subscript o i pos'] value pos) (sDp td ty tv) :=
  (ps_dput (by omega) ho.mon hi.mon hv.mon hs).imp fun D σ H q => ⟨_, q, fun v H1 q1 => ⟨_, q1, fun x H2 q2 => ⟨_, q2, fun y H3 ⟨a, k, ex, ey, kvs, ha, hz, q3⟩ => ⟨a, _, ex, .inl ⟨kvs, Sum.inr k, ha, ey, hz, rfl⟩, q3⟩⟩⟩⟩
end
theorem put_len (kvs : List (Key × V)) (k : Key) (v : V) : (putK kvs k v).length ≤ kvs.length + 1 := by
  unfold putK
  split
  · rw [List.length_map]; omega
  · rw [List.length_append]; exact Nat.le_refl _
end My

set_option Elab.async false
set_option linter.all false
set_option maxRecDepth 100000
set_option maxHeartbeats 2000000
namespace My
open PySem PySem.Spec PyProof.Rows L2
/-- repr(a), a a list or tuple of plain values (the caller writes no text at the time: guards) -/
def rRepr (K : PySem.W.Frag) : List V → Hp → VK → Prop := fun vs H Q => ∃ (a : Addr) (d : PyData), vs = [.ref a] ∧ Dp K H (.ref a) d ∧ d.showable = true ∧ d.hasDict = false ∧ d.depth ≤ 3 ∧ d.shown.length ≤ 100000 ∧ Q (.str d.shown) H
theorem rd_repr {K : PySem.W.Frag} {a : Addr} {H : Hp} {Q : VK} : rRepr K [.ref a] H Q = ∃ (d : PyData), Dp K H (.ref a) d ∧ d.showable = true ∧ d.hasDict = false ∧ d.depth ≤ 3 ∧ d.shown.length ≤ 100000 ∧ Q (.str d.shown) H := by
  simp [rRepr]
theorem call_repr {X : Cx} (hg : X.A.guards = some []) (hu : X.A.units + 64 < cLine) : CallR X (.builtin "repr") (rRepr X.K) := by
  intro pins s σ H xs us Q I r h
  obtain ⟨a, d, rfl, hd, hs, hn, hp, hl, q⟩ := h
  cases r with
  | cons r1 r2 =>
    cases r2
    cases r1
    obtain ⟨as, rr⟩ := Dp.reads I d _ _ hd rfl
    exact repr_of_reads' rr hs (fun z => by rw [hn] at z; cases z) hg (by omega) (fun _ _ e => e) (fun h' u tk hk => ⟨.str d.shown, H, I.kept hk, ⟨u, rfl⟩, q⟩) (sz hl)
/-! ### the law's def, called by the judge alone: nothing is being written as text -/
/-- the promise of a def at the one place where the law is called -/
def AtTop (P : Program) (w : World) (K : PySem.W.Frag) (mg : Str → Option Value) (base : Heap) (f : Addr) (fd : FuncData) (ps : List Str) (sp : Sp) : Prop :=
  ∀ (s : Shared) (H : Hp) (as : Args) (us : List Value) (vs : List V) (Q : VK) (E : XK), Env0 P w K mg base callerA [] s H → BindsTo s fd as (ps.zip us) → Vals vs us → sp vs H Q E → codeAny (model P w) callerA (.call (.ref f) as) (CR CX0 [] P w H s Q E) s
theorem top_ok {P : Program} {w : World} {K : PySem.W.Frag} {mg : Str → Option Value} {base : Heap} {nm qual : Str} {st : Stmt} {f : Addr} {fd : FuncData} {N ps : List Str} {sp : Sp} {k : Nat} (F : Fun K nm qual st f fd) (S : FnScope N ps (defScope st))
    (rm : Room (k + 1) callerA) (ln : ∀ vs H Q E, sp vs H Q E → vs.length = ps.length)
    (bd : ∀ (cdv : Value) (s : Shared) (H : Hp) (vs : List V) (Q : VK) (E : XK), Room k (callerA.deeper (envOfC qual (defScope st) s.heap.objs.size f cdv)) → sp vs H Q E →
      ∃ t, PSs (cxOf CX0 P w K mg base N qual (defScope st) f cdv callerA [] s H E).nox (defBody st) t ∧ t { nx := fun _ H' => Q .non H', rt := Q } (start N vs) H) : AtTop P w K mg base f fd ps sp := by
  intro s H as us vs Q E env bt rv hs
  have hX := F.ex
  obtain ⟨oc, od, kV, doc, pm, an, cdv, ct, osl, efd, hlk, hcode⟩ := hX
  subst efd
  have nvs := ln _ _ _ _ hs
  have old := fun b o e => (env.bs b o e).1
  have inK : K.In s.heap := env.mod.kin.keeps old
  have lims : s.heap.NoLimit := env.mod.nolimit.keeps old
  have kinds : ∀ z ∈ ps.zip us, (defScope st).names.lookup z.1 = some .local ∨ ((defScope st).names.lookup z.1 = some .cell ∧ ((cellsFrom (s.heap.objs.size + 1) (defScope st).names []).lookup z.1).isSome = true) := by
    intro z hz
    have zin := (List.of_mem_zip (a := z.1) (b := z.2) hz).1
    exact (S.par z.1 zin).imp id fun c => ⟨c, PySem.W.cellsFrom_some _ _ _ (.inl c)⟩
  refine codeAny_call_function rm.depth (inK _ _ hlk) rfl S.co S.gen rfl (PySem.W.codeRec_of inK hcode) ?body
  refine bt _ _ _ _ ?bound
  refine wpAny_newFunctionEnv_cells S.kind kinds ?made
  intro env1 e1 st1 made
  subst e1
  obtain ⟨t, ht, hq⟩ := bd cdv s H vs Q E (rm.deeper _) hs
  have I := inv_start (CX := CX0) (E := E) S rm.hd env nvs rv made
  refine ⟨lims.keeps made.toInCall.keep, codeAny_func (wpAny_mono ((ht.nox).run [] st1 (start N vs) H _ I hq) ?_ fun _ _ z => z)⟩
  intro fl s' out
  cases fl with
  | brk => exact out.elim fun _ z => z.elim fun _ z => z.2.elim
  | cont => exact out.elim fun _ z => z.elim fun _ z => z.2.elim
  | next =>
    obtain ⟨_, H', J, q⟩ := out
    exact ⟨V.non, H', J.os, J.bare, J.base, J.hok, rfl, q⟩
  | ret u =>
    obtain ⟨v, _, H', J, rv', q⟩ := out
    exact ⟨v, H', J.os, J.bare, J.base, J.hok, rv', q⟩
end My

set_option Elab.async false
set_option linter.all false
set_option maxRecDepth 100000
set_option maxHeartbeats 2000000
namespace My
open PySem PySem.Spec PyProof.Rows L2
section
variable {P : Program} {w : World} {K : PySem.W.Frag} {mg mb : Str → Option Value} {lawA scr : Addr} {fd : FuncData} {par : Str} {sp : Sp} {st : Shared} {its : List Value} {nums : List Int}
/-- what the judge's call tells -/
abbrev Told (st : Shared) (r : Result) (st' : Shared) : Prop := r = .ok (.ret (.bool true)) ∧ OldK st.heap st'.heap ∧ st'.os = st.os ∧ AllBare st'.gens
/-- from any abstract heap that holds no more than the script -/
theorem top_at (inK : K.In st.heap) (gl : st.heap.Ns mainGlobals mg) (bn : st.heap.Ns builtinsNs mb) (boot : ∀ n : Str, n ≠ "__name__" → mb n = bootBuiltins n) (free : st.heap.NoLimit) (noGen : st.gens = #[])
    (scrO : st.heap.get? scr = some { cls := .type "list", data := .seq its.toArray }) (F : ∀ base : Heap, K.In base → base.Ns mainGlobals mg → AtTop P w K mg base lawA fd [par] sp) (bnd : ∀ (s : Shared) (u : Value), BindsTo s fd ⟨[u], []⟩ [(par, u)])
    {H : Hp} (few : ∀ b, H b = none ∨ (b = scr ∧ ∃ o xs, H b = some (.frz o (.lst xs)))) (apart : ∀ b, H b ≠ none → K.lookup b = none) (good : HOk P w H st.heap) (hsp : sp [.ref scr] H (fun v _ => v = .bl true) fun _ _ _ => False) :
    codeAny (model P w) callerA (.call (.ref lawA) ⟨[.ref scr], []⟩) (Told st) st := by
  have sees := fun {b : Addr} {o : Obj} (e : st.heap.get? b = some o) (z : H b = none) => hidT_get (H := H) e z
  have kIn : K.In (hidT st.heap H) := by
    intro b o e
    refine sees (inK b o e) (Classical.byContradiction fun z => ?_)
    rw [apart b z] at e
    cases e
  have nsIn : ∀ {b : Addr} {m : Str → Option Value}, st.heap.Ns b m → (hidT st.heap H).Ns b m := by
    rintro b m ⟨o, es, ep, e, d, r⟩
    refine ⟨o, es, ep, sees e ?_, d, r⟩
    rcases few b with z | ⟨rfl, _⟩
    · exact z
    · obtain rfl := Option.some.inj (e.symm.trans scrO)
      have d2 : Data.seq its.toArray _ = Data.dict es ep := d
      cases d2
  obtain ⟨ml, fr1, fr2⟩ := free
  have env : Env0 P w K mg (hidT st.heap H) callerA [] st H := by
    refine ⟨rfl, ⟨kIn, nsIn gl, ⟨mb, nsIn bn, boot⟩, ⟨ml, nsIn fr1, fr2⟩⟩, fun _ _ e => of_hidT e, Nat.le_of_eq (hidT_size _ _), trivial, ?_, good, .of_eq noGen⟩
    intro b hb
    have hb' : b ∈ ([] : List Addr) := hb
    cases hb'
  have run := F _ kIn (nsIn gl) st H ⟨[.ref scr], []⟩ [.ref scr] [.ref scr] _ _ env (bnd st _) (.cons rfl .nil) hsp
  refine codeAny_mono run fun r st' out => ?_
  match r, out with
  | .ok (.ret u), ⟨v, H2, os, bare, un, good2, rel, q⟩ =>
    have ev : v = .bl true := q
    rw [ev] at rel
    have eu : u = Value.bool true := rel
    refine ⟨by rw [eu], OldK.of_keep fun b o e => ?_, os, bare⟩
    rcases few b with z | ⟨_, ob, xs, z⟩
    · refine un.keep b o e z (fun m => ?_) (fun m => ?_)
      · have m' : b ∈ ([] : List Addr) := m
        cases m'
      · simp at m
    · have kept := (good2 b _ (un.frzs b ob _ z)).1
      have was := (good b _ z).1
      exact (e.symm.trans was) ▸ kept
theorem top_call (inK : K.In st.heap) (gl : st.heap.Ns mainGlobals mg) (bn : st.heap.Ns builtinsNs mb) (boot : ∀ n : Str, n ≠ "__name__" → mb n = bootBuiltins n) (free : st.heap.NoLimit) (noGen : st.gens = #[])
    (scrO : st.heap.get? scr = some { cls := .type "list", data := .seq its.toArray }) (nrs : IntsAre its nums) (short : nums.length ≤ sizeLine) (F : ∀ base : Heap, K.In base → base.Ns mainGlobals mg → AtTop P w K mg base lawA fd [par] sp)
    (bnd : ∀ (s : Shared) (u : Value), BindsTo s fd ⟨[u], []⟩ [(par, u)]) (hsp : ∀ H : Hp, SqL K H scr (nums.map V.int) → sp [.ref scr] H (fun v _ => v = .bl true) fun _ _ _ => False) :
    codeAny (model P w) callerA (.call (.ref lawA) ⟨[.ref scr], []⟩) (Told st) st := by
  have vals := vals_ints nrs
  cases look : K.lookup scr with
  | some o =>
    obtain rfl := Option.some.inj ((inK scr o look).symm.trans scrO)
    refine top_at (H := fun _ => none) inK gl bn boot free noGen scrO F bnd (fun _ => .inl rfl) (fun _ z => absurd rfl z) (fun b u z => ?_) (hsp _ (.inr ⟨_, its.toArray, _, look, rfl, rfl, rfl, ?_, ?_⟩))
    · have z2 : (none : Option HO) = some u := z
      cases z2
    · rw [List.size_toArray, nrs.length]
      exact short
    · exact (by simpa using vals)
  | none =>
    let only : Hp := fun b => if b = scr then some (.frz { cls := .type "list", data := .seq its.toArray } (.lst (nums.map V.int))) else none
    have on : only scr = some (.frz { cls := .type "list", data := .seq its.toArray } (.lst (nums.map V.int))) := if_pos rfl
    have off : ∀ b, b ≠ scr → only b = none := fun b z => if_neg z
    refine top_at (H := only) inK gl bn boot free noGen scrO F bnd (fun b => ?_) (fun b z => ?_) (fun b u z => ?_) (hsp _ (.inl (.inr ⟨_, on⟩)))
    · by_cases e : b = scr
      · exact .inr ⟨e, _, _, e ▸ on⟩
      · exact .inl (off b e)
    · by_cases e : b = scr
      · rw [e]
        exact look
      · exact absurd (off b e) z
    · by_cases e : b = scr
      · subst e
        obtain rfl := Option.some.inj (on.symm.trans z)
        exact ⟨scrO, by rw [List.length_map]; exact short, its, _, vals, scrO⟩
      · rw [off b e] at z
        cases z
end
/-- the head's goal, from the law's promise at the top -/
theorem top_walk {l : PySem.W.OpenLaw} {n : Nat} {q : Program} {loose : List Str} {XP : (Str → Option Value) → Heap → Prop} {YP : World → Heap → Prop} {d : DefRec} {K : Params → PySem.W.Frag} {sp : PySem.W.Frag → Sp} {par : Str} (most : l.most = some n) (few : n ≤ sizeLine) (nod : d.params.defaults = [])
    (yk : ∀ (w : World) (h : Heap), YP w h → (K w.params).In h)
    (F : ∀ (w : World) (mg : Str → Option Value) (fa : Addr) (h : Heap), (K w.params).In h → h.Ns mainGlobals mg → mg d.name = some (.ref fa) →
      ∃ fd : FuncData, (∀ (s : Shared) (u : Value), BindsTo s fd ⟨[u], []⟩ [(par, u)]) ∧ ∀ base : Heap, (K w.params).In base → base.Ns mainGlobals mg → AtTop l.prog w (K w.params) mg base fa fd [par] (sp (K w.params)))
    (hsp : ∀ (K : PySem.W.Frag) (H : Hp) (a : Addr) (ns : List Int), ns.length ≤ n → SqL K H a (ns.map V.int) → sp K [.ref a] H (fun v _ => v = .bl true) fun _ _ _ => False) :
    PySem.W.WalkO q loose XP YP l.row.toRowW d [] (fun f vs => PySem.call f vs) :=
  Att.attach_call most nod fun w _ s₁ mg mb fa _ _ _ _ a vs ns G Y _ _ _ name obj nrs len none => by
    obtain ⟨fd, bnd, run⟩ := F w mg fa _ (yk w _ Y) G.T.g name
    exact top_call (yk w _ Y) G.T.g G.T.b G.T.builtins G.T.nolimit none obj nrs (Nat.le_trans len few) run bnd fun H sq => hsp _ H a ns len sq
end My

set_option Elab.async false
set_option linter.all false
set_option maxRecDepth 100000
namespace My
open PySem PySem.Spec PyProof.Rows
/-! ### len(set(texts)), any number of them -/
/-- how many unlike ones the first i are -/
def dn (xs : List Str) : Nat → Nat
  | 0 => 0
  | i + 1 => if (xs.take i).any (· == xs.getD i Str.empty) = true then dn xs i else dn xs i + 1
theorem dn_le (xs : List Str) : ∀ i, dn xs i ≤ i
  | 0 => Nat.le_refl _
  | i + 1 => by
    have h := dn_le xs i
    unfold dn
    split <;> omega
theorem seen_more {xs : List Str} {i : Nat} (h : i < xs.length) (k : Str) : ((xs.take i).any (· == k) || decide (k = xs.getD i Str.empty)) = (xs.take (i + 1)).any (· == k) := by
  have e : xs.getD i Str.empty = xs[i] := by rw [List.getD_eq_getElem?_getD, List.getElem?_eq_getElem h]; rfl
  rw [List.take_succ_eq_append_getElem h, List.any_append, e]
  congr 1
  simp only [List.any_cons, List.any_nil, Bool.or_false]
  exact Bool.eq_iff_iff.mpr ⟨fun z => beq_iff_eq.mpr (of_decide_eq_true z).symm, fun z => decide_eq_true (beq_iff_eq.mp z).symm⟩
section
variable {prog : Program} {w : World} {A : Around} {R : Result → Shared → Prop} {I : Addr} {fp wr : List Addr} {G : Array GenState → Array GenState → Prop} {n : Nat} {P : Nat → Value → Prop} {St : Nat → Shared → Prop}
theorem loopTx (W : WalksS prog w A.in1 I fp wr G n P St) (z : Addr) (out : z ∉ fp) (xs : List Str) (len : xs.length = n) (room : n + 1 < scanBound) (vals : ∀ i v, P i v → ∃ t, v = .str (xs.getD i Str.empty) t) :
    ∀ (left i : Nat) (s : Shared), n - i = left → i ≤ n → St i s → s.heap.SetOf (PySem.strKind prog w) z (fun k => (xs.take i).any (· == k)) (dn xs i) →
      (∀ s', Moved (z :: wr) G s s' → s'.heap.SetOf (PySem.strKind prog w) z (fun k => (xs.take n).any (· == k)) (dn xs n) → R (.ok (.ret .none)) s') →
      codeAny (model prog w) A (.builtin "set.update.loop" ⟨[.ref z, .ref I], []⟩) R s := by
  have outW : z ∉ wr := fun m => out (W.sub _ m)
  have wider : ∀ b ∈ wr, b ∈ z :: wr := fun b m => List.mem_cons_of_mem _ m
  have moved : ∀ {s1 s2 : Shared} {S : Str → Bool} {m : Nat}, Moved wr G s1 s2 → s1.heap.SetOf (PySem.strKind prog w) z S m → s2.heap.SetOf (PySem.strKind prog w) z S m := fun mv ⟨o, es, ep, t, at_, rest⟩ => ⟨o, es, ep, t, mv.heap z _ outW at_, rest⟩
  intro left
  induction left with
  | zero =>
    intro i s e1 e2 st set fin
    obtain rfl : i = n := by omega
    refine codeAny_builtin F.entry_set_update_loop ?_
    rw [Around.under_plainId F.plain_set_update_loop _]
    exact wpAny_bind (W.done s _ _ st fun s' mv => wpAny_pure (fin s' (mv.mono wider) (moved mv set)))
  | succ left ih =>
    intro i s e1 e2 st set fin
    have more : i < n := by omega
    refine codeAny_builtin F.entry_set_update_loop ?_
    rw [Around.under_plainId F.plain_set_update_loop _]
    refine wpAny_bind (W.item i s _ _ more st fun v s' pv st' mv => ?_)
    obtain ⟨t, rfl⟩ := vals i v pv
    refine wpAny_bind (wpAny_holding ?_)
    unfold setAdd
    refine wpAny_holding (wpAny_bind ((PySem.strKind prog w).pyHash (k := xs.getD i Str.empty) (strKind_is _ _ _ _) ?_))
    have set1 := moved mv set
    have fits : dn xs i + 1 < scanBound := by have := dn_le xs i; omega
    refine wpAny_setAddHashed_of (knd := PySem.strKind prog w) (s := { s' with toks := s'.toks + 1 }) (strKind_is _ _ _ _) rfl set1 fits fun h' same set2 => ?_
    have set3 : h'.SetOf (PySem.strKind prog w) z (fun k => (xs.take (i + 1)).any (· == k)) (dn xs (i + 1)) := by
      refine SetOf_congr set2 (fun k => seen_more (by omega) k) ?_
      show _ = if _ then _ else _
      rfl
    refine wpAny_pure ⟨plainId_quiet F.plain_set_update_loop _, ih (i + 1) _ (by omega) more (W.frame _ s' _ _ st' (Nat.le_succ _) fun b m o e => ?_) set3 fun s'' mv2 set4 => ?_⟩
    · rw [same.2 b (fun q : b = z => out (q ▸ m))]
      exact e
    · refine fin s'' (Moved.trans W.gtrans ((mv.mono wider).then_heap (Nat.le_succ _) fun b o m e => ?_) mv2) set4
      rw [same.2 b (fun q : b = z => m (q ▸ List.mem_cons_self))]
      exact e
end
end My

set_option Elab.async false
set_option linter.all false
set_option maxRecDepth 100000
set_option maxHeartbeats 2000000
namespace My
open PySem PySem.Spec PyProof.Rows L2
/-! ### a list or a tuple, walked -/
def iAny (K : PySem.W.Frag) (tl : TE) : TI := fun σ H R => tl σ H fun x H1 => ∃ a, x = .ref a ∧ (((∃ xs, SqL K H1 a xs) ∧ R (Itl K a) H1) ∨ ((∃ xs, SqT K H1 a xs) ∧ R (Itt K a) H1))
theorem pi_any {X : Cx} {tg l : Expr} {tl : TE} (hl : PE X l tl) : PI X tg l (iAny X.K tl) := by
  constructor
  intro pins s σ H R I h
  refine thn (hl.run pins s σ H _ I h) ?_
  rintro v st ⟨x, H1, J, rx, a, rfl, way⟩
  obtain rfl : v = Value.ref a := rx
  have fresh : ∀ b ∈ [st.heap.objs.size], FpOk X pins H1 b := fun b hb => by
    obtain rfl : b = st.heap.objs.size := by simpa using hb
    exact J.fpOk (Nat.le_refl _) (J.hok.fresh (Nat.le_refl _))
  rcases way with ⟨⟨xs, hq⟩, q⟩ | ⟨⟨xs, hq⟩, q⟩
  · obtain ⟨its, _, pl, _⟩ := J.list hq
    refine wpAny_pyIter_list pl.isList ⟨st.heap.objs.size, [st.heap.objs.size], _, _, H1, rfl, J.kept (t' := st.toks) fun b o e => Heap.get?_push_of_some _ e, turn_list a _, ⟨_, Heap.get?_push_size _ rfl, rfl, rfl⟩, fresh, q⟩
  · obtain ⟨its, _, pl, _⟩ := J.tuple hq
    refine wpAny_pyIter_tuple (show st.heap.IsTuple a its.toArray from pl) ⟨st.heap.objs.size, [st.heap.objs.size], _, _, H1, rfl, J.kept (t' := st.toks) fun b o e => Heap.get?_push_of_some _ e, turn_tuple a _, ⟨_, Heap.get?_push_size _ rfl, rfl, rfl⟩, fresh, q⟩
end My

set_option Elab.async false
set_option linter.all false
set_option maxRecDepth 100000
set_option maxHeartbeats 2000000
namespace PySem
open Sem (wp)
open AutoSeq1 (wpAny_loadPart')
/-- enumerate(t), t a tuple -/
theorem my_enum_new (t : Addr) (its : Array Value) (n : Nat) (od : Option Addr) (sl : Array (Option Value)) :
    Meets (Builtin.«enumerate.__new__» ⟨[.type "enumerate", .ref t], []⟩) (fun _ R s => s.heap.get? t = some { cls := .type "tuple", dict := od, data := .seq its n, slots := sl } ∧
      R (.ok (.ret (.ref (s.heap.push { cls := .type "tuple_iterator", data := .fields #[.ref t, .int 0 0] }).objs.size)))
        { s with heap := (s.heap.push { cls := .type "tuple_iterator", data := .fields #[.ref t, .int 0 0] }).push { cls := .type "enumerate", data := .fields #[.none, .bool false, .ref s.heap.objs.size, rawInt 0, .none, .none] } }) :=
  .of_wp fun prog w A R st got => by
    obtain ⟨hp, gg, dd, tk, os⟩ := st
    obtain ⟨at_, fin⟩ := got
    have sub := sub_enumerate
    have tup : Heap.IsTuple (Shared.heap ⟨hp, gg, dd, tk, os⟩) t its := ⟨_, at_, rfl, n, rfl⟩
    wp_walk using wpAny_loadPart' at_
    refine wpAny_stack_any fun _ => wpAny_pure ?_
    split
    · rename_i c _ _ _ _ _
      cases (c == Value.type "enumerate") <;>
      · wp_walk using wpAny_loadPart' at_, wpAny_pyIter_tuple tup
        exact ⟨_, rfl, fin⟩
    · wp_walk using wpAny_loadPart' at_, wpAny_pyIter_tuple tup
      exact ⟨_, rfl, fin⟩
theorem my_enum_call {prog : Program} {w : World} {A : Around} {E : Value → Shared → Prop} {s : Shared} {t : Addr} {its : Array Value} {Q : Value → Shared → Prop} (tup : s.heap.IsTuple t its)
    (fin : ∀ h2, IsEnum h2 (s.heap.objs.size + 1) s.heap.objs.size 0 .none → h2.get? s.heap.objs.size = some { cls := .type "tuple_iterator", data := .fields #[.ref t, .int 0 0] } → h2.objs.size = s.heap.objs.size + 2 →
      (∀ b o, s.heap.get? b = some o → h2.get? b = some o) → Q (.ref (s.heap.objs.size + 1)) { s with heap := h2 }) : wpAny (model prog w) A (call (.type "enumerate") [.ref t]) Q E s := by
  obtain ⟨⟨cl, od, dat, sl⟩, at_, hc, n, hd⟩ := tup
  obtain rfl : cl = .type "tuple" := hc
  obtain rfl : dat = .seq its n := hd
  refine callType_new F.called_enumerate (by decide) (F.typeCall_enumerate_1 _) (F.newCall_enumerate_1 _) (fun obj => F.args_object_init_2 obj _) F.entry_enumerate_new (my_enum_new t its n od sl) ⟨at_, ?_⟩
  let it : Obj := { cls := .type "tuple_iterator", data := .fields #[.ref t, .int 0 0] }
  let en : Obj := { cls := .type "enumerate", data := .fields #[.none, .bool false, .ref s.heap.objs.size, rawInt 0, .none, .none] }
  have size : (s.heap.push it).objs.size = s.heap.objs.size + 1 := Heap.size_push ..
  have atE : ((s.heap.push it).push en).get? (s.heap.objs.size + 1) = some en := by
    rw [← size]
    exact Heap.get?_push_size _ rfl
  show Shared.TypeIs _ (.ref (s.heap.push it).objs.size) "enumerate" ∧ Q (.ref (s.heap.push it).objs.size) _
  rw [size]
  exact ⟨⟨_, atE, rfl⟩, fin _ atE (Heap.get?_push_of_some _ (Heap.get?_push_size _ rfl)) (by rw [Heap.size_push, size]) fun b o z => Heap.get?_push_of_some _ (Heap.get?_push_of_some _ z)⟩
end PySem

set_option Elab.async false
set_option linter.all false
set_option maxRecDepth 100000
set_option maxHeartbeats 2000000
namespace My
open PySem PySem.Spec PyProof.Rows L2
/-- the tuple at a, each of its items in a new pair with its place -/
def Iet (K : PySem.W.Frag) (a : Addr) : It :=
  ⟨fun i H => ∃ (xs : List V) (x : V), SqT K H a xs ∧ xs[i]? = some x, fun i H v H' => ∃ T x, v = .ref T ∧ H T = none ∧ H' = upd H T (.tup [.int (i : Nat), x]) ∧ ∀ xs, SqT K H a xs → xs[i]? = some x, fun i H => ∃ xs : List V, SqT K H a xs ∧ xs.length ≤ i⟩
theorem enum_apart {h : Heap} {e it a : Addr} {i : Int} {old : Value} {its : Array Value} (he : IsEnum h e it i old) (ht : h.IsTuple a its) : e ≠ a := by
  rintro rfl
  obtain ⟨o, ho, hc, _⟩ := ht
  unfold IsEnum at he
  rw [ho] at he
  cases he
  exact absurd (show Value.type "enumerate" = Value.type "tuple" from hc) (by decide)
/-- a tuple's iterator that is through -/
theorem end_tup {prog : Program} {w : World} {A : Around} (hh : A.handled = none) (it t : Addr) (its : Array Value) (i : Nat) (hi : its.size ≤ i) : Draws prog w A it [it, t] i (fun _ _ => True) (fun j h => j = i ∧ h.IsTupleIter it t i ∧ h.IsTuple t its) where
  live := fun _ _ st => let ⟨o, ho, _⟩ := st.2.1; ⟨o, ho⟩
  frame := fun _ _ _ st k => ⟨st.1, st.2.1.at fun o e => k it (by simp) o e, st.2.2.at fun o e => k t (by simp) o e⟩
  item := fun j s Q E lt st _ => absurd st.1 (Nat.ne_of_lt lt)
  done := fun s Q E st hE => wpAny_nextOf_tuple_end hh st.2.1 st.2.2 (by simp [hi]) hE
theorem turn_enumT {P : Program} {w : World} {K : PySem.W.Frag} {elts : List Expr} {kk : Nat} {tpos : Pos} (a e it : Addr) :
    Turn P w K (.Tuple elts kk tpos) (Iet K a) [e, it] e (fun i h => (∃ old, IsEnum h e it ((i : Nat) : Int) old) ∧ h.IsTupleIter it a i ∧ e ≠ it ∧ a ≠ it) where
  mem := List.mem_cons_self ..
  obj := by
    rintro i h ⟨⟨old, he⟩, ⟨o, ho, _, hd⟩, _⟩ b hb
    rcases List.mem_cons.mp hb with rfl | hb
    · exact ⟨_, he, fun v q => nomatch q⟩
    · obtain rfl := List.mem_singleton.mp hb
      exact ⟨o, ho, fun v q => by rw [hd] at q; cases q⟩
  keep := by
    rintro i h h2 ⟨⟨old, he⟩, ti, n1, n2⟩ k
    exact ⟨⟨old, k e (List.mem_cons_self ..) _ he⟩, ti.at fun o q => k it (by simp) o q, n1, n2⟩
  item := by
    rintro X rfl rfl rfl calm i pins s σ H E J ok ⟨⟨old, he⟩, ti, n1, n2⟩ ⟨xs, x, hq, hx⟩
    obtain ⟨its, rv, tup, _⟩ := J.tuple hq
    obtain ⟨u, hu, ru⟩ := rv.get hx
    have tup' : s.heap.IsTuple a its.toArray := tup
    have lowE : e < s.heap.objs.size := Heap.lt_size he
    have lowI : it < s.heap.objs.size := by
      obtain ⟨_, q, _⟩ := ti
      exact Heap.lt_size q
    have lt : i < its.toArray.size := by
      have := (List.getElem?_eq_some_iff.mp hu).1
      simpa using this
    refine wpAny_pyNext_enum_itemD (Draws.tuple (show X.A.in1.handled = none from J.ok.hd calm) it a n2 its.toArray) he ⟨ti, tup'⟩ lt n1 (by simp only [List.mem_cons, List.not_mem_nil, or_false, not_or]; exact ⟨n1, enum_apart he tup'⟩) fun y h2 tk got out st2 new size kept => ?_
    obtain rfl : u = y := by
      have e1 : its.toArray[i]? = some u := by simpa using hu
      exact Option.some.inj (e1.symm.trans got)
    refine ⟨_, rfl, wpAny_letOwnedTupleGo_enum (s := { s with heap := h2, toks := tk + 1 }) out fun h3 he3 same => ?_⟩
    have at3 : h3.get? s.heap.objs.size = some { cls := .type "tuple", data := .seq #[.int i tk, u] } := (same.2 _ (Nat.ne_of_gt lowE)).trans new
    have obj : ObjOk X.prog X.w (upd H s.heap.objs.size (.tup [.int (i : Nat), x])) h3 s.heap.objs.size (.tup [.int (i : Nat), x]) := ⟨by show 2 ≤ sizeLine; decide, [.int i tk, u], .cons ⟨_, rfl⟩ (.cons ru .nil), ⟨_, at3, rfl, _, rfl⟩⟩
    have stay : ∀ b o, b ∉ [e, it] → s.heap.get? b = some o → h3.get? b = some o := fun b o nb q => by
      simp only [List.mem_cons, List.not_mem_nil, or_false, not_or] at nb
      exact (same.2 b nb.1).trans (kept b o nb.1 nb.2 q)
    have J1 : Inv X pins σ (upd H s.heap.objs.size (.tup [.int (i : Nat), x])) { s with heap := h3, toks := tk + 1 } := J.turnedNew (ch := [e, it]) stay ok (Nat.le_refl _) obj
    have next : IsEnum h3 e it (((i + 1 : Nat)) : Int) u := by
      have e1 : ((i + 1 : Nat) : Int) = (i : Int) + 1 := by omega
      rw [e1]
      exact he3
    refine ⟨.ref s.heap.objs.size, _, J1, rfl, ⟨_, x, rfl, J.hok.fresh (Nat.le_refl _), rfl, fun ys hy => by rw [J.tuple_inj hy hq]; exact hx⟩, ⟨⟨u, next⟩, st2.1.at fun o q => (same.2 it (Ne.symm n1)).trans q, n1, n2⟩, fun b hb => ?_⟩
    have low : b < s.heap.objs.size := by
      rcases List.mem_cons.mp hb with rfl | hb
      · exact lowE
      · rw [List.mem_singleton.mp hb]
        exact lowI
    rw [upd_ne (Nat.ne_of_lt low)]
    exact (ok b hb).1
  done := by
    rintro X rfl rfl rfl calm i pins s σ H E J ok ⟨⟨old, he⟩, ti, n1, n2⟩ ⟨xs, hq, hx⟩
    obtain ⟨its, rv, tup, _⟩ := J.tuple hq
    obtain ⟨f0, f1, f2, f3, f4, f5⟩ := ok it (by simp)
    have len := rv.length
    exact wpAny_pyNext_enum_endD (end_tup (show X.A.in1.handled = none from J.ok.hd calm) it a its.toArray i (by rw [List.size_toArray, ← len]; exact hx)) he ⟨rfl, ti, (show s.heap.IsTuple a its.toArray from tup)⟩ fun h2 eb => ⟨rfl, J.turned (t' := s.toks) (fun b o hb q => eb b o hb q) f0 f1 f3 f4 f5⟩
  self := fun A i s Q E st h => let ⟨⟨_, he⟩, _⟩ := st; wpAny_pyIter_enum he h
/-- enumerate of a list or a tuple -/
def iEnumAny (K : PySem.W.Frag) (ta : TA) : TI := fun σ H R => ta σ H fun vs H1 => ∃ a xs, vs = [.ref a] ∧ ((SqL K H1 a xs ∧ R (Ite K a) H1) ∨ (SqT K H1 a xs ∧ R (Iet K a) H1))
theorem pi_enumAny {X : Cx} {e : Expr} {ta : TA} {p pos tpos : Pos} {elts : List Expr} {kk : Nat} (hg : Gl X "enumerate") (hm : X.mg "enumerate" = none) (ha : PA X [e] ta) (hs : starEach [e] X.env = [(false, eval e X.env)] := by rfl) :
    PI X (.Tuple elts kk tpos) (.Call (.Name "enumerate" p) [e] [] pos) (iEnumAny X.K ta) := by
  constructor
  intro pins s σ H R I h
  refine Call_ (ld_blt I hg hm boot_enumerate (callWith_type1 (thn (ha.run pos pins s σ H _ I h) ?_) hs rfl))
  rintro us st ⟨vs, H1, J, rr, a, xs, rfl, way⟩
  obtain rfl := Vals.ref1 rr
  have new : ∀ b ∈ [st.heap.objs.size + 1, st.heap.objs.size], FpOk X pins H1 b := fun b hb => by
    have le : st.heap.objs.size ≤ b := by
      rcases List.mem_cons.mp hb with rfl | hb
      · exact Nat.le_succ _
      · rw [List.mem_singleton.mp hb]
        exact Nat.le_refl _
    exact J.fpOk le (J.hok.fresh le)
  rcases way with ⟨hq, q⟩ | ⟨hq, q⟩
  · obtain ⟨its, _, pl, _⟩ := J.list hq
    refine call_enumerate_list pl.isList fun h2 he ti _ kept => wpAny_pyIter_enum he ?_
    exact ⟨st.heap.objs.size + 1, [st.heap.objs.size + 1, st.heap.objs.size], _, _, H1, rfl, J.kept (t' := st.toks) kept, turn_enum a _ _, ⟨⟨.none, he⟩, ti, Nat.succ_ne_self _⟩, new, q⟩
  · obtain ⟨its, _, tup, _⟩ := J.tuple hq
    have tup' : st.heap.IsTuple a its.toArray := tup
    have low : a < st.heap.objs.size := by
      obtain ⟨o, ho, _⟩ := tup'
      exact Heap.lt_size ho
    refine my_enum_call tup' fun h2 he ti _ kept => wpAny_pyIter_enum he ?_
    exact ⟨st.heap.objs.size + 1, [st.heap.objs.size + 1, st.heap.objs.size], _, _, H1, rfl, J.kept (t' := st.toks) kept, turn_enumT a _ _, ⟨⟨.none, he⟩, ⟨_, ti, rfl, rfl⟩, Nat.succ_ne_self _, Nat.ne_of_lt low⟩, new, q⟩
theorem walk_enumT {K : PySem.W.Frag} {a : Addr} {xs : List V} : Walk (Iet K a) xs.length (fun H => SqT K H a xs) (YPair (fun i => some (.int (i : Nat))) (fun i => xs[i]?)) where
  goes := fun i _ hi q => ⟨xs, xs[i], q, List.getElem?_eq_getElem hi⟩
  stops := fun _ q => ⟨xs, q, Nat.le_refl _⟩
  yields := fun i H v H' _ q ⟨T, x, h1, h2, h3, h4⟩ => ⟨T, .int (i : Nat), x, h1, h2, h3, rfl, h4 xs q⟩
end My

set_option Elab.async false
set_option linter.all false
set_option maxRecDepth 100000
set_option maxHeartbeats 2000000
namespace My
open PySem PySem.Spec PyProof.Rows L2
/-- d.items(), a dict of texts and numbers as keys -/
def rItemsK : V → List V → Hp → VK → Prop := fun x xs H Q => ∃ (a : Addr) (kvs : List (Key × V)), x = .ref a ∧ xs = [] ∧ H a = some (.dK kvs) ∧ ∀ p, H p = none → Q (.ref p) (upd H p (DX.itemsO p a))
theorem mt_itemsK {X : Cx} : MtR X "dict.items" rItemsK := by
  rintro pins s σ H x xs v us Q I rx rxs ⟨a, kvs, rfl, rfl, ha, q⟩
  cases rx
  cases rxs
  obtain ⟨_, hd, vs, _, o, es, ep, ho, hx, hdat, _⟩ := dk_of I.hok ha
  refine DT.callItems (es := es) (ep := ep) hd ⟨o, ho, hx, hdat⟩ ?_
  exact ⟨.ref s.heap.objs.size, _, I.laid (t' := s.toks) (o := DX.itemsO s.heap.objs.size a) (fun b u e => Heap.get?_push_of_some _ e) (Nat.le_refl _) (DX.itemsO_ok (Heap.get?_push_size _ rfl)), rfl, q _ (I.hok.fresh (Nat.le_refl _))⟩
abbrev entK (p : Str × Int) : Key × V := (Sum.inr p.1, V.int p.2)
theorem ent_at {P : Program} {w : World} {l : List DictEntry} {vs : List (Key × Value)} (hp : Pairs (mixKind P w) l vs) : ∀ {ks : List (Str × Int)}, KV (ks.map entK) vs → ∀ (j : Nat) (en : DictEntry), l[j]? = some en →
    ∃ (e : Str × Int) (t u : Tok), ks[j]? = some e ∧ en.key = .str e.1 t ∧ en.val = .int e.2 u := by
  induction hp with
  | nil =>
    intro ks _ j en h
    simp at h
  | @cons e0 kv l vs h1 h2 hr ih =>
    intro ks h j en hj
    match ks, h with
    | k :: ks, h =>
      have hk : (Sum.inr k.1 : Key) = kv.1 ∧ RelV (V.int k.2) kv.2 ∧ KV (ks.map entK) vs := by
        have h' : Paired (fun (p : Key × V) (q : Key × Value) => p.1 = q.1 ∧ RelV p.2 q.2) (entK k :: ks.map entK) (kv :: vs) := h
        generalize hx : entK k = x at h'
        cases h' with
        | cons a b =>
          subst hx
          exact ⟨a.1, a.2, b⟩
      obtain ⟨z1, ⟨u, hu⟩, z3⟩ := hk
      cases j with
      | zero =>
        obtain rfl : e0 = en := Option.some.inj hj
        have hi : keyIs (Sum.inr k.1) e0.key = true := by
          rw [z1]
          exact h1
        rcases keyIs_shape hi with ⟨i, t, y1, _⟩ | ⟨x, t, y1, y2⟩
        · cases y1
        · cases y1
          exact ⟨k, t, u, rfl, y2, by rw [h2, hu]⟩
      | succ j => exact ih z3 j en hj
theorem tups_all {h : Heap} {shape : Nat → Bool} : ∀ {vs : List Value}, (∀ v ∈ vs, ∃ f, TupOf h shape v f) → ∃ fs, TupsOf h shape vs fs
  | [], _ => ⟨[], .nil⟩
  | v :: vs, k => by
    obtain ⟨f, hf⟩ := k v (List.mem_cons_self ..)
    obtain ⟨fs, hfs⟩ := tups_all (vs := vs) fun u hu => k u (List.mem_cons_of_mem _ hu)
    exact ⟨f :: fs, .cons hf hfs⟩
/-- a text first, then a number -/
def tn : Nat → Bool := fun i => i == 0
theorem tn_key {h : Heap} {b : Addr} {x : Str} {n : Int} {t u : Tok} (e : h.get? b = some { cls := .type "tuple", data := .seq #[.str x t, .int n u] }) : G.tupKeyC h tn (.ref b) = some [Sum.inr x.cps.toList, Sum.inl n] := G.tupKeyC_of e rfl rfl rfl
theorem tn_of {h : Heap} {b : Addr} {x : Str} {n : Int} {t u : Tok} (e : h.get? b = some { cls := .type "tuple", data := .seq #[.str x t, .int n u] }) : TupOf h tn (.ref b) (.str x t) := ⟨b, _, _, _, rfl, e, rfl, rfl, rfl, (fun z => by cases z), fun _ => ⟨x, t, rfl⟩⟩
theorem tn_le {x y : Str} {m n : Int} (h : (G.tupKindC hp tn).kle [Sum.inr x.cps.toList, Sum.inl m] [Sum.inr y.cps.toList, Sum.inl n]) : ltCps y.cps.toList x.cps.toList = false := by
  have h1 : (strKind.blt y.cps.toList x.cps.toList || _) = false := h
  have h2 := (Bool.or_eq_false_iff.mp h1).1
  rw [ltCps_eq]
  exact h2
/-- sorted(d.items()), d from texts to numbers -/
def rSortItK : List V → Hp → VK → Prop := fun vs H Q => ∃ (p a : Addr) (ks : List (Str × Int)), vs = [.ref p] ∧ H p = some (DX.itemsO p a) ∧ H a = some (.dK (ks.map entK)) ∧ ks.length < 64 ∧
  ∀ (H' : Hp) (l : Addr) (ps : List Addr) (ys : List (Str × Int)), Same H H' → H l = none → ys.Perm ks → ys.Pairwise (fun e f => ltCps f.1.cps.toList e.1.cps.toList = false) → H' l = some (.lst (ps.map V.ref)) →
    Paired (fun b e => H' b = some (.tup [.str e.1, .int e.2])) ps ys → Q (.ref l) H'
end My

set_option Elab.async false
set_option linter.all false
set_option maxRecDepth 100000
set_option maxHeartbeats 2000000
namespace My
open PySem PySem.Spec PyProof.Rows L2
theorem pair_maps {α β γ : Type} {F : β → γ → Prop} {f : α → β} {g : α → γ} : ∀ {zs : List α}, (∀ z ∈ zs, F (f z) (g z)) → Paired F (zs.map f) (zs.map g)
  | [], _ => .nil
  | z :: zs, h => .cons (h z (List.mem_cons_self ..)) (pair_maps fun y hy => h y (List.mem_cons_of_mem _ hy))
theorem cr_sortedItK {X : Cx} (calm : X.calm = true) : CallR X (.builtin "sorted") rSortItK := by
  rintro pins s σ H xs us Q I r ⟨p, a, ks, rfl, hp, ha, few, q⟩
  obtain rfl := Vals.ref1 r
  have view : s.heap.IsItemsView p a := (show ObjOk X.prog X.w H s.heap p (DX.itemsO p a) from I.hok p _ hp).1
  obtain ⟨_, hd, vs, rel, o, es, ep, ho, hx, hdat, _, prs, _⟩ := dk_of I.hok ha
  have len1 : es.size = ks.length := by
    have e1 := prs.length
    have e2 : (ks.map entK).length = vs.length := Paired.length rel
    rw [List.length_map] at e2
    rw [Array.length_toList] at e1
    omega
  refine DT.sortedI (es := es) (ep := ep) (I.ok.hd calm) view ⟨o, ho, hx, hdat⟩ (by rw [sizeLine_eq]; omega) fun h1 tk as kept grown lenA made => ?_
  have lenK : as.length = ks.length := by omega
  have nd : as.Nodup := List.Pairwise.imp (fun z => Nat.ne_of_lt z) made.rise
  have at1 : ∀ (j : Nat) (b : Addr), as[j]? = some b → ∃ (e : Str × Int) (t u : Tok), ks[j]? = some e ∧ h1.get? b = some { cls := .type "tuple", data := .seq #[.str e.1 t, .int e.2 u] } := by
    intro j b hj
    obtain ⟨en, he, hg⟩ := made.pairs j b hj
    obtain ⟨e, t, u, k1, k2, k3⟩ := ent_at prs rel j en (by rw [Array.getElem?_toList]; exact he)
    rw [k2, k3] at hg
    exact ⟨e, t, u, k1, hg⟩
  let lo : Obj := { cls := .type "list", data := .seq (as.map Value.ref).toArray }
  have own : (h1.push lo).get? h1.objs.size = some (seqObj "list" (as.map Value.ref).toArray 0) := Heap.get?_push_size _ rfl
  have on : ∀ b ob, h1.get? b = some ob → (h1.push lo).get? b = some ob := fun b ob e => Heap.get?_push_of_some _ e
  have off : ∀ b ob, h1.get? b = some ob → b ≠ h1.objs.size := fun b ob e => Nat.ne_of_lt (Heap.lt_size e)
  generalize e2 : h1.push lo = h2 at own on
  have at2 : ∀ v ∈ as.map Value.ref, ∃ (j : Nat) (b : Addr) (e : Str × Int) (t u : Tok), v = .ref b ∧ as[j]? = some b ∧ ks[j]? = some e ∧ h2.get? b = some { cls := .type "tuple", data := .seq #[.str e.1 t, .int e.2 u] } := by
    intro v hv
    obtain ⟨b, hb, rfl⟩ := List.mem_map.mp hv
    obtain ⟨j, hj⟩ := List.mem_iff_getElem?.mp hb
    obtain ⟨e, t, u, k1, k2⟩ := at1 j b hj
    exact ⟨j, b, e, t, u, rfl, hj, k1, on _ _ k2⟩
  obtain ⟨fs, hfs⟩ := tups_all (h := h2) (shape := tn) (vs := as.map Value.ref) fun v hv => by
    obtain ⟨j, b, e, t, u, rfl, _, _, k⟩ := at2 v hv
    exact ⟨_, tn_of k⟩
  refine wpAny_call_entry slot_list_sort ⟨_, own, rfl⟩ entry_list_sort (G.list_sort_tups (s := { s with heap := h2, toks := tk }) own hfs (fun v hv => ?_) (by rw [List.length_map, sizeLine_eq]; omega) fun st' b1 b2 _ => ⟨.none, rfl, ?_⟩) (args_list_sort _)
  · obtain ⟨j, b, e, t, u, rfl, _, _, k⟩ := at2 v hv
    exact ⟨_, tn_key k⟩
  · have perm : (arrOf st').toList.Perm ((as.map Value.ref).zip (as.map Value.ref)) := by
      rw [← pairsOf_toList]
      exact Array.perm_iff_toList_perm.mp b1
    obtain ⟨zs, zperm, zmap⟩ := perm_lift (fun z : Addr × Str × Int => (Value.ref z.1, Value.ref z.1)) perm (as.zip ks) (DX.zip_self Value.ref as ks lenK)
    have idx : ∀ z ∈ zs, ∃ j : Nat, as[j]? = some z.1 ∧ ks[j]? = some z.2 := fun z hz => by
      obtain ⟨j, hj⟩ := List.mem_iff_getElem?.mp (zperm.mem_iff.mp hz)
      exact ⟨j, List.getElem?_zip_eq_some.mp hj⟩
    have atZ : ∀ z ∈ zs, ∃ t u, h1.get? z.1 = some { cls := .type "tuple", data := .seq #[.str z.2.1 t, .int z.2.2 u] } := fun z hz => by
      obtain ⟨j, j1, j2⟩ := idx z hz
      obtain ⟨e, t, u, k1, k2⟩ := at1 j z.1 j1
      obtain rfl : e = z.2 := Option.some.inj (k1.symm.trans j2)
      exact ⟨t, u, k2⟩
    have size : (arrOf st').size = zs.length := by rw [← Array.length_toList, ← zmap, List.length_map]
    have atI : ∀ (i : Nat) (hi : i < zs.length), KK (G.tupKindC h2 tn) (arrOf st') i = [Sum.inr (zs[i]).2.1.cps.toList, Sum.inl (zs[i]).2.2] := fun i hi => by
      obtain ⟨t, u, k⟩ := atZ _ (List.getElem_mem hi)
      have e1 : (arrOf st')[i]? = some (Value.ref (zs[i]).1, Value.ref (zs[i]).1) := by
        rw [← Array.getElem?_toList, ← zmap, List.getElem?_map, List.getElem?_eq_getElem hi]
        rfl
      unfold KK
      rw [e1]
      show (G.tupKeyC h2 tn (.ref (zs[i]).1)).getD [] = _
      rw [tn_key (on _ _ k)]
      rfl
    have outL : ((arrOf st').map (·.2)).toList = zs.map fun z => Value.ref z.1 := by
      rw [Array.toList_map, ← zmap, List.map_map]
      rfl
    have ysPerm : (zs.map (·.2)).Perm ks := by
      have e1 := zperm.map (·.2)
      rwa [List.map_snd_zip (by rw [lenK]; exact Nat.le_refl _)] at e1
    have zlen : zs.length = ks.length := by
      have e1 := ysPerm.length_eq
      rwa [List.length_map] at e1
    have ysSort : (zs.map (·.2)).Pairwise (fun e f => ltCps f.1.cps.toList e.1.cps.toList = false) := by
      rw [List.pairwise_map, List.pairwise_iff_getElem]
      intro i j hi hj hij
      have z := b2 i j (Nat.le_of_lt hij) (by rw [pairsOf_size, List.length_map]; omega)
      rw [atI i hi, atI j hj] at z
      exact tn_le z
    generalize (arrOf st').map (·.2) = out at outL
    have keep2 : ∀ b ob, b ≠ h1.objs.size → h2.get? b = some ob → (sortedHeap h2 h1.objs.size (as.map Value.ref) out).get? b = some ob := fun b ob nb e => (sortedHeap_old nb (Heap.lt_size e)).trans e
    have keep1 : ∀ b ob, h1.get? b = some ob → (sortedHeap h2 h1.objs.size (as.map Value.ref) out).get? b = some ob := fun b ob e => keep2 b ob (off b ob e) (on b ob e)
    obtain ⟨eF, atF⟩ := sortedHeap_at (vs := as.map Value.ref) (out := out) own
    show EP X pins σ Q (.ref h1.objs.size) { s with heap := sortedHeap h2 h1.objs.size (as.map Value.ref) out, toks := tk }
    generalize sortedHeap h2 h1.objs.size (as.map Value.ref) out = hf at keep1 atF
    have J1 : Inv X pins σ H { s with heap := hf, toks := tk } := I.kept (t' := tk) fun b ob e => keep1 b ob (kept b ob e)
    have noL : H h1.objs.size = none := I.hok.fresh (Nat.le_of_lt grown)
    have vals : Vals ((zs.map (·.1)).map V.ref) out.toList := by
      rw [outL, List.map_map]
      exact vals_maps (fun z : Addr × Str × Int => V.ref z.1) (fun z => Value.ref z.1) zs fun _ _ => rfl
    have J2 : Inv X pins σ (upd H h1.objs.size (.lst ((zs.map (·.1)).map V.ref))) { s with heap := hf, toks := tk } :=
      J1.take (h' := hf) (t' := tk) (fun b ob _ e => e) (I.fpOk (Nat.le_of_lt grown) noL) ⟨by rw [List.length_map, List.length_map, sizeLine_eq]; omega, out.toList, eF, vals, atF⟩
    obtain ⟨H2, J3, up, tups⟩ := DX.takeT (P := fun b vs => ∃ (j : Nat) (e : Str × Int), as[j]? = some b ∧ ks[j]? = some e ∧ vs = [.str e.1, .int e.2]) I as _ J2 nd fun b hb => by
      obtain ⟨j, hj⟩ := List.mem_iff_getElem?.mp hb
      obtain ⟨e, t, u, k1, k2⟩ := at1 j b hj
      have above : s.heap.objs.size ≤ b := Nat.le_of_lt (made.above b hb)
      refine ⟨above, ?_, [.str e.1, .int e.2], ⟨j, e, hj, k1, rfl⟩, fun H3 => ⟨by rw [sizeLine_eq]; show 2 ≤ 16777216; omega, [.str e.1 t, .int e.2 u], .cons ⟨_, rfl⟩ (.cons ⟨_, rfl⟩ .nil), ⟨_, keep1 _ _ k2, rfl, 0, rfl⟩⟩⟩
      rw [upd_ne (off _ _ k2)]
      exact I.hok.fresh above
    have same : Same H H2 := fun b ob e => up b ob (by rw [upd_ne (ne_of_none e noL)]; exact e)
    refine ⟨.ref h1.objs.size, H2, J3, rfl, q H2 h1.objs.size (zs.map (·.1)) (zs.map (·.2)) same noL ysPerm ysSort (up _ _ upd_same) ?_⟩
    have each : ∀ z ∈ zs, H2 z.1 = some (.tup [.str z.2.1, .int z.2.2]) := fun z hz => by
      obtain ⟨i, i1, i2⟩ := idx z hz
      obtain ⟨vs2, ⟨j, e, j1, j2, rfl⟩, hH⟩ := tups z.1 (List.mem_of_getElem? i1)
      obtain rfl : i = j := (List.getElem?_inj (List.getElem?_eq_some_iff.mp i1).1 nd).mp (i1.trans j1.symm)
      obtain rfl : e = z.2 := Option.some.inj (j2.symm.trans i2)
      exact hH
    exact pair_maps each
end My

set_option Elab.async false
set_option linter.all false
set_option maxRecDepth 100000
set_option maxHeartbeats 2000000
namespace My
open PySem PySem.Spec PyProof.Rows L2
section
variable {X : Cx}
/-- isinstance(v, T), T a built-in type, v of a type that is known -/
def rIsTy (T : String) : List V → Hp → VK → Prop := fun vs H Q => ∃ (v : V) (t : String) (b : Bool), vs = [v, .ty T] ∧ tyS H v = some t ∧ kitB t T = some b ∧ Q (.bl b) H
theorem rd_isTy {T : String} {v c : V} {H : Hp} {Q : VK} : rIsTy T [v, c] H Q = (c = .ty T ∧ ∃ (t : String) (b : Bool), tyS H v = some t ∧ kitB t T = some b ∧ Q (.bl b) H) := by
  simp [rIsTy, and_assoc]
theorem call_isTy {T : String} : CallR X (.builtin "isinstance") (rIsTy T) := call_isi.imp fun _ _ _ ⟨v, t, b, e, h, k, q⟩ => ⟨v, .ty T, .type t, .type T, b, e, .ty T, tyX_of h, kit_ty k, q⟩
/-- isinstance(v, (list, tuple)) -/
def isRowT (t : String) : Bool := t == "list" || t == "tuple"
theorem k_row : ∀ t ∈ ["NoneType", "bool", "int", "str", "list", "tuple", "dict"], kitB t "list" = some (t == "list") ∧ kitB t "tuple" = some (t == "tuple") := by decide +kernel
/-- a tuple that stands among the module's constants -/
def KT (K : PySem.W.Frag) (a : Addr) (xs : List V) : Prop := ∃ (o : Obj) (its : Array Value) (n : Nat), K.lookup a = some o ∧ o.cls = .type "tuple" ∧ o.data = .seq its n ∧ its.size ≤ sizeLine ∧ Vals xs its.toList
theorem KT.sq {K : PySem.W.Frag} {H : Hp} {a : Addr} {xs : List V} (h : KT K a xs) : SqT K H a xs := .inr h
/-- whether a value is a list or a tuple -/
def RwV (K : PySem.W.Frag) (H : Hp) (v : V) (b : Bool) : Prop := (∃ t, tyS H v = some t ∧ isRowT t = b) ∨ (b = true ∧ ∃ a xs, v = .ref a ∧ KT K a xs)
def rIsRow (K : PySem.W.Frag) : List V → Hp → VK → Prop := fun vs H Q => ∃ (v : V) (p : Addr) (b : Bool), vs = [v, .ref p] ∧ H p = some (.tup [.ty "list", .ty "tuple"]) ∧ RwV K H v b ∧ Q (.bl b) H
theorem ty_names {H : Hp} : ∀ {v : V} {t : String}, tyS H v = some t → t ∈ ["NoneType", "bool", "int", "str", "list", "tuple", "dict"]
  | .non, _, h => by cases h; simp
  | .bl _, _, h => by cases h; simp
  | .int _, _, h => by cases h; simp
  | .str _, _, h => by cases h; simp
  | .ref a, t, h => by
    rcases tyO_cases (show tyO (H a) = some t from h) with ⟨_, _, rfl⟩ | ⟨_, _, rfl⟩ | ⟨_, _, rfl⟩ <;> simp
theorem k_rowT : kitB "tuple" "list" = some false ∧ kitB "tuple" "tuple" = some true := by decide +kernel
theorem call_isRow : CallR X (.builtin "isinstance") (rIsRow X.K) := call_isiT.imp fun _ _ _ ⟨v, p, b, e, hp, h, q⟩ => by
  rcases h with ⟨t, h, eb⟩ | ⟨eb, a, xs, ev, hk⟩
  · subst eb
    obtain ⟨k1, k2⟩ := k_row t (ty_names h)
    refine ⟨v, p, _, .type t, [.type "list", .type "tuple"], isRowT t, e, hp, .cons (.ty "list") (.cons (.ty "tuple") .nil), tyX_of h, ?_, q⟩
    refine kitAny_cons (kit_ty k1) (fun n1 => ?_) (fun y1 => by unfold isRowT; rw [y1]; rfl)
    refine kitAny_cons (kit_ty k2) (fun n2 => ?_) (fun y2 => by unfold isRowT; rw [y2]; simp)
    rw [kitAny_nil]
    unfold isRowT
    rw [n1, n2]
    rfl
  · subst eb ev
    obtain ⟨o, its, n, h1, h2, _⟩ := hk
    refine ⟨.ref a, p, _, .type "tuple", [.type "list", .type "tuple"], true, e, hp, .cons (.ty "list") (.cons (.ty "tuple") .nil), .kTuple h1 h2, ?_, q⟩
    refine kitAny_cons (kit_ty k_rowT.1) (fun _ => ?_) (fun _ => rfl)
    exact kitAny_cons (kit_ty k_rowT.2) (fun z => by cases z) (fun _ => rfl)
theorem pe_ty {T : String} {x : Str} {pos : Pos} (hm : X.mg x = none) (hb : bootBuiltins x = some (.type T)) (hg : Gl X x := by rfl) (hd : (x == ("__debug__" : Str)) = false := by decide) (hn : x ≠ "__name__" := by decide) : PE X (.Name x pos) (tC (.ty T)) := pe_bltn (v := .ty T) (u := .type T) hg hm hb rfl (hn := hn) (hd := hd)
end
end My

set_option Elab.async false
set_option linter.all false
set_option maxRecDepth 100000
set_option maxHeartbeats 2000000
namespace My
open PySem PySem.Spec PyProof.Rows L2
/-- a comprehension's list, its source known -/
def lcB (J : It) (g : TG) (tt : TT) (te : TE) (vs : List Nat) : TE := fun σ H1 Q => ∀ D, H1 D = none → ∃ W : Nat → Nat → Hp → Prop, (∃ m, W 0 m (upd H1 D (.lst []))) ∧ ∀ i m H, W i m H →
  (J.stop i H ∧ Q (.ref D) H) ∨ (J.go i H ∧ ∃ Nx : Hp → Prop, (∀ H', Nx H' → ∃ m', m' < m ∧ W (i + 1) m' H') ∧ ∀ x H', J.yld i H x H' → g x (wipe σ vs) H' fun σ2 H2 => wipe σ2 vs = wipe σ vs ∧ tt σ2 H2 fun b H3 =>
    if b = true then te σ2 H3 fun y H4 => ∃ acc, H4 D = some (.lst acc) ∧ acc.length < sizeLine ∧ Nx (upd H4 D (.lst (acc ++ [y]))) else Nx H3)
section
variable {K : PySem.W.Frag} {tl : TE} {ta : TA} {g : TG} {tt : TT} {te : TE} {vs : List Nat} {σ : L2.St} {H : Hp} {Q : VK}
theorem rd_lcL : tLc (iList K tl) g tt te vs σ H Q = tl σ H fun x H1 => ∃ a, x = .ref a ∧ (∃ xs, SqL K H1 a xs) ∧ lcB (Itl K a) g tt te vs σ H1 Q := rfl
theorem rd_lcE : tLc (iEnum K ta) g tt te vs σ H Q = ta σ H fun us H1 => ∃ a xs, us = [.ref a] ∧ SqL K H1 a xs ∧ lcB (Ite K a) g tt te vs σ H1 Q := rfl
theorem rd_mk {C : Addr} {sp : Sp} {dvs : List V} {E : XK} {t : TA} : tMake C sp dvs E t σ H Q = t σ H fun vs H1 => ∀ x dx, H1 x = none → H1 dx = none → dx ≠ x → sp (.ref x :: (vs ++ dvs)) (upd (upd H1 dx (.own x)) x (.ins C dx [])) (fun v H2 => v = .non ∧ Q (.ref x) H2) E := rfl
theorem rd_sl {r : V → Option Int → Option Int → Hp → VK → Prop} {l h : TO} : tSl r te l h σ H Q = te σ H fun x H1 => l σ H1 fun i H2 => h σ H2 fun u H3 => r x i u H3 Q := rfl
theorem rd_noP {Q : Option Int → Hp → Prop} : tNoPart σ H Q = Q none H := rfl
theorem rd_part {Q : Option Int → Hp → Prop} : tPart te σ H Q = te σ H fun x H1 => ∃ i, x = .int i ∧ Q (some i) H1 := rfl
theorem rd_slL {x : V} {lo hi : Option Int} : rSlL K x lo hi H Q = ∃ a xs, x = .ref a ∧ SqL K H a xs ∧ ∀ p, H p = none → Q (.ref p) (upd H p (.lst (cutV xs lo hi))) := rfl
theorem rd_cat {x y : V} : rCat x y H Q = ∃ l b xs zs, x = .ref l ∧ y = .ref b ∧ H l = some (.lst xs) ∧ H b = some (.lst zs) ∧ xs.length + zs.length ≤ sizeLine ∧ ∀ p, H p = none → Q (.ref p) (upd H p (.lst (xs ++ zs))) := rfl
end
theorem rd_lcA {K : PySem.W.Frag} {tl : TE} {g : TG} {tt : TT} {te : TE} {vs : List Nat} {σ : L2.St} {H : Hp} {Q : VK} : tLc (iAny K tl) g tt te vs σ H Q = tl σ H fun x H1 => ∃ a, x = .ref a ∧ (((∃ xs, SqL K H1 a xs) ∧ lcB (Itl K a) g tt te vs σ H1 Q) ∨ ((∃ xs, SqT K H1 a xs) ∧ lcB (Itt K a) g tt te vs σ H1 Q)) := rfl
theorem rd_lcEA {K : PySem.W.Frag} {ta : TA} {g : TG} {tt : TT} {te : TE} {vs : List Nat} {σ : L2.St} {H : Hp} {Q : VK} : tLc (iEnumAny K ta) g tt te vs σ H Q = ta σ H fun us H1 => ∃ a xs, us = [.ref a] ∧ ((SqL K H1 a xs ∧ lcB (Ite K a) g tt te vs σ H1 Q) ∨ (SqT K H1 a xs ∧ lcB (Iet K a) g tt te vs σ H1 Q)) := rfl
/-- [e for x in xs], e leaving what stands as it is -/
theorem lcB_map {J : It} {G : Hp → Prop} {xs : List V} {j : Nat} {te : TE} {σ : L2.St} {H : Hp} {Q : VK} (w : Walk J xs.length G (YAt xs)) (hG : ∀ H', Same H H' → G H') (hz : xs.length ≤ 1000) (f : V → V) (hw : ∀ x, wipe ((wipe σ [j]).set j (some x)) [j] = wipe σ [j])
    (he : ∀ (x : V) (H' : Hp) (R : VK), x ∈ xs → Same H H' → (∀ H2, Same H' H2 → R (f x) H2) → te ((wipe σ [j]).set j (some x)) H' R)
    (hq : ∀ (D : Addr) (H' : Hp), H D = none → Same H H' → H' D = some (.lst (xs.map f)) → Q (.ref D) H') : lcB J (gName j) tYes te [j] σ H Q := by
  intro D hD
  refine lc_it w (fun i H' => Same H H' ∧ H' D = some (.lst ((xs.take i).map f))) ⟨My.Same.new (Same.refl H) hD, upd_same⟩ (fun i H' _ h => hG H' h.1) ?_ ?_
  · rintro i x H' H2 hi ⟨sm, hl⟩ ⟨rfl, hx⟩
    refine ⟨hw _, ?_⟩
    simp only [tYes, if_true]
    refine he x _ _ (List.mem_of_getElem? hx) sm fun H3 s3 => ⟨_, s3 _ _ hl, szl ?_, My.Same.new (sm.trans s3) hD, ?_⟩
    · rw [List.length_map, List.length_take]
      omega
    · rw [upd_same, take_more hx, List.map_append]
      rfl
  · rintro H' ⟨sm, hl⟩
    rw [List.take_length] at hl
    exact hq D H' hD sm hl
/-- a list or a tuple of texts that stands -/
def Row (K : PySem.W.Frag) (H : Hp) (a : Addr) (xs : List V) : Prop := H a = some (.lst xs) ∨ H a = some (.tup xs) ∨ KT K a xs
theorem Row.same {K : PySem.W.Frag} {H H' : Hp} {a : Addr} {xs : List V} (h : Row K H a xs) (s : Same H H') : Row K H' a xs := h.imp (fun z => s _ _ z) fun z => z.imp (fun z => s _ _ z) id
/-- a tuple that stands, also a constant of the module -/
def Tp (K : PySem.W.Frag) (H : Hp) (a : Addr) (xs : List V) : Prop := H a = some (.tup xs) ∨ KT K a xs
theorem Tp.sq {K : PySem.W.Frag} {H : Hp} {a : Addr} {xs : List V} (h : Tp K H a xs) : SqT K H a xs := h.elim SqT.of KT.sq
theorem Tp.same {K : PySem.W.Frag} {H H' : Hp} {a : Addr} {xs : List V} (h : Tp K H a xs) (s : Same H H') : Tp K H' a xs := h.imp (fun z => s _ _ z) id
theorem Row.sq {K : PySem.W.Frag} {H : Hp} {a : Addr} {xs : List V} (h : Row K H a xs) : SqL K H a xs ∨ SqT K H a xs := h.imp SqL.of fun z => z.elim SqT.of KT.sq
theorem Row.ty {K : PySem.W.Frag} {H : Hp} {a : Addr} {xs : List V} (h : Row K H a xs) : RwV K H (.ref a) true := by
  rcases h with h | h | h
  · exact .inl ⟨"list", by show tyO (H a) = _; rw [h]; rfl, rfl⟩
  · exact .inl ⟨"tuple", by show tyO (H a) = _; rw [h]; rfl, rfl⟩
  · exact .inr ⟨rfl, a, xs, rfl, h⟩
/-- the comprehension over such -/
theorem rowLc {K : PySem.W.Frag} {a : Addr} {xs : List V} {j : Nat} {te : TE} {σ : L2.St} {H : Hp} {Q : VK} (h : Row K H a xs) (hz : xs.length ≤ 1000) (f : V → V) (hw : ∀ x, wipe ((wipe σ [j]).set j (some x)) [j] = wipe σ [j])
    (he : ∀ (x : V) (H' : Hp) (R : VK), x ∈ xs → Same H H' → (∀ H2, Same H' H2 → R (f x) H2) → te ((wipe σ [j]).set j (some x)) H' R)
    (hq : ∀ (D : Addr) (H' : Hp), H D = none → Same H H' → H' D = some (.lst (xs.map f)) → Q (.ref D) H') :
    ((∃ xs, SqL K H a xs) ∧ lcB (Itl K a) (gName j) tYes te [j] σ H Q) ∨ ((∃ xs, SqT K H a xs) ∧ lcB (Itt K a) (gName j) tYes te [j] σ H Q) := by
  rcases h with h | h | h
  · exact .inl ⟨⟨_, SqL.of h⟩, lcB_map walk_list (fun H' s => SqL.of (s _ _ h)) hz f hw he hq⟩
  · exact .inr ⟨⟨_, SqT.of h⟩, lcB_map walk_tup (fun H' s => SqT.of (s _ _ h)) hz f hw he hq⟩
  · exact .inr ⟨⟨_, h.sq⟩, lcB_map walk_tup (fun H' s => h.sq) hz f hw he hq⟩
end My

set_option Elab.async false
set_option linter.all false
set_option maxRecDepth 100000
namespace My
open PySem PySem.Spec PyProof.Rows
section
variable {prog : Program} {w : World} {A : Around} {E : Value → Shared → Prop} {s : Shared}

set_option maxHeartbeats 3200000 in
/-- set(xs), xs a list of texts -/
theorem set_lstTx {l : Addr} {its : Array Value} {xs : List Str} {Q : Value → Shared → Prop} (calm : A.handled = none) (src : s.heap.IsList l its) (txt : StrsAre its.toList xs) (room : xs.length + 1 < scanBound)
    (fin : ∀ (h2 : Heap) (tk2 : Nat), h2.SetOf (PySem.strKind prog w) s.heap.objs.size (fun k => (xs.take its.size).any (· == k)) (dn xs its.size) → (∀ b o, b < s.heap.objs.size → s.heap.get? b = some o → h2.get? b = some o) → Q (.ref s.heap.objs.size) { s with heap := h2, toks := tk2 }) :
    wpAny (model prog w) A (call (.type "set") [.ref l]) Q E s := by
  obtain ⟨cc, tl, hmro⟩ := PySem.F.called_set.mro
  have f1 := PySem.F.called_set.made
  have f2 := PySem.F.called_set.sub
  refine wpAny_call (codeAny_of_tree (?_ : wpAny _ _ (callAny (.type "set") _) _ _ _))
  refine wpAny_pure ⟨Code.quiet_builtin _ (by decide +kernel), codeAny_builtin PySem.F.entry_type_call ?_⟩
  rw [Around.under_plain (weight_type_call_type "set" [.ref l] []) rfl]
  have f3 := PySem.F.called_set.notType
  have f4 := PySem.F.called_set.canCreate
  have f5 := PySem.F.typeCall_set_1 (.ref l)
  repeat (any_goals (first | assumption | wp_step))
  let em : Bool → Obj := fun led => { cls := .type "set", dict := none, data := .set #[] 0 (.fresh 0 0 led) }
  refine codeAny_mono (code_set_new_1 (.ref l) (E := E) (Q₁ := fun o1 st1 => ∃ led : Bool, o1 = .ref s.heap.objs.size ∧ st1 = { s with heap := s.heap.push (em led) }) fun led => ⟨led, rfl, rfl⟩) fun res st1 got => ?_
  match res, got with
  | .error e, got => exact got
  | .ok (.ret o1), ⟨led, e1, e2⟩ =>
    subst e1 e2
    have atS : (s.heap.push (em led)).get? s.heap.objs.size = some (em led) := Heap.get?_push_size _ rfl
    have tyS : Shared.TypeIs { s with heap := s.heap.push (em led) } (.ref s.heap.objs.size) "set" := ⟨_, atS, rfl⟩
    have f6 := PySem.F.called_set.init.lookup
    have f7 := PySem.F.called_set.init.bind (.ref s.heap.objs.size)
    repeat (any_goals (first | assumption | wp_step))
    refine codeAny_mono (codeAny_call_builtin (R := wants (fun res st2 => res = .none ∧ ∃ h2 tk2, st2 = { s with heap := h2, toks := tk2 } ∧ h2.SetOf (PySem.strKind prog w) s.heap.objs.size (fun k => (xs.take its.size).any (· == k)) (dn xs its.size) ∧
      (∀ b o, b < s.heap.objs.size → s.heap.get? b = some o → h2.get? b = some o)) E) PySem.F.called_set.init.plain PySem.F.entry_set_init (check_set_init_1 tyS ?_)) fun res2 st2 got2 => ?_
    · obtain ⟨⟨ocls, odict, odata, oslots⟩, ho, hc, nl, hd⟩ := src
      simp only at hc hd
      subst hc hd
      have ho2 : (s.heap.push (em led)).get? l = some { cls := .type "list", dict := odict, data := .seq its nl, slots := oslots } := Heap.get?_push_of_some _ ho
      have g1 := PySem.F.sub_list_set
      have g2 := PySem.F.sub_list_frozenset
      have g3 : (Value.type "list" == Value.type "dict") = false := by decide
      have src2 : (s.heap.push (em led)).IsList l its := ⟨_, ho2, rfl, nl, rfl⟩
      unfold Builtin.«set.__init__» noKeywords Builtin.Frozenset.updateFrom
      generalize hPI : pyIter = PI
      wp_walk
      subst hPI
      refine wpAny_pyIter_list src2 (wpAny_bind (wpAny_runValue ?_))
      have low : l < s.heap.objs.size := Heap.lt_size ho
      have sz1 : (s.heap.push (em led)).objs.size = s.heap.objs.size + 1 := Heap.size_push ..
      have notI : l ≠ (s.heap.push (em led)).objs.size := by rw [sz1]; exact Nat.ne_of_lt (Nat.lt_succ_of_lt low)
      have notIn : s.heap.objs.size ∉ [(s.heap.push (em led)).objs.size, l] := by
        rw [sz1]
        simp only [List.mem_cons, List.not_mem_nil, or_false, not_or]
        exact ⟨Nat.ne_of_lt (Nat.lt_succ_self _), Nat.ne_of_gt low⟩
      have len : xs.length = its.size := by rw [← StrsAre.len_eq txt, Array.length_toList]
      refine loopTx ((Walks.list (by simp [calm]) _ l notI its).toS) s.heap.objs.size notIn xs len (by rw [← len]; exact room) (fun i v hv => SS.strs_at txt i v (by rw [Array.getElem?_toList]; exact hv)) (its.size - 0) 0 _ (by omega) (Nat.zero_le _) ⟨⟨_, Heap.get?_push_size _ rfl, rfl, rfl⟩, src2.push _⟩ ?_ ?_
      · exact SetOf_congr ((setObjOf_fresh (knd := PySem.strKind prog w) led).setOf (Heap.get?_push_of_some _ atS) (by unfold scanBound; omega)) (fun _ => rfl) rfl
      · rintro ⟨h2, g2, d2, tk2, os2⟩ mv set
        obtain rfl : g2 = s.gens := mv.gens
        obtain rfl : d2 = s.drawn := mv.drawn
        obtain rfl : os2 = s.os := mv.os
        refine wpAny_pure (wpAny_pure ⟨rfl, h2, tk2, rfl, set, fun b o hb e => ?_⟩)
        refine mv.heap b o ?_ (Heap.get?_push_of_some _ (Heap.get?_push_of_some _ e))
        rw [sz1]
        simp only [List.mem_cons, List.not_mem_nil, or_false, not_or]
        exact ⟨Nat.ne_of_lt hb, Nat.ne_of_lt (Nat.lt_succ_of_lt hb)⟩
    · match res2, got2 with
      | .error e, got2 => exact got2
      | .ok (.ret r2), ⟨e3, h2, tk2, e4, set, kept⟩ =>
        subst e3 e4
        repeat (any_goals (first | assumption | wp_step))
        exact fin _ _ set kept

set_option maxHeartbeats 3200000 in
/-- set(xs), xs a tuple of texts -/
theorem set_tupTx {l : Addr} {its : Array Value} {xs : List Str} {Q : Value → Shared → Prop} (calm : A.handled = none) (src : s.heap.IsTuple l its) (txt : StrsAre its.toList xs) (room : xs.length + 1 < scanBound)
    (fin : ∀ (h2 : Heap) (tk2 : Nat), h2.SetOf (PySem.strKind prog w) s.heap.objs.size (fun k => (xs.take its.size).any (· == k)) (dn xs its.size) → (∀ b o, b < s.heap.objs.size → s.heap.get? b = some o → h2.get? b = some o) → Q (.ref s.heap.objs.size) { s with heap := h2, toks := tk2 }) :
    wpAny (model prog w) A (call (.type "set") [.ref l]) Q E s := by
  obtain ⟨cc, tl, hmro⟩ := PySem.F.called_set.mro
  have f1 := PySem.F.called_set.made
  have f2 := PySem.F.called_set.sub
  refine wpAny_call (codeAny_of_tree (?_ : wpAny _ _ (callAny (.type "set") _) _ _ _))
  refine wpAny_pure ⟨Code.quiet_builtin _ (by decide +kernel), codeAny_builtin PySem.F.entry_type_call ?_⟩
  rw [Around.under_plain (weight_type_call_type "set" [.ref l] []) rfl]
  have f3 := PySem.F.called_set.notType
  have f4 := PySem.F.called_set.canCreate
  have f5 := PySem.F.typeCall_set_1 (.ref l)
  repeat (any_goals (first | assumption | wp_step))
  let em : Bool → Obj := fun led => { cls := .type "set", dict := none, data := .set #[] 0 (.fresh 0 0 led) }
  refine codeAny_mono (code_set_new_1 (.ref l) (E := E) (Q₁ := fun o1 st1 => ∃ led : Bool, o1 = .ref s.heap.objs.size ∧ st1 = { s with heap := s.heap.push (em led) }) fun led => ⟨led, rfl, rfl⟩) fun res st1 got => ?_
  match res, got with
  | .error e, got => exact got
  | .ok (.ret o1), ⟨led, e1, e2⟩ =>
    subst e1 e2
    have atS : (s.heap.push (em led)).get? s.heap.objs.size = some (em led) := Heap.get?_push_size _ rfl
    have tyS : Shared.TypeIs { s with heap := s.heap.push (em led) } (.ref s.heap.objs.size) "set" := ⟨_, atS, rfl⟩
    have f6 := PySem.F.called_set.init.lookup
    have f7 := PySem.F.called_set.init.bind (.ref s.heap.objs.size)
    repeat (any_goals (first | assumption | wp_step))
    refine codeAny_mono (codeAny_call_builtin (R := wants (fun res st2 => res = .none ∧ ∃ h2 tk2, st2 = { s with heap := h2, toks := tk2 } ∧ h2.SetOf (PySem.strKind prog w) s.heap.objs.size (fun k => (xs.take its.size).any (· == k)) (dn xs its.size) ∧
      (∀ b o, b < s.heap.objs.size → s.heap.get? b = some o → h2.get? b = some o)) E) PySem.F.called_set.init.plain PySem.F.entry_set_init (check_set_init_1 tyS ?_)) fun res2 st2 got2 => ?_
    · obtain ⟨⟨ocls, odict, odata, oslots⟩, ho, hc, nl, hd⟩ := src
      simp only at hc hd
      subst hc hd
      have ho2 : (s.heap.push (em led)).get? l = some { cls := .type "tuple", dict := odict, data := .seq its nl, slots := oslots } := Heap.get?_push_of_some _ ho
      have g1 := PySem.F.sub_tuple_set
      have g2 := PySem.F.sub_tuple_frozenset
      have g3 : (Value.type "tuple" == Value.type "dict") = false := by decide
      have src2 : (s.heap.push (em led)).IsTuple l its := ⟨_, ho2, rfl, nl, rfl⟩
      unfold Builtin.«set.__init__» noKeywords Builtin.Frozenset.updateFrom
      generalize hPI : pyIter = PI
      wp_walk
      subst hPI
      refine wpAny_pyIter_tuple src2 (wpAny_bind (wpAny_runValue ?_))
      have low : l < s.heap.objs.size := Heap.lt_size ho
      have sz1 : (s.heap.push (em led)).objs.size = s.heap.objs.size + 1 := Heap.size_push ..
      have notI : l ≠ (s.heap.push (em led)).objs.size := by rw [sz1]; exact Nat.ne_of_lt (Nat.lt_succ_of_lt low)
      have notIn : s.heap.objs.size ∉ [(s.heap.push (em led)).objs.size, l] := by
        rw [sz1]
        simp only [List.mem_cons, List.not_mem_nil, or_false, not_or]
        exact ⟨Nat.ne_of_lt (Nat.lt_succ_self _), Nat.ne_of_gt low⟩
      have len : xs.length = its.size := by rw [← StrsAre.len_eq txt, Array.length_toList]
      refine loopTx ((Walks.tuple (by simp [calm]) _ l notI its).toS) s.heap.objs.size notIn xs len (by rw [← len]; exact room) (fun i v hv => SS.strs_at txt i v (by rw [Array.getElem?_toList]; exact hv)) (its.size - 0) 0 _ (by omega) (Nat.zero_le _) ⟨⟨_, Heap.get?_push_size _ rfl, rfl, rfl⟩, src2.push _⟩ ?_ ?_
      · exact SetOf_congr ((setObjOf_fresh (knd := PySem.strKind prog w) led).setOf (Heap.get?_push_of_some _ atS) (by unfold scanBound; omega)) (fun _ => rfl) rfl
      · rintro ⟨h2, g2, d2, tk2, os2⟩ mv set
        obtain rfl : g2 = s.gens := mv.gens
        obtain rfl : d2 = s.drawn := mv.drawn
        obtain rfl : os2 = s.os := mv.os
        refine wpAny_pure (wpAny_pure ⟨rfl, h2, tk2, rfl, set, fun b o hb e => ?_⟩)
        refine mv.heap b o ?_ (Heap.get?_push_of_some _ (Heap.get?_push_of_some _ e))
        rw [sz1]
        simp only [List.mem_cons, List.not_mem_nil, or_false, not_or]
        exact ⟨Nat.ne_of_lt hb, Nat.ne_of_lt (Nat.lt_succ_of_lt hb)⟩
    · match res2, got2 with
      | .error e, got2 => exact got2
      | .ok (.ret r2), ⟨e3, h2, tk2, e4, set, kept⟩ =>
        subst e3 e4
        repeat (any_goals (first | assumption | wp_step))
        exact fin _ _ set kept

end
end My

set_option Elab.async false
set_option linter.all false
set_option maxRecDepth 100000
namespace My
open PySem PySem.Spec PyProof.Rows
section
variable {prog : Program} {w : World} {A : Around} {E : Value → Shared → Prop} {s : Shared}
/-- what the sorting of its own list leaves, for a tuple as for a list -/
theorem coll_tup {l : Addr} {us : List Value} {Q : List Value → Shared → Prop} (src : s.heap.IsTuple l us.toArray) (room : us.length ≤ sizeLine)
    (fin : Q us { s with heap := (s.heap.push (seqObj "list" #[] 0)).update s.heap.objs.size (Obj.mapSeq (· ++ us.toArray)) }) : wpAny (model prog w) A (collect (.ref l)) Q E s := by
  obtain ⟨o, at_, cl, n, dat⟩ := id src
  have at2 : (s.heap.push (seqObj "list" #[] 0)).get? l = some o := Heap.get?_push_of_some _ at_
  have new : (s.heap.push (seqObj "list" #[] 0)).get? s.heap.objs.size = some (seqObj "list" #[] 0) := Heap.get?_push_size _ rfl
  unfold collect
  refine wpAny_bind (wpAny_runValue (codeAny_builtin entry_proto_collect' (?_ : wpAny _ _ (do again (.builtin "list.__iadd__" ⟨[← newList [], .ref l], []⟩)) _ _ s)))
  refine wpAny_bind (wpAny_newList (wpAny_pure ⟨Code.quiet_builtin _ (by decide +kernel), codeAny_builtin entry_list_iadd' ?_⟩))
  show wpAny _ _ (Builtin.List.listExtendWith (.ref s.heap.objs.size) (.ref l) (.ref s.heap.objs.size)) _ _ { s with heap := s.heap.push (seqObj "list" #[] 0) }
  unfold Builtin.List.listExtendWith
  refine wpAny_bind (wpAny_typeOf (T := "tuple") ⟨o, at2, cl⟩ ?_)
  have yes : (Value.type "tuple" == Value.type "tuple") = true := by rfl
  rw [if_pos (by rw [yes]; simp)]
  refine wpAny_bind (listItems_at at2 dat (wpAny_bind (listItems_at (xs := #[]) (n := 0) new rfl ?_)))
  rw [if_neg (by simp)]
  refine wpAny_bind (listUpdate_at (xs := #[]) (n := 0) new rfl (wpAny_pure ?_) (Nat.zero_le _) (by show (#[] ++ us.toArray).size ≤ sizeLine + 1; simp only [Array.size_append, List.size_toArray, List.length_nil]; omega))
  refine wpAny_bind (wpAny_load (get?_update_seq new _) ?_)
  refine (?_ : wpAny _ _ (pure ((#[] : Array Value) ++ us.toArray).toList) Q E _)
  have e : ((#[] : Array Value) ++ us.toArray).toList = us := by simp
  rw [e]
  exact wpAny_pure fin
/-- sorted(xs), xs a tuple of texts -/
theorem sort_tupTx {l : Addr} {us : List Value} {xs : List Str} {Q : Value → Shared → Prop} (src : s.heap.IsTuple l us.toArray) (txt : StrsAre us xs) (few : us.length < 64)
    (fin : ∀ (out : Array Value) (ys : List Str), StrsAre out.toList ys → ys.Perm xs → sortedS ys = true → Q (.ref (s.heap.objs.size + 1)) { s with heap := sortedAll s.heap us out }) :
    wpAny (model prog w) A (call (.builtin "sorted") [.ref l]) Q E s := by
  refine Calls.call_function_entry kind_sorted plain_sorted entry_sorted (args_sorted1 _) ?_
  unfold Builtin.«sorted»
  refine wpAny_bind (m := checkCount "sorted" 1 1 _) (wpAny_pure (wpAny_bind (coll_tup src (by rw [sizeLine_eq]; omega) (wpAny_bind (wpAny_newList ?_)))))
  generalize hc : (s.heap.push (seqObj "list" #[] 0)).update s.heap.objs.size (Obj.mapSeq (· ++ us.toArray)) = hp
  have size : hp.objs.size = s.heap.objs.size + 1 := by rw [← hc, Heap.size_update, size_push']
  have own : (hp.push (seqObj "list" us.toArray 0)).get? (s.heap.objs.size + 1) = some (seqObj "list" us.toArray 0) := by
    rw [← size]
    exact Heap.get?_push_size _ rfl
  show wpAny _ _ _ _ _ { s with heap := hp.push (seqObj "list" us.toArray 0) }
  rw [size]
  refine wpAny_bind (wpAny_holding (wpAny_call_entry slot_list_sort ⟨_, own, rfl⟩ entry_list_sort (list_sort_treeK strKind_oneLt own txt.keysOf (fun v1 v2 r e => keyKind_strs (by rw [← e]; exact txt)) few fun st' a1 a2 => ⟨_, rfl, ?_⟩) (args_list_sort _)))
  obtain ⟨ys, b1, b2, b3⟩ := sorted_out_str txt a1 a2
  have done := fin _ ys b1 b2 b3
  subst hc
  exact wpAny_pure ⟨_, rfl, done⟩
end
end My
namespace My
open PySem PySem.Spec PyProof.Rows L2
/-- sorted(xs), xs a list or a tuple of texts -/
def rSortTx (K : PySem.W.Frag) : List V → Hp → VK → Prop := fun vs H Q => ∃ (a : Addr) (xs : List Str), vs = [.ref a] ∧ (SqL K H a (xs.map V.str) ∨ SqT K H a (xs.map V.str)) ∧ xs.length < 64 ∧
  ∀ (ys : List Str) (p : Addr), ys.Perm xs → sortedS ys = true → H p = none → Q (.ref p) (upd H p (.lst (ys.map V.str)))
theorem cr_sortTx {X : Cx} : CallR X (.builtin "sorted") (rSortTx X.K) := by
  intro pins s σ H vs us Q I r h
  obtain ⟨a, xs, rfl, way, few, q⟩ := h
  rcases way with hq | hq
  · exact cr_sortedS pins s σ H _ us Q I r ⟨a, xs, rfl, hq, few, q⟩
  · obtain ⟨its, rv, tup, _⟩ := I.tuple hq
    rw [Vals.ref1 r]
    have len := rv.length
    rw [List.length_map] at len
    refine sort_tupTx (show s.heap.IsTuple a its.toArray from tup) rv.strs (by omega) fun out ys b1 b2 b3 => ?_
    obtain ⟨ep, at_⟩ := sortedAll_at s.heap its out
    have short : (ys.map V.str).length ≤ sizeLine := by
      rw [List.length_map, b2.length_eq]
      exact small64 few
    exact ⟨.ref _, upd H (s.heap.objs.size + 1) (.lst (ys.map V.str)), I.laid (t' := s.toks) (fun _ _ => sortedAll_old) (Nat.le_succ _) ⟨short, out.toList, ep, vals_of_strs b1, at_⟩, rfl, q ys _ b2 b3 (I.hok.fresh (Nat.le_succ _))⟩
end My

set_option Elab.async false
set_option linter.all false
set_option maxRecDepth 100000
namespace My
open PySem PySem.Spec PyProof.Rows L2
/-- len(set(e)), e a list or a tuple of texts -/
def tLenUn (K : PySem.W.Frag) (te : TE) : TE := fun σ H Q => te σ H fun x H1 => ∃ (a : Addr) (xs : List Str), x = .ref a ∧ (SqL K H1 a (xs.map V.str) ∨ SqT K H1 a (xs.map V.str)) ∧ xs.length ≤ 1000 ∧ Q (.int (dn xs xs.length : Nat)) H1
theorem rd_lenUn {K : PySem.W.Frag} {te : TE} {σ : L2.St} {H : Hp} {Q : VK} : tLenUn K te σ H Q = te σ H fun x H1 => ∃ (a : Addr) (xs : List Str), x = .ref a ∧ (SqL K H1 a (xs.map V.str) ∨ SqT K H1 a (xs.map V.str)) ∧ xs.length ≤ 1000 ∧ Q (.int (dn xs xs.length : Nat)) H1 := rfl
theorem pe_lenUn {X : Cx} {e : Expr} {te : TE} {p p2 q pos : Pos} (calm : X.calm = true) (m1 : X.mg "len" = none) (m2 : X.mg "set" = none) (he : PE X e te) (g1 : Gl X "len" := by rfl) (g2 : Gl X "set" := by rfl)
    (na : starEach [e] X.env = (false, eval e X.env) :: starEach [] X.env := by rfl) : PE X (.Call (.Name "len" p) [.Call (.Name "set" p2) [e] [] q] [] pos) (tLenUn X.K te) := by
  constructor
  intro pins s σ H Q I h
  refine Call_ (ld_blt I g1 m1 boot_len (callWith_builtin1 (args_cons ?_ rfl) rfl rfl))
  refine Call_ (ld_blt I g2 m2 boot_set (callWith_type1 (args_cons (thn (he.run pins s σ H _ I h) ?_) na) na rfl))
  rintro v st ⟨x, H1, J, rx, a, xs, rfl, way, few, hq⟩
  obtain rfl : v = Value.ref a := rx
  refine args_nil ?_
  have big : xs.length + 1 < scanBound := by unfold scanBound; omega
  have done : ∀ (its : List Value), Vals (xs.map V.str) its → ∀ (h2 : Heap) (tk2 : Nat), h2.SetOf (PySem.strKind X.prog X.w) st.heap.objs.size (fun k => (xs.take its.toArray.size).any (· == k)) (dn xs its.toArray.size) →
      (∀ b o, b < st.heap.objs.size → st.heap.get? b = some o → h2.get? b = some o) →
      wpAny (model X.prog X.w) X.A (spliced (backTo pos (starEach [] X.env))) (fun vs s2 => wpAny (model X.prog X.w) X.A (call (.builtin "len") (Value.ref st.heap.objs.size :: vs)) (EP X pins σ Q) X.xe s2) X.xe { st with heap := h2, toks := tk2 } := by
    intro its rv h2 tk2 set kept
    refine args_nil ?_
    have len : its.toArray.size = xs.length := by rw [List.size_toArray, ← rv.length, List.length_map]
    rw [len] at set
    obtain ⟨o, es, ep, t, at_, ex, dat, _, _, _, fit, num⟩ := set
    have J2 : Inv X pins σ H1 { st with heap := h2, toks := tk2 } := J.kept fun b o z => kept b o (Heap.lt_size z) z
    have le := dn_le xs xs.length
    refine call_len_set at_ ex dat fit (by rw [num] <;> omega) ⟨.int (dn xs xs.length : Nat), H1, J2.tok _, ⟨_, by rw [num]⟩, hq⟩
  rcases way with hs | hs
  · obtain ⟨its, rv, pl, _⟩ := J.list hs
    exact set_lstTx (J.ok.hd calm) pl.isList (by simpa using strsAre_of rv) big fun h2 tk2 set kept => done its rv h2 tk2 set kept
  · obtain ⟨its, rv, pl, _⟩ := J.tuple hs
    exact set_tupTx (J.ok.hd calm) pl (by simpa using strsAre_of rv) big fun h2 tk2 set kept => done its rv h2 tk2 set kept
theorem dn_nodup {xs : List Str} (h : xs.Nodup) : ∀ i, i ≤ xs.length → dn xs i = i
  | 0, _ => rfl
  | i + 1, hi => by
    have lt : i < xs.length := hi
    have e : xs.getD i Str.empty = xs[i] := by rw [List.getD_eq_getElem?_getD, List.getElem?_eq_getElem lt]; rfl
    unfold dn
    rw [e, if_neg, dn_nodup h i (Nat.le_of_lt lt)]
    intro z
    obtain ⟨y, hy, hyi⟩ := List.any_eq_true.mp z
    obtain ⟨k, hk, hk2⟩ := List.getElem_of_mem hy
    rw [List.getElem_take] at hk2
    have kl : k < i := by rw [List.length_take] at hk; omega
    have same : xs[k] = xs[i] := hk2.trans (beq_iff_eq.mp hyi)
    have := (List.getElem_inj h).mp same
    omega
end My

set_option Elab.async false
set_option linter.all false
set_option maxRecDepth 100000
set_option maxHeartbeats 2000000
namespace My
open PySem PySem.Spec PyProof.Rows L2
local macro_rules | `(tactic| walk_at "rd") => `(tactic| simp only [rd_seq, rd_next, rd_brk, rd_cont, rd_asg, rd_gname, rd_var, rd_c, rd_op, rd_un, rd_rI0, rd_rI, rd_rU, rd_test, rd_B, rd_and, rd_or, rd_not, rd_andV, rd_orV, rd_notV, rd_ifx, rd_ifs, rd_drop, rd_ret, rd_nil, rd_cons, rd_cb, rd_tup, rd_lst, rd_call, rd_bm, rd_app, rd_ixLst, rd_ixSq, rd_lenL, rd_lenSq, rd_setLst, rd_sub, rd_neNil, rd_isStr, rd_dg, rd_dp, rd_mk, rd_sl, rd_noP, rd_part, rd_slL, rd_cat, rd_lcL, rd_lcE, rd_lcA, rd_lcEA, rd_isTy, rd_lenUn,  L2.valV_put, rd_fldS, rd_eq, rd_ne, rd_fldE, rd_allB, rd_isBl, rd_inS, rd_chain, rd_chain', L2.wipe, Int.reduceToNat, Int.reduceLE, Int.reduceLT, Nat.reduceLT, Nat.reduceLeDiff, Int.reduceNeg, Int.toNat_natCast, Int.reduceAdd, L2.start, and_assoc, exists_and_left, List.map_cons, List.map_nil, List.length_cons, List.length_nil, List.cons_append, List.nil_append, List.append_nil, List.replicate_succ, List.replicate_zero, List.replicate, List.set_cons_zero, List.set_cons_succ, List.getElem?_cons_zero, List.getElem?_cons_succ, Option.some.injEq, exists_eq_left', exists_eq_left, exists_eq, V.int.injEq, V.ref.injEq, V.str.injEq, V.bl.injEq, HO.lst.injEq, HO.tup.injEq, ex_bl, List.cons.injEq, and_true, true_and, Nat.reduceAdd, Nat.reduceSub, reduceCtorEq, false_and, or_false, exists_false, false_or, decide_eq_true_eq, if_true, if_false, Bool.false_eq_true, Bool.not_true, Bool.not_false, upd_same])
local macro_rules | `(tactic| walk_at "rdh") => `(tactic| simp only [rd_seq, rd_next, rd_brk, rd_cont, rd_asg, rd_gname, rd_var, rd_c, rd_op, rd_un, rd_rI0, rd_rI, rd_rU, rd_test, rd_B, rd_and, rd_or, rd_not, rd_andV, rd_orV, rd_notV, rd_ifx, rd_ifs, rd_drop, rd_ret, rd_nil, rd_cons, rd_cb, rd_tup, rd_lst, rd_call, rd_bm, rd_app, rd_ixLst, rd_ixSq, rd_lenL, rd_lenSq, rd_setLst, rd_sub, rd_neNil, rd_isStr, rd_dg, rd_dp, rd_mk, rd_sl, rd_noP, rd_part, rd_slL, rd_cat, rd_lcL, rd_lcE, rd_lcA, rd_lcEA, rd_isTy, rd_lenUn,  L2.valV_put, rd_fldS, rd_eq, rd_ne, rd_fldE, rd_allB, rd_isBl, rd_inS, rd_chain, rd_chain', L2.wipe, Int.reduceToNat, Int.reduceLE, Int.reduceLT, Nat.reduceLT, Nat.reduceLeDiff, Int.reduceNeg, Int.toNat_natCast, Int.reduceAdd, L2.start, and_assoc, exists_and_left, List.map_cons, List.map_nil, List.length_cons, List.length_nil, List.cons_append, List.nil_append, List.append_nil, List.replicate_succ, List.replicate_zero, List.replicate, List.set_cons_zero, List.set_cons_succ, List.getElem?_cons_zero, List.getElem?_cons_succ, Option.some.injEq, exists_eq_left', exists_eq_left, exists_eq, V.int.injEq, V.ref.injEq, V.str.injEq, V.bl.injEq, HO.lst.injEq, HO.tup.injEq, ex_bl, List.cons.injEq, and_true, true_and, Nat.reduceAdd, Nat.reduceSub, reduceCtorEq, false_and, or_false, exists_false, false_or, decide_eq_true_eq, if_true, if_false, Bool.false_eq_true, Bool.not_true, Bool.not_false, upd_same, *])
abbrev sNmb : Stmt := topI 4
abbrev sRow : Stmt := topI 5
abbrev sMrk : Stmt := topI 12
abbrev sWds : Stmt := topI 13
abbrev NNmb : List Str := ["value", "least", "most"]
theorem scNmb : FnScope NNmb ["value", "least", "most"] (defScope sNmb) := ⟨rfl, rfl, rfl, by decide +kernel, rfl, by decide +kernel, by decide +kernel⟩
abbrev NRow : List Str := ["value"]
theorem scRow : FnScope NRow ["value"] (defScope sRow) := ⟨rfl, rfl, rfl, by decide +kernel, rfl, by decide +kernel, by decide +kernel⟩
abbrev NMrk : List Str := ["value"]
theorem scMrk : FnScope NMrk ["value"] (defScope sMrk) := ⟨rfl, rfl, rfl, by decide +kernel, rfl, by decide +kernel, by decide +kernel⟩
abbrev NWds : List Str := ["value", "most", "word"]
theorem scWds : FnScope NWds ["value", "most"] (defScope sWds) := ⟨rfl, rfl, rfl, by decide +kernel, rfl, by decide +kernel, by decide +kernel⟩
def spNmb : Sp := fun vs H Q _ => ∃ n lo hi : Int, vs = [.int n, .int lo, .int hi] ∧ Q (.bl (decide (lo ≤ n) && decide (n ≤ hi))) H
def spRow (K : PySem.W.Frag) : Sp := fun vs H Q _ => ∃ (v : V) (b : Bool), vs = [v] ∧ RwV K H v b ∧ ∀ H', Same H H' → Q (.bl b) H'
def spMrk : Sp := fun vs H Q _ => ∃ x : Str, vs = [.str x] ∧ x.length ≤ 1000 ∧ ∀ H', Same H H' → Q (.bl (isWord (.str x) && !decide (x = "goal"))) H'
/-- are_words of a list or a tuple of texts -/
def spWds (K : PySem.W.Frag) : Sp := fun vs H Q _ => ∃ (a : Addr) (ws : List Str) (m : Int), vs = [.ref a, .int m] ∧ Row K H a (ws.map V.str) ∧ ws.length ≤ 1000 ∧ (∀ x ∈ ws, x.length ≤ 1000) ∧
  ∀ H', Same H H' → Q (.bl (decide ((ws.length : Int) ≤ m) && (ws.all (fun x => isWord (.str x)) && decide (dn ws ws.length = ws.length)))) H'
section
variable {P : Program} {w : World} {K : PySem.W.Frag} {mg : Str → Option Value} {base : Heap}
theorem tyS_keep {H H' : Hp} {v : V} {t : String} (e : Same H H') (h : tyS H v = some t) : tyS H' v = some t := by
  cases v with
  | ref a =>
    rcases tyO_cases (show tyO (H a) = some t from h) with ⟨xs, z, rfl⟩ | ⟨xs, z, rfl⟩ | ⟨xs, z, rfl⟩
    all_goals
      show tyO (H' a) = _
      rw [e a _ z]
      rfl
  | _ => exact h
theorem RwV.same {H H' : Hp} {v : V} {b : Bool} (h : RwV K H v b) (s : Same H H') : RwV K H' v b := h.imp (fun ⟨t, z, e⟩ => ⟨t, tyS_keep s z, e⟩) id
theorem ok_nmb {f : Addr} {fd : FuncData} (F : Fun K "is_number" "is_number" sNmb f fd) (B : Bn mg) : FnOk P w K mg base CX0 1 f fd ["value", "least", "most"] spNmb := by
  refine F.ok scNmb (fun vs H Q E h => ?_) (fun cdv A outer s H vs Q E hr h => ?_)
  · obtain ⟨n, lo, hi, rfl, _⟩ := h
    rfl
  · obtain ⟨n, lo, hi, rfl, q⟩ := h
    refine ⟨_, (pss_one (ps_ret (pe_and (pe_callB (call_isTy (T := "int")) (by rfl) B.isinstance (by decide +kernel) (pa_cons (pv 0) (pa_cons (pe_ty (T := "int") B.int (by decide +kernel)) pa_nil))) (pe_and (pe_not (pe_callB call_isBl (by rfl) B.isinstance (by decide +kernel) (pa_cons (pv 0) (pa_cons (pe_tyBool B.bool) pa_nil)))) (pe_one (pe_chain op_le op_le (pv 1) (pv 0) (pv 2))))))), ?_⟩
    walk_at "rd"
    refine ⟨"int", rfl, true, by decide +kernel, iteT ⟨rfl, iteT ?_⟩⟩
    by_cases h1 : lo ≤ n
    · rw [if_pos h1]
      rw [decide_eq_true h1, Bool.true_and] at q
      exact q
    · rw [if_neg h1]
      rw [decide_eq_false h1, Bool.false_and] at q
      exact q
theorem ok_row {f : Addr} {fd : FuncData} (F : Fun K "is_row" "is_row" sRow f fd) (B : Bn mg) : FnOk P w K mg base CX0 1 f fd ["value"] (spRow K) := by
  refine F.ok scRow (fun vs H Q E h => ?_) (fun cdv A outer s H vs Q E hr h => ?_)
  · obtain ⟨v, b, rfl, _⟩ := h
    rfl
  · obtain ⟨v, b, rfl, ht, q⟩ := h
    refine ⟨_, (pss_one (ps_ret (pe_callB call_isRow (by rfl) B.isinstance (by decide +kernel) (pa_cons (pv 0) (pa_cons (pe_tup (pa_cons (pe_ty (T := "list") B.list (by decide +kernel)) (pa_cons (pe_ty (T := "tuple") B.tuple (by decide +kernel)) pa_nil))) pa_nil))))), ?_⟩
    walk_at "rd"
    refine ⟨sz (by decide), fun p hp => ⟨v, p, b, rfl, upd_same, ht.same (My.Same.new (Same.refl H) hp), q _ (My.Same.new (Same.refl H) hp)⟩⟩
theorem ok_mrk {f : Addr} {fd : FuncData} (F : Fun K "is_mark" "is_mark" sMrk f fd) (B : Bn mg) (Dis_word : Df K mg "is_word" sWrd ["value"]) (Gis_word : FnOk P w K mg base CX0 1 Dis_word.f Dis_word.fd ["value"] spWrd) : FnOk P w K mg base CX0 2 f fd ["value"] spMrk := by
  refine F.ok scMrk (fun vs H Q E h => ?_) (fun cdv A outer s H vs Q E hr h => ?_)
  · obtain ⟨x, rfl, _⟩ := h
    rfl
  · obtain ⟨x, rfl, hx, q⟩ := h
    have hr1 := hr
    refine ⟨_, (pss_one (ps_ret (pe_and (pc Dis_word Gis_word hr1 (pa_cons (pv 0) pa_nil)) (pe_one (pe_cmpR op_ne (pv 0) pe_str (nomark _)))))), ?_⟩
    walk_at "rd"
    refine ⟨.str x, rfl, rfl, (fun y e => by cases e; exact hx), fun H' s => ⟨_, rfl, ?_⟩⟩
    have z := q H' s
    cases e : isWord (.str x) with
    | true =>
      rw [e, Bool.true_and] at z
      exact iteT ⟨rfl, z⟩
    | false =>
      rw [e, Bool.false_and] at z
      exact iteF z
theorem ok_wds {f : Addr} {fd : FuncData} (F : Fun K "are_words" "are_words" sWds f fd) (B : Bn mg) (Dis_word : Df K mg "is_word" sWrd ["value"]) (Gis_word : FnOk P w K mg base CX0 1 Dis_word.f Dis_word.fd ["value"] spWrd)
    (Dis_row : Df K mg "is_row" sRow ["value"]) (Gis_row : FnOk P w K mg base CX0 1 Dis_row.f Dis_row.fd ["value"] (spRow K)) : FnOk P w K mg base CX0 2 f fd ["value", "most"] (spWds K) := by
  refine F.ok scWds (fun vs H Q E h => ?_) (fun cdv A outer s H vs Q E hr h => ?_)
  · obtain ⟨a, ws, m, rfl, _⟩ := h
    rfl
  · obtain ⟨a, ws, m, rfl, ha, hz, hx, q⟩ := h
    have hr1 := hr
    refine ⟨_, (pss_cons (ps_if (PW.pt (pw_or (pt_not (pt_val (pc Dis_row Gis_row hr1 (pa_cons (pv 0) pa_nil)))) (pw_or1 (pt_cmpR op_gt (pe_callB call_len_seq (by rfl) B.len (by decide +kernel) (pa_cons (pv 0) pa_nil)) (pv 1) (nomark _)))))
        (pss_one (ps_ret pe_bl))
        pss_nil)
      (pss_one (ps_ret (pe_and (pe_callB (cr_allB rfl) (by rfl) B.all (by decide +kernel) (pa_cons (pe_lc (own := [("word", 2)]) (g := gName 2) rfl scWds.nd (pi_any (pv 0)) (blkOk_by (own := [("word", 2)]) (N := NWds) (sc := defScope sWds) (by decide +kernel)) (fun _ _ _ _ _ => pg_name (i := 2) scWds.nd rfl (Or.inl rfl)) (fun _ _ _ _ _ => pts_nil) (fun _ _ _ _ _ => (pc Dis_word Gis_word hr1 (pa_cons (pv 2) pa_nil)))) pa_nil)) (pe_one (pe_cmpR op_eq (pe_lenUn rfl B.len B.set (pv 0)) (pe_callB call_len_seq (by rfl) B.len (by decide +kernel) (pa_cons (pv 0) pa_nil)) (nomark _))))))), ?_⟩
    walk_at "rd"
    refine ⟨_, true, rfl, ha.ty, fun H1 s1 => ⟨_, rfl, ?_⟩⟩
    refine iteF ?_
    refine ⟨ws.map V.str, (ha.same s1).sq, ?_⟩
    rw [List.length_map]
    by_cases hm : m < (ws.length : Int)
    · rw [if_pos hm]
      have z := q H1 s1
      rw [decide_eq_false (by omega), Bool.false_and] at z
      exact z
    rw [if_neg hm]
    have hm' : decide ((ws.length : Int) ≤ m) = true := decide_eq_true (by omega)
    refine rowLc (ha.same s1) (by rw [List.length_map]; exact hz) (fun v => .bl (isWord v)) (fun _ => rfl) (fun x H' R hxm sm r => ?_) (fun D H2 hD s2 hl => ?_)
    · obtain ⟨y, hy, rfl⟩ := List.mem_map.mp hxm
      exact ⟨_, rfl, .str y, rfl, rfl, (fun z e => by cases e; exact hx _ hy), fun H3 s3 => r H3 s3⟩
    · have s12 := s1.trans s2
      refine ⟨D, rfl, ws.map fun x => isWord (.str x), by rw [hl, List.map_map, List.map_map]; rfl, _, rfl, ?_⟩
      have z := q H2 s12
      rw [hm', Bool.true_and] at z
      have ea : (ws.map fun x => isWord (V.str x)).all id = ws.all fun x => isWord (V.str x) := by rw [List.all_map]; rfl
      rw [ea]
      cases e : (ws.all fun x => isWord (V.str x)) with
      | false =>
        rw [e, Bool.false_and] at z
        exact iteF z
      | true =>
        rw [e, Bool.true_and] at z
        refine iteT ⟨ws, (ha.same s12).sq, hz, ws.map V.str, (ha.same s12).sq, rfl, ?_⟩
        rw [List.length_map]
        have ed : decide (((dn ws ws.length : Nat) : Int) = ((ws.length : Nat) : Int)) = decide (dn ws ws.length = ws.length) := by
          by_cases e2 : dn ws ws.length = ws.length
          · rw [decide_eq_true e2, e2]; simp
          · rw [decide_eq_false e2]
            exact decide_eq_false fun h => e2 (by omega)
        rw [ed]
        exact z
end
end My

set_option Elab.async false
set_option linter.all false
set_option maxRecDepth 100000
set_option maxHeartbeats 2000000
namespace My
open PySem PySem.Spec PyProof.Rows L2
def rIxTp : R2 := fun x y H Q => ∃ p i, x = .ref p ∧ y = .int i ∧ ∃ xs, H p = some (.tup xs) ∧ 0 ≤ i ∧ ∃ v, xs[i.toNat]? = some v ∧ Q v H
theorem rd_ixTp {x y : V} {H : Hp} {Q : VK} : rIxTp x y H Q = ∃ p i, x = .ref p ∧ y = .int i ∧ ∃ xs, H p = some (.tup xs) ∧ 0 ≤ i ∧ ∃ v, xs[i.toNat]? = some v ∧ Q v H := rfl
theorem ix_tp {X : Cx} : IxR X rIxTp := ix_tup.imp fun _ _ _ _ ⟨p, i, ex, ey, xs, hp, h0, v, hv, q⟩ => ⟨p, xs, i, v, ex, ey, SqT.of hp, atI_pos h0 hv, q⟩
/-- [e for i, x in enumerate(xs)], e leaving what stands as it is -/
theorem lcB_emap {K : PySem.W.Frag} {J : It} {G : Hp → Prop} {xs : List V} {j1 j2 : Nat} {te : TE} {σ : L2.St} {H : Hp} {Q : VK} (w : Walk J xs.length G (YPair (fun i => some (.int (i : Nat))) (fun i => xs[i]?))) (hG : ∀ H', Same H H' → G H') (hz : xs.length ≤ 1000) (f : Nat → V)
    (hw : ∀ x y, wipe (((wipe σ [j1, j2]).set j1 (some x)).set j2 (some y)) [j1, j2] = wipe σ [j1, j2])
    (he : ∀ (i : Nat) (x : V) (H' : Hp) (R : VK), xs[i]? = some x → Same H H' → (∀ H2, Same H' H2 → R (f i) H2) → te (((wipe σ [j1, j2]).set j1 (some (.int (i : Nat)))).set j2 (some x)) H' R)
    (hq : ∀ (D : Addr) (H' : Hp), H D = none → Same H H' → H' D = some (.lst ((List.range xs.length).map f)) → Q (.ref D) H') : lcB J (gTup K 2 (gCons (gName j1) (gCons (gName j2) gNil))) tYes te [j1, j2] σ H Q := by
  intro D hD
  refine lc_it w (fun i H' => Same H H' ∧ H' D = some (.lst ((List.range i).map f))) ⟨My.Same.new (Same.refl H) hD, upd_same⟩ (fun i H' _ h => hG H' h.1) ?_ ?_
  · rintro i x H' H2 hi ⟨sm, hl⟩ ⟨T, x0, y0, rfl, hT, rfl, e1, e2⟩
    obtain rfl : V.int (i : Nat) = x0 := Option.some.inj e1
    have hx : xs[i]? = some y0 := e2
    have s1 : Same H (upd H' T (.tup [.int (i : Nat), y0])) := My.Same.new' sm hT
    have hl1 : upd H' T (.tup [.int (i : Nat), y0]) D = some (.lst ((List.range i).map f)) := by
      rw [upd_ne (ne_of_none hl hT)]
      exact hl
    refine ⟨T, [.int (i : Nat), y0], rfl, SqT.of upd_same, rfl, _, _, rfl, _, _, rfl, rfl, hw _ _, ?_⟩
    simp only [tYes, if_true]
    refine he i y0 _ _ hx s1 fun H3 s3 => ⟨_, s3 _ _ hl1, szl ?_, My.Same.new (s1.trans s3) hD, ?_⟩
    · rw [List.length_map, List.length_range]
      omega
    · rw [upd_same, List.range_succ, List.map_append]
      rfl
  · rintro H' ⟨sm, hl⟩
    exact hq D H' hD sm hl
theorem rowLcE {K : PySem.W.Frag} {a : Addr} {xs : List V} {j1 j2 : Nat} {te : TE} {σ : L2.St} {H : Hp} {Q : VK} (h : Row K H a xs) (hz : xs.length ≤ 1000) (f : Nat → V) (hw : ∀ x y, wipe (((wipe σ [j1, j2]).set j1 (some x)).set j2 (some y)) [j1, j2] = wipe σ [j1, j2])
    (he : ∀ (i : Nat) (x : V) (H' : Hp) (R : VK), xs[i]? = some x → Same H H' → (∀ H2, Same H' H2 → R (f i) H2) → te (((wipe σ [j1, j2]).set j1 (some (.int (i : Nat)))).set j2 (some x)) H' R)
    (hq : ∀ (D : Addr) (H' : Hp), H D = none → Same H H' → H' D = some (.lst ((List.range xs.length).map f)) → Q (.ref D) H') :
    ∃ ys, (SqL K H a ys ∧ lcB (Ite K a) (gTup K 2 (gCons (gName j1) (gCons (gName j2) gNil))) tYes te [j1, j2] σ H Q) ∨ (SqT K H a ys ∧ lcB (Iet K a) (gTup K 2 (gCons (gName j1) (gCons (gName j2) gNil))) tYes te [j1, j2] σ H Q) := by
  rcases h with h | h | h
  · exact ⟨xs, .inl ⟨SqL.of h, lcB_emap walk_enum (fun H' s => SqL.of (s _ _ h)) hz f hw he hq⟩⟩
  · exact ⟨xs, .inr ⟨SqT.of h, lcB_emap walk_enumT (fun H' s => SqT.of (s _ _ h)) hz f hw he hq⟩⟩
  · exact ⟨xs, .inr ⟨h.sq, lcB_emap walk_enumT (fun H' s => h.sq) hz f hw he hq⟩⟩
end My

set_option Elab.async false
set_option linter.all false
set_option maxRecDepth 100000
set_option maxHeartbeats 2000000
namespace My
open PySem PySem.Spec PyProof.Rows L2
local macro_rules | `(tactic| walk_at "rd") => `(tactic| simp only [rd_seq, rd_next, rd_brk, rd_cont, rd_asg, rd_gname, rd_var, rd_c, rd_op, rd_un, rd_rI0, rd_rI, rd_rU, rd_test, rd_B, rd_and, rd_or, rd_not, rd_andV, rd_orV, rd_notV, rd_ifx, rd_ifs, rd_drop, rd_ret, rd_nil, rd_cons, rd_cb, rd_tup, rd_lst, rd_call, rd_bm, rd_app, rd_ixLst, rd_ixSq, rd_lenL, rd_lenSq, rd_setLst, rd_sub, rd_neNil, rd_isStr, rd_dg, rd_dp, rd_mk, rd_sl, rd_noP, rd_part, rd_slL, rd_cat, rd_lcL, rd_lcE, rd_lcA, rd_lcEA, rd_isTy, rd_ixTp, rd_lenUn,  L2.valV_put, rd_fldS, rd_eq, rd_ne, rd_fldE, rd_allB, rd_isBl, rd_inS, rd_chain, rd_chain', L2.wipe, Int.reduceToNat, Int.reduceLE, Int.reduceLT, Nat.reduceLT, Nat.reduceLeDiff, Int.reduceNeg, Int.toNat_natCast, Int.reduceAdd, L2.start, and_assoc, exists_and_left, List.map_cons, List.map_nil, List.length_cons, List.length_nil, List.cons_append, List.nil_append, List.append_nil, List.replicate_succ, List.replicate_zero, List.replicate, List.set_cons_zero, List.set_cons_succ, List.getElem?_cons_zero, List.getElem?_cons_succ, Option.some.injEq, exists_eq_left', exists_eq_left, exists_eq, V.int.injEq, V.ref.injEq, V.str.injEq, V.bl.injEq, HO.lst.injEq, HO.tup.injEq, ex_bl, List.cons.injEq, and_true, true_and, Nat.reduceAdd, Nat.reduceSub, reduceCtorEq, false_and, or_false, exists_false, false_or, decide_eq_true_eq, if_true, if_false, Bool.false_eq_true, Bool.not_true, Bool.not_false, upd_same])
local macro_rules | `(tactic| walk_at "rdh") => `(tactic| simp only [rd_seq, rd_next, rd_brk, rd_cont, rd_asg, rd_gname, rd_var, rd_c, rd_op, rd_un, rd_rI0, rd_rI, rd_rU, rd_test, rd_B, rd_and, rd_or, rd_not, rd_andV, rd_orV, rd_notV, rd_ifx, rd_ifs, rd_drop, rd_ret, rd_nil, rd_cons, rd_cb, rd_tup, rd_lst, rd_call, rd_bm, rd_app, rd_ixLst, rd_ixSq, rd_lenL, rd_lenSq, rd_setLst, rd_sub, rd_neNil, rd_isStr, rd_dg, rd_dp, rd_mk, rd_sl, rd_noP, rd_part, rd_slL, rd_cat, rd_lcL, rd_lcE, rd_lcA, rd_lcEA, rd_isTy, rd_ixTp, rd_lenUn,  L2.valV_put, rd_fldS, rd_eq, rd_ne, rd_fldE, rd_allB, rd_isBl, rd_inS, rd_chain, rd_chain', L2.wipe, Int.reduceToNat, Int.reduceLE, Int.reduceLT, Nat.reduceLT, Nat.reduceLeDiff, Int.reduceNeg, Int.toNat_natCast, Int.reduceAdd, L2.start, and_assoc, exists_and_left, List.map_cons, List.map_nil, List.length_cons, List.length_nil, List.cons_append, List.nil_append, List.append_nil, List.replicate_succ, List.replicate_zero, List.replicate, List.set_cons_zero, List.set_cons_succ, List.getElem?_cons_zero, List.getElem?_cons_succ, Option.some.injEq, exists_eq_left', exists_eq_left, exists_eq, V.int.injEq, V.ref.injEq, V.str.injEq, V.bl.injEq, HO.lst.injEq, HO.tup.injEq, ex_bl, List.cons.injEq, and_true, true_and, Nat.reduceAdd, Nat.reduceSub, reduceCtorEq, false_and, or_false, exists_false, false_or, decide_eq_true_eq, if_true, if_false, Bool.false_eq_true, Bool.not_true, Bool.not_false, upd_same, *])
abbrev sStp : Stmt := topI 15
abbrev sSts : Stmt := topI 16
abbrev NStp : List Str := ["value", "is_last", "has_goals"]
theorem scStp : FnScope NStp ["value", "is_last", "has_goals"] (defScope sStp) := ⟨rfl, rfl, rfl, by decide +kernel, rfl, by decide +kernel, by decide +kernel⟩
abbrev NSts : List Str := ["value", "has_goals", "last", "at", "step"]
theorem scSts : FnScope NSts ["value", "has_goals"] (defScope sSts) := ⟨rfl, rfl, rfl, by decide +kernel, rfl, by decide +kernel, by decide +kernel⟩
def acts : List Str := ["strike", "again", "turn"]
def isMark (x : Str) : Bool := isWord (.str x) && !decide (x = "goal")
/-- a step of the right form: an act, or more or less of a mark -/
inductive Stp where
  | act (a : Str)
  | move (d m : Str)
  deriving DecidableEq
def Stp.vs : Stp → List V
  | .act a => [.str a]
  | .move d m => [.str d, .str m]
def Stp.short : Stp → Prop
  | .act _ => True
  | .move _ m => m.length ≤ 1000
def Stp.ok (last goals : Bool) : Stp → Bool
  | .act a => last && hasS acts (.str a)
  | .move d m => hasS ["more", "less"] (.str d) && (isMark m || (goals && hasS ["goal"] (.str m)))
def spStp : Sp := fun vs H Q _ => ∃ (a : Addr) (st : Stp) (l g : Bool), vs = [.ref a, .bl l, .bl g] ∧ H a = some (.tup st.vs) ∧ st.short ∧ ∀ H', Same H H' → Q (.bl (st.ok l g)) H'
section
variable {P : Program} {w : World} {K : PySem.W.Frag} {mg : Str → Option Value} {base : Heap}
theorem ok_stp {f aA : Addr} {fd : FuncData} (F : Fun K "is_step" "is_step" sStp f fd) (B : Bn mg) (gA : mg "ACTS" = some (.ref aA)) (hA : ∀ H, SqT K H aA (acts.map V.str)) (Dis_one_of : Df K mg "is_one_of" sOne ["value", "words"]) (Gis_one_of : FnOk P w K mg base CX0 1 Dis_one_of.f Dis_one_of.fd ["value", "words"] (spOne K))
    (Dis_mark : Df K mg "is_mark" sMrk ["value"]) (Gis_mark : FnOk P w K mg base CX0 2 Dis_mark.f Dis_mark.fd ["value"] spMrk) : FnOk P w K mg base CX0 3 f fd ["value", "is_last", "has_goals"] spStp := by
  refine F.ok scStp (fun vs H Q E h => ?_) (fun cdv A outer s H vs Q E hr h => ?_)
  · obtain ⟨a, st, l, g, rfl, _⟩ := h
    rfl
  · obtain ⟨a, st, l, g, rfl, ha, hs, q⟩ := h
    have hr2 := hr
    have hr1 := hr.mono (by decide : 1 ≤ 2)
    refine ⟨_, (pss_cons (ps_if (pt_not (pt_val (pe_callB (call_isTy (T := "tuple")) (by rfl) B.isinstance (by decide +kernel) (pa_cons (pv 0) (pa_cons (pe_ty (T := "tuple") B.tuple (by decide +kernel)) pa_nil)))))
        (pss_one (ps_ret pe_bl))
        pss_nil)
      (pss_cons (ps_if (pt_cmpR op_eq (pe_callB call_len_seq (by rfl) B.len (by decide +kernel) (pa_cons (pv 0) pa_nil)) pe_int (nomark _))
        (pss_one (ps_ret (pe_and (pv 1) (pe_one (pc Dis_one_of Gis_one_of hr1 (pa_cons (pe_ix ix_tp (pv 0) pe_int (fun _ _ => rfl)) (pa_cons (pe_gR gA) pa_nil)))))))
        pss_nil)
      (pss_cons (ps_if (PW.pt (pw_or (pt_cmpR op_ne (pe_callB call_len_seq (by rfl) B.len (by decide +kernel) (pa_cons (pv 0) pa_nil)) pe_int (nomark _)) (pw_or1 (pt_not (pt_val (pc Dis_one_of Gis_one_of hr1 (pa_cons (pe_ix ix_tp (pv 0) pe_int (fun _ _ => rfl)) (pa_cons (pe_tup (pa_cons pe_str (pa_cons pe_str pa_nil))) pa_nil))))))))
        (pss_one (ps_ret pe_bl))
        pss_nil)
      (pss_one (ps_ret (pe_or (pc Dis_mark Gis_mark hr2 (pa_cons (pe_ix ix_tp (pv 0) pe_int (fun _ _ => rfl)) pa_nil)) (pe_one (pe_and (pv 2) (pe_one (pc Dis_one_of Gis_one_of hr1 (pa_cons (pe_ix ix_tp (pv 0) pe_int (fun _ _ => rfl)) (pa_cons (pe_tup (pa_cons pe_str pa_nil)) pa_nil)))))))))))), ?_⟩
    walk_at "rd"
    refine ⟨"tuple", (by show tyO (H a) = _; rw [ha]; rfl), true, by decide +kernel, iteF ?_⟩
    cases st with
    | act w =>
      refine ⟨[.str w], .inr (SqT.of ha), rfl, ?_⟩
      rw [if_pos (by rfl)]
      have z := q H (Same.refl H)
      cases l with
      | false => exact iteF z
      | true => exact iteT ⟨_, ha, .str w, rfl, .str w, aA, acts, rfl, rfl, hA H, z⟩
    | move d m =>
      refine ⟨[.str d, .str m], .inr (SqT.of ha), rfl, ?_⟩
      rw [if_neg (by show ¬ ((2 : Nat) : Int) = 1; decide)]
      refine ⟨[.str d, .str m], .inr (SqT.of ha), rfl, ?_⟩
      rw [if_neg (by show ¬ (!decide (((2 : Nat) : Int) = 2)) = true; decide)]
      refine ⟨_, ha, .str d, rfl, sz (by decide), fun p hp => ⟨.str d, p, ["more", "less"], rfl, rfl, SqT.of upd_same, _, rfl, ?_⟩⟩
      have s1 := My.Same.new (o := .tup [.str "more", .str "less"]) (Same.refl H) hp
      cases e1 : hasS ["more", "less"] (.str d) with
      | false =>
        have z := q _ s1
        simp only [Stp.ok, e1, Bool.false_and] at z
        exact iteT z
      | true =>
        refine iteF ⟨_, s1 _ _ ha, .str m, rfl, m, rfl, hs, fun H2 s2 => ⟨_, rfl, ?_⟩⟩
        have s12 := s1.trans s2
        cases e2 : (isWord (.str m) && !decide (m = "goal")) with
        | true =>
          have z := q _ s12
          simp only [Stp.ok, isMark, e1, e2, Bool.true_and, Bool.true_or] at z
          exact iteT z
        | false =>
          refine iteF ?_
          cases g with
          | false =>
            have z := q _ s12
            simp only [Stp.ok, isMark, e1, e2, Bool.true_and, Bool.false_or, Bool.false_and] at z
            exact iteF z
          | true =>
            refine iteT ⟨_, s12 _ _ ha, .str m, rfl, sz (by decide), fun p2 hp2 => ⟨.str m, p2, ["goal"], rfl, rfl, SqT.of upd_same, ?_⟩⟩
            have z := q _ (My.Same.new' (o := .tup [.str "goal"]) s12 hp2)
            simp only [Stp.ok, isMark, e1, e2, Bool.true_and, Bool.false_or] at z
            exact z
end
end My

set_option Elab.async false
set_option linter.all false
set_option maxRecDepth 100000
set_option maxHeartbeats 2000000
namespace My
open PySem PySem.Spec PyProof.Rows L2
local macro_rules | `(tactic| walk_at "rd") => `(tactic| simp only [rd_seq, rd_next, rd_brk, rd_cont, rd_asg, rd_gname, rd_var, rd_c, rd_op, rd_un, rd_rI0, rd_rI, rd_rU, rd_test, rd_B, rd_and, rd_or, rd_not, rd_andV, rd_orV, rd_notV, rd_ifx, rd_ifs, rd_drop, rd_ret, rd_nil, rd_cons, rd_cb, rd_tup, rd_lst, rd_call, rd_bm, rd_app, rd_ixLst, rd_ixSq, rd_lenL, rd_lenSq, rd_setLst, rd_sub, rd_neNil, rd_isStr, rd_dg, rd_dp, rd_mk, rd_sl, rd_noP, rd_part, rd_slL, rd_cat, rd_lcL, rd_lcE, rd_lcA, rd_lcEA, rd_isTy, rd_ixTp, rd_lenUn,  L2.valV_put, rd_fldS, rd_eq, rd_ne, rd_fldE, rd_allB, rd_isBl, rd_inS, rd_chain, rd_chain', L2.wipe, Int.reduceToNat, Int.reduceLE, Int.reduceLT, Nat.reduceLT, Nat.reduceLeDiff, Int.reduceNeg, Int.toNat_natCast, Int.reduceAdd, L2.start, and_assoc, exists_and_left, List.map_cons, List.map_nil, List.length_cons, List.length_nil, List.cons_append, List.nil_append, List.append_nil, List.replicate_succ, List.replicate_zero, List.replicate, List.set_cons_zero, List.set_cons_succ, List.getElem?_cons_zero, List.getElem?_cons_succ, Option.some.injEq, exists_eq_left', exists_eq_left, exists_eq, V.int.injEq, V.ref.injEq, V.str.injEq, V.bl.injEq, HO.lst.injEq, HO.tup.injEq, ex_bl, List.cons.injEq, and_true, true_and, Nat.reduceAdd, Nat.reduceSub, reduceCtorEq, false_and, or_false, exists_false, false_or, decide_eq_true_eq, if_true, if_false, Bool.false_eq_true, Bool.not_true, Bool.not_false, upd_same])
local macro_rules | `(tactic| walk_at "rdh") => `(tactic| simp only [rd_seq, rd_next, rd_brk, rd_cont, rd_asg, rd_gname, rd_var, rd_c, rd_op, rd_un, rd_rI0, rd_rI, rd_rU, rd_test, rd_B, rd_and, rd_or, rd_not, rd_andV, rd_orV, rd_notV, rd_ifx, rd_ifs, rd_drop, rd_ret, rd_nil, rd_cons, rd_cb, rd_tup, rd_lst, rd_call, rd_bm, rd_app, rd_ixLst, rd_ixSq, rd_lenL, rd_lenSq, rd_setLst, rd_sub, rd_neNil, rd_isStr, rd_dg, rd_dp, rd_mk, rd_sl, rd_noP, rd_part, rd_slL, rd_cat, rd_lcL, rd_lcE, rd_lcA, rd_lcEA, rd_isTy, rd_ixTp, rd_lenUn,  L2.valV_put, rd_fldS, rd_eq, rd_ne, rd_fldE, rd_allB, rd_isBl, rd_inS, rd_chain, rd_chain', L2.wipe, Int.reduceToNat, Int.reduceLE, Int.reduceLT, Nat.reduceLT, Nat.reduceLeDiff, Int.reduceNeg, Int.toNat_natCast, Int.reduceAdd, L2.start, and_assoc, exists_and_left, List.map_cons, List.map_nil, List.length_cons, List.length_nil, List.cons_append, List.nil_append, List.append_nil, List.replicate_succ, List.replicate_zero, List.replicate, List.set_cons_zero, List.set_cons_succ, List.getElem?_cons_zero, List.getElem?_cons_succ, Option.some.injEq, exists_eq_left', exists_eq_left, exists_eq, V.int.injEq, V.ref.injEq, V.str.injEq, V.bl.injEq, HO.lst.injEq, HO.tup.injEq, ex_bl, List.cons.injEq, and_true, true_and, Nat.reduceAdd, Nat.reduceSub, reduceCtorEq, false_and, or_false, exists_false, false_or, decide_eq_true_eq, if_true, if_false, Bool.false_eq_true, Bool.not_true, Bool.not_false, upd_same, *])
/-- the i-th step is right -/
def okAt (g : Bool) (sts : List Stp) (i : Nat) : Bool := match sts[i]? with
  | some st => st.ok (decide ((i : Int) = (sts.length : Int) - 1)) g
  | none => true
def stepsOk (g : Bool) (sts : List Stp) : Bool := (List.range sts.length).all (okAt g sts)
def StpAt (H : Hp) (p : Addr) (st : Stp) : Prop := H p = some (.tup st.vs) ∧ st.short
theorem paired_at {α β : Type} {F : α → β → Prop} : ∀ {l : List α} {r : List β} {i : Nat} {x : α}, Paired F l r → l[i]? = some x → ∃ y, r[i]? = some y ∧ F x y
  | _, _, i, x, .nil, h => by simp at h
  | _, _, 0, x, .cons (b := b) f _, h => by
    obtain rfl := Option.some.inj h
    exact ⟨b, rfl, f⟩
  | _, _, i + 1, x, .cons _ t, h => paired_at (i := i) t h
def spSts (K : PySem.W.Frag) : Sp := fun vs H Q _ => ∃ (a : Addr) (ps : List Addr) (sts : List Stp) (g : Bool), vs = [.ref a, .bl g] ∧ Row K H a (ps.map V.ref) ∧ ps.length ≤ 1000 ∧ Paired (StpAt H) ps sts ∧ ∀ H', Same H H' → Q (.bl (decide (sts.length ≤ 4) && stepsOk g sts)) H'
section
variable {P : Program} {w : World} {K : PySem.W.Frag} {mg : Str → Option Value} {base : Heap}
theorem ok_sts {f : Addr} {fd : FuncData} (F : Fun K "are_steps" "are_steps" sSts f fd) (B : Bn mg) (Dis_row : Df K mg "is_row" sRow ["value"]) (Gis_row : FnOk P w K mg base CX0 1 Dis_row.f Dis_row.fd ["value"] (spRow K))
    (Dis_step : Df K mg "is_step" sStp ["value", "is_last", "has_goals"]) (Gis_step : FnOk P w K mg base CX0 3 Dis_step.f Dis_step.fd ["value", "is_last", "has_goals"] spStp) : FnOk P w K mg base CX0 4 f fd ["value", "has_goals"] (spSts K) := by
  refine F.ok scSts (fun vs H Q E h => ?_) (fun cdv A outer s H vs Q E hr h => ?_)
  · obtain ⟨a, ps, sts, g, rfl, _⟩ := h
    rfl
  · obtain ⟨a, ps, sts, g, rfl, ha, hz, hp, q⟩ := h
    have hr3 := hr
    have hr1 := hr.mono (by decide : 1 ≤ 3)
    refine ⟨_, (pss_cons (ps_if (PW.pt (pw_or (pt_not (pt_val (pc Dis_row Gis_row hr1 (pa_cons (pv 0) pa_nil)))) (pw_or1 (pt_cmpR op_gt (pe_callB call_len_seq (by rfl) B.len (by decide +kernel) (pa_cons (pv 0) pa_nil)) pe_int (nomark _)))))
        (pss_one (ps_ret pe_bl))
        pss_nil)
      (pss_cons (ps_set (i := 2) scSts.nd rfl (Or.inr rfl) (pe_op op_sub (pe_callB call_len_seq (by rfl) B.len (by decide +kernel) (pa_cons (pv 0) pa_nil)) pe_int))
      (pss_one (ps_ret (pe_callB (cr_allB rfl) (by rfl) B.all (by decide +kernel) (pa_cons (pe_lc (own := [("at", 3), ("step", 4)]) (g := gTup K 2 (gCons (gName 3) (gCons (gName 4) gNil))) rfl scSts.nd (pi_enumAny (by rfl) B.enumerate (pa_cons (pv 0) pa_nil)) (blkOk_by (own := [("at", 3), ("step", 4)]) (N := NSts) (sc := defScope sSts) (by decide +kernel)) (fun _ _ _ _ _ => by exact (pg_tup rfl (pgs_cons (pg_name (i := 3) scSts.nd rfl (Or.inl rfl)) (pgs_cons (pg_name (i := 4) scSts.nd rfl (Or.inl rfl)) pgs_nil)))) (fun _ _ _ _ _ => pts_nil) (fun _ _ _ _ _ => (pc Dis_step Gis_step hr3 (pa_cons (pv 4) (pa_cons (pe_cmpR op_eq (pv 3) (pv 2) (nomark _)) (pa_cons (pv 1) pa_nil)))))) pa_nil)))))), ?_⟩
    walk_at "rd"
    have len : ps.length = sts.length := Paired.length hp
    refine ⟨_, true, rfl, ha.ty, fun H1 s1 => ⟨_, rfl, ?_⟩⟩
    refine iteF ?_
    refine ⟨ps.map V.ref, (ha.same s1).sq, ?_⟩
    rw [List.length_map, len]
    by_cases h4 : (4 : Int) < (sts.length : Int)
    · rw [if_pos h4]
      have z := q H1 s1
      rw [decide_eq_false (by omega), Bool.false_and] at z
      exact z
    rw [if_neg h4]
    refine ⟨ps.map V.ref, (ha.same s1).sq, ?_⟩
    rw [List.length_map, len]
    refine rowLcE (ha.same s1) (by rw [List.length_map]; exact hz) (fun i => .bl (okAt g sts i)) (fun _ _ => rfl) (fun i x H' R hx sm r => ?_) (fun D H2 hD s2 hl => ?_)
    · rw [List.getElem?_map] at hx
      obtain ⟨p, hpi, rfl⟩ := Option.map_eq_some_iff.mp hx
      obtain ⟨st, hst, hat, hsh⟩ := paired_at hp hpi
      have e : okAt g sts i = st.ok (decide ((i : Int) = (sts.length : Int) - 1)) g := by
        unfold okAt
        rw [hst]
      refine ⟨_, rfl, _, rfl, _, rfl, rfl, _, rfl, p, st, decide ((i : Int) = (sts.length : Int) - 1), g, ?_, sm _ _ (s1 _ _ hat), hsh, fun H3 s3 => ?_⟩
      · have e2 : decide (V.int (i : Nat) = V.int ((sts.length : Int) - 1)) = decide ((i : Int) = (sts.length : Int) - 1) := by
          by_cases h : (i : Int) = (sts.length : Int) - 1
          · rw [decide_eq_true h, h]; simp
          · rw [decide_eq_false h]
            exact decide_eq_false fun z => h (V.int.inj z)
        rw [← e2]
        rfl
      · have z := r H3 s3
        rw [e] at z
        exact z
    · refine ⟨D, rfl, (List.range sts.length).map (okAt g sts), by rw [hl, List.length_map, len, List.map_map]; rfl, ?_⟩
      have z := q H2 (s1.trans s2)
      rw [decide_eq_true (by omega), Bool.true_and] at z
      have ea : ((List.range sts.length).map (okAt g sts)).all id = stepsOk g sts := by
        rw [List.all_map]
        rfl
      rw [ea]
      exact z
end
end My

set_option Elab.async false
set_option linter.all false
set_option maxRecDepth 100000
set_option maxHeartbeats 2000000
namespace My
open PySem PySem.Spec PyProof.Rows L2
theorem rd_lockE {t : TE} {σ : L2.St} {H : Hp} {Q : VK} : tLockE t σ H Q = ∃ d u, H d = some u ∧ Mut (some u) ∧ ∀ od, t σ (upd H d (.frz od u)) fun v H' => H' d = some (.frz od u) ∧ Q v (upd H' d u) := rfl
theorem rd_lcK {td : TE} {g : TG} {tt : TT} {te : TE} {vs : List Nat} {σ : L2.St} {H : Hp} {Q : VK} : tLc (iKeys td) g tt te vs σ H Q = td σ H fun x H1 => ∃ d o, x = .ref d ∧ ((∃ kvs, H1 d = some (.frz o (.dK kvs)) ∧ lcB (Itk d o kvs) g tt te vs σ H1 Q) ∨ ∃ kvs, H1 d = some (.frz o (.dT kvs)) ∧ lcB (Itkt d o kvs) g tt te vs σ H1 Q) := rfl
theorem rd_dgetD {td ty : TE} {σ : L2.St} {H : Hp} {Q : VK} : tDGet td ty σ H Q = td σ H fun x H1 => ty σ H1 fun y H2 => ∃ a v, x = .ref a ∧ DGet H2 a y (some v) ∧ Q v H2 := rfl
theorem walk_keysAt {d : Addr} {o : Obj} {kvs : List (Key × V)} : Walk (Itk d o kvs) (kvs.map fun kv => kV kv.1).length (fun H => H d = some (.frz o (.dK kvs))) (YAt (kvs.map fun kv => kV kv.1)) := by
  have w := walk_keys (d := d) (o := o) (kvs := kvs)
  rw [List.length_map]
  refine w.mono (fun _ h => h) fun i H x H' _ _ ⟨e, k, v, hk, hx⟩ => ⟨e, ?_⟩
  rw [List.getElem?_map, hk, hx]
  rfl
/-- [e for x in xs] by places -/
theorem lcB_imap {J : It} {G : Hp → Prop} {xs : List V} {j : Nat} {te : TE} {σ : L2.St} {H : Hp} {Q : VK} (w : Walk J xs.length G (YAt xs)) (hG : ∀ H', Same H H' → G H') (hz : xs.length ≤ 1000) (f : Nat → V) (hw : ∀ x, wipe ((wipe σ [j]).set j (some x)) [j] = wipe σ [j])
    (he : ∀ (i : Nat) (x : V) (H' : Hp) (R : VK), xs[i]? = some x → Same H H' → (∀ H2, Same H' H2 → R (f i) H2) → te ((wipe σ [j]).set j (some x)) H' R)
    (hq : ∀ (D : Addr) (H' : Hp), H D = none → Same H H' → H' D = some (.lst ((List.range xs.length).map f)) → Q (.ref D) H') : lcB J (gName j) tYes te [j] σ H Q := by
  intro D hD
  refine lc_it w (fun i H' => Same H H' ∧ H' D = some (.lst ((List.range i).map f))) ⟨My.Same.new (Same.refl H) hD, upd_same⟩ (fun i H' _ h => hG H' h.1) ?_ ?_
  · rintro i x H' H2 hi ⟨sm, hl⟩ ⟨rfl, hx⟩
    refine ⟨hw _, ?_⟩
    simp only [tYes, if_true]
    refine he i x _ _ hx sm fun H3 s3 => ⟨_, s3 _ _ hl, szl ?_, My.Same.new (sm.trans s3) hD, ?_⟩
    · rw [List.length_map, List.length_range]
      omega
    · rw [upd_same, List.range_succ, List.map_append]
      rfl
  · rintro H' ⟨sm, hl⟩
    exact hq D H' hD sm hl
/-- behind a lock -/
theorem same_unlock {H H' : Hp} {d : Addr} {u : HO} {od : Obj} (h : H d = some u) (s : Same (upd H d (.frz od u)) H') : Same H (upd H' d u) := fun b o e => by
  by_cases hb : b = d
  · subst hb
    rw [upd_same, ← h]
    exact e
  · rw [upd_ne hb]
    exact s b o (by rw [upd_ne hb]; exact e)
theorem val_at : ∀ {ks : List (Str × Int)} {i : Nat} {e : Str × Int}, (ks.map (·.1)).Nodup → ks[i]? = some e → valV (ks.map entK) (Sum.inr e.1) = some (.int e.2)
  | [], i, e, _, h => by simp at h
  | k :: ks, 0, e, _, h => by
    obtain rfl : k = e := Option.some.inj h
    exact valV_pos rfl
  | k :: ks, i + 1, e, nd, h => by
    rw [List.map_cons, List.nodup_cons] at nd
    have ne : ¬ (entK k).1 = Sum.inr e.1 := fun z => nd.1 (by
      have z2 : k.1 = e.1 := Sum.inr.inj z
      rw [z2]
      exact List.mem_map_of_mem (List.mem_of_getElem? h))
    rw [List.map_cons, valV_neg ne]
    exact val_at nd.2 h
end My
namespace My
open PySem PySem.Spec PyProof.Rows L2
/-- x in xs, x a text, xs a list or a tuple of texts -/
def rInRow (K : PySem.W.Frag) : R2 := fun x y H Q => ∃ (a : Addr) (z : Str) (ws : List Str), y = .ref a ∧ x = .str z ∧ Row K H a (ws.map V.str) ∧ Q (.bl (ws.contains z)) H
theorem rd_inRow {K : PySem.W.Frag} {x y : V} {H : Hp} {Q : VK} : rInRow K x y H Q = ∃ (a : Addr) (z : Str) (ws : List Str), y = .ref a ∧ x = .str z ∧ Row K H a (ws.map V.str) ∧ Q (.bl (ws.contains z)) H := rfl
theorem op_inRow {X : Cx} : OpR X (compareOp .In) (rInRow X.K) := op_in_seq.imp fun x _ _ _ ⟨a, z, ws, ey, ex, hr, q⟩ => by
  subst ex
  refine ⟨a, ws.map V.str, ey, hr.sq, rfl, flat_strs ws, ?_⟩
  show _
  rw [if_neg Bool.false_ne_true, inV_strs]
  exact q
/-- sorted(d.items()), as one expression -/
def tItems (td : TE) : TE := fun σ H Q => td σ H fun x H1 => ∃ (a : Addr) (ks : List (Str × Int)), x = .ref a ∧ H1 a = some (.dK (ks.map entK)) ∧ ks.length < 64 ∧
  ∀ (H2 : Hp) (l : Addr) (ps : List Addr) (ys : List (Str × Int)), Same H1 H2 → ys.Perm ks → ys.Pairwise (fun e f => ltCps f.1.cps.toList e.1.cps.toList = false) → H2 l = some (.lst (ps.map V.ref)) → Paired (fun b e => H2 b = some (.tup [.str e.1, .int e.2])) ps ys → Q (.ref l) H2
theorem rd_items {td : TE} {σ : L2.St} {H : Hp} {Q : VK} : tItems td σ H Q = td σ H fun x H1 => ∃ (a : Addr) (ks : List (Str × Int)), x = .ref a ∧ H1 a = some (.dK (ks.map entK)) ∧ ks.length < 64 ∧
  ∀ (H2 : Hp) (l : Addr) (ps : List Addr) (ys : List (Str × Int)), Same H1 H2 → ys.Perm ks → ys.Pairwise (fun e f => ltCps f.1.cps.toList e.1.cps.toList = false) → H2 l = some (.lst (ps.map V.ref)) → Paired (fun b e => H2 b = some (.tup [.str e.1, .int e.2])) ps ys → Q (.ref l) H2 := rfl
end My

set_option Elab.async false
set_option linter.all false
set_option maxRecDepth 100000
set_option maxHeartbeats 2000000
namespace My
open PySem PySem.Spec PyProof.Rows L2
local macro_rules | `(tactic| walk_at "rd") => `(tactic| simp only [rd_seq, rd_next, rd_brk, rd_cont, rd_asg, rd_gname, rd_var, rd_c, rd_op, rd_un, rd_rI0, rd_rI, rd_rU, rd_test, rd_B, rd_and, rd_or, rd_not, rd_andV, rd_orV, rd_notV, rd_ifx, rd_ifs, rd_drop, rd_ret, rd_nil, rd_cons, rd_cb, rd_tup, rd_lst, rd_call, rd_bm, rd_app, rd_ixLst, rd_ixSq, rd_lenL, rd_lenSq, rd_setLst, rd_sub, rd_neNil, rd_isStr, rd_dg, rd_dp, rd_mk, rd_sl, rd_noP, rd_part, rd_slL, rd_cat, rd_lcL, rd_lcE, rd_lcA, rd_lcEA, rd_isTy, rd_lockE, rd_lcK, rd_dgetD, rd_ixTp, rd_lenUn,  L2.valV_put, rd_fldS, rd_eq, rd_ne, rd_fldE, rd_allB, rd_isBl, rd_inS, rd_chain, rd_chain', L2.wipe, Int.reduceToNat, Int.reduceLE, Int.reduceLT, Nat.reduceLT, Nat.reduceLeDiff, Int.reduceNeg, Int.toNat_natCast, Int.reduceAdd, L2.start, and_assoc, exists_and_left, List.map_cons, List.map_nil, List.length_cons, List.length_nil, List.cons_append, List.nil_append, List.append_nil, List.replicate_succ, List.replicate_zero, List.replicate, List.set_cons_zero, List.set_cons_succ, List.getElem?_cons_zero, List.getElem?_cons_succ, Option.some.injEq, exists_eq_left', exists_eq_left, exists_eq, V.int.injEq, V.ref.injEq, V.str.injEq, V.bl.injEq, HO.lst.injEq, HO.tup.injEq, ex_bl, List.cons.injEq, and_true, true_and, Nat.reduceAdd, Nat.reduceSub, reduceCtorEq, false_and, or_false, exists_false, false_or, decide_eq_true_eq, if_true, if_false, Bool.false_eq_true, Bool.not_true, Bool.not_false, upd_same])
local macro_rules | `(tactic| walk_at "rdh") => `(tactic| simp only [rd_seq, rd_next, rd_brk, rd_cont, rd_asg, rd_gname, rd_var, rd_c, rd_op, rd_un, rd_rI0, rd_rI, rd_rU, rd_test, rd_B, rd_and, rd_or, rd_not, rd_andV, rd_orV, rd_notV, rd_ifx, rd_ifs, rd_drop, rd_ret, rd_nil, rd_cons, rd_cb, rd_tup, rd_lst, rd_call, rd_bm, rd_app, rd_ixLst, rd_ixSq, rd_lenL, rd_lenSq, rd_setLst, rd_sub, rd_neNil, rd_isStr, rd_dg, rd_dp, rd_mk, rd_sl, rd_noP, rd_part, rd_slL, rd_cat, rd_lcL, rd_lcE, rd_lcA, rd_lcEA, rd_isTy, rd_lockE, rd_lcK, rd_dgetD, rd_ixTp, rd_lenUn,  L2.valV_put, rd_fldS, rd_eq, rd_ne, rd_fldE, rd_allB, rd_isBl, rd_inS, rd_chain, rd_chain', L2.wipe, Int.reduceToNat, Int.reduceLE, Int.reduceLT, Nat.reduceLT, Nat.reduceLeDiff, Int.reduceNeg, Int.toNat_natCast, Int.reduceAdd, L2.start, and_assoc, exists_and_left, List.map_cons, List.map_nil, List.length_cons, List.length_nil, List.cons_append, List.nil_append, List.append_nil, List.replicate_succ, List.replicate_zero, List.replicate, List.set_cons_zero, List.set_cons_succ, List.getElem?_cons_zero, List.getElem?_cons_succ, Option.some.injEq, exists_eq_left', exists_eq_left, exists_eq, V.int.injEq, V.ref.injEq, V.str.injEq, V.bl.injEq, HO.lst.injEq, HO.tup.injEq, ex_bl, List.cons.injEq, and_true, true_and, Nat.reduceAdd, Nat.reduceSub, reduceCtorEq, false_and, or_false, exists_false, false_or, decide_eq_true_eq, if_true, if_false, Bool.false_eq_true, Bool.not_true, Bool.not_false, upd_same, *])
abbrev sCnt : Stmt := topI 14
abbrev NCnt : List Str := ["value", "mark"]
theorem scCnt : FnScope NCnt ["value"] (defScope sCnt) := ⟨rfl, rfl, rfl, by decide +kernel, rfl, by decide +kernel, by decide +kernel⟩
def cntOk (e : Str × Int) : Bool := isMark e.1 && (decide (1 ≤ e.2) && decide (e.2 ≤ 3))
/-- asks and pays: None, or a dict from texts to numbers -/
def spCnt : Sp := fun vs H Q _ => (vs = [.non] ∧ Q (.bl true) H) ∨ ∃ (d : Addr) (ks : List (Str × Int)), vs = [.ref d] ∧ H d = some (.dK (ks.map entK)) ∧ ks.length ≤ 1000 ∧ (ks.map (·.1)).Nodup ∧ (∀ e ∈ ks, e.1.length ≤ 1000) ∧
  ∀ H', Same H H' → Q (.bl (decide (ks.length ≤ 3) && ks.all cntOk)) H'
def atF {α : Type} (l : List α) (f : α → Bool) (i : Nat) : Bool := match l[i]? with
  | some e => f e
  | none => true
theorem atF_at {α : Type} {l : List α} {f : α → Bool} {i : Nat} {e : α} (h : l[i]? = some e) : atF l f i = f e := by
  unfold atF
  rw [h]
theorem all_range {α : Type} (l : List α) (f : α → Bool) : ((List.range l.length).map (atF l f)).all id = l.all f := by
  rw [List.all_map]
  apply Bool.eq_iff_iff.mpr
  rw [List.all_eq_true, List.all_eq_true]
  constructor
  · intro h x hx
    obtain ⟨i, hi⟩ := List.mem_iff_getElem?.mp hx
    have lt := (List.getElem?_eq_some_iff.mp hi).1
    have z : atF l f i = true := h i (List.mem_range.mpr lt)
    rwa [atF_at hi] at z
  · intro h i hi
    have lt := List.mem_range.mp hi
    show atF l f i = true
    rw [atF_at (List.getElem?_eq_getElem lt)]
    exact h _ (List.getElem_mem lt)
section
variable {P : Program} {w : World} {K : PySem.W.Frag} {mg : Str → Option Value} {base : Heap}
theorem ok_cnt {f : Addr} {fd : FuncData} {tkM : Tok} (F : Fun K "are_counts" "are_counts" sCnt f fd) (B : Bn mg) (gM : mg "MOST_MARKS" = some (.int 3 tkM)) (Dis_mark : Df K mg "is_mark" sMrk ["value"]) (Gis_mark : FnOk P w K mg base CX0 2 Dis_mark.f Dis_mark.fd ["value"] spMrk)
    (Dis_number : Df K mg "is_number" sNmb ["value", "least", "most"]) (Gis_number : FnOk P w K mg base CX0 1 Dis_number.f Dis_number.fd ["value", "least", "most"] spNmb) : FnOk P w K mg base CX0 3 f fd ["value"] spCnt := by
  refine F.ok scCnt (fun vs H Q E h => ?_) (fun cdv A outer s H vs Q E hr h => ?_)
  · rcases h with ⟨rfl, _⟩ | ⟨d, ks, rfl, _⟩ <;> rfl
  · have hr2 := hr
    have hr1 := hr.mono (by decide : 1 ≤ 2)
    refine ⟨_, (pss_cons (ps_if (pt_cmpR op_isN (pv 0) pe_non (nomark _))
        (pss_one (ps_ret pe_bl))
        pss_nil)
      (pss_cons (ps_if (PW.pt (pw_or (pt_not (pt_val (pe_callB (call_isTy (T := "dict")) (by rfl) B.isinstance (by decide +kernel) (pa_cons (pv 0) (pa_cons (pe_ty (T := "dict") B.dict (by decide +kernel)) pa_nil))))) (pw_or1 (pt_cmpR op_gt (pe_callB call_lenD (by rfl) B.len (by decide +kernel) (pa_cons (pv 0) pa_nil)) (pe_glob (v := .int 3) rfl gM ⟨_, rfl⟩) (nomark _)))))
        (pss_one (ps_ret pe_bl))
        pss_nil)
      (pss_one (ps_ret (pe_lock (pe_callB (cr_allB rfl) (by rfl) B.all (by decide +kernel) (pa_cons (pe_lc (own := [("mark", 1)]) (g := gName 1) rfl scCnt.nd (pi_keys (pv 0)) (blkOk_by (own := [("mark", 1)]) (N := NCnt) (sc := defScope sCnt) (by decide +kernel)) (fun _ _ _ _ _ => pg_name (i := 1) scCnt.nd rfl (Or.inl rfl)) (fun _ _ _ _ _ => pts_nil) (fun _ _ _ _ _ => (pe_and (pc Dis_mark Gis_mark hr2 (pa_cons (pv 1) pa_nil)) (pe_one (pc Dis_number Gis_number hr1 (pa_cons (pe_dget (hu_of hr) (pv 0) (pv 1) (fun _ _ => rfl)) (pa_cons pe_int (pa_cons pe_int pa_nil)))))))) pa_nil))))))), ?_⟩
    rcases h with ⟨rfl, q⟩ | ⟨d, ks, rfl, hd, hz, nd, hx, q⟩
    · walk_at "rd"
      exact q
    · walk_at "rd"
      refine ⟨"dict", (by show tyO (H d) = _; rw [hd]; rfl), true, by decide +kernel, iteF ⟨_, hd, ?_⟩⟩
      rw [List.length_map]
      by_cases h3 : (3 : Int) < (ks.length : Int)
      · rw [if_pos h3]
        have z := q H (Same.refl H)
        rw [decide_eq_false (by omega), Bool.false_and] at z
        exact z
      rw [if_neg h3]
      refine ⟨d, _, hd, trivial, fun od => ⟨od, .inl ⟨_, upd_same, ?_⟩⟩⟩
      refine lcB_imap walk_keysAt (fun H' s => s _ _ upd_same) (by rw [List.length_map, List.length_map]; exact hz) (fun i => .bl (atF ks cntOk i)) (fun _ => rfl) (fun i x H' R hxi sm r => ?_) (fun D H2 hD s2 hl => ?_)
      · rw [List.getElem?_map, List.getElem?_map] at hxi
        obtain ⟨e0, he0, rfl⟩ := Option.map_eq_some_iff.mp hxi
        obtain ⟨e, he, rfl⟩ := Option.map_eq_some_iff.mp he0
        refine ⟨_, rfl, e.1, rfl, hx e (List.mem_of_getElem? he), fun H3 s3 => ⟨_, rfl, ?_⟩⟩
        have z := r H3 s3
        rw [atF_at he] at z
        have z2 : R (.bl (isMark e.1 && (decide (1 ≤ e.2) && decide (e.2 ≤ 3)))) H3 := z
        cases e1 : (isWord (.str e.1) && !decide (e.1 = "goal")) with
        | false =>
          have e2 : isMark e.1 = false := e1
          rw [e2, Bool.false_and] at z2
          exact iteF z2
        | true =>
          have e2 : isMark e.1 = true := e1
          rw [e2, Bool.true_and] at z2
          exact iteT ⟨_, rfl, _, rfl, d, .int e.2, rfl, .inl ⟨_, Sum.inr e.1, .inr ⟨od, s3 _ _ (sm _ _ upd_same)⟩, rfl, (val_at nd he).symm⟩, e.2, 1, 3, rfl, z2⟩
      · refine ⟨D, rfl, (List.range ks.length).map (atF ks cntOk), by rw [hl, List.length_map, List.length_map, List.map_map]; rfl, s2 _ _ upd_same, ?_⟩
        have z := q _ (same_unlock hd s2)
        rw [decide_eq_true (by omega), Bool.true_and] at z
        rw [all_range ks cntOk]
        exact z
end
end My

set_option Elab.async false
set_option linter.all false
set_option maxRecDepth 100000
set_option maxHeartbeats 2000000
namespace My
open PySem PySem.Spec PyProof.Rows L2
/-! ### tuples of which it is known that they have no dict, and dict(tuple of pairs) -/
/-- a tuple, known exactly, without a dict -/
def TupF (H : Hp) (a : Addr) (xs : List V) : Prop := ∃ o : Obj, H a = some (.frz o (.tup xs)) ∧ o.dict = none
section
variable {X : Cx} {pos : Pos} {es : List Expr}
def tTupF (t : TA) : TE := fun σ H Q => t σ H fun xs H1 => xs.length ≤ sizeLine ∧ ∀ (p : Addr) (o : Obj), H1 p = none → o.dict = none → Q (.ref p) (upd H1 p (.frz o (.tup xs)))
theorem pe_tupF {x1} {t : TA} (h : PA X es t) : PE X (.Tuple es x1 pos) (tTupF t) := by
  constructor
  intro pins s σ H Q I hq
  refine wpAny_Tuple_spliced (thn (h.run pos pins s σ H _ I hq) fun us st ⟨xs, Hn, In, rv, len, wish⟩ => ⟨rv.length ▸ len, ?_⟩)
  have new := In.hok.fresh (Nat.le_refl st.heap.objs.size)
  have there : (st.heap.push { cls := .type "tuple", data := .seq us.toArray }).get? st.heap.objs.size = some { cls := .type "tuple", data := .seq us.toArray } := Heap.get?_push_size _ rfl
  exact ⟨.ref st.heap.objs.size, _, In.laid (o := .frz { cls := .type "tuple", data := .seq us.toArray } (.tup xs)) (t' := st.toks) (fun c o => Heap.get?_push_of_some _) (Nat.le_refl _) ⟨there, len, us, rv, _, there, rfl, _, rfl⟩, rfl, wish _ _ new rfl⟩
def rTupF (K : PySem.W.Frag) : List V → Hp → VK → Prop := fun xs H Q => ∃ (p : Addr) (ys : List V), xs = [.ref p] ∧ SqL K H p ys ∧ ∀ (l : Addr) (o : Obj), H l = none → o.dict = none → Q (.ref l) (upd H l (.frz o (.tup ys)))
theorem call_tupF : CallR X (.type "tuple") (rTupF X.K) := by
  intro pins s σ H xs us Q I rel ⟨p, ys, one, src, wish⟩
  subst one
  obtain ⟨u, e, rv⟩ := vals1 rel
  subst e
  cases rv
  obtain ⟨its, rv, lst, fit⟩ := I.list src
  have len := rv.length
  refine call_tuple_list lst.isList (fun hp keep => ?_) (by rw [List.size_toArray]; omega)
  have J : Inv X pins σ H { s with heap := hp } := I.kept (t' := s.toks) keep
  have there : (hp.push { cls := .type "tuple", data := .seq its.toArray }).get? hp.objs.size = some { cls := .type "tuple", data := .seq its.toArray } := Heap.get?_push_size _ rfl
  exact ⟨.ref hp.objs.size, _, J.laid (o := .frz { cls := .type "tuple", data := .seq its.toArray } (.tup ys)) (t' := s.toks) (fun c o => Heap.get?_push_of_some _) (Nat.le_refl _) ⟨there, fit, its, rv, _, there, rfl, _, rfl⟩, rfl, wish _ _ (J.hok.fresh (Nat.le_refl _)) rfl⟩
/-- the pairs as they lie in the heap -/
theorem pairs_at {pins : List (Addr × Obj)} {σ : L2.St} {H : Hp} {s : Shared} (I : Inv X pins σ H s) {ps : List Addr} {kvs : List (Key × V)} (h : Paired (fun p kv => SqT X.K H p [kV kv.1, kv.2]) ps kvs) :
    ∃ (prs : List (Key × Value)) (vps : List (Value × Value)), KV kvs prs ∧ prs.length = ps.length ∧ vps.length = ps.length ∧ ∀ (j : Nat) (k v : Value), vps[j]? = some (k, v) → ∃ (b : Addr) (kk : Key), ps[j]? = some b ∧ s.heap.IsTuple b #[k, v] ∧ prs[j]? = some (kk, v) ∧ keyIs kk k = true := by
  induction h with
  | nil => exact ⟨[], [], .nil, rfl, rfl, fun j k v e => by simp at e⟩
  | @cons p kv ps kvs h _ ih =>
    obtain ⟨prs, vps, r, l1, l2, q⟩ := ih
    obtain ⟨its, rv, tp, _⟩ := I.tuple h
    obtain ⟨u, y, e, ru, ry⟩ := vals2 rv
    subst e
    refine ⟨(kv.1, y) :: prs, (u, y) :: vps, .cons ⟨rfl, ry⟩ r, by rw [List.length_cons, List.length_cons, l1], by rw [List.length_cons, List.length_cons, l2], fun j k v e => ?_⟩
    cases j with
    | zero =>
      obtain ⟨rfl, rfl⟩ := Prod.mk.inj (Option.some.inj e)
      exact ⟨p, kv.1, rfl, tp, rfl, kV_is (P := X.prog) (w := X.w) ru⟩
    | succ j =>
      obtain ⟨b, kk, e1, e2, e3, e4⟩ := q j k v (by simpa using e)
      exact ⟨b, kk, by simpa using e1, e2, by simpa using e3, e4⟩
/-- dict(t), t a tuple of pairs -/
def rDictT (K : PySem.W.Frag) : List V → Hp → VK → Prop := fun xs H Q => ∃ (a : Addr) (ps : List Addr) (kvs : List (Key × V)), xs = [.ref a] ∧ TupF H a (ps.map V.ref) ∧ Paired (fun p kv => SqT K H p [kV kv.1, kv.2]) ps kvs ∧
    ∀ p, H p = none → Q (.ref p) (upd H p (.dK (mergeK [] kvs)))
theorem call_dictT (calm : X.calm = true) : CallR X (.type "dict") (rDictT X.K) := by
  intro pins s σ H xs us Q I rel ⟨a, ps, kvs, one, ⟨o, at_, noD⟩, prs0, wish⟩
  subst one
  obtain ⟨u, e, rv⟩ := vals1 rel
  subst e
  cases rv
  obtain ⟨there, fit, its, rv, o2, g2, cls, n, dat⟩ := I.hok a _ at_
  rw [there] at g2
  cases g2
  have e := refs_at rv
  subst e
  rw [List.length_map] at fit
  obtain ⟨prs, vps, kv, l1, l2, q⟩ := pairs_at I prs0
  have items : PairItems s.heap (ps.map Value.ref).toArray (fun j => ps.getD j 0) vps := by
    refine ⟨by simp [l2], fun j k v e => ?_⟩
    obtain ⟨b, kk, e1, e2, _, _⟩ := q j k v e
    have e3 : ps.getD j 0 = b := by rw [List.getD_eq_getElem?_getD, e1]; rfl
    dsimp only
    rw [e3]
    exact ⟨by simp [e1], .inl e2⟩
  have have_ : PairsHave (mixKind X.prog X.w) vps.length (PairRel vps) prs := ⟨by rw [l1, l2], fun i key v e => by
    obtain ⟨b, kk, _, _, e3, e4⟩ := q i key v e
    exact ⟨kk, e3, e4⟩⟩
  refine PySem.call_dict_pairs (knd := mixKind X.prog X.w) (PairArg.tuple a (ps.map Value.ref).toArray (fun j => ps.getD j 0) vps) (I.ok.hd calm) ⟨⟨o, n, there, cls, noD, dat⟩, items⟩ have_ (by rw [l2]; exact fit) fun hp tk dd keep => ?_
  have nm : (s.heap.objs.size == sysModules) = false := beq_eq_false_iff_ne.mpr (Nat.ne_of_gt I.big)
  have few : (mergeK [] kvs).length ≤ sizeLine := by
    refine Nat.le_trans (length_mergeK kvs []) ?_
    rw [List.length_nil, Nat.zero_add, kv.length, l1]
    exact fit
  exact ⟨.ref s.heap.objs.size, _, I.laid (o := .dK (mergeK [] kvs)) (t' := tk) (fun b o e => keep b o (fun z => nomatch z) e) (Nat.le_refl _) ⟨few, nm, merged [] prs, KV.merge kv .nil, dd⟩, rfl, wish _ (I.hok.fresh (Nat.le_refl _))⟩
end
end My

set_option Elab.async false
set_option linter.all false
set_option maxRecDepth 100000
set_option maxHeartbeats 2000000
namespace My
open PySem PySem.Spec PyProof.Rows L2
def CntV (H : Hp) (v : V) (ks : List (Str × Int)) : Prop := (v = .non ∧ ks = []) ∨ ∃ a, v = .ref a ∧ H a = some (.dK (ks.map entK))
theorem CntV.same {H H' : Hp} {v : V} {ks : List (Str × Int)} (h : CntV H v ks) (s : Same H H') : CntV H' v ks := h.imp id fun ⟨a, e, z⟩ => ⟨a, e, s _ _ z⟩
/-- a tuple of texts in order -/
def TupTx (H : Hp) (t : Addr) (ws : List Str) : Prop := ∃ ys : List Str, ys.Perm ws ∧ sortedS ys = true ∧ H t = some (.tup (ys.map V.str))
def TupCn (H : Hp) (t : Addr) (ks : List (Str × Int)) : Prop := ∃ (ps : List Addr) (ys : List (Str × Int)), ys.Perm ks ∧ ys.Pairwise (fun e f => ltCps f.1.cps.toList e.1.cps.toList = false) ∧ TupF H t (ps.map V.ref) ∧ Paired (fun b e => H b = some (.tup [.str e.1, .int e.2])) ps ys

/-- tuple(sorted(x)), x the list or tuple of texts in slot i -/
def tTupS (K : PySem.W.Frag) (i : Nat) : TE := fun σ H Q => ∃ (a : Addr) (ws : List Str), σ[i]? = some (some (.ref a)) ∧ Row K H a (ws.map V.str) ∧ ws.length < 64 ∧ ∀ (t : Addr) (H' : Hp), Same H H' → TupTx H' t ws → Q (.ref t) H'
abbrev rTupOf (K : PySem.W.Frag) : List V → Hp → VK → Prop := fun xs H Q => ∃ p ys, xs = [V.ref p] ∧ ((SqL K H p ys ∧ ∀ l, H l = none → Q (.ref l) (upd H l (.tup ys))) ∨ (SqT K H p ys ∧ Q (.ref p) H))
theorem tupS_imp {K : PySem.W.Frag} {i : Nat} : ∀ σ H Q, tTupS K i σ H Q → tCB (rTupOf K) (tCons (tCB (rSortTx K) (tCons (tVar i) tNil)) tNil) σ H Q := by
  rintro σ H Q ⟨a, ws, hi, hr, few, q⟩
  refine ⟨_, hi, a, ws, rfl, hr.sq, few, fun ys p perm srt hp => ⟨p, ys.map V.str, rfl, .inl ⟨SqL.of upd_same, fun l hl => ?_⟩⟩⟩
  exact q l _ (My.Same.new' (My.Same.new (Same.refl H) hp) hl) ⟨ys, perm, srt, upd_same⟩
/-- tuple(x), x a list or a tuple -/
def tTupO (K : PySem.W.Frag) (i : Nat) : TE := fun σ H Q => ∃ (a : Addr) (xs : List V), σ[i]? = some (some (.ref a)) ∧ Row K H a xs ∧ ∀ (t : Addr) (H' : Hp), Same H H' → Tp K H' t xs → Q (.ref t) H'
theorem tupO_imp {K : PySem.W.Frag} {i : Nat} : ∀ σ H Q, tTupO K i σ H Q → tCB (rTupOf K) (tCons (tVar i) tNil) σ H Q := by
  rintro σ H Q ⟨a, xs, hi, hr, q⟩
  refine ⟨_, hi, a, xs, rfl, ?_⟩
  rcases hr with hr | hr | hr
  · exact .inl ⟨SqL.of hr, fun l hl => q l _ (My.Same.new (Same.refl H) hl) (.inl upd_same)⟩
  · exact .inr ⟨SqT.of hr, q a H (Same.refl H) (.inl hr)⟩
  · exact .inr ⟨hr.sq, q a H (Same.refl H) (.inr hr)⟩
/-- () if x is None else tuple(sorted(x.items())) -/
def tAsk (i : Nat) : TE := fun σ H Q => ∃ (v : V) (ks : List (Str × Int)), σ[i]? = some (some v) ∧ CntV H v ks ∧ ks.length < 64 ∧ ∀ (t : Addr) (H' : Hp), Same H H' → TupCn H' t ks → Q (.ref t) H'
theorem ask_imp {K : PySem.W.Frag} {i : Nat} : ∀ σ H Q, tAsk i σ H Q → tIf (tTest (tOp (fun x y H Q => y = .non ∧ Q (.bl (decide (x = .non))) H) (tVar i) (tC .non))) (tTupF tNil) (tCB (rTupF K) (tCons (tCB rSortItK (tCons (tBM0 K "dict" rItemsK (tVar i)) tNil)) tNil)) σ H Q := by
  rintro σ H Q ⟨v, ks, hi, hc, few, q⟩
  refine ⟨_, hi, rfl, _, rfl, ?_⟩
  rcases hc with ⟨rfl, rfl⟩ | ⟨a, rfl, ha⟩
  · have e : decide (V.non = V.non) = true := by simp
    rw [e]
    refine iteT ⟨Nat.zero_le _, fun p o hp nd => q p _ (My.Same.new (Same.refl H) hp) ⟨[], [], .nil, .nil, ⟨o, upd_same, nd⟩, .nil⟩⟩
  · have e : decide (V.ref a = V.non) = false := by simp
    rw [e]
    refine iteF ⟨_, hi, .inr (.inr (.inl ⟨rfl, .inl ⟨_, ha⟩⟩)), a, _, rfl, rfl, ha, fun p hp => ?_⟩
    have na : a ≠ p := ne_of_none ha hp
    refine ⟨p, a, ks, rfl, upd_same, (by rw [upd_ne na]; exact ha), few, fun H2 l ps ys s2 hl perm srt h2 hps => ⟨l, ps.map V.ref, rfl, SqL.of h2, fun t ob ht nd => ?_⟩⟩
    have s3 := My.Same.new' (o := .frz ob (.tup (ps.map V.ref))) ((My.Same.new (o := DX.itemsO p a) (Same.refl H) hp).trans s2) ht
    exact q t _ s3 ⟨ps, ys, perm, srt, ⟨ob, upd_same, nd⟩, Paired.mono (fun b e h => by rw [upd_ne (ne_of_none h ht)]; exact h) hps⟩
/-- all stands but the object x, an instance with these fields -/
structure Mx (x C dx : Addr) (fs : List (Str × V)) (H0 H : Hp) : Prop where
  sb : ∀ b o, b ≠ x → H0 b = some o → H b = some o
  at_ : H x = some (.ins C dx fs)
theorem Mx.same {x C dx : Addr} {fs : List (Str × V)} {H0 H H' : Hp} (m : Mx x C dx fs H0 H) (s : Same H H') : Mx x C dx fs H0 H' := ⟨fun b o n h => s b o (m.sb b o n h), s _ _ m.at_⟩
theorem Mx.put {x C dx : Addr} {fs fs' : List (Str × V)} {H0 H : Hp} (m : Mx x C dx fs H0 H) : Mx x C dx fs' H0 (upd H x (.ins C dx fs')) := ⟨fun b o n h => by rw [upd_ne n]; exact m.sb b o n h, upd_same⟩
theorem Mx.start {x C dx : Addr} {fs : List (Str × V)} {H0 H : Hp} (s : Same H0 H) (h : H0 x = some (.ins C dx fs)) : Mx x C dx fs H0 H := ⟨fun b o _ z => s b o z, s _ _ h⟩
theorem Row.mx {K : PySem.W.Frag} {x C dx : Addr} {fs fs0 : List (Str × V)} {H H' : Hp} {a : Addr} {xs : List V} (h : Row K H a xs) (hx : H x = some (.ins C dx fs0)) (m : Mx x C dx fs H H') : Row K H' a xs := by
  exact h.imp (fun z => m.sb _ _ (ne_of z hx (by intro y; cases y)) z) fun z => z.imp (fun z => m.sb _ _ (ne_of z hx (by intro y; cases y)) z) id
theorem CntV.mx {x C dx : Addr} {fs fs0 : List (Str × V)} {H H' : Hp} {v : V} {ks : List (Str × Int)} (h : CntV H v ks) (hx : H x = some (.ins C dx fs0)) (m : Mx x C dx fs H H') : CntV H' v ks := by
  refine h.imp id fun ⟨a, e, z⟩ => ⟨a, e, m.sb _ _ (ne_of z hx (by intro y; cases y)) z⟩
/-- from one heap to a later one, x apart -/
def Rx (x : Addr) (H H' : Hp) : Prop := ∀ b o, b ≠ x → H b = some o → H' b = some o
theorem Rx.put {x : Addr} {H H' : Hp} {o : HO} (s : Same (upd H x o) H') : Rx x H H' := fun b u n h => s b u (by rw [upd_ne n]; exact h)
theorem Tp.rx {K : PySem.W.Frag} {x C dx t : Addr} {fs : List (Str × V)} {H H' : Hp} {xs : List V} (h : Tp K H t xs) (hx : H x = some (.ins C dx fs)) (r : Rx x H H') : Tp K H' t xs := h.imp (fun z => r _ _ (ne_of z hx (by intro y; cases y)) z) id
theorem TupTx.rx {x C dx t : Addr} {fs : List (Str × V)} {H H' : Hp} {ws : List Str} (h : TupTx H t ws) (hx : H x = some (.ins C dx fs)) (r : Rx x H H') : TupTx H' t ws := by
  obtain ⟨ys, a, b, c⟩ := h
  exact ⟨ys, a, b, r _ _ (ne_of c hx (by intro z; cases z)) c⟩
theorem TupCn.rx {x C dx t : Addr} {fs : List (Str × V)} {H H' : Hp} {ks : List (Str × Int)} (h : TupCn H t ks) (hx : H x = some (.ins C dx fs)) (r : Rx x H H') : TupCn H' t ks := by
  obtain ⟨ps, ys, a, b, c, e⟩ := h
  obtain ⟨o, c, nd⟩ := c
  exact ⟨ps, ys, a, b, ⟨o, r _ _ (ne_of c hx (by intro z; cases z)) c, nd⟩, Paired.mono (fun p q z => r _ _ (ne_of z hx (by intro y; cases y)) z) e⟩
end My

set_option Elab.async false
set_option linter.all false
set_option maxRecDepth 100000
set_option maxHeartbeats 4000000
namespace My
open PySem PySem.Spec PyProof.Rows L2
theorem rd_bm0 {K : PySem.W.Frag} {T : String} {r : V → List V → Hp → VK → Prop} {to : TE} {σ : L2.St} {H : Hp} {Q : VK} : tBM0 K T r to σ H Q = to σ H fun x H1 => tyV K T x H1 ∧ r x [] H1 Q := rfl
local macro_rules | `(tactic| walk_at "rd") => `(tactic| simp only [rd_seq, rd_next, rd_brk, rd_cont, rd_asg, rd_gname, rd_var, rd_c, rd_op, rd_un, rd_rI0, rd_rI, rd_rU, rd_test, rd_B, rd_and, rd_or, rd_not, rd_andV, rd_orV, rd_notV, rd_ifx, rd_ifs, rd_drop, rd_ret, rd_nil, rd_cons, rd_cb, rd_tup, rd_lst, rd_call, rd_bm, rd_app, rd_ixLst, rd_ixSq, rd_lenL, rd_lenSq, rd_setLst, rd_sub, rd_neNil, rd_isStr, rd_dg, rd_dp, rd_mk, rd_sl, rd_noP, rd_part, rd_slL, rd_cat, rd_lcL, rd_lcE, rd_lcA, rd_lcEA, rd_isTy, rd_inRow, rd_bm0, rd_rz, rd_lockE, rd_lcK, rd_dgetD, rd_ixTp, rd_lenUn,  L2.valV_put, rd_fldS, rd_eq, rd_ne, rd_fldE, rd_allB, rd_isBl, rd_inS, rd_chain, rd_chain', L2.wipe, Int.reduceToNat, Int.reduceLE, Int.reduceLT, Nat.reduceLT, Nat.reduceLeDiff, Int.reduceNeg, Int.toNat_natCast, Int.reduceAdd, L2.start, and_assoc, exists_and_left, List.map_cons, List.map_nil, List.length_cons, List.length_nil, List.cons_append, List.nil_append, List.append_nil, List.replicate_succ, List.replicate_zero, List.replicate, List.set_cons_zero, List.set_cons_succ, List.getElem?_cons_zero, List.getElem?_cons_succ, Option.some.injEq, exists_eq_left', exists_eq_left, exists_eq, V.int.injEq, V.ref.injEq, V.str.injEq, V.bl.injEq, HO.lst.injEq, HO.tup.injEq, ex_bl, List.cons.injEq, and_true, true_and, Nat.reduceAdd, Nat.reduceSub, reduceCtorEq, false_and, or_false, exists_false, false_or, decide_eq_true_eq, if_true, if_false, Bool.false_eq_true, Bool.not_true, Bool.not_false, upd_same])
local macro_rules | `(tactic| walk_at "rdh") => `(tactic| simp only [rd_seq, rd_next, rd_brk, rd_cont, rd_asg, rd_gname, rd_var, rd_c, rd_op, rd_un, rd_rI0, rd_rI, rd_rU, rd_test, rd_B, rd_and, rd_or, rd_not, rd_andV, rd_orV, rd_notV, rd_ifx, rd_ifs, rd_drop, rd_ret, rd_nil, rd_cons, rd_cb, rd_tup, rd_lst, rd_call, rd_bm, rd_app, rd_ixLst, rd_ixSq, rd_lenL, rd_lenSq, rd_setLst, rd_sub, rd_neNil, rd_isStr, rd_dg, rd_dp, rd_mk, rd_sl, rd_noP, rd_part, rd_slL, rd_cat, rd_lcL, rd_lcE, rd_lcA, rd_lcEA, rd_isTy, rd_inRow, rd_bm0, rd_rz, rd_lockE, rd_lcK, rd_dgetD, rd_ixTp, rd_lenUn,  L2.valV_put, rd_fldS, rd_eq, rd_ne, rd_fldE, rd_allB, rd_isBl, rd_inS, rd_chain, rd_chain', L2.wipe, Int.reduceToNat, Int.reduceLE, Int.reduceLT, Nat.reduceLT, Nat.reduceLeDiff, Int.reduceNeg, Int.toNat_natCast, Int.reduceAdd, L2.start, and_assoc, exists_and_left, List.map_cons, List.map_nil, List.length_cons, List.length_nil, List.cons_append, List.nil_append, List.append_nil, List.replicate_succ, List.replicate_zero, List.replicate, List.set_cons_zero, List.set_cons_succ, List.getElem?_cons_zero, List.getElem?_cons_succ, Option.some.injEq, exists_eq_left', exists_eq_left, exists_eq, V.int.injEq, V.ref.injEq, V.str.injEq, V.bl.injEq, HO.lst.injEq, HO.tup.injEq, ex_bl, List.cons.injEq, and_true, true_and, Nat.reduceAdd, Nat.reduceSub, reduceCtorEq, false_and, or_false, exists_false, false_or, decide_eq_true_eq, if_true, if_false, Bool.false_eq_true, Bool.not_true, Bool.not_false, upd_same, *])
abbrev sBD : Stmt := inClass (topI 2) 0
abbrev sDI : Stmt := inClass (topI 17) 0
theorem scBD : FnScope ["self", "part"] ["self", "part"] (defScope sBD) := ⟨rfl, rfl, rfl, by decide +kernel, rfl, by decide +kernel, by decide +kernel⟩
abbrev NDI : List Str := ["self", "word", "opens", "answers", "whose", "asks", "pays", "card", "goals", "steps"]
theorem scDI : FnScope NDI ["self", "word", "opens", "answers", "whose", "asks", "pays", "card", "goals", "steps"] (defScope sDI) := ⟨rfl, rfl, rfl, by decide +kernel, rfl, by decide +kernel, by decide +kernel⟩
section
variable {P : Program} {w : World} {K : PySem.W.Frag} {mg : Str → Option Value} {base : Heap}
theorem ok_bd (TB : Xc K mg "BadDeed" "part" "BadDeed.__init__" sBD) : FnOk P w K mg base CX0 1 TB.fI TB.fd ["self", "part"] (spXi TB.C "part") := by
  refine TB.F.ok scBD (fun vs H Q E h => ?_) (fun cdv A outer s H vs Q E hr h => ?_)
  · obtain ⟨a, v, rfl, _⟩ := h
    rfl
  · obtain ⟨a, v, rfl, ha, q⟩ := h
    refine ⟨_, pss_one (ps_ost (pv 0) (pv 1)), ?_⟩
    exact ⟨v, rfl, .ref a, rfl, a, TB.C, rfl, TB.oex, TB.no, .inl ⟨ha, fun dx hdx hne => q dx hdx hne⟩⟩
/-- a deed's parts -/
structure Dv where
  word : Str
  opens : Bool
  ans : List Str
  whose : Str
  asks : List (Str × Int)
  pays : List (Str × Int)
  card : Bool
  goals : List Str
  steps : List Stp
  deriving DecidableEq
def okWords (m : Nat) (ws : List Str) : Prop := ws.length ≤ m ∧ ws.Nodup ∧ ∀ x ∈ ws, isWord (.str x) = true
def okCounts (ks : List (Str × Int)) : Prop := ks.length ≤ 3 ∧ (ks.map (·.1)).Nodup ∧ ∀ e ∈ ks, cntOk e = true ∧ e.1.length ≤ 1000
structure Dv.Ok (d : Dv) : Prop where
  word : isWord (.str d.word) = true
  ans : okWords 6 d.ans
  whose : hasS ["any", "own", "other"] (.str d.whose) = true
  asks : okCounts d.asks
  pays : okCounts d.pays
  goals : okWords 2 d.goals
  goal : d.goals.contains "goal" = false
  few : d.steps.length ≤ 4
  steps : stepsOk (decide (0 < d.goals.length)) d.steps = true
def dfs (d : Dv) (ta tk tp tg ts : Addr) : List (Str × V) := putF "_steps" (.ref ts) (putF "_goals" (.ref tg) (putF "_pays" (.ref tp) (putF "_asks" (.ref tk) (putF "_answers" (.ref ta) (putF "card" (.bl d.card) (putF "whose" (.str d.whose) (putF "opens" (.bl d.opens) (putF "word" (.str d.word) []))))))))
def spDI (K : PySem.W.Frag) (C : Addr) : Sp := fun vs H Q E => ∃ (x dx an go st : Addr) (ps : List Addr) (aV pV : V) (d : Dv), vs = [.ref x, .str d.word, .bl d.opens, .ref an, .str d.whose, aV, pV, .bl d.card, .ref go, .ref st] ∧ H x = some (.ins C dx []) ∧ d.Ok ∧
  Row K H an (d.ans.map V.str) ∧ CntV H aV d.asks ∧ CntV H pV d.pays ∧ Row K H go (d.goals.map V.str) ∧ Row K H st (ps.map V.ref) ∧ Paired (StpAt H) ps d.steps ∧
  ∀ (H' : Hp) (ta tk tp tg ts : Addr), H' x = some (.ins C dx (dfs d ta tk tp tg ts)) → (∀ b o, b ≠ x → H b = some o → H' b = some o) → TupTx H' ta d.ans → TupCn H' tk d.asks → TupCn H' tp d.pays → TupTx H' tg d.goals → Tp K H' ts (ps.map V.ref) → Q .non H'
structure DdT (K : PySem.W.Frag) (C : Addr) : Prop where
  cl : Cls K C
  n : ∀ f ∈ (["word", "opens", "whose", "card", "_answers", "_asks", "_pays", "_goals", "_steps"] : List Str), NoAttr K C f
theorem word_len {x : Str} (h : isWord (.str x) = true) : x.length ≤ 1000 := by
  have h1 : ((decide (1 ≤ x.length) && decide (x.length ≤ 8)) && _) = true := h
  have h2 := (Bool.and_eq_true_iff.mp (Bool.and_eq_true_iff.mp h1).1).2
  have := of_decide_eq_true h2
  omega
theorem words_true {m : Nat} {ws : List Str} (h : okWords m ws) : (decide ((ws.length : Int) ≤ (m : Int)) && (ws.all (fun x => isWord (.str x)) && decide (dn ws ws.length = ws.length))) = true := by
  rw [decide_eq_true (by have := h.1; omega), decide_eq_true (dn_nodup h.2.1 _ (Nat.le_refl _)), List.all_eq_true.mpr h.2.2]
  rfl
theorem counts_true {ks : List (Str × Int)} (h : okCounts ks) : (decide (ks.length ≤ 3) && ks.all cntOk) = true := by
  rw [decide_eq_true h.1, List.all_eq_true.mpr fun e he => (h.2.2 e he).1]
  rfl
/-- are_counts of what is right -/
theorem cnt_ok {H : Hp} {v : V} {ks : List (Str × Int)} {Q : VK} (h : CntV H v ks) (ok : okCounts ks) (q : ∀ H', Same H H' → Q (.bl true) H') : spCnt [v] H Q E0 := by
  rcases h with ⟨rfl, rfl⟩ | ⟨a, rfl, ha⟩
  · exact .inl ⟨rfl, q H (Same.refl H)⟩
  · exact .inr ⟨a, ks, rfl, ha, by have := ok.1; omega, ok.2.1, fun e he => (ok.2.2 e he).2, fun H' s => by rw [counts_true ok]; exact q H' s⟩
theorem ok_di {f C : Addr} {fd : FuncData} (TD : DdT K C) {kws : List (Str × V)} (F : FunD K "__init__" "Deed.__init__" (defArgs sDI) (defBody sDI) (defScope sDI) [] kws f fd) (B : Bn mg) (TB : Xc K mg "BadDeed" "part" "BadDeed.__init__" sBD)
    (Dis_word : Df K mg "is_word" sWrd ["value"]) (Gis_word : FnOk P w K mg base CX0 1 Dis_word.f Dis_word.fd ["value"] spWrd) (Dis_one_of : Df K mg "is_one_of" sOne ["value", "words"]) (Gis_one_of : FnOk P w K mg base CX0 1 Dis_one_of.f Dis_one_of.fd ["value", "words"] (spOne K))
    (Dare_words : Df K mg "are_words" sWds ["value", "most"]) (Gare_words : FnOk P w K mg base CX0 2 Dare_words.f Dare_words.fd ["value", "most"] (spWds K)) (Dare_counts : Df K mg "are_counts" sCnt ["value"]) (Gare_counts : FnOk P w K mg base CX0 3 Dare_counts.f Dare_counts.fd ["value"] spCnt)
    (Dare_steps : Df K mg "are_steps" sSts ["value", "has_goals"]) (Gare_steps : FnOk P w K mg base CX0 4 Dare_steps.f Dare_steps.fd ["value", "has_goals"] (spSts K)) :
    FnOk P w K mg base (L2.CX P w) 5 f fd ["self", "word", "opens", "answers", "whose", "asks", "pays", "card", "goals", "steps"] (spDI K C) := by
  refine F.ok scDI (fun vs H Q E h => ?_) (fun cdv A outer s H vs Q E hr h => ?_)
  · obtain ⟨x, dx, an, go, st, ps, aV, pV, d, rfl, _⟩ := h
    rfl
  obtain ⟨x, dx, an, go, st, ps, aV, pV, d, rfl, hx, ok, ha, hk, hp, hg, hs, hst, q⟩ := h
  have hr4 := hr
  have hr3 := hr.mono (by decide : 3 ≤ 4)
  have hr2 := hr.mono (by decide : 2 ≤ 4)
  have hr1 := hr.mono (by decide : 1 ≤ 4)
  have hrB := hr2
  have GB := ok_bd (P := P) (w := w) (base := base) TB
  refine ⟨_, (pss_cons (ps_if (pt_not (pt_val (pc Dis_word Gis_word hr1 (pa_cons (pv 1) pa_nil))))
        (pss_one (ps_rz (W := fun cls d _ H => E cls d H) TB (by exact GB) rfl hrB (takes_of rfl rfl rfl rfl)))
        pss_nil)
      (pss_cons (ps_if (pt_not (pt_val (pe_callB call_isBl (by rfl) B.isinstance (by decide +kernel) (pa_cons (pv 2) (pa_cons (pe_tyBool B.bool) pa_nil)))))
        (pss_one (ps_rz (W := fun cls d _ H => E cls d H) TB (by exact GB) rfl hrB (takes_of rfl rfl rfl rfl)))
        pss_nil)
      (pss_cons (ps_if (pt_not (pt_val (pc Dare_words Gare_words hr2 (pa_cons (pv 3) (pa_cons pe_int pa_nil)))))
        (pss_one (ps_rz (W := fun cls d _ H => E cls d H) TB (by exact GB) rfl hrB (takes_of rfl rfl rfl rfl)))
        pss_nil)
      (pss_cons (ps_if (pt_not (pt_val (pc Dis_one_of Gis_one_of hr1 (pa_cons (pv 4) (pa_cons (pe_tup (pa_cons pe_str (pa_cons pe_str (pa_cons pe_str pa_nil)))) pa_nil)))))
        (pss_one (ps_rz (W := fun cls d _ H => E cls d H) TB (by exact GB) rfl hrB (takes_of rfl rfl rfl rfl)))
        pss_nil)
      (pss_cons (ps_if (pt_not (pt_val (pc Dare_counts Gare_counts hr3 (pa_cons (pv 5) pa_nil))))
        (pss_one (ps_rz (W := fun cls d _ H => E cls d H) TB (by exact GB) rfl hrB (takes_of rfl rfl rfl rfl)))
        pss_nil)
      (pss_cons (ps_if (pt_not (pt_val (pc Dare_counts Gare_counts hr3 (pa_cons (pv 6) pa_nil))))
        (pss_one (ps_rz (W := fun cls d _ H => E cls d H) TB (by exact GB) rfl hrB (takes_of rfl rfl rfl rfl)))
        pss_nil)
      (pss_cons (ps_if (pt_not (pt_val (pe_callB call_isBl (by rfl) B.isinstance (by decide +kernel) (pa_cons (pv 7) (pa_cons (pe_tyBool B.bool) pa_nil)))))
        (pss_one (ps_rz (W := fun cls d _ H => E cls d H) TB (by exact GB) rfl hrB (takes_of rfl rfl rfl rfl)))
        pss_nil)
      (pss_cons (ps_if (PW.pt (pw_or (pt_not (pt_val (pc Dare_words Gare_words hr2 (pa_cons (pv 8) (pa_cons pe_int pa_nil))))) (pw_or1 (pt_cmpR op_inRow pe_str (pv 8) (by rfl)))))
        (pss_one (ps_rz (W := fun cls d _ H => E cls d H) TB (by exact GB) rfl hrB (takes_of rfl rfl rfl rfl)))
        pss_nil)
      (pss_cons (ps_if (pt_not (pt_val (pc Dare_steps Gare_steps hr4 (pa_cons (pv 9) (pa_cons (pe_cmpR op_gt (pe_callB call_len_seq (by rfl) B.len (by decide +kernel) (pa_cons (pv 8) pa_nil)) pe_int (nomark _)) pa_nil)))))
        (pss_one (ps_rz (W := fun cls d _ H => E cls d H) TB (by exact GB) rfl hrB (takes_of rfl rfl rfl rfl)))
        pss_nil)
      (pss_cons (ps_fld (pv 0) (pv 1) rfl)
      (pss_cons (ps_fld (pv 0) (pv 2) rfl)
      (pss_cons (ps_fld (pv 0) (pv 4) rfl)
      (pss_cons (ps_fld (pv 0) (pv 7) rfl)
      (pss_cons (ps_fld (pv 0) ((pe_callTy call_tuple_of (by rfl) B.tuple (by decide +kernel) (pa_cons (pe_callB cr_sortTx (by rfl) B.sorted (by decide +kernel) (pa_cons (pv 3) pa_nil)) pa_nil)).imp tupS_imp) rfl)
      (pss_cons (ps_fld (pv 0) ((pe_ifExp (pt_cmpR op_isN (pv 5) pe_non (nomark _)) (pe_tupF pa_nil) (pe_callTy call_tupF (by rfl) B.tuple (by decide +kernel) (pa_cons (pe_callB (cr_sortedItK rfl) (by rfl) B.sorted (by decide +kernel) (pa_cons (pe_bm0 PySem.F.plainAttrs_dict PySem.F.slot_dict_items PySem.F.type_dict_items mt_itemsK (pv 5)) pa_nil)) pa_nil))).imp ask_imp) rfl)
      (pss_cons (ps_fld (pv 0) ((pe_ifExp (pt_cmpR op_isN (pv 6) pe_non (nomark _)) (pe_tupF pa_nil) (pe_callTy call_tupF (by rfl) B.tuple (by decide +kernel) (pa_cons (pe_callB (cr_sortedItK rfl) (by rfl) B.sorted (by decide +kernel) (pa_cons (pe_bm0 PySem.F.plainAttrs_dict PySem.F.slot_dict_items PySem.F.type_dict_items mt_itemsK (pv 6)) pa_nil)) pa_nil))).imp ask_imp) rfl)
      (pss_cons (ps_fld (pv 0) ((pe_callTy call_tuple_of (by rfl) B.tuple (by decide +kernel) (pa_cons (pe_callB cr_sortTx (by rfl) B.sorted (by decide +kernel) (pa_cons (pv 8) pa_nil)) pa_nil)).imp tupS_imp) rfl)
      (pss_one (ps_fld (pv 0) ((pe_callTy call_tuple_of (by rfl) B.tuple (by decide +kernel) (pa_cons (pv 9) pa_nil)).imp tupO_imp) rfl))))))))))))))))))), ?_⟩
  walk_at "rd"
  refine ⟨_, rfl, rfl, (fun y e => by cases e; exact word_len ok.word), fun H1 s1 => ⟨_, rfl, ?_⟩⟩
  rw [ok.word]
  refine iteF ?_
  refine ⟨rfl, iteF ?_⟩
  have w6 : (decide ((d.ans.length : Int) ≤ 6) && (d.ans.all (fun x => isWord (.str x)) && decide (dn d.ans d.ans.length = d.ans.length))) = true := words_true (m := 6) ok.ans
  have w2 : (decide ((d.goals.length : Int) ≤ 2) && (d.goals.all (fun x => isWord (.str x)) && decide (dn d.goals d.goals.length = d.goals.length))) = true := words_true (m := 2) ok.goals
  refine ⟨an, d.ans, 6, rfl, ha.same s1, (by have := ok.ans.1; omega), fun y hy => word_len (ok.ans.2.2 y hy), fun H2 s2 => ⟨_, rfl, ?_⟩⟩
  rw [w6]
  refine iteF ⟨sz (by decide), fun p1 hp1 => ⟨.str d.whose, p1, ["any", "own", "other"], rfl, rfl, SqT.of upd_same, _, rfl, ?_⟩⟩
  rw [ok.whose]
  refine iteF ?_
  have s3 := My.Same.new' (o := .tup [.str "any", .str "own", .str "other"]) (s1.trans s2) hp1
  refine cnt_ok (hk.same s3) ok.asks fun H4 s4 => ⟨_, rfl, iteF ?_⟩
  have s34 := s3.trans s4
  refine cnt_ok (hp.same s34) ok.pays fun H5 s5 => ⟨_, rfl, iteF ⟨rfl, iteF ?_⟩⟩
  have s35 := s34.trans s5
  refine ⟨go, d.goals, 2, rfl, hg.same s35, (by have := ok.goals.1; omega), fun y hy => word_len (ok.goals.2.2 y hy), fun H6 s6 => ⟨_, rfl, ?_⟩⟩
  rw [w2]
  have s36 := s35.trans s6
  refine iteF ⟨d.goals, hg.same s36, ?_⟩
  rw [ok.goal]
  have len : ps.length = d.steps.length := Paired.length hst
  have few := ok.few
  have st1 : (decide (d.steps.length ≤ 4) && stepsOk (decide ((0 : Int) < ((d.goals.map V.str).length : Int))) d.steps) = true := by
    have e : decide ((0 : Int) < ((d.goals.map V.str).length : Int)) = decide (0 < d.goals.length) := by
      rw [List.length_map]
      by_cases h : 0 < d.goals.length
      · rw [decide_eq_true h]; exact decide_eq_true (by omega)
      · rw [decide_eq_false h]; exact decide_eq_false (by omega)
    rw [decide_eq_true few, e, ok.steps]
    rfl
  refine iteF ⟨d.goals.map V.str, (hg.same s36).sq, st, ps, d.steps, _, rfl, hs.same s36, (by omega), Paired.mono (fun a b h => ⟨s36 _ _ h.1, h.2⟩) hst, fun H7 s7 => ⟨_, rfl, ?_⟩⟩
  rw [st1]
  have s37 := s36.trans s7
  refine iteF ⟨C, dx, [], s37 _ _ hx, TD.cl, TD.n _ (by decide), (by decide), C, dx, _, rfl, TD.cl, TD.n _ (by decide), (by show 1 < 1000; decide), C, dx, _, rfl, TD.cl, TD.n _ (by decide), (by show 2 < 1000; decide), C, dx, _, rfl, TD.cl, TD.n _ (by decide), (by show 3 < 1000; decide), ?_⟩
  have M8 := ((((Mx.start s37 hx).put (fs' := putF "word" (.str d.word) [])).put (fs' := putF "opens" (.bl d.opens) (putF "word" (.str d.word) []))).put (fs' := putF "whose" (.str d.whose) (putF "opens" (.bl d.opens) (putF "word" (.str d.word) [])))).put (fs' := putF "card" (.bl d.card) (putF "whose" (.str d.whose) (putF "opens" (.bl d.opens) (putF "word" (.str d.word) []))))
  have la := ok.ans.1
  have lg := ok.goals.1
  have lk := ok.asks.1
  have lp := ok.pays.1
  refine ⟨an, d.ans, rfl, ha.mx hx M8, (by omega), fun ta H9 s9 hta => ?_⟩
  have M9 := M8.same s9
  refine ⟨C, dx, _, M9.at_, TD.cl, TD.n _ (by decide), (by show 4 < 1000; decide), ?_⟩
  refine ⟨aV, d.asks, rfl, hk.mx hx (M9.put (fs' := _)), (by omega), fun tk H10 s10 htk => ?_⟩
  have M10 := M9.put.same s10
  have hta := hta.rx M9.at_ (Rx.put s10)
  refine ⟨C, dx, _, M10.at_, TD.cl, TD.n _ (by decide), (by show 5 < 1000; decide), ?_⟩
  refine ⟨pV, d.pays, rfl, hp.mx hx (M10.put (fs' := _)), (by omega), fun tp H11 s11 htp => ?_⟩
  have M11 := M10.put.same s11
  have hta := hta.rx M10.at_ (Rx.put s11)
  have htk := htk.rx M10.at_ (Rx.put s11)
  refine ⟨C, dx, _, M11.at_, TD.cl, TD.n _ (by decide), (by show 6 < 1000; decide), ?_⟩
  refine ⟨go, d.goals, rfl, hg.mx hx (M11.put (fs' := _)), (by omega), fun tg H12 s12 htg => ?_⟩
  have M12 := M11.put.same s12
  have hta := hta.rx M11.at_ (Rx.put s12)
  have htk := htk.rx M11.at_ (Rx.put s12)
  have htp := htp.rx M11.at_ (Rx.put s12)
  refine ⟨C, dx, _, M12.at_, TD.cl, TD.n _ (by decide), (by show 7 < 1000; decide), ?_⟩
  refine ⟨st, ps.map V.ref, rfl, hs.mx hx (M12.put (fs' := _)), fun ts H13 s13 hts => ?_⟩
  have M13 := M12.put.same s13
  have hta := hta.rx M12.at_ (Rx.put s13)
  have htk := htk.rx M12.at_ (Rx.put s13)
  have htp := htp.rx M12.at_ (Rx.put s13)
  have htg := htg.rx M12.at_ (Rx.put s13)
  refine ⟨C, dx, _, M13.at_, TD.cl, TD.n _ (by decide), (by show 8 < 1000; decide), ?_⟩
  have M14 := M13.put (fs' := dfs d ta tk tp tg ts)
  have rl : Rx x H13 (upd H13 x (.ins C dx (dfs d ta tk tp tg ts))) := fun b o n h => by rw [upd_ne n]; exact h
  refine q _ ta tk tp tg ts upd_same (fun b o n h => M14.sb b o n h) (hta.rx M13.at_ rl) (htk.rx M13.at_ rl) (htp.rx M13.at_ rl) (htg.rx M13.at_ rl) (hts.rx M13.at_ rl)
end
end My

set_option Elab.async false
set_option linter.all false
set_option maxRecDepth 100000
set_option maxHeartbeats 2000000
namespace My
open PySem PySem.Spec PyProof.Rows L2
/-! ### tuples of texts, numbers and such tuples: == is equality -/
mutual
def plD : PyData → Bool
  | .str _ => true
  | .int _ => true
  | .tuple xs => plA xs
  | _ => false
def plA : List PyData → Bool
  | [] => true
  | x :: xs => plD x && plA xs
end
mutual
theorem eqv_pl : ∀ d e : PyData, plD d = true → plD e = true → (PyData.eqv d e = true ↔ d = e)
  | .str x, .str y, _, _ => by simp [PyData.eqv]
  | .int x, .int y, _, _ => by simp [PyData.eqv]
  | .str x, .int y, _, _ => by simp [PyData.eqv]
  | .int x, .str y, _, _ => by simp [PyData.eqv]
  | .str x, .tuple y, _, _ => by simp [PyData.eqv]
  | .int x, .tuple y, _, _ => by simp [PyData.eqv]
  | .tuple x, .str y, _, _ => by simp [PyData.eqv]
  | .tuple x, .int y, _, _ => by simp [PyData.eqv]
  | .tuple xs, .tuple ys, h1, h2 => by
    have z := eqvA_pl xs ys (by simpa [plD] using h1) (by simpa [plD] using h2)
    simp only [PyData.eqv, PyData.tuple.injEq]
    exact z
  | .none, _, h, _ => by simp [plD] at h
  | .bool _, _, h, _ => by simp [plD] at h
  | .list _, _, h, _ => by simp [plD] at h
  | .dict _, _, h, _ => by simp [plD] at h
  | _, .none, _, h => by simp [plD] at h
  | _, .bool _, _, h => by simp [plD] at h
  | _, .list _, _, h => by simp [plD] at h
  | _, .dict _, _, h => by simp [plD] at h
theorem eqvA_pl : ∀ d e : List PyData, plA d = true → plA e = true → (PyData.eqvAll d e = true ↔ d = e)
  | [], [], _, _ => by simp [PyData.eqvAll]
  | [], _ :: _, _, _ => by simp [PyData.eqvAll]
  | _ :: _, [], _, _ => by simp [PyData.eqvAll]
  | x :: xs, y :: ys, h1, h2 => by
    obtain ⟨a1, a2⟩ := Bool.and_eq_true_iff.mp (by simpa [plA] using h1 : (plD x && plA xs) = true)
    obtain ⟨b1, b2⟩ := Bool.and_eq_true_iff.mp (by simpa [plA] using h2 : (plD y && plA ys) = true)
    have z1 := eqv_pl x y a1 b1
    have z2 := eqvA_pl xs ys a2 b2
    simp only [PyData.eqvAll, Bool.and_eq_true, List.cons.injEq]
    exact and_congr z1 z2
end
theorem eqv_dec {d e : PyData} (h1 : plD d = true) (h2 : plD e = true) {p : Prop} [Decidable p] (h : d = e ↔ p) : PyData.eqv d e = decide p := by
  apply Bool.eq_iff_iff.mpr
  rw [eqv_pl d e h1 h2, h, decide_eq_true_eq]
/-- the data of a tuple of texts, of pairs -/
def dTx (ws : List Str) : PyData := .tuple (ws.map .str)
def dCn (ks : List (Str × Int)) : PyData := .tuple (ks.map fun e => .tuple [.str e.1, .int e.2])
theorem pl_tx : ∀ ws : List Str, plA (ws.map .str) = true
  | [] => by simp [plA]
  | w :: ws => by simp [plA, plD, pl_tx ws]
theorem pl_cn : ∀ ks : List (Str × Int), plA (ks.map fun e => .tuple [.str e.1, .int e.2]) = true
  | [] => by simp [plA]
  | w :: ws => by simp [plA, plD, pl_cn ws]
theorem map_inj {α β : Type} {f : α → β} (hf : ∀ a b, f a = f b → a = b) : ∀ {l r : List α}, l.map f = r.map f → l = r
  | [], [], _ => rfl
  | [], _ :: _, h => by simp at h
  | _ :: _, [], h => by simp at h
  | a :: l, b :: r, h => by
    rw [List.map_cons, List.map_cons] at h
    injection h with h1 h2
    rw [hf a b h1, map_inj hf h2]
theorem tx_inj {ws vs : List Str} : dTx ws = dTx vs ↔ ws = vs := by
  unfold dTx
  constructor
  · intro h
    have h2 := PyData.tuple.inj h
    exact map_inj (fun a b z => PyData.str.inj z) h2
  · intro h
    rw [h]
theorem cn_inj {ks ls : List (Str × Int)} : dCn ks = dCn ls ↔ ks = ls := by
  unfold dCn
  constructor
  · intro h
    have h2 := PyData.tuple.inj h
    refine map_inj (fun a b z => ?_) h2
    have z2 := PyData.tuple.inj z
    injection z2 with z3 z4
    injection z4 with z5 _
    exact Prod.ext (PyData.str.inj z3) (PyData.int.inj z5)
  · intro h
    rw [h]
theorem lay_tx : ∀ {ws : List Str}, (∀ x ∈ ws, x.cps.all (· < 0x110000) = true) → PyData.canLayAll0 (ws.map .str) = true ∧ PyData.depthAll (ws.map .str) = 0
  | [], _ => by simp [PyData.canLayAll0, PyData.depthAll]
  | w :: ws, h => by
    obtain ⟨a, b⟩ := lay_tx (ws := ws) fun x hx => h x (List.mem_cons_of_mem _ hx)
    have c : PyData.strOk w = true := h w (List.mem_cons_self ..)
    simp [PyData.canLayAll0, PyData.canLay0, PyData.depthAll, PyData.depth, a, b, c]
theorem lay_cn : ∀ {ks : List (Str × Int)}, (∀ e ∈ ks, e.1.cps.all (· < 0x110000) = true) → PyData.canLayAll0 (ks.map fun e => .tuple [.str e.1, .int e.2]) = true ∧ PyData.depthAll (ks.map fun e => .tuple [.str e.1, .int e.2]) ≤ 1
  | [], _ => by simp [PyData.canLayAll0, PyData.depthAll]
  | e :: ks, h => by
    obtain ⟨a, b⟩ := lay_cn (ks := ks) fun x hx => h x (List.mem_cons_of_mem _ hx)
    have c : PyData.strOk e.1 = true := h e (List.mem_cons_self ..)
    simp [PyData.canLayAll0, PyData.canLay0, PyData.depthAll, PyData.depth, a, b, c]
theorem shaped_tx {ws : List Str} (h : ∀ x ∈ ws, x.cps.all (· < 0x110000) = true) : SeqAt.shaped (dTx ws) = true := by
  obtain ⟨a, b⟩ := lay_tx h
  unfold SeqAt.shaped dTx
  simp [PyData.canLay0, PyData.depth, a, b]
theorem shaped_cn {ks : List (Str × Int)} (h : ∀ e ∈ ks, e.1.cps.all (· < 0x110000) = true) : SeqAt.shaped (dCn ks) = true := by
  obtain ⟨a, b⟩ := lay_cn h
  unfold SeqAt.shaped dCn
  simp [PyData.canLay0, PyData.depth, a]
  omega
theorem dp_tx {K : PySem.W.Frag} {H : Hp} {t : Addr} {ws : List Str} (h : H t = some (.tup (ws.map V.str))) : Dp K H (.ref t) (dTx ws) := by
  refine .tup (SqT.of h) ?_
  clear h
  induction ws with
  | nil => exact .nil
  | cons w ws ih => exact .cons (.str w) ih
theorem dp_cn {K : PySem.W.Frag} {H : Hp} {t : Addr} {ps : List Addr} {ks : List (Str × Int)} (h : H t = some (.tup (ps.map V.ref))) (hp : Paired (fun b e => H b = some (.tup [.str e.1, .int e.2])) ps ks) : Dp K H (.ref t) (dCn ks) := by
  refine .tup (SqT.of h) ?_
  clear h
  induction hp with
  | nil => exact .nil
  | cons h _ ih => exact .cons (.tup (SqT.of h) (.cons (.str _) (.cons (.int _) .nil))) ih
theorem TupF.sqT {K : PySem.W.Frag} {H : Hp} {t : Addr} {xs : List V} (h : TupF H t xs) : SqT K H t xs := let ⟨o, h, _⟩ := h; .inl (.inr ⟨o, h⟩)
theorem TupF.same {H H' : Hp} {t : Addr} {xs : List V} (h : TupF H t xs) (s : Same H H') : TupF H' t xs := let ⟨o, h, n⟩ := h; ⟨o, s _ _ h, n⟩
theorem dp_cnF {K : PySem.W.Frag} {H : Hp} {t : Addr} {ps : List Addr} {ks : List (Str × Int)} (h : TupF H t (ps.map V.ref)) (hp : Paired (fun b e => H b = some (.tup [.str e.1, .int e.2])) ps ks) : Dp K H (.ref t) (dCn ks) := by
  refine .tup h.sqT ?_
  clear h
  induction hp with
  | nil => exact .nil
  | cons h _ ih => exact .cons (.tup (SqT.of h) (.cons (.str _) (.cons (.int _) .nil))) ih
end My

set_option Elab.async false
set_option linter.all false
set_option maxRecDepth 100000
set_option maxHeartbeats 4000000
namespace My
open PySem PySem.Spec PyProof.Rows L2
/-! ### a deed as it stands, its parts in order -/
theorem dfs_wo (d : Dv) (ta tk tp tg ts : Addr) : (dfs d ta tk tp tg ts).lookup ("word" : Str) = some (.str d.word) := by
  unfold dfs
  simp only [lookup_putF]
  rfl
theorem dfs_op (d : Dv) (ta tk tp tg ts : Addr) : (dfs d ta tk tp tg ts).lookup ("opens" : Str) = some (.bl d.opens) := by
  unfold dfs
  simp only [lookup_putF]
  rfl
theorem dfs_wh (d : Dv) (ta tk tp tg ts : Addr) : (dfs d ta tk tp tg ts).lookup ("whose" : Str) = some (.str d.whose) := by
  unfold dfs
  simp only [lookup_putF]
  rfl
theorem dfs_ca (d : Dv) (ta tk tp tg ts : Addr) : (dfs d ta tk tp tg ts).lookup ("card" : Str) = some (.bl d.card) := by
  unfold dfs
  simp only [lookup_putF]
  rfl
theorem dfs_an (d : Dv) (ta tk tp tg ts : Addr) : (dfs d ta tk tp tg ts).lookup ("_answers" : Str) = some (.ref ta) := by
  unfold dfs
  simp only [lookup_putF]
  rfl
theorem dfs_as (d : Dv) (ta tk tp tg ts : Addr) : (dfs d ta tk tp tg ts).lookup ("_asks" : Str) = some (.ref tk) := by
  unfold dfs
  simp only [lookup_putF]
  rfl
theorem dfs_pa (d : Dv) (ta tk tp tg ts : Addr) : (dfs d ta tk tp tg ts).lookup ("_pays" : Str) = some (.ref tp) := by
  unfold dfs
  simp only [lookup_putF]
  rfl
theorem dfs_go (d : Dv) (ta tk tp tg ts : Addr) : (dfs d ta tk tp tg ts).lookup ("_goals" : Str) = some (.ref tg) := by
  unfold dfs
  simp only [lookup_putF]
  rfl
theorem dfs_st (d : Dv) (ta tk tp tg ts : Addr) : (dfs d ta tk tp tg ts).lookup ("_steps" : Str) = some (.ref ts) := by
  unfold dfs
  simp only [lookup_putF]
  rfl

def okCps (x : Str) : Prop := x.cps.all (· < 0x110000) = true
def Stp.data : Stp → PyData
  | .act a => .tuple [.str a]
  | .move d m => .tuple [.str d, .str m]
def Stp.cps : Stp → Prop
  | .act a => okCps a
  | .move d m => okCps d ∧ okCps m
def dSt (sts : List Stp) : PyData := .tuple (sts.map Stp.data)
theorem st_inj {a b : List Stp} : dSt a = dSt b ↔ a = b := by
  unfold dSt
  constructor
  · intro h
    refine map_inj (fun p q z => ?_) (PyData.tuple.inj h)
    cases p <;> cases q <;> simp [Stp.data] at z ⊢ <;> assumption
  · intro h
    rw [h]
theorem pl_st : ∀ sts : List Stp, plA (sts.map Stp.data) = true
  | [] => by simp [plA]
  | s :: sts => by cases s <;> simp [plA, plD, Stp.data, pl_st sts]
theorem lay_st : ∀ {sts : List Stp}, (∀ s ∈ sts, s.cps) → PyData.canLayAll0 (sts.map Stp.data) = true ∧ PyData.depthAll (sts.map Stp.data) ≤ 1
  | [], _ => by simp [PyData.canLayAll0, PyData.depthAll]
  | s :: sts, h => by
    obtain ⟨a, b⟩ := lay_st (sts := sts) fun x hx => h x (List.mem_cons_of_mem _ hx)
    have c := h s (List.mem_cons_self ..)
    cases s with
    | act w =>
      have c1 : PyData.strOk w = true := c
      simp [PyData.canLayAll0, PyData.canLay0, PyData.depthAll, PyData.depth, Stp.data, a, b, c1]
    | move d m =>
      have c1 : PyData.strOk d = true := c.1
      have c2 : PyData.strOk m = true := c.2
      simp [PyData.canLayAll0, PyData.canLay0, PyData.depthAll, PyData.depth, Stp.data, a, b, c1, c2]
theorem shaped_st {sts : List Stp} (h : ∀ s ∈ sts, s.cps) : SeqAt.shaped (dSt sts) = true := by
  obtain ⟨a, b⟩ := lay_st h
  unfold SeqAt.shaped dSt
  simp [PyData.canLay0, PyData.depth, a]
  omega
theorem dp_st {K : PySem.W.Frag} {H : Hp} {t : Addr} {ps : List Addr} {sts : List Stp} (h : Tp K H t (ps.map V.ref)) (hp : Paired (StpAt H) ps sts) : Dp K H (.ref t) (dSt sts) := by
  refine .tup h.sq ?_
  clear h
  induction hp with
  | nil => exact .nil
  | @cons p s _ _ h _ ih =>
    refine .cons ?_ ih
    cases s with
    | act a => exact .tup (SqT.of h.1) (.cons (.str _) .nil)
    | move d m => exact .tup (SqT.of h.1) (.cons (.str _) (.cons (.str _) .nil))
structure Dv.Cps (c : Dv) : Prop where
  ans : ∀ x ∈ c.ans, okCps x
  asks : ∀ e ∈ c.asks, okCps e.1
  pays : ∀ e ∈ c.pays, okCps e.1
  asksN : (c.asks.map (·.1)).Nodup
  paysN : (c.pays.map (·.1)).Nodup
  few : c.ans.length ≤ 6 ∧ c.asks.length ≤ 3 ∧ c.pays.length ≤ 3 ∧ c.goals.length ≤ 2 ∧ c.steps.length ≤ 4
  goals : ∀ x ∈ c.goals, okCps x
  steps : ∀ s ∈ c.steps, s.cps
def PairsAt (H : Hp) (t : Addr) (ks : List (Str × Int)) : Prop := ∃ ps : List Addr, TupF H t (ps.map V.ref) ∧ Paired (fun b e => H b = some (.tup [.str e.1, .int e.2])) ps ks
def DdAt (K : PySem.W.Frag) (H : Hp) (C x : Addr) (c : Dv) : Prop := ∃ (dx ta tk tp tg ts : Addr) (ps : List Addr), H x = some (.ins C dx (dfs c ta tk tp tg ts)) ∧ H ta = some (.tup (c.ans.map V.str)) ∧ PairsAt H tk c.asks ∧ PairsAt H tp c.pays ∧ H tg = some (.tup (c.goals.map V.str)) ∧ Tp K H ts (ps.map V.ref) ∧ Paired (StpAt H) ps c.steps ∧ c.Cps
/-- what isinstance asks of the class -/
structure DdI (K : PySem.W.Frag) (C : Addr) : Prop where
  ha : PySem.W.findIn K (.ref C) "__class__" = some (some (.builtin "object.__class__"))
  hn : PySem.W.specialIn K (.builtin "object.__class__") "__get__" = some (some (.builtin "getset_descriptor.__get__"))
  ht : PySem.W.takesIn K (.builtin "object.__class__") = some true
  hm : PySem.W.mroIn K C (.type "object") = some true
  kS : PySem.W.kitOne K (.type "str") (.ref C) = some false
  kI : PySem.W.kitOne K (.type "int") (.ref C) = some false
  kC : PySem.W.kitOne K (.ref C) (.ref C) = some true
def rIsD (C : Addr) : List V → Hp → VK → Prop := fun vs H Q => ∃ y, vs = [y, .ref C] ∧ ((∃ z, y = .str z ∧ Q (.bl false) H) ∨ (∃ z, y = .int z ∧ Q (.bl false) H) ∨ ∃ x dx fs, y = .ref x ∧ H x = some (.ins C dx fs) ∧ Q (.bl true) H)
theorem rd_isD {C : Addr} {y c : V} {H : Hp} {Q : VK} : rIsD C [y, c] H Q = (c = .ref C ∧ ((∃ z, y = .str z ∧ Q (.bl false) H) ∨ (∃ z, y = .int z ∧ Q (.bl false) H) ∨ ∃ x dx fs, y = .ref x ∧ H x = some (.ins C dx fs) ∧ Q (.bl true) H)) := by
  simp [rIsD, and_assoc]
theorem call_isD {X : Cx} {C : Addr} (cl : Cls X.K C) (I : DdI X.K C) : CallR X (.builtin "isinstance") (rIsD C) := call_isi.imp fun vs H Q ⟨y, e, h⟩ => by
  rcases h with ⟨z, ez, q⟩ | ⟨z, ez, q⟩ | ⟨x, dx, fs, ex, hx, q⟩
  · subst ez
    exact ⟨_, _, .type "str", .ref C, false, e, .own C, .base (.str z), I.kS, q⟩
  · subst ez
    exact ⟨_, _, .type "int", .ref C, false, e, .own C, .base (.int z), I.kI, q⟩
  · subst ex
    exact ⟨_, _, .ref C, .ref C, true, e, .own C, .base (.ins hx cl I.ha I.hn I.ht I.hm), I.kC, q⟩
local macro_rules | `(tactic| walk_at "rd") => `(tactic| simp only [rd_seq, rd_next, rd_brk, rd_cont, rd_asg, rd_gname, rd_var, rd_c, rd_op, rd_un, rd_rI0, rd_rI, rd_rU, rd_test, rd_B, rd_and, rd_or, rd_not, rd_andV, rd_orV, rd_notV, rd_ifx, rd_ifs, rd_drop, rd_ret, rd_nil, rd_cons, rd_cb, rd_tup, rd_lst, rd_call, rd_bm, rd_app, rd_ixLst, rd_ixSq, rd_lenL, rd_lenSq, rd_setLst, rd_sub, rd_neNil, rd_isStr, rd_dg, rd_dp, rd_mk, rd_sl, rd_noP, rd_part, rd_slL, rd_cat, rd_lcL, rd_lcE, rd_lcA, rd_lcEA, rd_isTy, rd_inRow, rd_bm0, rd_rz, rd_isD, rd_lockE, rd_lcK, rd_dgetD, rd_ixTp, rd_lenUn,  L2.valV_put, rd_fldS, rd_eq, rd_ne, rd_fldE, rd_allB, rd_isBl, rd_inS, rd_chain, rd_chain', L2.wipe, Int.reduceToNat, Int.reduceLE, Int.reduceLT, Nat.reduceLT, Nat.reduceLeDiff, Int.reduceNeg, Int.toNat_natCast, Int.reduceAdd, L2.start, and_assoc, exists_and_left, List.map_cons, List.map_nil, List.length_cons, List.length_nil, List.cons_append, List.nil_append, List.append_nil, List.replicate_succ, List.replicate_zero, List.replicate, List.set_cons_zero, List.set_cons_succ, List.getElem?_cons_zero, List.getElem?_cons_succ, Option.some.injEq, exists_eq_left', exists_eq_left, exists_eq, V.int.injEq, V.ref.injEq, V.str.injEq, V.bl.injEq, HO.lst.injEq, HO.tup.injEq, ex_bl, List.cons.injEq, and_true, true_and, Nat.reduceAdd, Nat.reduceSub, reduceCtorEq, false_and, or_false, exists_false, false_or, decide_eq_true_eq, if_true, if_false, Bool.false_eq_true, Bool.not_true, Bool.not_false, upd_same])
local macro_rules | `(tactic| walk_at "rdh") => `(tactic| simp only [rd_seq, rd_next, rd_brk, rd_cont, rd_asg, rd_gname, rd_var, rd_c, rd_op, rd_un, rd_rI0, rd_rI, rd_rU, rd_test, rd_B, rd_and, rd_or, rd_not, rd_andV, rd_orV, rd_notV, rd_ifx, rd_ifs, rd_drop, rd_ret, rd_nil, rd_cons, rd_cb, rd_tup, rd_lst, rd_call, rd_bm, rd_app, rd_ixLst, rd_ixSq, rd_lenL, rd_lenSq, rd_setLst, rd_sub, rd_neNil, rd_isStr, rd_dg, rd_dp, rd_mk, rd_sl, rd_noP, rd_part, rd_slL, rd_cat, rd_lcL, rd_lcE, rd_lcA, rd_lcEA, rd_isTy, rd_inRow, rd_bm0, rd_rz, rd_isD, rd_lockE, rd_lcK, rd_dgetD, rd_ixTp, rd_lenUn,  L2.valV_put, rd_fldS, rd_eq, rd_ne, rd_fldE, rd_allB, rd_isBl, rd_inS, rd_chain, rd_chain', L2.wipe, Int.reduceToNat, Int.reduceLE, Int.reduceLT, Nat.reduceLT, Nat.reduceLeDiff, Int.reduceNeg, Int.toNat_natCast, Int.reduceAdd, L2.start, and_assoc, exists_and_left, List.map_cons, List.map_nil, List.length_cons, List.length_nil, List.cons_append, List.nil_append, List.append_nil, List.replicate_succ, List.replicate_zero, List.replicate, List.set_cons_zero, List.set_cons_succ, List.getElem?_cons_zero, List.getElem?_cons_succ, Option.some.injEq, exists_eq_left', exists_eq_left, exists_eq, V.int.injEq, V.ref.injEq, V.str.injEq, V.bl.injEq, HO.lst.injEq, HO.tup.injEq, ex_bl, List.cons.injEq, and_true, true_and, Nat.reduceAdd, Nat.reduceSub, reduceCtorEq, false_and, or_false, exists_false, false_or, decide_eq_true_eq, if_true, if_false, Bool.false_eq_true, Bool.not_true, Bool.not_false, upd_same, *])
abbrev sDE : Stmt := inClass (topI 17) 8
abbrev NDE : List Str := ["self", "other"]
theorem scDE : FnScope NDE ["self", "other"] (defScope sDE) := ⟨rfl, rfl, rfl, by decide +kernel, rfl, by decide +kernel, by decide +kernel⟩
def spDE (K : PySem.W.Frag) (C : Addr) : Sp := fun vs H Q _ => ∃ (x : Addr) (c : Dv) (y : V), vs = [.ref x, y] ∧ DdAt K H C x c ∧ ((∃ z, y = .str z ∧ Q (.bl false) H) ∨ (∃ z, y = .int z ∧ Q (.bl false) H) ∨ ∃ y2 c2, y = .ref y2 ∧ DdAt K H C y2 c2 ∧ Q (.bl (decide (c = c2))) H)
section
variable {P : Program} {w : World} {K : PySem.W.Frag} {mg : Str → Option Value} {base : Heap}
theorem ok_de {f C : Addr} {fd : FuncData} (F : Fun K "__eq__" "Deed.__eq__" sDE f fd) (B : Bn mg) (TD : DdT K C) (TI : DdI K C) (gD : mg "Deed" = some (.ref C)) : FnOk P w K mg base CX0 1 f fd ["self", "other"] (spDE K C) := by
  refine F.ok scDE (fun vs H Q E h => ?_) (fun cdv A outer s H vs Q E hr h => ?_)
  · obtain ⟨x, v, y, rfl, _⟩ := h
    rfl
  obtain ⟨x, c, y, rfl, ⟨dx, ta, tk, tp, tg, ts, ps, hx, a1, ⟨p2, a2, b2⟩, ⟨p3, a3, b3⟩, a4, a5, b5, cp⟩, h⟩ := h
  have hu64 := hr.units
  refine ⟨_, (pss_cons (ps_if (pt_not (pt_val (pe_callB (call_isD TD.cl TI) (by rfl) B.isinstance (by decide +kernel) (pa_cons (pv 1) (pa_cons (pe_gR gD) pa_nil)))))
        (pss_one (ps_ret pe_bl))
        pss_nil)
      (pss_cons (ps_if (PW.pt (pw_or (pt_cmpR op_ne (pe_fld (pv 0) rfl) (pe_fld (pv 1) rfl) (nomark _)) (pw_or (pt_cmpR op_ne (pe_fld (pv 0) rfl) (pe_fld (pv 1) rfl) (nomark _)) (pw_or1 (pt_cmpR op_ne (pe_fld (pv 0) rfl) (pe_fld (pv 1) rfl) (nomark _))))))
        (pss_one (ps_ret pe_bl))
        pss_nil)
      (pss_cons (ps_if (PW.pt (pw_or (pt_cmpR op_ne (pe_fld (pv 0) rfl) (pe_fld (pv 1) rfl) (nomark _)) (pw_or (pt_cmpR (op_neD hu64) (pe_fld (pv 0) rfl) (pe_fld (pv 1) rfl) (nomark _)) (pw_or1 (pt_cmpR (op_neD hu64) (pe_fld (pv 0) rfl) (pe_fld (pv 1) rfl) (nomark _))))))
        (pss_one (ps_ret pe_bl))
        pss_nil)
      (pss_cons (ps_if (PW.pt (pw_or (pt_cmpR (op_neD hu64) (pe_fld (pv 0) rfl) (pe_fld (pv 1) rfl) (nomark _)) (pw_or1 (pt_cmpR (op_neD hu64) (pe_fld (pv 0) rfl) (pe_fld (pv 1) rfl) (nomark _)))))
        (pss_one (ps_ret pe_bl))
        pss_nil)
      (pss_one (ps_ret (pe_cmpR (op_eqD hu64) (pe_fld (pv 0) rfl) (pe_fld (pv 1) rfl) (nomark _)))))))), ?_⟩
  walk_at "rd"
  rcases h with ⟨z, rfl, q⟩ | ⟨z, rfl, q⟩ | ⟨y2, c2, rfl, ⟨dy, ua, uk, up, ug, us, qs, hy, e1, ⟨r2, e2, g2⟩, ⟨r3, e3, g3⟩, e4, e5, g5, cq⟩, q⟩
  · exact .inl ⟨z, rfl, q⟩
  · exact .inr (.inl ⟨z, rfl, q⟩)
  refine .inr (.inr ⟨y2, rfl, dy, _, hy, C, dx, _, hx, TD.cl, TD.n "word" (by decide), _, dfs_wo .., y2, rfl, C, dy, _, hy, TD.cl, TD.n "word" (by decide), _, dfs_wo .., rfl, ?_⟩)
  by_cases eword : c.word = c2.word
  case neg =>
    have n : (!decide (V.str c.word = V.str c2.word)) = true := by simp [eword]
    rw [if_pos n]
    rw [decide_eq_false fun z => eword (by rw [z])] at q
    exact q
  have nword : ¬ (!decide (V.str c.word = V.str c2.word)) = true := by simp [eword]
  rw [if_neg nword]
  refine ⟨C, dx, _, hx, TD.cl, TD.n "opens" (by decide), _, dfs_op .., y2, rfl, C, dy, _, hy, TD.cl, TD.n "opens" (by decide), _, dfs_op .., rfl, ?_⟩
  by_cases eopens : c.opens = c2.opens
  case neg =>
    have n : (!decide (V.bl c.opens = V.bl c2.opens)) = true := by simp [eopens]
    rw [if_pos n]
    rw [decide_eq_false fun z => eopens (by rw [z])] at q
    exact q
  have nopens : ¬ (!decide (V.bl c.opens = V.bl c2.opens)) = true := by simp [eopens]
  rw [if_neg nopens]
  refine ⟨C, dx, _, hx, TD.cl, TD.n "whose" (by decide), _, dfs_wh .., y2, rfl, C, dy, _, hy, TD.cl, TD.n "whose" (by decide), _, dfs_wh .., rfl, ?_⟩
  by_cases ewhose : c.whose = c2.whose
  case neg =>
    have n : (!decide (V.str c.whose = V.str c2.whose)) = true := by simp [ewhose]
    rw [if_pos n]
    rw [decide_eq_false fun z => ewhose (by rw [z])] at q
    exact q
  have nwhose : ¬ (!decide (V.str c.whose = V.str c2.whose)) = true := by simp [ewhose]
  rw [if_neg nwhose]
  refine ⟨C, dx, _, hx, TD.cl, TD.n "card" (by decide), _, dfs_ca .., y2, rfl, C, dy, _, hy, TD.cl, TD.n "card" (by decide), _, dfs_ca .., rfl, ?_⟩
  by_cases ecard : c.card = c2.card
  case neg =>
    have n : (!decide (V.bl c.card = V.bl c2.card)) = true := by simp [ecard]
    rw [if_pos n]
    rw [decide_eq_false fun z => ecard (by rw [z])] at q
    exact q
  have ncard : ¬ (!decide (V.bl c.card = V.bl c2.card)) = true := by simp [ecard]
  rw [if_neg ncard]
  refine ⟨C, dx, _, hx, TD.cl, TD.n "_asks" (by decide), _, dfs_as .., y2, rfl, C, dy, _, hy, TD.cl, TD.n "_asks" (by decide), _, dfs_as .., dCn c.asks, dCn c2.asks, (dp_cnF a2 b2), (dp_cnF e2 g2), (shaped_cn cp.asks), (shaped_cn cq.asks), _, rfl, ?_⟩
  rw [eqv_dec (p := c.asks = c2.asks) (by show plA _ = true; exact pl_cn c.asks) (by show plA _ = true; exact pl_cn c2.asks) cn_inj]
  by_cases easks : c.asks = c2.asks
  case neg =>
    have n : (!decide (c.asks = c2.asks)) = true := by simp [easks]
    rw [if_pos n]
    rw [decide_eq_false fun z => easks (by rw [z])] at q
    exact q
  have nasks : ¬ (!decide (c.asks = c2.asks)) = true := by simp [easks]
  rw [if_neg nasks]
  refine ⟨C, dx, _, hx, TD.cl, TD.n "_pays" (by decide), _, dfs_pa .., y2, rfl, C, dy, _, hy, TD.cl, TD.n "_pays" (by decide), _, dfs_pa .., dCn c.pays, dCn c2.pays, (dp_cnF a3 b3), (dp_cnF e3 g3), (shaped_cn cp.pays), (shaped_cn cq.pays), _, rfl, ?_⟩
  rw [eqv_dec (p := c.pays = c2.pays) (by show plA _ = true; exact pl_cn c.pays) (by show plA _ = true; exact pl_cn c2.pays) cn_inj]
  by_cases epays : c.pays = c2.pays
  case neg =>
    have n : (!decide (c.pays = c2.pays)) = true := by simp [epays]
    rw [if_pos n]
    rw [decide_eq_false fun z => epays (by rw [z])] at q
    exact q
  have npays : ¬ (!decide (c.pays = c2.pays)) = true := by simp [epays]
  rw [if_neg npays]
  refine ⟨C, dx, _, hx, TD.cl, TD.n "_answers" (by decide), _, dfs_an .., y2, rfl, C, dy, _, hy, TD.cl, TD.n "_answers" (by decide), _, dfs_an .., dTx c.ans, dTx c2.ans, (dp_tx a1), (dp_tx e1), (shaped_tx cp.ans), (shaped_tx cq.ans), _, rfl, ?_⟩
  rw [eqv_dec (p := c.ans = c2.ans) (by show plA _ = true; exact pl_tx c.ans) (by show plA _ = true; exact pl_tx c2.ans) tx_inj]
  by_cases eans : c.ans = c2.ans
  case neg =>
    have n : (!decide (c.ans = c2.ans)) = true := by simp [eans]
    rw [if_pos n]
    rw [decide_eq_false fun z => eans (by rw [z])] at q
    exact q
  have nans : ¬ (!decide (c.ans = c2.ans)) = true := by simp [eans]
  rw [if_neg nans]
  refine ⟨C, dx, _, hx, TD.cl, TD.n "_goals" (by decide), _, dfs_go .., y2, rfl, C, dy, _, hy, TD.cl, TD.n "_goals" (by decide), _, dfs_go .., dTx c.goals, dTx c2.goals, (dp_tx a4), (dp_tx e4), (shaped_tx cp.goals), (shaped_tx cq.goals), _, rfl, ?_⟩
  rw [eqv_dec (p := c.goals = c2.goals) (by show plA _ = true; exact pl_tx c.goals) (by show plA _ = true; exact pl_tx c2.goals) tx_inj]
  by_cases egoals : c.goals = c2.goals
  case neg =>
    have n : (!decide (c.goals = c2.goals)) = true := by simp [egoals]
    rw [if_pos n]
    rw [decide_eq_false fun z => egoals (by rw [z])] at q
    exact q
  have ngoals : ¬ (!decide (c.goals = c2.goals)) = true := by simp [egoals]
  rw [if_neg ngoals]
  refine ⟨C, dx, _, hx, TD.cl, TD.n "_steps" (by decide), _, dfs_st .., y2, rfl, C, dy, _, hy, TD.cl, TD.n "_steps" (by decide), _, dfs_st .., dSt c.steps, dSt c2.steps, (dp_st a5 b5), (dp_st e5 g5), (shaped_st cp.steps), (shaped_st cq.steps), ?_⟩
  rw [eqv_dec (p := c.steps = c2.steps) (by show plA _ = true; exact pl_st c.steps) (by show plA _ = true; exact pl_st c2.steps) st_inj]
  have e : decide (c = c2) = decide (c.steps = c2.steps) := by
    by_cases es : c.steps = c2.steps
    · rw [decide_eq_true es]
      refine decide_eq_true ?_
      obtain ⟨b1, b2, b3, b4, b5, b6, b7, b8, b9⟩ := c
      obtain ⟨k1, k2, k3, k4, k5, k6, k7, k8, k9⟩ := c2
      simp only at eword eopens ewhose ecard easks epays eans egoals es
      subst eword eopens ewhose ecard easks epays eans egoals es
      rfl
    · rw [decide_eq_false es]
      exact decide_eq_false fun z => es (by rw [z])
  rw [e] at q
  exact q
end
end My

set_option Elab.async false
set_option linter.all false
set_option maxRecDepth 100000
set_option maxHeartbeats 2000000
namespace My
open PySem PySem.Spec PyProof.Rows L2
/-- a def run below the running body -/
theorem run_in {X : Cx} {n : Nat} {f : Addr} {fd : FuncData} {ps : List Str} {sp : Sp} {A : Around} {pins : List (Addr × Obj)} {σ : L2.St} {H : Hp} {s : Shared} {Q : VK} {us : List Value} {vs : List V}
    (F : FnOk X.prog X.w X.K X.mg X.base CX0 n f fd ps sp) (hr : Room n A) (e0 : Env0 X.prog X.w X.K X.mg X.base A X.stack s H) (hb : Binds X.K fd ps []) (I : Inv X pins σ H s) (r : Vals vs us) (h : sp vs H Q E0) :
    wpAny (model X.prog X.w) A (call (.ref f) us) (EP X pins σ Q) X.xe s := by
  have hl : us.length = ps.length := by rw [← r.length]; exact F.len _ _ _ _ h
  have b := hb s us I.kIn (by rw [List.append_nil]; exact hl)
  rw [List.append_nil] at b
  refine wpAny_call (codeAny_mono (F.run A X.stack s H ⟨us, []⟩ us vs Q E0 hr e0 b r h) fun r s' hq => ?_)
  cases r with
  | error e => exact hq.elim
  | ok fl => cases fl with
    | ret u => exact I.after hq
    | next => exact hq.elim
    | brk => exact hq.elim
    | cont => exact hq.elim
/-- the own == of the class at C -/
structure DdE (P : Program) (w : World) (K : PySem.W.Frag) (mg : Str → Option Value) (base : Heap) (C : Addr) where
  f : Addr
  fd : FuncData
  G : FnOk P w K mg base CX0 1 f fd ["self", "other"] (spDE K C)
  b : Binds K fd ["self", "other"] []
  hs : PySem.W.findIn K (.ref C) "__eq__" = some (some (.ref f))
  hf : PySem.W.isFn K (.ref f) = true
  nS : PySem.W.notFirst K C (.type "str") = true
  nI : PySem.W.notFirst K C (.type "int") = true
  cls : ∃ nm q N bs hdct sn sub ab col dd k0 k1 k2 k3 k5 newId oN dN es ep sN oc od fdd osl, K.lookup C = some (excClassObj nm q C N bs [.type "object"] hdct sn sub ab col dd k0 k1 k2 k3 k5 newId) ∧ K.lookup N = some ⟨oN, dN, .dict es ep, sN⟩ ∧ StrKeys es ∧ nsFind es "__eq__" = some (.ref f) ∧ nsFind es "__ne__" = none ∧
    K.lookup f = some ⟨oc, od, fdd, osl⟩ ∧ oc = .type "function"
section
variable {X : Cx} {C : Addr}
def rEqDd (K : PySem.W.Frag) (C : Addr) : R2 := fun x y H Q => ∃ a v, x = .ref a ∧ DdAt K H C a v ∧ ((∃ z, y = .str z ∧ Q (.bl false) H) ∨ (∃ z, y = .int z ∧ Q (.bl false) H) ∨ ∃ b v2, y = .ref b ∧ DdAt K H C b v2 ∧ Q (.bl (decide (v = v2))) H)
def rNeDd (K : PySem.W.Frag) (C : Addr) : R2 := fun x y H Q => ∃ a v b v2, x = .ref a ∧ y = .ref b ∧ DdAt K H C a v ∧ DdAt K H C b v2 ∧ Q (.bl (!decide (v = v2))) H
theorem op_eqDd (W : DdE X.prog X.w X.K X.mg X.base C) (hr : Room 1 X.A) : OpR X (compareOp .Eq) (rEqDd X.K C) := by
  intro pins s σ H x y v u Q I rx ry h
  obtain ⟨a, va, rfl, da, h⟩ := h
  obtain ⟨dx, _, _, _, _, _, _, hx, _⟩ := id da
  cases rx
  obtain ⟨mA, J, _⟩ := ins_get I.hok hx
  obtain ⟨od, J, _⟩ := J.look
  obtain ⟨m, hF⟩ := I.fr
  have fin : ∀ {tb : Value}, PySem.W.Looks (model X.prog X.w) s.heap (typeOf u) tb → PySem.W.notFirst X.K C tb = true → spDE X.K C [.ref a, y] H (fun z H' => (∃ k, z = .bl k) ∧ Q z H') E0 → wpAny (model X.prog X.w) X.A (compareOp .Eq (.ref a) u) (EP X pins σ Q) X.xe s := fun {tb} ht hn q => by
    show wpAny _ _ (richCompare .Eq (.ref a) u) _ _ _
    refine PySem.W.cmp_K (op := .Eq) (tb := tb) hr.units0 hF I.ok.mod.kin J ht hn W.hs W.hf (wpAny_mono (run_in (us := [.ref a, u]) (vs := [.ref a, y]) W.G hr I.env0 W.b I (.cons rfl (.cons ry .nil)) q) (fun z s' hz => ?_) fun _ _ e => e)
    obtain ⟨z', H', I', rz, ⟨k, ek⟩, qz⟩ := hz
    subst ek
    obtain rfl : z = Value.bool k := rz
    exact ⟨.bl k, H', I', rfl, qz⟩
  rcases h with ⟨z, rfl, q⟩ | ⟨z, rfl, q⟩ | ⟨b, vb, rfl, db, q⟩
  · obtain ⟨t, rfl⟩ := ry
    exact fin (PySem.W.Looks.of_pure (typeIs_str s z t)) W.nS ⟨a, va, .str z, rfl, da, .inl ⟨z, rfl, ⟨_, rfl⟩, q⟩⟩
  · obtain ⟨t, rfl⟩ := ry
    exact fin (PySem.W.Looks.of_pure (typeIs_int s z t)) W.nI ⟨a, va, .int z, rfl, da, .inr (.inl ⟨z, rfl, ⟨_, rfl⟩, q⟩)⟩
  · obtain rfl : u = Value.ref b := ry
    obtain ⟨dy, _, _, _, _, _, _, hy, _⟩ := id db
    obtain ⟨mB, J', _⟩ := ins_get I.hok hy
    obtain ⟨od', J', _⟩ := J'.look
    exact fin J'.type (by simp [PySem.W.notFirst]) ⟨a, va, .ref b, rfl, da, .inr (.inr ⟨b, vb, rfl, db, ⟨_, rfl⟩, q⟩)⟩
theorem objEq : typeLookup (.type "object") ("__eq__" : Str) = pure (some (.builtin "object.__eq__")) := by
  rw [typeLookup_type, builtinLookup_eq_fast]
  kernel_rfl
theorem op_neDd (W : DdE X.prog X.w X.K X.mg X.base C) (hr : Room 2 X.A) : OpR X (compareOp .NotEq) (rNeDd X.K C) := by
  intro pins s σ H x y v u Q I rx ry h
  obtain ⟨a, va, b, vb, rfl, rfl, da, db, q⟩ := h
  obtain ⟨dx, _, _, _, _, _, _, hx, _⟩ := id da
  obtain ⟨dy, _, _, _, _, _, _, hy, _⟩ := id db
  cases rx
  cases ry
  obtain ⟨mA, J, _⟩ := ins_get I.hok hx
  obtain ⟨od, J, _⟩ := J.look
  obtain ⟨mB, J', _⟩ := ins_get I.hok hy
  obtain ⟨od', J', _⟩ := J'.look
  obtain ⟨nm, qn, N, bs, hdct, sn, sub, ab, col, dd, k0, k1, k2, k3, k5, newId, oN, dN, es, ep, sN, oc, od2, fdd, osl, hC, hN, sk, e1, e2, hF, ec⟩ := W.cls
  have own : s.heap.OwnEqNoNe a C W.f "object" [.type "object"] := ⟨_, _, nm, qn, N, bs, hdct, sn, sub, ab, col, dd, k0, k1, k2, k3, k5, newId, nsFind es, _, J.1, J.2, I.kIn _ _ hC, ⟨_, es, ep, I.kIn _ _ hN, rfl, sk, fun _ => rfl⟩, e1,
    I.kIn _ _ hF, ec, PySem.F.mro_object, objEq, e2⟩
  obtain ⟨hp, g, d, tk, os⟩ := s
  refine compareOp_ne_ownEq PySem.F.cmp_object own J'.1 J'.2 (Nat.lt_of_lt_of_le (Nat.lt_of_lt_of_le (Nat.add_lt_add_left (by decide : 1 < 64) _) (Nat.le_refl _)) (Nat.le_of_lt hr.units)) ?_
  refine wpAny_mono (run_in (us := [.ref a, .ref b]) (vs := [.ref a, .ref b]) (Q := fun z H' => (∃ k, z = .bl k ∧ Q (.bl (!k)) H')) W.G (Room.in1 hr) I.env0.in1 W.b I (.cons rfl (.cons rfl .nil)) ⟨a, va, .ref b, rfl, da, .inr (.inr ⟨b, vb, rfl, db, _, rfl, q⟩)⟩) (fun z s' hz => ?_) fun _ _ e => e
  obtain ⟨z', H', I', rz, k, ek, qz⟩ := hz
  subst ek
  obtain rfl : z = Value.bool k := rz
  exact ⟨k, rfl, .bl (!k), H', I', rfl, qz⟩
end
end My

set_option Elab.async false
set_option linter.all false
set_option maxRecDepth 100000
set_option maxHeartbeats 2000000
namespace My
open PySem PySem.Spec PyProof.Rows L2
local macro_rules | `(tactic| walk_at "rd") => `(tactic| simp only [rd_seq, rd_next, rd_brk, rd_cont, rd_asg, rd_gname, rd_var, rd_c, rd_op, rd_un, rd_rI0, rd_rI, rd_rU, rd_test, rd_B, rd_and, rd_or, rd_not, rd_andV, rd_orV, rd_notV, rd_ifx, rd_ifs, rd_drop, rd_ret, rd_nil, rd_cons, rd_cb, rd_tup, rd_lst, rd_call, rd_bm, rd_app, rd_ixLst, rd_ixSq, rd_lenL, rd_lenSq, rd_setLst, rd_sub, rd_neNil, rd_isStr, rd_dg, rd_dp, rd_mk, rd_sl, rd_noP, rd_part, rd_slL, rd_cat, rd_lcL, rd_lcE, rd_lcA, rd_lcEA, rd_isTy, rd_inRow, rd_bm0, rd_rz, rd_isD, rd_lockE, rd_lcK, rd_dgetD, rd_ixTp, rd_lenUn,  L2.valV_put, rd_fldS, rd_eq, rd_ne, rd_fldE, rd_allB, rd_isBl, rd_inS, rd_chain, rd_chain', L2.wipe, Int.reduceToNat, Int.reduceLE, Int.reduceLT, Nat.reduceLT, Nat.reduceLeDiff, Int.reduceNeg, Int.toNat_natCast, Int.reduceAdd, L2.start, and_assoc, exists_and_left, List.map_cons, List.map_nil, List.length_cons, List.length_nil, List.cons_append, List.nil_append, List.append_nil, List.replicate_succ, List.replicate_zero, List.replicate, List.set_cons_zero, List.set_cons_succ, List.getElem?_cons_zero, List.getElem?_cons_succ, Option.some.injEq, exists_eq_left', exists_eq_left, exists_eq, V.int.injEq, V.ref.injEq, V.str.injEq, V.bl.injEq, HO.lst.injEq, HO.tup.injEq, ex_bl, List.cons.injEq, and_true, true_and, Nat.reduceAdd, Nat.reduceSub, reduceCtorEq, false_and, or_false, exists_false, false_or, decide_eq_true_eq, if_true, if_false, Bool.false_eq_true, Bool.not_true, Bool.not_false, upd_same])
local macro_rules | `(tactic| walk_at "rdh") => `(tactic| simp only [rd_seq, rd_next, rd_brk, rd_cont, rd_asg, rd_gname, rd_var, rd_c, rd_op, rd_un, rd_rI0, rd_rI, rd_rU, rd_test, rd_B, rd_and, rd_or, rd_not, rd_andV, rd_orV, rd_notV, rd_ifx, rd_ifs, rd_drop, rd_ret, rd_nil, rd_cons, rd_cb, rd_tup, rd_lst, rd_call, rd_bm, rd_app, rd_ixLst, rd_ixSq, rd_lenL, rd_lenSq, rd_setLst, rd_sub, rd_neNil, rd_isStr, rd_dg, rd_dp, rd_mk, rd_sl, rd_noP, rd_part, rd_slL, rd_cat, rd_lcL, rd_lcE, rd_lcA, rd_lcEA, rd_isTy, rd_inRow, rd_bm0, rd_rz, rd_isD, rd_lockE, rd_lcK, rd_dgetD, rd_ixTp, rd_lenUn,  L2.valV_put, rd_fldS, rd_eq, rd_ne, rd_fldE, rd_allB, rd_isBl, rd_inS, rd_chain, rd_chain', L2.wipe, Int.reduceToNat, Int.reduceLE, Int.reduceLT, Nat.reduceLT, Nat.reduceLeDiff, Int.reduceNeg, Int.toNat_natCast, Int.reduceAdd, L2.start, and_assoc, exists_and_left, List.map_cons, List.map_nil, List.length_cons, List.length_nil, List.cons_append, List.nil_append, List.append_nil, List.replicate_succ, List.replicate_zero, List.replicate, List.set_cons_zero, List.set_cons_succ, List.getElem?_cons_zero, List.getElem?_cons_succ, Option.some.injEq, exists_eq_left', exists_eq_left, exists_eq, V.int.injEq, V.ref.injEq, V.str.injEq, V.bl.injEq, HO.lst.injEq, HO.tup.injEq, ex_bl, List.cons.injEq, and_true, true_and, Nat.reduceAdd, Nat.reduceSub, reduceCtorEq, false_and, or_false, exists_false, false_or, decide_eq_true_eq, if_true, if_false, Bool.false_eq_true, Bool.not_true, Bool.not_false, upd_same, *])
abbrev sPAn : Stmt := inClass (topI 17) 1
abbrev NPAn : List Str := ["self"]
theorem scPAn : FnScope NPAn ["self"] (defScope sPAn) := ⟨rfl, rfl, rfl, by decide +kernel, rfl, by decide +kernel, by decide +kernel⟩
def spPAn (K : PySem.W.Frag) (C : Addr) : Sp := fun vs H Q _ => ∃ (x : Addr) (c : Dv), vs = [.ref x] ∧ DdAt K H C x c ∧ ∀ (l : Addr) (H' : Hp), H l = none → Same H H' → H' l = some (.lst (c.ans.map V.str)) → Q (.ref l) H'
theorem ok_pAn {P : Program} {w : World} {K : PySem.W.Frag} {mg : Str → Option Value} {base : Heap} {f C : Addr} {fd : FuncData} (F : Fun K "answers" "Deed.answers" sPAn f fd) (B : Bn mg) (TD : DdT K C) : FnOk P w K mg base CX0 1 f fd ["self"] (spPAn K C) := by
  refine F.ok scPAn (fun vs H Q E h => ?_) (fun cdv A outer s H vs Q E hr h => ?_)
  · obtain ⟨x, c, rfl, _⟩ := h
    rfl
  obtain ⟨x, c, rfl, ⟨dx, ta, tk, tp, tg, ts, ps, hx, a1, ⟨p2, a2, b2⟩, ⟨p3, a3, b3⟩, a4, a5, b5, cp⟩, q⟩ := h
  refine ⟨_, (pss_one (ps_ret (pe_callTy call_list_of (by rfl) B.list (by decide +kernel) (pa_cons (pe_fld (pv 0) rfl) pa_nil)))), ?_⟩
  walk_at "rd"
  refine ⟨C, dx, _, hx, TD.cl, TD.n "_answers" (by decide), _, dfs_an .., _, rfl, _, .inr (SqT.of a1), fun l hl => ?_⟩
  exact q l _ hl (My.Same.new (Same.refl H) hl) upd_same
abbrev sPGo : Stmt := inClass (topI 17) 4
abbrev NPGo : List Str := ["self"]
theorem scPGo : FnScope NPGo ["self"] (defScope sPGo) := ⟨rfl, rfl, rfl, by decide +kernel, rfl, by decide +kernel, by decide +kernel⟩
def spPGo (K : PySem.W.Frag) (C : Addr) : Sp := fun vs H Q _ => ∃ (x : Addr) (c : Dv), vs = [.ref x] ∧ DdAt K H C x c ∧ ∀ (l : Addr) (H' : Hp), H l = none → Same H H' → H' l = some (.lst (c.goals.map V.str)) → Q (.ref l) H'
theorem ok_pGo {P : Program} {w : World} {K : PySem.W.Frag} {mg : Str → Option Value} {base : Heap} {f C : Addr} {fd : FuncData} (F : Fun K "goals" "Deed.goals" sPGo f fd) (B : Bn mg) (TD : DdT K C) : FnOk P w K mg base CX0 1 f fd ["self"] (spPGo K C) := by
  refine F.ok scPGo (fun vs H Q E h => ?_) (fun cdv A outer s H vs Q E hr h => ?_)
  · obtain ⟨x, c, rfl, _⟩ := h
    rfl
  obtain ⟨x, c, rfl, ⟨dx, ta, tk, tp, tg, ts, ps, hx, a1, ⟨p2, a2, b2⟩, ⟨p3, a3, b3⟩, a4, a5, b5, cp⟩, q⟩ := h
  refine ⟨_, (pss_one (ps_ret (pe_callTy call_list_of (by rfl) B.list (by decide +kernel) (pa_cons (pe_fld (pv 0) rfl) pa_nil)))), ?_⟩
  walk_at "rd"
  refine ⟨C, dx, _, hx, TD.cl, TD.n "_goals" (by decide), _, dfs_go .., _, rfl, _, .inr (SqT.of a4), fun l hl => ?_⟩
  exact q l _ hl (My.Same.new (Same.refl H) hl) upd_same
abbrev sPSt : Stmt := inClass (topI 17) 5
abbrev NPSt : List Str := ["self"]
theorem scPSt : FnScope NPSt ["self"] (defScope sPSt) := ⟨rfl, rfl, rfl, by decide +kernel, rfl, by decide +kernel, by decide +kernel⟩
def spPSt (K : PySem.W.Frag) (C : Addr) : Sp := fun vs H Q _ => ∃ (x : Addr) (c : Dv), vs = [.ref x] ∧ DdAt K H C x c ∧ ∀ (l : Addr) (ps : List Addr) (H' : Hp), H l = none → Same H H' → H' l = some (.lst (ps.map V.ref)) → Paired (StpAt H') ps c.steps → Q (.ref l) H'
theorem ok_pSt {P : Program} {w : World} {K : PySem.W.Frag} {mg : Str → Option Value} {base : Heap} {f C : Addr} {fd : FuncData} (F : Fun K "steps" "Deed.steps" sPSt f fd) (B : Bn mg) (TD : DdT K C) : FnOk P w K mg base CX0 1 f fd ["self"] (spPSt K C) := by
  refine F.ok scPSt (fun vs H Q E h => ?_) (fun cdv A outer s H vs Q E hr h => ?_)
  · obtain ⟨x, c, rfl, _⟩ := h
    rfl
  obtain ⟨x, c, rfl, ⟨dx, ta, tk, tp, tg, ts, ps, hx, a1, ⟨p2, a2, b2⟩, ⟨p3, a3, b3⟩, a4, a5, b5, cp⟩, q⟩ := h
  refine ⟨_, (pss_one (ps_ret (pe_callTy call_list_of (by rfl) B.list (by decide +kernel) (pa_cons (pe_fld (pv 0) rfl) pa_nil)))), ?_⟩
  walk_at "rd"
  refine ⟨C, dx, _, hx, TD.cl, TD.n "_steps" (by decide), _, dfs_st .., _, rfl, _, .inr a5.sq, fun l hl => ?_⟩
  exact q l ps _ hl (My.Same.new (Same.refl H) hl) upd_same (Paired.mono (fun a b z => ⟨by rw [upd_ne (ne_of_none z.1 hl)]; exact z.1, z.2⟩) b5)
end My

set_option Elab.async false
set_option linter.all false
set_option maxRecDepth 100000
set_option maxHeartbeats 2000000
namespace My
open PySem PySem.Spec PyProof.Rows L2
theorem rd_ixT {K : PySem.W.Frag} {x y : V} {H : Hp} {Q : VK} : rIxT K x y H Q = ∃ p xs i v, x = .ref p ∧ y = .int i ∧ SqT K H p xs ∧ atI xs i = some v ∧ Q v H := rfl
local macro_rules | `(tactic| walk_at "rd") => `(tactic| simp only [rd_seq, rd_next, rd_brk, rd_cont, rd_asg, rd_gname, rd_var, rd_c, rd_op, rd_un, rd_rI0, rd_rI, rd_rU, rd_test, rd_B, rd_and, rd_or, rd_not, rd_andV, rd_orV, rd_notV, rd_ifx, rd_ifs, rd_drop, rd_ret, rd_nil, rd_cons, rd_cb, rd_tup, rd_lst, rd_call, rd_bm, rd_app, rd_ixLst, rd_ixSq, rd_lenL, rd_lenSq, rd_setLst, rd_sub, rd_neNil, rd_isStr, rd_dg, rd_dp, rd_mk, rd_sl, rd_noP, rd_part, rd_slL, rd_cat, rd_lcL, rd_lcE, rd_lcA, rd_lcEA, rd_isTy, rd_ixT, rd_inRow, rd_bm0, rd_rz, rd_isD, rd_lockE, rd_lcK, rd_dgetD, rd_ixTp, rd_lenUn,  L2.valV_put, rd_fldS, rd_eq, rd_ne, rd_fldE, rd_allB, rd_isBl, rd_inS, rd_chain, rd_chain', L2.wipe, Int.reduceToNat, Int.reduceLE, Int.reduceLT, Nat.reduceLT, Nat.reduceLeDiff, Int.reduceNeg, Int.toNat_natCast, Int.reduceAdd, L2.start, and_assoc, exists_and_left, List.map_cons, List.map_nil, List.length_cons, List.length_nil, List.cons_append, List.nil_append, List.append_nil, List.replicate_succ, List.replicate_zero, List.replicate, List.set_cons_zero, List.set_cons_succ, List.getElem?_cons_zero, List.getElem?_cons_succ, Option.some.injEq, exists_eq_left', exists_eq_left, exists_eq, V.int.injEq, V.ref.injEq, V.str.injEq, V.bl.injEq, HO.lst.injEq, HO.tup.injEq, ex_bl, List.cons.injEq, and_true, true_and, Nat.reduceAdd, Nat.reduceSub, reduceCtorEq, false_and, or_false, exists_false, false_or, decide_eq_true_eq, if_true, if_false, Bool.false_eq_true, Bool.not_true, Bool.not_false, upd_same])
local macro_rules | `(tactic| walk_at "rdh") => `(tactic| simp only [rd_seq, rd_next, rd_brk, rd_cont, rd_asg, rd_gname, rd_var, rd_c, rd_op, rd_un, rd_rI0, rd_rI, rd_rU, rd_test, rd_B, rd_and, rd_or, rd_not, rd_andV, rd_orV, rd_notV, rd_ifx, rd_ifs, rd_drop, rd_ret, rd_nil, rd_cons, rd_cb, rd_tup, rd_lst, rd_call, rd_bm, rd_app, rd_ixLst, rd_ixSq, rd_lenL, rd_lenSq, rd_setLst, rd_sub, rd_neNil, rd_isStr, rd_dg, rd_dp, rd_mk, rd_sl, rd_noP, rd_part, rd_slL, rd_cat, rd_lcL, rd_lcE, rd_lcA, rd_lcEA, rd_isTy, rd_ixT, rd_inRow, rd_bm0, rd_rz, rd_isD, rd_lockE, rd_lcK, rd_dgetD, rd_ixTp, rd_lenUn,  L2.valV_put, rd_fldS, rd_eq, rd_ne, rd_fldE, rd_allB, rd_isBl, rd_inS, rd_chain, rd_chain', L2.wipe, Int.reduceToNat, Int.reduceLE, Int.reduceLT, Nat.reduceLT, Nat.reduceLeDiff, Int.reduceNeg, Int.toNat_natCast, Int.reduceAdd, L2.start, and_assoc, exists_and_left, List.map_cons, List.map_nil, List.length_cons, List.length_nil, List.cons_append, List.nil_append, List.append_nil, List.replicate_succ, List.replicate_zero, List.replicate, List.set_cons_zero, List.set_cons_succ, List.getElem?_cons_zero, List.getElem?_cons_succ, Option.some.injEq, exists_eq_left', exists_eq_left, exists_eq, V.int.injEq, V.ref.injEq, V.str.injEq, V.bl.injEq, HO.lst.injEq, HO.tup.injEq, ex_bl, List.cons.injEq, and_true, true_and, Nat.reduceAdd, Nat.reduceSub, reduceCtorEq, false_and, or_false, exists_false, false_or, decide_eq_true_eq, if_true, if_false, Bool.false_eq_true, Bool.not_true, Bool.not_false, upd_same, *])
abbrev sPa : Stmt := inClass (topI 17) 6
abbrev NPa : List Str := ["self"]
theorem scPa : FnScope NPa ["self"] (defScope sPa) := ⟨rfl, rfl, rfl, by decide +kernel, rfl, by decide +kernel, by decide +kernel⟩
theorem last_of {H : Hp} {ps : List Addr} {sts : List Stp} (h : Paired (StpAt H) ps sts) : (ps = [] ∧ sts = []) ∨ ∃ pl b sl st, ps = pl ++ [b] ∧ sts = sl ++ [st] ∧ StpAt H b st := by
  induction h with
  | nil => exact .inl ⟨rfl, rfl⟩
  | @cons b st l r h1 _ ih =>
    rcases ih with ⟨rfl, rfl⟩ | ⟨pl, b2, sl, st2, rfl, rfl, h2⟩
    · exact .inr ⟨[], b, [], st, rfl, rfl, h1⟩
    · exact .inr ⟨b :: pl, b2, st :: sl, st2, rfl, rfl, h2⟩
/-- the act of a deed's steps -/
def actOf (sts : List Stp) : Str := match sts.getLast? with
  | some (.act a) => a
  | _ => "stay"
def lastAct : Stp → Str
  | .act a => a
  | _ => "stay"
theorem act_last (l : List Stp) (s : Stp) : actOf (l ++ [s]) = lastAct s := by
  unfold actOf
  rw [List.getLast?_append]
  cases s <;> rfl
def spPa (K : PySem.W.Frag) (C : Addr) : Sp := fun vs H Q _ => ∃ (x : Addr) (c : Dv), vs = [.ref x] ∧ DdAt K H C x c ∧ Q (.str (actOf c.steps)) H
theorem ok_pa {P : Program} {w : World} {K : PySem.W.Frag} {mg : Str → Option Value} {base : Heap} {f C : Addr} {fd : FuncData} (F : Fun K "act" "Deed.act" sPa f fd) (B : Bn mg) (TD : DdT K C) : FnOk P w K mg base CX0 1 f fd ["self"] (spPa K C) := by
  refine F.ok scPa (fun vs H Q E h => ?_) (fun cdv A outer s H vs Q E hr h => ?_)
  · obtain ⟨x, c, rfl, _⟩ := h
    rfl
  obtain ⟨x, c, rfl, ⟨dx, ta, tk, tp, tg, ts, ps, hx, a1, ⟨p2, a2, b2⟩, ⟨p3, a3, b3⟩, a4, a5, b5, cp⟩, q⟩ := h
  refine ⟨_, (pss_cons (ps_if (PW.pt (pw_and (pt_truth (pe_fld (pv 0) rfl) (fun _ => rfl)) (pw_and1 (pt_cmpR op_eq (pe_callB call_len_seq (by rfl) B.len (by decide +kernel) (pa_cons (pe_ix ix_tup (pe_fld (pv 0) rfl) (pe_un un_neg pe_int) (fun _ _ => rfl)) pa_nil)) pe_int (nomark _)))))
        (pss_one (ps_ret (pe_ix ix_tp (pe_ix ix_tup (pe_fld (pv 0) rfl) (pe_un un_neg pe_int) (fun _ _ => rfl)) pe_int (fun _ _ => rfl))))
        pss_nil)
      (pss_one (ps_ret pe_str))), ?_⟩
  walk_at "rd"
  refine ⟨C, dx, _, hx, TD.cl, TD.n "_steps" (by decide), _, dfs_st .., ?_⟩
  rcases last_of b5 with ⟨e1, e2⟩ | ⟨pl, b, sl, st, e1, e2, hb⟩
  · refine ⟨false, .inr (.inl ⟨_, a5.sq, by rw [e1]; rfl⟩), iteF ?_⟩
    rw [e2] at q
    exact q
  · have at_ : atI (ps.map V.ref) (-1) = some (.ref b) := by
      rw [e1, List.map_append]
      exact atI_last _ _
    have ea : actOf c.steps = lastAct st := by rw [e2]; exact act_last sl st
    rw [ea] at q
    refine ⟨true, .inr (.inl ⟨_, a5.sq, by rw [e1]; cases pl <;> rfl⟩), iteT ?_⟩
    refine ⟨C, dx, _, hx, TD.cl, TD.n "_steps" (by decide), _, dfs_st .., ts, rfl, _, a5.sq, .ref b, at_, ?_⟩
    have hb1 := hb.1
    cases st with
    | act a =>
      refine ⟨b, rfl, _, .inr (SqT.of hb1), rfl, ?_⟩
      rw [if_pos (by rfl)]
      exact ⟨C, dx, _, hx, TD.cl, TD.n "_steps" (by decide), _, dfs_st .., ts, rfl, _, a5.sq, .ref b, at_, b, rfl, _, hb1, .str a, rfl, q⟩
    | move d m =>
      refine ⟨b, rfl, _, .inr (SqT.of hb1), rfl, ?_⟩
      rw [if_neg (by show ¬ ((2 : Nat) : Int) = 1; decide)]
      exact q
end My

set_option Elab.async false
set_option linter.all false
set_option maxRecDepth 100000
set_option maxHeartbeats 4000000
/-! repr of data with dicts, where only a dict must not be the machine's own -/
namespace PySem
open Sem (wp)
mutual
inductive Rz (h : Heap) : Value → PyData → Prop
  | non : Rz h .none .none
  | bl (b) : Rz h (.bool b) (.bool b)
  | nu (i t) : Rz h (.int i t) (.int i)
  | tx (x t) : Rz h (.str x t) (.str x)
  | li {a o vs n xs} : h.get? a = some o → o.cls = .type "list" → o.data = .seq vs n → RzA h vs.toList xs → Rz h (.ref a) (.list xs)
  | tu {a o vs n xs} : h.get? a = some o → o.cls = .type "tuple" → o.data = .seq vs n → RzA h vs.toList xs → Rz h (.ref a) (.tuple xs)
  | di {a o es n kvs} : (a == sysModules) = false → h.get? a = some o → o.cls = .type "dict" → o.data = .dict es n → RzA h (es.toList.map (·.key)) (kvs.map (·.1)) → RzA h (es.toList.map (·.val)) (kvs.map (·.2)) → Rz h (.ref a) (.dict kvs)
inductive RzA (h : Heap) : List Value → List PyData → Prop
  | nil : RzA h [] []
  | cons {v vs d ds} : Rz h v d → RzA h vs ds → RzA h (v :: vs) (d :: ds)
end
section
variable {prog : Program} {w : World} {h₀ : Heap}
mutual
theorem Rz.rd : ∀ {v : Value} {d : PyData}, Rz h₀ v d → ∃ as, Reads h₀ v d as
  | _, _, .non => ⟨_, .none⟩
  | _, _, .bl b => ⟨_, .bool b⟩
  | _, _, .nu i t => ⟨_, .int i t⟩
  | _, _, .tx x t => ⟨_, .str x t⟩
  | _, _, .li q1 q2 q3 q4 => let ⟨_, z⟩ := RzA.rd q4; ⟨_, .list q1 q2 q3 z⟩
  | _, _, .tu q1 q2 q3 q4 => let ⟨_, z⟩ := RzA.rd q4; ⟨_, .tuple q1 q2 q3 z⟩
  | _, _, .di _ q1 q2 q3 q4 q5 => let ⟨_, z⟩ := RzA.rd q4; let ⟨_, y⟩ := RzA.rd q5; ⟨_, .dict q1 q2 q3 z y⟩
theorem RzA.rd : ∀ {v : List Value} {d : List PyData}, RzA h₀ v d → ∃ as, ReadsAll h₀ v d as
  | _, _, .nil => ⟨_, .nil⟩
  | _, _, .cons q1 q2 => let ⟨_, z⟩ := Rz.rd q1; let ⟨_, y⟩ := RzA.rd q2; ⟨_, .cons z y⟩
end
mutual
theorem Rz.rk : ∀ {v : Value} {d : PyData}, Rz h₀ v d → d.showable = true → d.shown.length ≤ sizeLine → ∃ bs, ReadAtMost h₀ d.depth bs ∧ ReprK prog w bs h₀ d.depth v d.shown
  | _, _, .non, _, _ => ⟨[], (fun _ h => nomatch h), (by simp only [PyData.shown]; exact .of_is ReprIs.none _ _ _)⟩
  | _, _, .bl b, _, _ => ⟨[], (fun _ h => nomatch h), (by simp only [PyData.shown]; exact .of_is (ReprIs.bool b) _ _ _)⟩
  | _, _, .nu i t, hs, _ => ⟨[], (fun _ h => nomatch h), (by simp only [PyData.shown]; exact .of_is (ReprIs.int t (by simpa [PyData.showable] using hs)) _ _ _)⟩
  | _, _, .tx x t, _, hz => ⟨[], (fun _ h => nomatch h), (by simp only [PyData.shown]; exact .of_is (ReprIs.str x t (by simpa only [PyData.shown] using hz)) _ _ _)⟩
  | _, _, .li (a := a) (vs := us) (xs := ds) q1 q2 q3 q4, hs, hz => by
    have z1 : (listText (PyData.shownAll ds)).length ≤ sizeLine := (by simpa only [PyData.shown] using hz)
    obtain ⟨bs, z2, z3⟩ := RzA.rk q4 (by simpa [PyData.showable] using hs) (fun t ht => Nat.le_trans (listText_mem_le ht) z1)
    obtain ⟨as, r0⟩ := RzA.rd q4
    have r : Reads h₀ (.ref a) (.list ds) _ := .list q1 q2 q3 r0
    have z4 : a ∉ bs := not_mem_of_deeper r (by simp only [PyData.depth]; omega) z2
    refine ⟨a :: bs, .cons r (by simp only [PyData.depth]; omega) z2, ?_⟩; simp only [PyData.depth, PyData.shown]
    obtain ⟨l⟩ := us
    match l, ds, q4, z3 with
    | [], _, .nil, _ => rw [PyData.shownAll, listText_nil]; exact ReprK.listEmpty q1 q2 q3
    | x :: l, _, _, z3 => exact ReprK.list q1 q2 q3 z4 (by simpa using z3.length_eq) (fun i y e => z3.item i y (by simpa using e))
  | _, _, .tu (a := a) (xs := ds) q1 q2 q3 q4, hs, hz => by
    have z1 : (tupleText (PyData.shownAll ds)).length ≤ sizeLine := (by simpa only [PyData.shown] using hz)
    obtain ⟨bs, z2, z3⟩ := RzA.rk q4 (by simpa [PyData.showable] using hs) (fun t ht => Nat.le_trans (tupleText_mem_le ht) z1)
    obtain ⟨as, r0⟩ := RzA.rd q4
    have r : Reads h₀ (.ref a) (.tuple ds) _ := .tuple q1 q2 q3 r0
    refine ⟨a :: bs, .cons r (by simp only [PyData.depth]; omega) z2, ?_⟩; simp only [PyData.depth, PyData.shown]
    exact ReprK.tuple q1 q2 q3 (not_mem_of_deeper r (by simp only [PyData.depth]; omega) z2) z3
  | _, _, .di (a := a) (es := es) (kvs := kvs) q0 q1 q2 q3 q4 q5, hs, hz => by
    have z1 : (dictText (PyData.shownKv kvs)).length ≤ sizeLine := (by simpa only [PyData.shown] using hz)
    obtain ⟨s1, s2⟩ := PyData.showableKv_split kvs (by simpa [PyData.showable] using hs)
    obtain ⟨b1, y1, k1⟩ := RzA.rk q4 s1 (fun t ht => let ⟨p, hp, hl⟩ := PyData.shownKv_key_le kvs t ht; Nat.le_trans hl (Nat.le_trans (dictText_mem_le hp) z1))
    obtain ⟨b2, y2, k2⟩ := RzA.rk q5 s2 (fun t ht => let ⟨p, hp, hl⟩ := PyData.shownKv_val_le kvs t ht; Nat.le_trans hl (Nat.le_trans (dictText_mem_le hp) z1))
    obtain ⟨as, r1⟩ := RzA.rd q4
    obtain ⟨cs, r2⟩ := RzA.rd q5
    have r : Reads h₀ (.ref a) (.dict kvs) _ := .dict q1 q2 q3 r1 r2
    have y3 : ReadAtMost h₀ (PyData.depthKv kvs) (b1 ++ b2) := (y1.mono (PyData.depthAll_keys_le kvs)).append (y2.mono (PyData.depthAll_vals_le kvs))
    have y4 : a ∉ b1 ++ b2 := not_mem_of_deeper r (by simp only [PyData.depth]; omega) y3
    refine ⟨a :: (b1 ++ b2), .cons r (by simp only [PyData.depth]; omega) y3, ?_⟩; simp only [PyData.depth, PyData.shown, PyData.shownKv_eq]
    exact ReprK.dict q1 q2 q3 q0 y4 (ReprEntriesK.of_two es.toList _ _ (k1.more_le (fun b hb => List.mem_append_left _ hb) (PyData.depthAll_keys_le kvs)) (k2.more_le (fun b hb => List.mem_append_right _ hb) (PyData.depthAll_vals_le kvs)))
theorem RzA.rk : ∀ {v : List Value} {d : List PyData}, RzA h₀ v d → PyData.showableAll d = true → (∀ t ∈ PyData.shownAll d, t.length ≤ sizeLine) → ∃ bs, ReadAtMost h₀ (PyData.depthAll d) bs ∧ ReprAllK prog w bs h₀ (PyData.depthAll d) v (PyData.shownAll d)
  | _, _, .nil, _, _ => ⟨[], (fun _ h => nomatch h), (by simp only [PyData.shownAll]; exact .nil)⟩
  | _, _, .cons (d := d) (ds := ds) r rs, hs, hz => by
    have s0 : d.showable = true ∧ PyData.showableAll ds = true := (by simpa [PyData.showableAll] using hs)
    obtain ⟨b1, y1, k1⟩ := Rz.rk r s0.1 (hz _ (by simp only [PyData.shownAll]; exact List.mem_cons_self ..))
    obtain ⟨b2, y2, k2⟩ := RzA.rk rs s0.2 (fun t ht => hz t (by simp only [PyData.shownAll]; exact List.mem_cons_of_mem _ ht))
    have e1 : PyData.depthAll (d :: ds) = max d.depth (PyData.depthAll ds) := (by simp only [PyData.depthAll])
    refine ⟨b1 ++ b2, fun b hm => ?_, ?_⟩
    · rw [e1]; rcases List.mem_append.mp hm with hm | hm
      · obtain ⟨d', as', r', hd'⟩ := y1 b hm; exact ⟨d', as', r', Nat.le_trans hd' (Nat.le_max_left _ _)⟩
      · obtain ⟨d', as', r', hd'⟩ := y2 b hm; exact ⟨d', as', r', Nat.le_trans hd' (Nat.le_max_right _ _)⟩
    · rw [e1]; simp only [PyData.shownAll]
      exact .cons ((k1.more fun b hb => List.mem_append_left _ hb).level_le (Nat.le_max_left _ _)) (k2.more_le (fun b hb => List.mem_append_right _ hb) (Nat.le_max_right _ _))
end
theorem Rz.shows {a : Addr} {d : PyData} (r : Rz h₀ (.ref a) d) (hs : d.showable = true) (hsz : d.shown.length ≤ sizeLine) : ∃ T idr, ShowsBy prog w h₀ a d T idr := by
  cases r with
  | @li _ o us n ds q1 q2 q3 q4 =>
    have z1 : (listText (PyData.shownAll ds)).length ≤ sizeLine := (by simpa only [PyData.shown] using hsz)
    obtain ⟨bs, z2, z3⟩ := RzA.rk (prog := prog) (w := w) q4 (by simpa [PyData.showable] using hs) (fun t ht => Nat.le_trans (listText_mem_le ht) z1)
    obtain ⟨as, r0⟩ := RzA.rd q4
    have z4 : a ∉ bs := not_mem_of_deeper (.list q1 q2 q3 r0) (by simp only [PyData.depth]; omega) z2
    refine ⟨"list", "list.__repr__", F.slot_list_repr.toG, F.slot_list_str, F.slot_list_format, fun s k0 => ⟨o, k0 _ _ q1, q2⟩, fun A E s Q hg hu k0 hQ => ?_⟩
    simp only [PyData.depth] at hu; simp only [PyData.shown] at hQ
    obtain ⟨l⟩ := us
    match l, ds, q4, z3 with
    | [], _, .nil, _ =>
      rw [PyData.shownAll, listText_nil] at hQ
      exact call_list_repr_empty ⟨o, k0 _ _ q1, q2⟩ (k0 _ _ q1) q3 (hQ s.heap _ _ fun _ _ e => e)
    | x :: l, _, _, z3 => exact call_list_reprK q1 q2 q3 z4 (by simpa using z3.length_eq) (fun i y e => z3.item i y (by simpa using e)) hg (fun b _ => Clear.nil b) hu k0 hQ z1
  | @tu _ o us n ds q1 q2 q3 q4 =>
    have z1 : (tupleText (PyData.shownAll ds)).length ≤ sizeLine := (by simpa only [PyData.shown] using hsz)
    obtain ⟨bs, z2, z3⟩ := RzA.rk (prog := prog) (w := w) q4 (by simpa [PyData.showable] using hs) (fun t ht => Nat.le_trans (tupleText_mem_le ht) z1)
    obtain ⟨as, r0⟩ := RzA.rd q4
    refine ⟨"tuple", "tuple.__repr__", F.slot_tuple_repr, F.slot_tuple_str, F.slot_tuple_format, fun s k0 => ⟨o, k0 _ _ q1, q2⟩, fun A E s Q hg hu k0 hQ => ?_⟩
    simp only [PyData.depth] at hu; simp only [PyData.shown] at hQ
    exact call_tuple_reprK q1 q2 q3 (not_mem_of_deeper (.tuple q1 q2 q3 r0) (by simp only [PyData.depth]; omega) z2) z3 hg (fun b _ => Clear.nil b) hu k0 hQ z1
  | @di _ o es n kvs q0 q1 q2 q3 q4 q5 =>
    have z1 : (dictText (PyData.shownKv kvs)).length ≤ sizeLine := (by simpa only [PyData.shown] using hsz)
    obtain ⟨s1, s2⟩ := PyData.showableKv_split kvs (by simpa [PyData.showable] using hs)
    obtain ⟨b1, y1, k1⟩ := RzA.rk (prog := prog) (w := w) q4 s1 (fun t ht => let ⟨p, hp, hl⟩ := PyData.shownKv_key_le kvs t ht; Nat.le_trans hl (Nat.le_trans (dictText_mem_le hp) z1))
    obtain ⟨b2, y2, k2⟩ := RzA.rk (prog := prog) (w := w) q5 s2 (fun t ht => let ⟨p, hp, hl⟩ := PyData.shownKv_val_le kvs t ht; Nat.le_trans hl (Nat.le_trans (dictText_mem_le hp) z1))
    obtain ⟨as, r1⟩ := RzA.rd q4
    obtain ⟨cs, r2⟩ := RzA.rd q5
    have y3 : ReadAtMost h₀ (PyData.depthKv kvs) (b1 ++ b2) := (y1.mono (PyData.depthAll_keys_le kvs)).append (y2.mono (PyData.depthAll_vals_le kvs))
    have y4 : a ∉ b1 ++ b2 := not_mem_of_deeper (.dict q1 q2 q3 r1 r2) (by simp only [PyData.depth]; omega) y3
    refine ⟨"dict", "dict.__repr__", F.slot_dict_repr, F.slot_dict_str, F.slot_dict_format, fun s k0 => ⟨o, k0 _ _ q1, q2⟩, fun A E s Q hg hu k0 hQ => ?_⟩
    simp only [PyData.depth] at hu; simp only [PyData.shown, PyData.shownKv_eq] at hQ
    exact call_dict_reprK q1 q2 q3 q0 y4 (ReprEntriesK.of_two es.toList _ _ (k1.more_le (fun b hb => List.mem_append_left _ hb) (PyData.depthAll_keys_le kvs)) (k2.more_le (fun b hb => List.mem_append_right _ hb) (PyData.depthAll_vals_le kvs))) hg (fun b _ => Clear.nil b) hu k0 hQ (by rw [← PyData.shownKv_eq]; exact z1)
theorem Rz.repr {a : Addr} {d : PyData} {A : Around} {E : Value → Shared → Prop} {s : Shared} {Q : Value → Shared → Prop} (r : Rz h₀ (.ref a) d) (hs : d.showable = true) (hsz : d.shown.length ≤ sizeLine) (hg : A.guards = some []) (hu : A.units + (d.depth + 1) < cLine) (k0 : ∀ b o, h₀.get? b = some o → s.heap.get? b = some o)
    (hQ : ∀ h' u tk, (∀ b o, s.heap.get? b = some o → h'.get? b = some o) → Q (.str d.shown u) { s with heap := h', toks := tk }) : wpAny (model prog w) A (call (.builtin "repr") [.ref a]) Q E s := by
  obtain ⟨T, idr, S⟩ := Rz.shows (prog := prog) (w := w) r hs hsz
  exact call_repr_slot (by omega) (S.typeIs s k0) S.slotRepr (S.call A.in1 E s _ hg (by show A.units + 1 + d.depth < cLine; omega) k0 fun h' u tk hk => ⟨_, _, rfl, hQ h' u tk hk⟩)
end
end PySem

set_option Elab.async false
set_option linter.all false
set_option maxRecDepth 100000
set_option maxHeartbeats 2000000
namespace My
open PySem PySem.Spec PyProof.Rows L2
/-! ### data with dicts (keys: texts and whole numbers) -/
def kD : Key → PyData
  | .inl i => .int i
  | .inr x => .str x
mutual
inductive Dq (K : PySem.W.Frag) (H : Hp) : V → PyData → Prop
  | non : Dq K H .non .none
  | bl (b : Bool) : Dq K H (.bl b) (.bool b)
  | int (i : Int) : Dq K H (.int i) (.int i)
  | str (x : Str) : Dq K H (.str x) (.str x)
  | lst {a : Addr} {xs : List V} {ds : List PyData} : SqL K H a xs → DqAll K H xs ds → Dq K H (.ref a) (.list ds)
  | tup {a : Addr} {xs : List V} {ds : List PyData} : SqT K H a xs → DqAll K H xs ds → Dq K H (.ref a) (.tuple ds)
  | dic {a : Addr} {kvs : List (Key × V)} {ds : List (PyData × PyData)} : H a = some (.dK kvs) → DqKv K H kvs ds → Dq K H (.ref a) (.dict ds)
inductive DqAll (K : PySem.W.Frag) (H : Hp) : List V → List PyData → Prop
  | nil : DqAll K H [] []
  | cons {v : V} {vs : List V} {d : PyData} {ds : List PyData} : Dq K H v d → DqAll K H vs ds → DqAll K H (v :: vs) (d :: ds)
inductive DqKv (K : PySem.W.Frag) (H : Hp) : List (Key × V) → List (PyData × PyData) → Prop
  | nil : DqKv K H [] []
  | cons {k : Key} {v : V} {kvs : List (Key × V)} {d : PyData} {ds : List (PyData × PyData)} : Dq K H v d → DqKv K H kvs ds → DqKv K H ((k, v) :: kvs) ((kD k, d) :: ds)
end
section
variable {X : Cx} {pins : List (Addr × Obj)} {σ : L2.St} {H : Hp} {s : Shared}
mutual
theorem Dq.rz (I : Inv X pins σ H s) : ∀ (d : PyData) (v : V) (u : Value), Dq X.K H v d → RelV v u → Rz s.heap u d
  | .none, _, _, h, r => by
    cases h
    cases r
    exact .non
  | .bool b, _, _, h, r => by
    cases h
    cases r
    exact .bl b
  | .int i, _, _, h, r => by
    cases h
    obtain ⟨t, rfl⟩ := r
    exact .nu i t
  | .str x, _, _, h, r => by
    cases h
    obtain ⟨t, rfl⟩ := r
    exact .tx x t
  | .list ds, _, _, h, r => by
    cases h with
    | lst hs ha =>
      cases r
      obtain ⟨its, rv, ⟨o, n, ho, hc, _, hd⟩, _⟩ := I.list hs
      exact .li ho hc hd (Dq.rzAll I ds _ its ha rv)
  | .tuple ds, _, _, h, r => by
    cases h with
    | tup hs ha =>
      cases r
      obtain ⟨its, rv, ⟨o, ho, hc, n, hd⟩, _⟩ := I.tuple hs
      exact .tu ho hc hd (Dq.rzAll I ds _ its ha rv)
  | .dict ds, _, _, h, r => by
    cases h with
    | dic hs ha =>
      cases r
      obtain ⟨z, nsm, vs, kv, o, es, ep, ho, hx, hd, _, hp, _⟩ := dk_of I.hok hs
      obtain ⟨hr, hr2⟩ := Dq.rzKv I ds _ vs es.toList ha kv hp
      exact .di nsm ho hx.1 hd hr hr2
theorem Dq.rzAll (I : Inv X pins σ H s) : ∀ (ds : List PyData) (vs : List V) (us : List Value), DqAll X.K H vs ds → Vals vs us → RzA s.heap us ds
  | [], _, _, h, r => by
    cases h
    cases r
    exact .nil
  | d :: ds, _, _, h, r => by
    cases h with
    | cons h1 h2 =>
      cases r with
      | cons r1 r2 => exact .cons (Dq.rz I d _ _ h1 r1) (Dq.rzAll I ds _ _ h2 r2)
theorem Dq.rzKv (I : Inv X pins σ H s) : ∀ (ds : List (PyData × PyData)) (kvs : List (Key × V)) (vs : List (Key × Value)) (es : List DictEntry), DqKv X.K H kvs ds → KV kvs vs → Pairs (mixKind X.prog X.w) es vs →
    RzA s.heap (es.map (·.key)) (ds.map (·.1)) ∧ RzA s.heap (es.map (·.val)) (ds.map (·.2))
  | [], _, _, _, h, r, p => by
    cases h
    cases r
    cases p
    exact ⟨.nil, .nil⟩
  | (c, d) :: ds, kvs, vs, es, h, r, p => by
    cases h with
    | @cons k v kvs' _ _ h1 h2 =>
      cases r with
      | @cons _ q _ vs' r1 r2 =>
        cases p with
        | @cons e _ es' _ p1 p2 p3 =>
          obtain ⟨rk, rv⟩ := r1
          have q1 := Dq.rz I d v q.2 h1 rv
          obtain ⟨q2, q3⟩ := Dq.rzKv I ds kvs' vs' es' h2 r2 p3
          have kk : Rz s.heap e.key (kD k) := by
            have rk' : k = q.1 := rk
            rw [rk']
            rcases keyIs_shape (show keyIs q.1 e.key = true from p1) with ⟨i, t, e1, e2⟩ | ⟨x, t, e1, e2⟩
            · rw [e1, e2]
              exact .nu i t
            · rw [e1, e2]
              exact .tx x t
          exact ⟨.cons kk q2, .cons (by show Rz s.heap e.val d; rw [p2]; exact q1) q3⟩
end
end
/-- repr(a), a a list, a tuple or a dict of data -/
def rReprQ (K : PySem.W.Frag) : List V → Hp → VK → Prop := fun vs H Q => ∃ (a : Addr) (d : PyData), vs = [.ref a] ∧ Dq K H (.ref a) d ∧ d.showable = true ∧ d.depth ≤ 6 ∧ d.shown.length ≤ 100000 ∧ Q (.str d.shown) H
theorem rd_reprQ {K : PySem.W.Frag} {v : V} {H : Hp} {Q : VK} : rReprQ K [v] H Q = ∃ (a : Addr) (d : PyData), v = .ref a ∧ Dq K H (.ref a) d ∧ d.showable = true ∧ d.depth ≤ 6 ∧ d.shown.length ≤ 100000 ∧ Q (.str d.shown) H := by
  simp [rReprQ]
theorem call_reprQ {X : Cx} (hg : X.A.guards = some []) (hu : X.A.units + 64 < cLine) : CallR X (.builtin "repr") (rReprQ X.K) := by
  intro pins s σ H xs us Q I r h
  obtain ⟨a, d, rfl, hd, hs, hp, hl, q⟩ := h
  cases r with
  | cons r1 r2 =>
    cases r2
    cases r1
    exact (Dq.rz I d _ _ hd rfl).repr hs (sz hl) hg (by omega) (fun _ _ e => e) (fun h' u tk hk => ⟨.str d.shown, H, I.kept hk, ⟨u, rfl⟩, q⟩)
/-! ### data stands while things that are known stand -/
mutual
theorem Dq.same {K : PySem.W.Frag} {H H' : Hp} (s : Same H H') : ∀ {v : V} {d : PyData}, Dq K H v d → Dq K H' v d
  | _, _, .non => .non
  | _, _, .bl b => .bl b
  | _, _, .int b => .int b
  | _, _, .str b => .str b
  | _, _, .lst h1 h2 => .lst (s.seq h1) (DqAll.same s h2)
  | _, _, .tup h1 h2 => .tup (h1.imp (fun h => h.imp (s _ _) fun ⟨o, h⟩ => ⟨o, s _ _ h⟩) id) (DqAll.same s h2)
  | _, _, .dic h1 h2 => .dic (s _ _ h1) (DqKv.same s h2)
theorem DqAll.same {K : PySem.W.Frag} {H H' : Hp} (s : Same H H') : ∀ {v : List V} {d : List PyData}, DqAll K H v d → DqAll K H' v d
  | _, _, .nil => .nil
  | _, _, .cons h1 h2 => .cons (Dq.same s h1) (DqAll.same s h2)
theorem DqKv.same {K : PySem.W.Frag} {H H' : Hp} (s : Same H H') : ∀ {v : List (Key × V)} {d : List (PyData × PyData)}, DqKv K H v d → DqKv K H' v d
  | _, _, .nil => .nil
  | _, _, .cons h1 h2 => .cons (Dq.same s h1) (DqKv.same s h2)
end
end My

set_option Elab.async false
set_option linter.all false
set_option maxRecDepth 100000
set_option maxHeartbeats 2000000
namespace My
open PySem PySem.Spec PyProof.Rows L2
section
variable {σ : L2.St} {H : Hp} {D : Ends}
theorem step_asg {te : TE} {t : TS} {j : Nat} (h : te σ H fun x H1 => t D (σ.set j (some x)) H1) : tSeq (tAsg te (gName j)) t D σ H := h
theorem step_seq {t u : TS} (h : t { D with nx := u D } σ H) : tSeq t u D σ H := h
theorem step_if {tt : TT} {x y : TS} (h : tt σ H fun c H1 => if c = true then x D σ H1 else y D σ H1) : tIfS tt x y D σ H := h
end
/-! ### all but the pool's list stands -/
def Bt (p : Addr) (H H' : Hp) : Prop := ∀ a u, a ≠ p → H a = some u → H' a = some u
section
variable {p a : Addr} {H H1 H2 H3 : Hp} {o : HO}
theorem Bt.refl (p : Addr) (H : Hp) : Bt p H H := fun _ _ _ h => h
theorem Bt.trans (h : Bt p H1 H2) (k : Bt p H2 H3) : Bt p H1 H3 := fun a u n z => k a u n (h a u n z)
theorem Same.bt (h : Same H1 H2) : Bt p H1 H2 := fun a u _ z => h a u z
theorem Bt.set (h : Bt p H H1) (n : H a = none) : Bt p H (upd H1 a o) := fun b u m z => by rw [upd_ne (ne_of_none z n)]; exact h b u m z
/-- a pool: its drawn numbers at q, a place -/
def Pl (H : Hp) (p q : Addr) : Prop := ∃ (k : Int) (zs : List Int), H p = some (.lst [.ref q, .int k]) ∧ 0 ≤ k ∧ H q = some (.lst (zs.map V.int))
theorem Pl.same {q : Addr} (h : Pl H1 p q) (s : Same H1 H2) : Pl H2 p q := let ⟨k, zs, h1, h2, h3⟩ := h; ⟨k, zs, s _ _ h1, h2, s _ _ h3⟩
theorem Pl.ne {q : Addr} (h : Pl H p q) (ha : H a = none) : a ≠ p := let ⟨_, _, h1, _, _⟩ := h; Ne.symm (ne_of_none h1 ha)
theorem Pl.neQ {q : Addr} (h : Pl H p q) (ha : H a = none) : a ≠ q := let ⟨_, _, _, _, h1⟩ := h; Ne.symm (ne_of_none h1 ha)
theorem Pl.neO {q : Addr} (h : Pl H p q) (ha : H a = some o) (d : ∀ q k, o ≠ .lst [.ref q, .int k]) : a ≠ p := let ⟨_, _, h1, _, _⟩ := h; ne_of ha h1 (d _ _)
theorem Pl.set {q : Addr} (h : Pl H p q) (ha : a ≠ p) (hq : a ≠ q) : Pl (upd H a o) p q := by
  obtain ⟨k, zs, h1, h2, h3⟩ := h
  exact ⟨k, zs, by rw [upd_ne (Ne.symm ha)]; exact h1, h2, by rw [upd_ne (Ne.symm hq)]; exact h3⟩
theorem Bt.none (b : Bt p H1 H2) (n : a ≠ p) (h : H2 a = none) : H1 a = none := by
  cases e : H1 a with
  | none => rfl
  | some o => exact absurd (b a o n e) (by rw [h]; exact fun z => nomatch z)
end
def spDrwB : Sp := fun vs H Q _ => ∃ (p q : Addr) (m : Int), vs = [.ref p, .int m] ∧ 0 < m ∧ Pl H p q ∧ ∀ (r : Int) (H' : Hp), Bt p H H' → Pl H' p q → 0 ≤ r → r < m → Q (.int r) H'
def spPckB : Sp := fun vs H Q _ => ∃ (p q a : Addr) (xs : List V), vs = [.ref p, .ref a] ∧ Pl H p q ∧ H a = some (.lst xs) ∧ a ≠ p ∧ 0 < xs.length ∧ ∀ (x : V) (H' : Hp), Bt p H H' → Pl H' p q → x ∈ xs → Q x H'
theorem pl_ne_zs {H : Hp} {p q : Addr} {k : Int} {zs : List Int} (h1 : H p = some (.lst [.ref q, .int k])) (h3 : H q = some (.lst (zs.map V.int))) : q ≠ p := by
  rintro rfl
  rw [h3] at h1
  cases zs with
  | nil => cases h1
  | cons z zs => cases h1
theorem pl_draw {H : Hp} {p q : Addr} {k : Int} {zs : List Int} (h1 : H p = some (.lst [.ref q, .int k])) (h2 : 0 ≤ k) (h3 : H q = some (.lst (zs.map V.int))) : Bt p H (upd H p (.lst [.ref q, .int (k + 1)])) ∧ Pl (upd H p (.lst [.ref q, .int (k + 1)])) p q :=
  ⟨fun a u n z => by rw [upd_ne n]; exact z, k + 1, zs, upd_same, by omega, by rw [upd_ne (pl_ne_zs h1 h3)]; exact h3⟩
theorem drwB_imp (vs : List V) (H : Hp) (Q : VK) (E : XK) (h : spDrwB vs H Q E) : spDrw vs H Q E := by
  obtain ⟨p, q, m, rfl, m0, ⟨k, zs, h1, h2, h3⟩, qq⟩ := h
  have z := pl_draw h1 h2 h3
  exact ⟨p, q, k, m, zs, rfl, m0, h1, h2, h3, fun r r0 r1 => qq r _ z.1 z.2 r0 r1⟩
theorem pckB_imp (vs : List V) (H : Hp) (Q : VK) (E : XK) (h : spPckB vs H Q E) : spPck vs H Q E := by
  obtain ⟨p, q, a, xs, rfl, ⟨k, zs, h1, h2, h3⟩, ha, n, hx, qq⟩ := h
  have z := pl_draw h1 h2 h3
  exact ⟨p, q, a, k, zs, xs, rfl, h1, h2, h3, ha, n, hx, fun i x e => qq x _ z.1 z.2 (List.mem_of_getElem? e)⟩
/-- a list of marks with their numbers -/
def PrL (H : Hp) (l : Addr) (ks : List (Str × Int)) : Prop := ∃ ps : List Addr, H l = some (.lst (ps.map V.ref)) ∧ Paired (fun b e => H b = some (.tup [.str e.1, .int e.2])) ps ks
theorem PrL.bt {p q l : Addr} {H H' : Hp} {ks : List (Str × Int)} (h : PrL H l ks) (pl : Pl H p q) (n : l ≠ p) (b : Bt p H H') : PrL H' l ks := by
  obtain ⟨ps, h1, h2⟩ := h
  exact ⟨ps, b _ _ n h1, Paired.mono (fun x y z => b _ _ (pl.neO z (fun _ _ e => by cases e)) z) h2⟩
theorem PrL.same {l : Addr} {H H' : Hp} {ks : List (Str × Int)} (h : PrL H l ks) (s : Same H H') : PrL H' l ks := let ⟨ps, h1, h2⟩ := h; ⟨ps, s _ _ h1, Paired.mono (fun _ _ z => s _ _ z) h2⟩
def marks7 : List (List (Str × Int)) := [[], [("m", 1)], [("m", 1)], [("m", 2)], [("far", 1), ("m", 1)], [("far", 2), ("m", 1)], [("m", 3)]]
def spMks : Sp := fun vs H Q _ => ∃ (p q : Addr), vs = [.ref p] ∧ Pl H p q ∧ ∀ (l : Addr) (H' : Hp) (ks : List (Str × Int)), H l = none → l ≠ p → Bt p H H' → Pl H' p q → ks ∈ marks7 → PrL H' l ks → Q (.ref l) H'
end My

set_option Elab.async false
set_option linter.all false
set_option maxRecDepth 100000
set_option maxHeartbeats 4000000
namespace My
open PySem PySem.Spec PyProof.Rows L2
local macro_rules | `(tactic| walk_at "rd") => `(tactic| simp only [rd_seq, rd_next, rd_brk, rd_cont, rd_asg, rd_gname, rd_var, rd_c, rd_op, rd_un, rd_rI0, rd_rI, rd_rU, rd_test, rd_B, rd_and, rd_or, rd_not, rd_andV, rd_orV, rd_notV, rd_ifx, rd_ifs, rd_drop, rd_ret, rd_nil, rd_cons, rd_cb, rd_tup, rd_lst, rd_call, rd_bm, rd_app, rd_ixLst, rd_ixSq, rd_lenL, rd_lenSq, rd_setLst, rd_sub, rd_neNil, rd_isStr, rd_dg, rd_dp, rd_mk, rd_sl, rd_noP, rd_part, rd_slL, rd_cat, rd_lcL, rd_lcE, rd_lcA, rd_lcEA, rd_isTy, rd_ixT, rd_inRow, rd_bm0, rd_rz, rd_isD, rd_lockE, rd_lcK, rd_dgetD, rd_ixTp, rd_lenUn,  L2.valV_put, rd_fldS, rd_eq, rd_ne, rd_fldE, rd_allB, rd_isBl, rd_inS, rd_chain, rd_chain', L2.wipe, Int.reduceToNat, Int.reduceLE, Int.reduceLT, Nat.reduceLT, Nat.reduceLeDiff, Int.reduceNeg, Int.toNat_natCast, Int.reduceAdd, L2.start, and_assoc, exists_and_left, List.map_cons, List.map_nil, List.length_cons, List.length_nil, List.cons_append, List.nil_append, List.append_nil, List.replicate_succ, List.replicate_zero, List.replicate, List.set_cons_zero, List.set_cons_succ, List.getElem?_cons_zero, List.getElem?_cons_succ, Option.some.injEq, exists_eq_left', exists_eq_left, exists_eq, V.int.injEq, V.ref.injEq, V.str.injEq, V.bl.injEq, HO.lst.injEq, HO.tup.injEq, ex_bl, List.cons.injEq, and_true, true_and, Nat.reduceAdd, Nat.reduceSub, reduceCtorEq, false_and, or_false, exists_false, false_or, decide_eq_true_eq, if_true, if_false, Bool.false_eq_true, Bool.not_true, Bool.not_false, upd_same])
local macro_rules | `(tactic| walk_at "rdh") => `(tactic| simp only [rd_seq, rd_next, rd_brk, rd_cont, rd_asg, rd_gname, rd_var, rd_c, rd_op, rd_un, rd_rI0, rd_rI, rd_rU, rd_test, rd_B, rd_and, rd_or, rd_not, rd_andV, rd_orV, rd_notV, rd_ifx, rd_ifs, rd_drop, rd_ret, rd_nil, rd_cons, rd_cb, rd_tup, rd_lst, rd_call, rd_bm, rd_app, rd_ixLst, rd_ixSq, rd_lenL, rd_lenSq, rd_setLst, rd_sub, rd_neNil, rd_isStr, rd_dg, rd_dp, rd_mk, rd_sl, rd_noP, rd_part, rd_slL, rd_cat, rd_lcL, rd_lcE, rd_lcA, rd_lcEA, rd_isTy, rd_ixT, rd_inRow, rd_bm0, rd_rz, rd_isD, rd_lockE, rd_lcK, rd_dgetD, rd_ixTp, rd_lenUn,  L2.valV_put, rd_fldS, rd_eq, rd_ne, rd_fldE, rd_allB, rd_isBl, rd_inS, rd_chain, rd_chain', L2.wipe, Int.reduceToNat, Int.reduceLE, Int.reduceLT, Nat.reduceLT, Nat.reduceLeDiff, Int.reduceNeg, Int.toNat_natCast, Int.reduceAdd, L2.start, and_assoc, exists_and_left, List.map_cons, List.map_nil, List.length_cons, List.length_nil, List.cons_append, List.nil_append, List.append_nil, List.replicate_succ, List.replicate_zero, List.replicate, List.set_cons_zero, List.set_cons_succ, List.getElem?_cons_zero, List.getElem?_cons_succ, Option.some.injEq, exists_eq_left', exists_eq_left, exists_eq, V.int.injEq, V.ref.injEq, V.str.injEq, V.bl.injEq, HO.lst.injEq, HO.tup.injEq, ex_bl, List.cons.injEq, and_true, true_and, Nat.reduceAdd, Nat.reduceSub, reduceCtorEq, false_and, or_false, exists_false, false_or, decide_eq_true_eq, if_true, if_false, Bool.false_eq_true, Bool.not_true, Bool.not_false, upd_same, *])

abbrev sMks : Stmt := topI 23
abbrev NMks : List Str := ["pool", "menu"]
theorem scMks : FnScope NMks ["pool"] (defScope sMks) := ⟨rfl, rfl, rfl, by decide +kernel, rfl, by decide +kernel, by decide +kernel⟩
section
variable {P : Program} {w : World} {K : PySem.W.Frag} {mg : Str → Option Value} {base : Heap}
theorem ok_mks {f : Addr} {fd : FuncData} (F : Fun K "_law_marks" "_law_marks" sMks f fd) (B : Bn mg) (D_pick : Df K mg "_law_pick" sPck ["pool", "some"]) (G_pick : FnOk P w K mg base CX0 2 D_pick.f D_pick.fd ["pool", "some"] spPckB) : FnOk P w K mg base CX0 3 f fd ["pool"] spMks := by
  refine F.ok scMks (fun vs H Q E h => ?_) (fun cdv A outer s H vs Q E hr h => ?_)
  · obtain ⟨p, r, rfl, _⟩ := h
    rfl
  · obtain ⟨p, r, rfl, pl, q⟩ := h
    have hr2 := hr
    refine ⟨_, (pss_cons (ps_set (i := 1) scMks.nd rfl (Or.inl rfl) (pe_lst (pa_cons (pe_lst pa_nil) (pa_cons (pe_lst (pa_cons (pe_tup (pa_cons pe_str (pa_cons pe_int pa_nil))) pa_nil)) (pa_cons (pe_lst (pa_cons (pe_tup (pa_cons pe_str (pa_cons pe_int pa_nil))) pa_nil)) (pa_cons (pe_lst (pa_cons (pe_tup (pa_cons pe_str (pa_cons pe_int pa_nil))) pa_nil)) (pa_cons (pe_lst (pa_cons (pe_tup (pa_cons pe_str (pa_cons pe_int pa_nil))) (pa_cons (pe_tup (pa_cons pe_str (pa_cons pe_int pa_nil))) pa_nil))) (pa_cons (pe_lst (pa_cons (pe_tup (pa_cons pe_str (pa_cons pe_int pa_nil))) (pa_cons (pe_tup (pa_cons pe_str (pa_cons pe_int pa_nil))) pa_nil))) (pa_cons (pe_lst (pa_cons (pe_tup (pa_cons pe_str (pa_cons pe_int pa_nil))) pa_nil)) pa_nil)))))))))
      (pss_one (ps_ret (pe_callTy call_list_of (by rfl) B.list (by decide +kernel) (pa_cons (pc D_pick G_pick hr2 (pa_cons (pv 0) (pa_cons (pv 1) pa_nil))) pa_nil))))), ?_⟩
    refine step_asg ?_
    refine ⟨sz (by simp), fun m0 hm0 => ?_⟩
    have nm0 := My.Same.new (o := .lst []) (Same.refl H) hm0
    have lm0 : upd H m0 (.lst []) m0 = some (.lst []) := upd_same
    generalize upd H m0 (.lst []) = H_1 at *
    refine ⟨sz (by simp), fun t1 ht1 => ?_⟩
    have nt1 := My.Same.new (o := .tup [.str "m", .int 1]) (Same.refl H_1) ht1
    have lt1 : upd H_1 t1 (.tup [.str "m", .int 1]) t1 = some (.tup [.str "m", .int 1]) := upd_same
    generalize upd H_1 t1 (.tup [.str "m", .int 1]) = H_2 at *
    refine ⟨sz (by simp), fun m1 hm1 => ?_⟩
    have nm1 := My.Same.new (o := .lst [.ref t1]) (Same.refl H_2) hm1
    have lm1 : upd H_2 m1 (.lst [.ref t1]) m1 = some (.lst [.ref t1]) := upd_same
    generalize upd H_2 m1 (.lst [.ref t1]) = H_3 at *
    refine ⟨sz (by simp), fun t2 ht2 => ?_⟩
    have nt2 := My.Same.new (o := .tup [.str "m", .int 1]) (Same.refl H_3) ht2
    have lt2 : upd H_3 t2 (.tup [.str "m", .int 1]) t2 = some (.tup [.str "m", .int 1]) := upd_same
    generalize upd H_3 t2 (.tup [.str "m", .int 1]) = H_4 at *
    refine ⟨sz (by simp), fun m2 hm2 => ?_⟩
    have nm2 := My.Same.new (o := .lst [.ref t2]) (Same.refl H_4) hm2
    have lm2 : upd H_4 m2 (.lst [.ref t2]) m2 = some (.lst [.ref t2]) := upd_same
    generalize upd H_4 m2 (.lst [.ref t2]) = H_5 at *
    refine ⟨sz (by simp), fun t3 ht3 => ?_⟩
    have nt3 := My.Same.new (o := .tup [.str "m", .int 2]) (Same.refl H_5) ht3
    have lt3 : upd H_5 t3 (.tup [.str "m", .int 2]) t3 = some (.tup [.str "m", .int 2]) := upd_same
    generalize upd H_5 t3 (.tup [.str "m", .int 2]) = H_6 at *
    refine ⟨sz (by simp), fun m3 hm3 => ?_⟩
    have nm3 := My.Same.new (o := .lst [.ref t3]) (Same.refl H_6) hm3
    have lm3 : upd H_6 m3 (.lst [.ref t3]) m3 = some (.lst [.ref t3]) := upd_same
    generalize upd H_6 m3 (.lst [.ref t3]) = H_7 at *
    refine ⟨sz (by simp), fun t4 ht4 => ?_⟩
    have nt4 := My.Same.new (o := .tup [.str "far", .int 1]) (Same.refl H_7) ht4
    have lt4 : upd H_7 t4 (.tup [.str "far", .int 1]) t4 = some (.tup [.str "far", .int 1]) := upd_same
    generalize upd H_7 t4 (.tup [.str "far", .int 1]) = H_8 at *
    refine ⟨sz (by simp), fun t5 ht5 => ?_⟩
    have nt5 := My.Same.new (o := .tup [.str "m", .int 1]) (Same.refl H_8) ht5
    have lt5 : upd H_8 t5 (.tup [.str "m", .int 1]) t5 = some (.tup [.str "m", .int 1]) := upd_same
    generalize upd H_8 t5 (.tup [.str "m", .int 1]) = H_9 at *
    refine ⟨sz (by simp), fun m4 hm4 => ?_⟩
    have nm4 := My.Same.new (o := .lst [.ref t4, .ref t5]) (Same.refl H_9) hm4
    have lm4 : upd H_9 m4 (.lst [.ref t4, .ref t5]) m4 = some (.lst [.ref t4, .ref t5]) := upd_same
    generalize upd H_9 m4 (.lst [.ref t4, .ref t5]) = H_10 at *
    refine ⟨sz (by simp), fun t6 ht6 => ?_⟩
    have nt6 := My.Same.new (o := .tup [.str "far", .int 2]) (Same.refl H_10) ht6
    have lt6 : upd H_10 t6 (.tup [.str "far", .int 2]) t6 = some (.tup [.str "far", .int 2]) := upd_same
    generalize upd H_10 t6 (.tup [.str "far", .int 2]) = H_11 at *
    refine ⟨sz (by simp), fun t7 ht7 => ?_⟩
    have nt7 := My.Same.new (o := .tup [.str "m", .int 1]) (Same.refl H_11) ht7
    have lt7 : upd H_11 t7 (.tup [.str "m", .int 1]) t7 = some (.tup [.str "m", .int 1]) := upd_same
    generalize upd H_11 t7 (.tup [.str "m", .int 1]) = H_12 at *
    refine ⟨sz (by simp), fun m5 hm5 => ?_⟩
    have nm5 := My.Same.new (o := .lst [.ref t6, .ref t7]) (Same.refl H_12) hm5
    have lm5 : upd H_12 m5 (.lst [.ref t6, .ref t7]) m5 = some (.lst [.ref t6, .ref t7]) := upd_same
    generalize upd H_12 m5 (.lst [.ref t6, .ref t7]) = H_13 at *
    refine ⟨sz (by simp), fun t8 ht8 => ?_⟩
    have nt8 := My.Same.new (o := .tup [.str "m", .int 3]) (Same.refl H_13) ht8
    have lt8 : upd H_13 t8 (.tup [.str "m", .int 3]) t8 = some (.tup [.str "m", .int 3]) := upd_same
    generalize upd H_13 t8 (.tup [.str "m", .int 3]) = H_14 at *
    refine ⟨sz (by simp), fun m6 hm6 => ?_⟩
    have nm6 := My.Same.new (o := .lst [.ref t8]) (Same.refl H_14) hm6
    have lm6 : upd H_14 m6 (.lst [.ref t8]) m6 = some (.lst [.ref t8]) := upd_same
    generalize upd H_14 m6 (.lst [.ref t8]) = H_15 at *
    refine ⟨sz (by simp), fun mn hmn => ?_⟩
    have nmn := My.Same.new (o := .lst [.ref m0, .ref m1, .ref m2, .ref m3, .ref m4, .ref m5, .ref m6]) (Same.refl H_15) hmn
    have lmn : upd H_15 mn (.lst [.ref m0, .ref m1, .ref m2, .ref m3, .ref m4, .ref m5, .ref m6]) mn = some (.lst [.ref m0, .ref m1, .ref m2, .ref m3, .ref m4, .ref m5, .ref m6]) := upd_same
    generalize upd H_15 mn (.lst [.ref m0, .ref m1, .ref m2, .ref m3, .ref m4, .ref m5, .ref m6]) = H_16 at *
    have plm := pl.same (((((((((((((((nm0.trans nt1).trans nm1).trans nt2).trans nm2).trans nt3).trans nm3).trans nt4).trans nt5).trans nm4).trans nt6).trans nt7).trans nm5).trans nt8).trans nm6).trans nmn)
    have r0 : PrL H_16 m0 [] := ⟨[], (((((((((((((((nt1.trans nm1).trans nt2).trans nm2).trans nt3).trans nm3).trans nt4).trans nt5).trans nm4).trans nt6).trans nt7).trans nm5).trans nt8).trans nm6).trans nmn) _ _ lm0), .nil⟩
    have u0 : m0 ≠ p := plm.neO (((((((((((((((nt1.trans nm1).trans nt2).trans nm2).trans nt3).trans nm3).trans nt4).trans nt5).trans nm4).trans nt6).trans nt7).trans nm5).trans nt8).trans nm6).trans nmn) _ _ lm0) (fun _ _ e => by cases e)
    have r1 : PrL H_16 m1 [("m", 1)] := ⟨[t1], (((((((((((((nt2.trans nm2).trans nt3).trans nm3).trans nt4).trans nt5).trans nm4).trans nt6).trans nt7).trans nm5).trans nt8).trans nm6).trans nmn) _ _ lm1), (.cons ((((((((((((((nm1.trans nt2).trans nm2).trans nt3).trans nm3).trans nt4).trans nt5).trans nm4).trans nt6).trans nt7).trans nm5).trans nt8).trans nm6).trans nmn) _ _ lt1) .nil)⟩
    have u1 : m1 ≠ p := plm.neO (((((((((((((nt2.trans nm2).trans nt3).trans nm3).trans nt4).trans nt5).trans nm4).trans nt6).trans nt7).trans nm5).trans nt8).trans nm6).trans nmn) _ _ lm1) (fun _ _ e => by cases e)
    have r2 : PrL H_16 m2 [("m", 1)] := ⟨[t2], (((((((((((nt3.trans nm3).trans nt4).trans nt5).trans nm4).trans nt6).trans nt7).trans nm5).trans nt8).trans nm6).trans nmn) _ _ lm2), (.cons ((((((((((((nm2.trans nt3).trans nm3).trans nt4).trans nt5).trans nm4).trans nt6).trans nt7).trans nm5).trans nt8).trans nm6).trans nmn) _ _ lt2) .nil)⟩
    have u2 : m2 ≠ p := plm.neO (((((((((((nt3.trans nm3).trans nt4).trans nt5).trans nm4).trans nt6).trans nt7).trans nm5).trans nt8).trans nm6).trans nmn) _ _ lm2) (fun _ _ e => by cases e)
    have r3 : PrL H_16 m3 [("m", 2)] := ⟨[t3], (((((((((nt4.trans nt5).trans nm4).trans nt6).trans nt7).trans nm5).trans nt8).trans nm6).trans nmn) _ _ lm3), (.cons ((((((((((nm3.trans nt4).trans nt5).trans nm4).trans nt6).trans nt7).trans nm5).trans nt8).trans nm6).trans nmn) _ _ lt3) .nil)⟩
    have u3 : m3 ≠ p := plm.neO (((((((((nt4.trans nt5).trans nm4).trans nt6).trans nt7).trans nm5).trans nt8).trans nm6).trans nmn) _ _ lm3) (fun _ _ e => by cases e)
    have r4 : PrL H_16 m4 [("far", 1), ("m", 1)] := ⟨[t4, t5], ((((((nt6.trans nt7).trans nm5).trans nt8).trans nm6).trans nmn) _ _ lm4), (.cons ((((((((nt5.trans nm4).trans nt6).trans nt7).trans nm5).trans nt8).trans nm6).trans nmn) _ _ lt4) (.cons (((((((nm4.trans nt6).trans nt7).trans nm5).trans nt8).trans nm6).trans nmn) _ _ lt5) .nil))⟩
    have u4 : m4 ≠ p := plm.neO ((((((nt6.trans nt7).trans nm5).trans nt8).trans nm6).trans nmn) _ _ lm4) (fun _ _ e => by cases e)
    have r5 : PrL H_16 m5 [("far", 2), ("m", 1)] := ⟨[t6, t7], (((nt8.trans nm6).trans nmn) _ _ lm5), (.cons (((((nt7.trans nm5).trans nt8).trans nm6).trans nmn) _ _ lt6) (.cons ((((nm5.trans nt8).trans nm6).trans nmn) _ _ lt7) .nil))⟩
    have u5 : m5 ≠ p := plm.neO (((nt8.trans nm6).trans nmn) _ _ lm5) (fun _ _ e => by cases e)
    have r6 : PrL H_16 m6 [("m", 3)] := ⟨[t8], (nmn _ _ lm6), (.cons ((nm6.trans nmn) _ _ lt8) .nil)⟩
    have u6 : m6 ≠ p := plm.neO (nmn _ _ lm6) (fun _ _ e => by cases e)
    refine ⟨_, rfl, _, rfl, p, r, mn, _, rfl, plm, ((Same.refl _) _ _ lmn), (plm.neO ((Same.refl _) _ _ lmn) (fun _ _ e => by cases e)), by simp, fun x H' bt pl' hx => ?_⟩
    have fin : ∀ (m : Addr) (ks : List (Str × Int)), x = .ref m → m ≠ p → ks ∈ marks7 → PrL H_16 m ks → ∃ (a : Addr) (xs : List V), x = .ref a ∧ SqL K H' a xs ∧ ∀ l, H' l = none → Q (.ref l) (upd H' l (.lst xs)) := by
      rintro m ks rfl nm hk hpr
      obtain ⟨ps, h1, h2⟩ := hpr.bt plm nm bt
      refine ⟨m, _, rfl, SqL.of h1, fun l hl => ?_⟩
      have b0 : Bt p H H' := (Same.bt (((((((((((((((nm0.trans nt1).trans nm1).trans nt2).trans nm2).trans nt3).trans nm3).trans nt4).trans nt5).trans nm4).trans nt6).trans nt7).trans nm5).trans nt8).trans nm6).trans nmn)).trans bt
      exact q l _ ks (b0.none (pl'.ne hl) hl) (pl'.ne hl) (b0.trans (Same.bt (My.Same.new (Same.refl H') hl))) (pl'.same (My.Same.new (Same.refl H') hl)) hk ⟨ps, upd_same, Paired.mono (fun a b z => by rw [upd_ne (ne_of_none z hl)]; exact z) h2⟩
    have fin2 : ∃ (a : Addr) (xs : List V), x = .ref a ∧ SqL K H' a xs ∧ ∀ l, H' l = none → Q (.ref l) (upd H' l (.lst xs)) := by
      simp only [List.mem_cons, List.not_mem_nil, or_false] at hx
      rcases hx with h | h | h | h | h | h | h
      · exact fin m0 _ h u0 (by decide +kernel) r0
      · exact fin m1 _ h u1 (by decide +kernel) r1
      · exact fin m2 _ h u2 (by decide +kernel) r2
      · exact fin m3 _ h u3 (by decide +kernel) r3
      · exact fin m4 _ h u4 (by decide +kernel) r4
      · exact fin m5 _ h u5 (by decide +kernel) r5
      · exact fin m6 _ h u6 (by decide +kernel) r6
    obtain ⟨a, xs, e, hs, hq⟩ := fin2
    exact ⟨a, xs, by rw [e], .inl hs, hq⟩
end
end My

set_option Elab.async false
set_option linter.all false
set_option maxRecDepth 100000
set_option maxHeartbeats 4000000
namespace My
open PySem PySem.Spec PyProof.Rows L2
section
variable {K : PySem.W.Frag} {l p q : Addr} {ks : List (Str × Int)} {ws : List Str} {σ : L2.St} {H : Hp} {Q : VK}
theorem pr_at {H : Hp} {ps : List Addr} {ks : List (Str × Int)} (h : Paired (fun b (e : Str × Int) => H b = some (.tup [.str e.1, .int e.2])) ps ks) : ∀ (i : Nat) (b : Addr), ps[i]? = some b → ∃ e, ks[i]? = some e ∧ H b = some (.tup [.str e.1, .int e.2]) := by
  induction h with
  | nil => intro i b h; simp at h
  | @cons x y l r h _ ih =>
    intro i b e
    cases i with
    | zero => simp at e; subst e; exact ⟨y, rfl, h⟩
    | succ i => simpa using ih i b (by simpa using e)
/-- [mark for mark, end in marks] -/
theorem lc_names (hl : PrL H l ks) (hz : ks.length ≤ 20)
    (hw : ∀ x y, wipe (((wipe σ [11, 12]).set 11 (some x)).set 12 (some y)) [11, 12] = wipe σ [11, 12]) (h1 : ∀ x y, (((wipe σ [11, 12]).set 11 (some x)).set 12 (some y))[11]? = some (some x))
    (qq : ∀ (D : Addr) (H' : Hp), H D = none → Same H H' → H' D = some (.lst ((ks.map (·.1)).map V.str)) → Q (.ref D) H') :
    lcB (Itl K l) (gTup K 2 (gCons (gName 11) (gCons (gName 12) gNil))) tYes (tVar 11) [11, 12] σ H Q := by
  obtain ⟨ps, hl, hp⟩ := hl
  have len : ps.length = ks.length := Paired.length hp
  intro D hD
  refine lc_it (walk_list (xs := ps.map V.ref)) (fun i H' => Same H H' ∧ H' D = some (.lst (((ks.take i).map (·.1)).map V.str))) ⟨My.Same.new (Same.refl H) hD, upd_same⟩ (fun i H' _ h => SqL.of (h.1 _ _ hl)) ?_ ?_
  · rintro i x H' H2 hi ⟨sm, hd⟩ ⟨rfl, hx⟩
    rw [List.getElem?_map] at hx
    obtain ⟨b, hb, rfl⟩ := Option.map_eq_some_iff.mp hx
    obtain ⟨e, he, hbe⟩ := pr_at hp i b hb
    rw [List.length_map] at hi
    refine ⟨b, _, rfl, SqT.of (sm _ _ hbe), rfl, _, _, rfl, _, _, rfl, rfl, hw _ _, ?_⟩
    simp only [tYes, if_true]
    refine ⟨_, h1 _ _, _, hd, szl (by rw [List.length_map, List.length_map, List.length_take]; omega), My.Same.new sm hD, ?_⟩
    rw [upd_same, take_more he, List.map_append, List.map_append]
    rfl
  · rintro H' ⟨sm, hd⟩
    rw [List.length_map, len, List.take_length] at hd
    exact qq D H' hD sm hd
/-- [one for one in words if a draw of m is below c] -/
theorem lc_ans {m c : Int} (hl : H l = some (.lst (ws.map V.str))) (np : l ≠ p) (pl : Pl H p q) (hm : 0 < m) (hz : ws.length ≤ 20)
    (hw : ∀ x, wipe ((wipe σ [13]).set 13 (some x)) [13] = wipe σ [13]) (h1 : ∀ x, ((wipe σ [13]).set 13 (some x))[13]? = some (some x)) (h0 : ∀ x, ((wipe σ [13]).set 13 (some x))[0]? = some (some (.ref p)))
    (qq : ∀ (D : Addr) (H' : Hp) (as : List Str), H D = none → Bt p H H' → Pl H' p q → as.Sublist ws → H' D = some (.lst (as.map V.str)) → Q (.ref D) H') :
    lcB (Itl K l) (gName 13) (tTest (tOp (rI0 fun i j => V.bl (decide (i < j))) (tCall spDrwB [] E0 (tCons (tVar 0) (tCons (tC (V.int m)) tNil))) (tC (V.int c)))) (tVar 13) [13] σ H Q := by
  intro D hD
  have nD := pl.ne hD
  have nQ := pl.neQ hD
  refine lc_it (walk_list (xs := ws.map V.str)) (fun i H' => Bt p H H' ∧ Pl H' p q ∧ ∃ as : List Str, as.Sublist (ws.take i) ∧ H' D = some (.lst (as.map V.str))) ⟨(Bt.refl p H).set hD, pl.set nD nQ, [], List.nil_sublist _, upd_same⟩ (fun i H' _ h => SqL.of (h.1 _ _ np hl)) ?_ ?_
  · rintro i x H' H2 hi ⟨bt, pl', as, sub, hd⟩ ⟨rfl, hx⟩
    rw [List.getElem?_map] at hx
    obtain ⟨s, hs, rfl⟩ := Option.map_eq_some_iff.mp hx
    rw [List.length_map] at hi
    refine ⟨hw _, _, h0 _, p, q, m, rfl, hm, pl', fun r H3 b3 pl3 _ _ => ?_⟩
    have hd3 := b3 _ _ nD hd
    refine ⟨r, c, rfl, rfl, _, rfl, ?_⟩
    have tk := take_more hs
    dsimp only
    split
    · refine ⟨_, h1 _, _, hd3, szl ?_, (bt.trans b3).set hD, pl3.set nD nQ, as ++ [s], ?_, by rw [upd_same, List.map_append]; rfl⟩
      · have := sub.length_le
        rw [List.length_take] at this
        rw [List.length_map]
        omega
      · rw [tk]
        exact sub.append (List.Sublist.refl _)
    · refine ⟨bt.trans b3, pl3, as, ?_, hd3⟩
      rw [tk]
      exact sub.trans (List.sublist_append_left _ _)
  · rintro H' ⟨bt, pl', as, sub, hd⟩
    rw [List.length_map, List.take_length] at sub
    exact qq D H' as hD bt pl' sub hd
/-- drawn counts of some marks -/
def Cnts (ks cs : List (Str × Int)) : Prop := (cs.map (·.1)).Sublist (ks.map (·.1)) ∧ ∀ e ∈ cs, 1 ≤ e.2 ∧ e.2 ≤ 3
theorem lc_cnts {m : Int} (hl : PrL H l ks) (np : l ≠ p) (pl : Pl H p q) (hm : 0 < m) (hz : ks.length ≤ 20) (hk : ∀ e ∈ ks, 1 ≤ e.2 ∧ e.2 ≤ 3)
    (hw : ∀ x y, wipe (((wipe σ [11, 12]).set 11 (some x)).set 12 (some y)) [11, 12] = wipe σ [11, 12]) (h1 : ∀ x y, (((wipe σ [11, 12]).set 11 (some x)).set 12 (some y))[11]? = some (some x)) (h2 : ∀ x y, (((wipe σ [11, 12]).set 11 (some x)).set 12 (some y))[12]? = some (some y)) (h0 : ∀ x y, (((wipe σ [11, 12]).set 11 (some x)).set 12 (some y))[0]? = some (some (.ref p)))
    (qq : ∀ (D : Addr) (H' : Hp) (cs : List (Str × Int)), H D = none → Bt p H H' → Pl H' p q → Cnts ks cs → PrL H' D cs → Q (.ref D) H') :
    lcB (Itl K l) (gTup K 2 (gCons (gName 11) (gCons (gName 12) gNil))) (tTest (tOp L2.rEq (tCall spDrwB [] E0 (tCons (tVar 0) (tCons (tC (V.int m)) tNil))) (tC (V.int 0))))
      (tTup (tCons (tVar 11) (tCons (tOp (rI0 fun i j => V.int (i + j)) (tC (V.int 1)) (tCall spDrwB [] E0 (tCons (tVar 0) (tCons (tVar 12) tNil)))) tNil))) [11, 12] σ H Q := by
  obtain ⟨ps, hl, hp⟩ := hl
  have len : ps.length = ks.length := Paired.length hp
  intro D hD
  have nD := pl.ne hD
  have nQ := pl.neQ hD
  refine lc_it (walk_list (xs := ps.map V.ref)) (fun i H' => Bt p H H' ∧ Pl H' p q ∧ ∃ (cs : List (Str × Int)) (bs : List Addr), (cs.map (·.1)).Sublist ((ks.take i).map (·.1)) ∧ (∀ e ∈ cs, 1 ≤ e.2 ∧ e.2 ≤ 3) ∧ H' D = some (.lst (bs.map V.ref)) ∧ Paired (fun b e => H' b = some (.tup [.str e.1, .int e.2])) bs cs)
    ⟨(Bt.refl p H).set hD, pl.set nD nQ, [], [], List.nil_sublist _, (fun e h => nomatch h), upd_same, .nil⟩ (fun i H' _ h => SqL.of (h.1 _ _ np hl)) ?_ ?_
  · rintro i x H' H2 hi ⟨bt, pl', cs, bs, sub, hc, hd, hb2⟩ ⟨rfl, hx⟩
    rw [List.getElem?_map] at hx
    obtain ⟨b, hb, rfl⟩ := Option.map_eq_some_iff.mp hx
    obtain ⟨e, he, hbe⟩ := pr_at hp i b hb
    have hbe' := bt _ _ (pl.neO hbe (fun _ _ z => by cases z)) hbe
    have hke := hk e (List.mem_of_getElem? he)
    rw [List.length_map] at hi
    refine ⟨b, _, rfl, SqT.of hbe', rfl, _, _, rfl, _, _, rfl, rfl, hw _ _, _, h0 _ _, p, q, m, rfl, hm, pl', fun r H3 b3 pl3 _ _ => ?_⟩
    have hd3 := b3 _ _ nD hd
    have hb3 := Paired.mono (fun a b z => b3 a _ (pl'.neO z (fun _ _ z => by cases z)) z) hb2
    refine ⟨rfl, _, rfl, ?_⟩
    have tk := take_more he
    dsimp only
    split
    · refine ⟨_, h1 _ _, _, h0 _ _, _, h2 _ _, p, q, e.2, rfl, by omega, pl3, fun n H4 b4 pl4 n0 n1 => ?_⟩
      have hd4 := b4 _ _ nD hd3
      have hb4 := Paired.mono (fun a b z => b4 a _ (pl3.neO z (fun _ _ z => by cases z)) z) hb3
      refine ⟨1, n, rfl, rfl, sz (by simp), fun T hT => ⟨bs.map V.ref, ?_, szl ?_, ?_⟩⟩
      · rw [upd_ne (ne_of_none hd4 hT)]; exact hd4
      · have h5 : bs.length = cs.length := Paired.length hb2
        have := sub.length_le
        rw [List.length_map, List.length_map, List.length_take] at this
        rw [List.length_map]
        omega
      · have nDT : D ≠ T := ne_of_none hd4 hT
        refine ⟨(((bt.trans b3).trans b4).set ((((bt.trans b3).trans b4)).none (pl4.ne hT) hT)).set hD, (pl4.set (pl4.ne hT) (pl4.neQ hT)).set nD nQ, cs ++ [(e.1, 1 + n)], bs ++ [T], ?_, ?_, by rw [upd_same, List.map_append]; rfl, ?_⟩
        · rw [tk, List.map_append, List.map_append]
          exact sub.append (List.Sublist.refl _)
        · intro z hz
          rcases List.mem_append.mp hz with hz | hz
          · exact hc z hz
          · rw [List.mem_singleton.mp hz]
            show 1 ≤ 1 + n ∧ 1 + n ≤ 3
            omega
        · refine Paired.snoc (Paired.mono (fun a b z => ?_) hb4) (by rw [upd_ne (Ne.symm nDT), upd_same])
          have n1 : a ≠ D := ne_of z hd4 (by intro z; cases z)
          rw [upd_ne n1, upd_ne (ne_of_none z hT)]
          exact z
    · refine ⟨bt.trans b3, pl3, cs, bs, ?_, hc, hd3, hb3⟩
      rw [tk, List.map_append]
      exact sub.trans (List.sublist_append_left _ _)
  · rintro H' ⟨bt, pl', cs, bs, sub, hc, hd, hb2⟩
    rw [List.length_map, len, List.take_length] at sub
    exact qq D H' cs hD bt pl' ⟨sub, hc⟩ ⟨bs, hd, hb2⟩
end
end My

set_option Elab.async false
set_option linter.all false
set_option maxRecDepth 100000
set_option maxHeartbeats 4000000
namespace My
open PySem PySem.Spec PyProof.Rows L2
theorem cut_take {xs : List V} {i : Int} (h : 0 ≤ i) : cutV xs none (some i) = xs.take i.toNat := by
  unfold cutV
  have e1 : HT.sIx xs.length 0 none = 0 := rfl
  have e2 : HT.sIx xs.length xs.length (some i) = min i.toNat xs.length := by
    show (if i < 0 then (i + (xs.length : Int)).toNat else min i.toNat xs.length) = _
    rw [if_neg (by omega)]
  rw [e1, e2, List.drop_zero, Nat.sub_zero]
  rcases Nat.le_total i.toNat xs.length with z | z
  · rw [Nat.min_eq_left z]
  · rw [Nat.min_eq_right z, List.take_length, List.take_of_length_le z]
/-- the marks that a step may name -/
def okMove (names : List Str) (s : Stp) : Prop := ∃ dir m, s = .move dir m ∧ dir ∈ (["more", "less"] : List Str) ∧ m ∈ names
/-- a drawn deed's parts, as they are drawn -/
structure Drn (ws : List Str) (ks : List (Str × Int)) (d : Dv) : Prop where
  ans : d.ans.Sublist ws
  whose : d.whose ∈ (["any", "own", "other"] : List Str)
  asks : Cnts ks d.asks
  pays : Cnts ks d.pays
  goals : ∃ n, n ≤ 2 ∧ d.goals = (ks.map (·.1)).take n
  steps : ∃ (mv : List Stp) (a : Option Str), mv.length ≤ 2 ∧ d.steps = mv ++ (a.toList.map Stp.act) ∧ (∀ s ∈ mv, okMove (ks.map (·.1) ++ (if d.goals = [] then ([] : List Str) else ["goal"])) s) ∧ ∀ x ∈ a, x ∈ acts
def ddk (d : Dv) (ga an ak pa st : Addr) : List (Key × V) := [(.inr "word", .str d.word), (.inr "opens", .bl d.opens), (.inr "goals", .ref ga), (.inr "card", .bl d.card), (.inr "answers", .ref an), (.inr "whose", .str d.whose), (.inr "asks", .ref ak), (.inr "pays", .ref pa), (.inr "steps", .ref st)]
/-- the dict of a drawn deed -/
def DeedAt (S : Addr → Prop) (H : Hp) (g : Addr) (d : Dv) : Prop := ∃ (ga an ak pa st : Addr) (sps : List Addr), (S ga ∧ S an ∧ S ak ∧ S pa ∧ S st) ∧ H g = some (.dK (ddk d ga an ak pa st)) ∧ H ga = some (.lst (d.goals.map V.str)) ∧ H an = some (.lst (d.ans.map V.str)) ∧ PrL H ak d.asks ∧ PrL H pa d.pays ∧ H st = some (.lst (sps.map V.ref)) ∧ Paired (StpAt H) sps d.steps
def spDdn : Sp := fun vs H Q _ => ∃ (p q wl ml : Addr) (wd : Str) (ws : List Str) (ks : List (Str × Int)) (rr : Int), vs = [.ref p, .str wd, .ref wl, .ref ml, .int rr] ∧ Pl H p q ∧ H wl = some (.lst (ws.map V.str)) ∧ wl ≠ p ∧ ws.length ≤ 20 ∧ PrL H ml ks ∧ ml ≠ p ∧ ks ∈ marks7 ∧ 0 < rr ∧
  ∀ (g : Addr) (H' : Hp) (d : Dv), H g = none → Bt p H H' → Pl H' p q → DeedAt (fun a => H a = none) H' g d → d.word = wd → Drn ws ks d → Q (.ref g) H'
theorem marks7_ok : ∀ ks ∈ marks7, ks.length ≤ 2 ∧ (∀ e ∈ ks, 1 ≤ e.2 ∧ e.2 ≤ 3) ∧ (ks.map (·.1)).Nodup ∧ ∀ e ∈ ks, isMark e.1 = true ∧ okCps e.1 ∧ e.1.length ≤ 8 := by
  intro ks hk
  have z : ∀ ks ∈ marks7, (decide (ks.length ≤ 2) && (ks.all (fun e => decide (1 ≤ e.2) && decide (e.2 ≤ 3)) && (decide (ks.map (·.1)).Nodup && ks.all (fun e => isMark e.1 && (e.1.cps.all (· < 0x110000) && decide (e.1.length ≤ 8)))))) = true := by decide +kernel
  have y := z ks hk
  simp only [Bool.and_eq_true, decide_eq_true_eq, List.all_eq_true] at y
  exact ⟨y.1, y.2.1, y.2.2.1, fun e he => ⟨(y.2.2.2 e he).1, by simpa [okCps] using (y.2.2.2 e he).2.1, (y.2.2.2 e he).2.2⟩⟩
/-- all but p and g stands -/
def Bg (p g : Addr) (H H' : Hp) : Prop := ∀ a u, a ≠ p → a ≠ g → H a = some u → H' a = some u
section
variable {p q g l : Addr} {H H1 H2 H3 : Hp} {o : HO}
theorem Bt.bg (b : Bt p H1 H2) : Bg p g H1 H2 := fun a u n _ h => b a u n h
theorem Same.bg (b : Same H1 H2) : Bg p g H1 H2 := fun a u _ _ h => b a u h
theorem Bg.trans (b : Bg p g H1 H2) (c : Bg p g H2 H3) : Bg p g H1 H3 := fun a u n m h => c a u n m (b a u n m h)
theorem Bg.none {a : Addr} (b : Bg p g H1 H2) (n : a ≠ p) (m : a ≠ g) (h : H2 a = none) : H1 a = none := by
  cases e : H1 a with
  | none => rfl
  | some o => exact absurd (b a o n m e) (by rw [h]; exact fun z => nomatch z)
theorem Bg.upd : Bg p g H (upd H g o) := fun a u _ m h => by rw [upd_ne m]; exact h
/-- g is new, or a dict -/
def Dk (H : Hp) (g : Addr) : Prop := ∀ o, H g = some o → ∃ k, o = .dK k
theorem Dk.mk0 (h : H g = none) : Dk H g := fun o e => by rw [h] at e; cases e
theorem Dk.mk1 {k : List (Key × V)} (h : H g = some (.dK k)) : Dk H g := fun o e => by rw [h] at e; exact ⟨k, (Option.some.inj e).symm⟩
theorem Dk.ne (d : Dk H g) {a : Addr} (h : H a = some o) (n : ∀ k, o ≠ .dK k) : a ≠ g := by
  rintro rfl
  obtain ⟨k, e⟩ := d _ h
  exact n k e
theorem Bg.pr {ks : List (Str × Int)} (b : Bg p g H1 H2) (h : PrL H1 l ks) (pl : Pl H1 p q) (n : l ≠ p) (d : Dk H1 g) : PrL H2 l ks := by
  obtain ⟨ps, h1, h2⟩ := h
  exact ⟨ps, b _ _ n (d.ne h1 (fun _ e => by cases e)) h1, Paired.mono (fun x y z => b _ _ (pl.neO z (fun _ _ e => by cases e)) (d.ne z (fun _ e => by cases e)) z) h2⟩
theorem Bg.stp {sps : List Addr} {mv : List Stp} (b : Bg p g H1 H2) (h : Paired (StpAt H1) sps mv) (pl : Pl H1 p q) (d : Dk H1 g) : Paired (StpAt H2) sps mv :=
  Paired.mono (fun a s z => ⟨b _ _ (pl.neO z.1 (fun _ _ e => by cases s <;> cases e)) (d.ne z.1 (fun _ e => by cases e)) z.1, z.2⟩) h
end
/-- the loop that draws the moves -/
theorem moves_go {K : PySem.W.Frag} {p q wl ml nm aim rl : Addr} {wd : Str} {rr : Int} {ns : List Str} {H0 H : Hp} {D : Ends} {w8 w9 w10 w11 w12 w13 : Option V} {n : Nat} (b : Bt p H0 H) (pl : Pl H p q) (hrl : H0 rl = none) (nrp : rl ≠ p) (nrq : rl ≠ q) (hnm : H0 nm = some (.lst (ns.map V.str))) (nnp : nm ≠ p)
    (hl : H rl = some (.lst [])) (hn : n ≤ 1000) (hne : 0 < n → ns ≠ []) (hs : ∀ x ∈ ns, x.length ≤ 1000)
    (qq : ∀ (w8 : Option V) (H' : Hp) (mv : List Stp) (sps : List Addr), Bt p H0 H' → Pl H' p q → mv.length = n → H' rl = some (.lst (sps.map V.ref)) → Paired (StpAt H') sps mv → (∀ s ∈ mv, okMove ns s) →
      D.nx [some (.ref p), some (.str wd), some (.ref wl), some (.ref ml), some (.int rr), some (.ref nm), some (.ref aim), some (.ref rl), w8, w9, w10, w11, w12, w13] H') :
    ∃ W : Nat → Nat → L2.St → Hp → Prop, (∃ m, W 0 m [some (.ref p), some (.str wd), some (.ref wl), some (.ref ml), some (.int rr), some (.ref nm), some (.ref aim), some (.ref rl), w8, w9, w10, w11, w12, w13] H) ∧ ∀ i m σ H, W i m σ H →
      ((Itr 0 n).stop i H ∧ D.nx σ H) ∨ ((Itr 0 n).go i H ∧ ∃ N : L2.St → Hp → Prop, (∀ σ' H', N σ' H' → ∃ m', m' < m ∧ W (i + 1) m' σ' H') ∧ ∀ x H', (Itr 0 n).yld i H x H' → gName 8 x σ H' fun σ2 H2 =>
        (tDrop (tApp (tVar 7) (tTup (tCons (tCall spPckB [] E0 (tCons (tVar 0) (tCons (tLst (tCons (tC (.str "more")) (tCons (tC (.str "more")) (tCons (tC (.str "less")) tNil)))) tNil))) (tCons (tCall spPckB [] E0 (tCons (tVar 0) (tCons (tVar 5) tNil))) tNil))))) { D with nx := N, ct := N, bk := D.nx } σ2 H2) := by
  refine for_range (lo := 0) (n := n) (fun i σ H' => ∃ (w8 : Option V) (mv : List Stp) (sps : List Addr), σ = [some (.ref p), some (.str wd), some (.ref wl), some (.ref ml), some (.int rr), some (.ref nm), some (.ref aim), some (.ref rl), w8, w9, w10, w11, w12, w13] ∧ Bt p H0 H' ∧ Pl H' p q ∧ mv.length = i ∧ H' rl = some (.lst (sps.map V.ref)) ∧ Paired (StpAt H') sps mv ∧ ∀ s ∈ mv, okMove ns s)
    ⟨_, [], [], rfl, b, pl, rfl, hl, .nil, fun s h => nomatch h⟩ ?_ ?_
  · rintro i _ H1 hi ⟨w8, mv, sps, rfl, b1, pl1, hlen, hl1, hp1, hok⟩
    refine ⟨_, rfl, rl, rfl, ⟨_, hl1⟩, _, rfl, sz (by simp), fun m3 hm3 => ?_⟩
    have n1 := My.Same.new (o := .lst [.str "more", .str "more", .str "less"]) (Same.refl H1) hm3
    have l1 : upd H1 m3 (.lst [.str "more", .str "more", .str "less"]) m3 = some (.lst [.str "more", .str "more", .str "less"]) := upd_same
    have nm3 := pl1.ne hm3
    generalize upd H1 m3 (.lst [.str "more", .str "more", .str "less"]) = H2 at *
    have pl2 := pl1.same n1
    refine ⟨p, q, m3, _, rfl, pl2, l1, nm3, by simp, fun x H3 b3 pl3 hx => ?_⟩
    have b13 : Bt p H1 H3 := (Same.bt n1).trans b3
    refine ⟨_, rfl, _, rfl, p, q, nm, _, rfl, pl3, (b1.trans b13) _ _ nnp hnm, nnp, by rw [List.length_map]; exact List.length_pos_iff.mpr (hne (by omega)), fun y H4 b4 pl4 hy => ?_⟩
    have b14 := b13.trans b4
    obtain ⟨m, hm, rfl⟩ := List.mem_map.mp hy
    have hx' : ∃ dir, x = .str dir ∧ dir ∈ (["more", "less"] : List Str) := by
      simp only [List.mem_cons, List.not_mem_nil, or_false] at hx
      rcases hx with rfl | rfl | rfl
      · exact ⟨_, rfl, by simp⟩
      · exact ⟨_, rfl, by simp⟩
      · exact ⟨_, rfl, by simp⟩
    obtain ⟨dir, rfl, hdir⟩ := hx'
    refine ⟨sz (by simp), fun T hT => ⟨sps.map V.ref, ?_, szl ?_, ?_⟩⟩
    · have h4 := b14 _ _ nrp hl1
      rw [upd_ne (ne_of_none h4 hT)]; exact h4
    · have := Paired.length hp1
      rw [List.length_map]; omega
    · have h4 := b14 _ _ nrp hl1
      have nrT : rl ≠ T := ne_of_none h4 hT
      have b04 := b1.trans b14
      have hp4 : Paired (StpAt H4) sps mv := Paired.mono (fun a s z => ⟨b14 a _ (pl1.neO z.1 (fun _ _ e => by cases s <;> cases e)) z.1, z.2⟩) hp1
      refine ⟨_, mv ++ [.move dir m], sps ++ [T], rfl, (b04.set (b04.none (pl4.ne hT) hT)).set hrl, (pl4.set (pl4.ne hT) (pl4.neQ hT)).set nrp nrq, by rw [List.length_append, hlen]; rfl, by rw [upd_same, List.map_append]; rfl, ?_, ?_⟩
      · refine Paired.snoc (Paired.mono (fun a s z => ?_) hp4) ⟨by rw [upd_ne (Ne.symm nrT), upd_same]; rfl, hs m hm⟩
        have na : a ≠ rl := ne_of z.1 h4 (by intro e; cases s <;> cases e)
        exact ⟨by rw [upd_ne na, upd_ne (ne_of_none z.1 hT)]; exact z.1, z.2⟩
      · intro s h
        rcases List.mem_append.mp h with h | h
        · exact hok s h
        · rw [List.mem_singleton.mp h]
          exact ⟨dir, m, rfl, hdir, hm⟩
  · rintro _ H' ⟨w8, mv, sps, rfl, b1, pl1, hlen, hl1, hp1, hok⟩
    exact qq w8 H' mv sps b1 pl1 hlen hl1 hp1 hok
end My

set_option Elab.async false
set_option linter.all false
set_option maxRecDepth 100000
set_option maxHeartbeats 4000000
namespace My
open PySem PySem.Spec PyProof.Rows L2
local macro_rules | `(tactic| walk_at "rd") => `(tactic| simp only [rd_seq, rd_next, rd_brk, rd_cont, rd_asg, rd_gname, rd_var, rd_c, rd_op, rd_un, rd_rI0, rd_rI, rd_rU, rd_test, rd_B, rd_and, rd_or, rd_not, rd_andV, rd_orV, rd_notV, rd_ifx, rd_ifs, rd_drop, rd_ret, rd_nil, rd_cons, rd_cb, rd_tup, rd_lst, rd_call, rd_bm, rd_app, rd_ixLst, rd_ixSq, rd_lenL, rd_lenSq, rd_setLst, rd_sub, rd_neNil, rd_isStr, rd_dg, rd_dp, rd_mk, rd_sl, rd_noP, rd_part, rd_slL, rd_cat, rd_lcL, rd_lcE, rd_lcA, rd_lcEA, rd_isTy, rd_ixT, rd_inRow, rd_bm0, rd_rz, rd_isD, rd_lockE, rd_lcK, rd_dgetD, rd_ixTp, rd_lenUn,  L2.valV_put, rd_fldS, rd_eq, rd_ne, rd_fldE, rd_allB, rd_isBl, rd_inS, rd_chain, rd_chain', L2.wipe, Int.reduceToNat, Int.reduceLE, Int.reduceLT, Nat.reduceLT, Nat.reduceLeDiff, Int.reduceNeg, Int.toNat_natCast, Int.reduceAdd, L2.start, and_assoc, exists_and_left, List.map_cons, List.map_nil, List.length_cons, List.length_nil, List.cons_append, List.nil_append, List.append_nil, List.replicate_succ, List.replicate_zero, List.replicate, List.set_cons_zero, List.set_cons_succ, List.getElem?_cons_zero, List.getElem?_cons_succ, Option.some.injEq, exists_eq_left', exists_eq_left, exists_eq, V.int.injEq, V.ref.injEq, V.str.injEq, V.bl.injEq, HO.lst.injEq, HO.tup.injEq, ex_bl, List.cons.injEq, and_true, true_and, Nat.reduceAdd, Nat.reduceSub, reduceCtorEq, false_and, or_false, exists_false, false_or, decide_eq_true_eq, if_true, if_false, Bool.false_eq_true, Bool.not_true, Bool.not_false, upd_same])
local macro_rules | `(tactic| walk_at "rdh") => `(tactic| simp only [rd_seq, rd_next, rd_brk, rd_cont, rd_asg, rd_gname, rd_var, rd_c, rd_op, rd_un, rd_rI0, rd_rI, rd_rU, rd_test, rd_B, rd_and, rd_or, rd_not, rd_andV, rd_orV, rd_notV, rd_ifx, rd_ifs, rd_drop, rd_ret, rd_nil, rd_cons, rd_cb, rd_tup, rd_lst, rd_call, rd_bm, rd_app, rd_ixLst, rd_ixSq, rd_lenL, rd_lenSq, rd_setLst, rd_sub, rd_neNil, rd_isStr, rd_dg, rd_dp, rd_mk, rd_sl, rd_noP, rd_part, rd_slL, rd_cat, rd_lcL, rd_lcE, rd_lcA, rd_lcEA, rd_isTy, rd_ixT, rd_inRow, rd_bm0, rd_rz, rd_isD, rd_lockE, rd_lcK, rd_dgetD, rd_ixTp, rd_lenUn,  L2.valV_put, rd_fldS, rd_eq, rd_ne, rd_fldE, rd_allB, rd_isBl, rd_inS, rd_chain, rd_chain', L2.wipe, Int.reduceToNat, Int.reduceLE, Int.reduceLT, Nat.reduceLT, Nat.reduceLeDiff, Int.reduceNeg, Int.toNat_natCast, Int.reduceAdd, L2.start, and_assoc, exists_and_left, List.map_cons, List.map_nil, List.length_cons, List.length_nil, List.cons_append, List.nil_append, List.append_nil, List.replicate_succ, List.replicate_zero, List.replicate, List.set_cons_zero, List.set_cons_succ, List.getElem?_cons_zero, List.getElem?_cons_succ, Option.some.injEq, exists_eq_left', exists_eq_left, exists_eq, V.int.injEq, V.ref.injEq, V.str.injEq, V.bl.injEq, HO.lst.injEq, HO.tup.injEq, ex_bl, List.cons.injEq, and_true, true_and, Nat.reduceAdd, Nat.reduceSub, reduceCtorEq, false_and, or_false, exists_false, false_or, decide_eq_true_eq, if_true, if_false, Bool.false_eq_true, Bool.not_true, Bool.not_false, upd_same, *])

abbrev sDdn : Stmt := topI 25
abbrev NDdn : List Str := ["pool", "word", "words", "marks", "rarely", "names", "aims", "rows", "turn", "act", "deed", "mark", "end", "one"]
theorem scDdn : FnScope NDdn ["pool", "word", "words", "marks", "rarely"] (defScope sDdn) := ⟨rfl, rfl, rfl, by decide +kernel, rfl, by decide +kernel, by decide +kernel⟩
section
variable {P : Program} {w : World} {K : PySem.W.Frag} {mg : Str → Option Value} {base : Heap}
theorem dp_strs {K : PySem.W.Frag} {H : Hp} {p : Addr} {ws : List Str} (h : H p = some (.lst (ws.map V.str))) : Dp K H (.ref p) (.list (ws.map .str)) := by
  refine .lst (SqL.of h) ?_
  clear h
  induction ws with
  | nil => exact .nil
  | cons b bs ih => exact .cons (.str b) ih
theorem lay_strs : ∀ {ws : List Str}, (∀ x ∈ ws, okCps x) → PyData.canLayAll0 (ws.map PyData.str) = true ∧ PyData.depthAll (ws.map PyData.str) = 0
  | [], _ => by simp [PyData.canLayAll0, PyData.depthAll]
  | w :: ws, h => by
    obtain ⟨a, b⟩ := lay_strs (ws := ws) fun x hx => h x (List.mem_cons_of_mem _ hx)
    have c : PyData.strOk w = true := h w (List.mem_cons_self ..)
    simp [PyData.canLayAll0, PyData.canLay0, PyData.depthAll, PyData.depth, a, b, c]
theorem sh_strs {ws : List Str} (h : ∀ x ∈ ws, okCps x) : SeqAt.shaped (.list (ws.map .str)) = true := by
  obtain ⟨a, b⟩ := lay_strs h
  unfold SeqAt.shaped
  simp [PyData.canLay0, PyData.depth, a, b]
theorem ok_ddn {f : Addr} {fd : FuncData} (F : Fun K "_law_drawn_deed" "_law_drawn_deed" sDdn f fd) (B : Bn mg) (D_draw : Df K mg "_law_draw" sDrw ["pool", "many"]) (G_draw : FnOk P w K mg base CX0 1 D_draw.f D_draw.fd ["pool", "many"] spDrwB) (D_pick : Df K mg "_law_pick" sPck ["pool", "some"]) (G_pick : FnOk P w K mg base CX0 2 D_pick.f D_pick.fd ["pool", "some"] spPckB) : FnOk P w K mg base CX0 3 f fd ["pool", "word", "words", "marks", "rarely"] spDdn := by
  refine F.ok scDdn (fun vs H Q E h => ?_) (fun cdv A outer s H vs Q E hr h => ?_)
  · obtain ⟨p, q, wl, ml, wd, ws, ks, rr, rfl, _⟩ := h
    rfl
  · obtain ⟨p, q, wl, ml, wd, ws, ks, rr, rfl, pl, hwl, nwl, zws, hml, nml, hks, hrr, qq⟩ := h
    have hr2 := hr
    have hr1 := hr.mono (by decide : 1 ≤ 2)
    have hu64 := hr.units
    obtain ⟨kz, kc, knd, kmk⟩ := marks7_ok ks hks
    refine ⟨_, (pss_cons (ps_setLc (i := 5) (own := [("mark", 11), ("end", 12)]) (g := gTup K 2 (gCons (gName 11) (gCons (gName 12) gNil))) rfl scDdn.nd rfl rfl (sw_true rfl rfl rfl (by decide +kernel)) (pi_list (pv 3)) (blkOk_by (own := [("mark", 11), ("end", 12)]) (N := NDdn) (sc := defScope sDdn) (by decide +kernel)) (fun _ _ _ _ _ => by exact (pg_tup rfl (pgs_cons (pg_name (i := 11) scDdn.nd rfl (Or.inl rfl)) (pgs_cons (pg_name (i := 12) scDdn.nd rfl (Or.inl rfl)) pgs_nil)))) (fun _ _ _ _ _ => pts_nil) (fun _ _ _ _ _ => (pv 11)))
      (pss_cons (ps_set (i := 6) scDdn.nd rfl (Or.inl rfl) (pe_slice sl_list (pv 5) po_none (po_some (pe_op op_mul (pc D_draw G_draw hr1 (pa_cons (pv 0) (pa_cons pe_int pa_nil))) (pe_callTy call_int1 (by rfl) B.int (by decide +kernel) (pa_cons (pe_cmpR op_eq (pc D_draw G_draw hr1 (pa_cons (pv 0) (pa_cons pe_int pa_nil))) pe_int (nomark _)) pa_nil))))))
      (pss_cons (ps_par (i := 5) (j := 7) (by rfl) scDdn.nd rfl rfl (by decide) rfl rfl (pa_cons (pe_op op_cat (pv 5) (pe_op op_rep (pe_lst (pa_cons pe_str pa_nil)) (pe_callB (call_min2 rfl) (by rfl) B.min (by decide +kernel) (pa_cons pe_int (pa_cons (pe_callB call_lenL (by rfl) B.len (by decide +kernel) (pa_cons (pv 6) pa_nil)) pa_nil))))) (pa_cons (pe_lst pa_nil) pa_nil)) (by rfl))
      (pss_cons (ps_for PassesOwn.never rfl (pi_range1 (by rfl) B.range (pa_cons (pe_op op_mul (pc D_draw G_draw hr1 (pa_cons (pv 0) (pa_cons pe_int pa_nil))) (pe_callTy call_int1 (by rfl) B.int (by decide +kernel) (pa_cons (pe_cmpR (op_neD hu64) (pv 5) (pe_lst pa_nil) (nomark _)) pa_nil))) pa_nil)) (pg_name (i := 8) scDdn.nd rfl (Or.inl rfl))
        (pss_one (ps_expr (pe_app (pv 7) (pe_tup (pa_cons (pc D_pick G_pick hr2 (pa_cons (pv 0) (pa_cons (pe_lst (pa_cons pe_str (pa_cons pe_str (pa_cons pe_str pa_nil)))) pa_nil))) (pa_cons (pc D_pick G_pick hr2 (pa_cons (pv 0) (pa_cons (pv 5) pa_nil))) pa_nil)))))))
      (pss_cons (ps_set (i := 9) scDdn.nd rfl (Or.inl rfl) (pc D_pick G_pick hr2 (pa_cons (pv 0) (pa_cons (pe_lst (pa_cons pe_str (pa_cons pe_str (pa_cons pe_str (pa_cons pe_str (pa_cons pe_str (pa_cons pe_str (pa_cons pe_str pa_nil)))))))) pa_nil))))
      (pss_cons (ps_set (i := 10) scDdn.nd rfl (Or.inl rfl) (pe_disp (pps_cons pe_str (pv 1) (pps_cons pe_str (pe_cmpR op_eq (pc D_draw G_draw hr1 (pa_cons (pv 0) (pa_cons pe_int pa_nil))) pe_int (nomark _)) (pps_cons pe_str (pv 6) (pps_cons pe_str (pe_cmpR op_gt (pc D_draw G_draw hr1 (pa_cons (pv 0) (pa_cons (pv 4) pa_nil))) pe_int (nomark _)) pps_nil)))) (by rfl) (by rfl) (fun z => by cases z) (by decide)))
      (pss_cons (ps_dp hu64 (pv 10) pe_str (pe_lc (own := [("one", 13)]) (g := gName 13) rfl scDdn.nd (pi_list (pv 2)) (blkOk_by (own := [("one", 13)]) (N := NDdn) (sc := defScope sDdn) (by decide +kernel)) (fun _ _ _ _ _ => pg_name (i := 13) scDdn.nd rfl (Or.inl rfl)) (fun _ _ _ _ _ => pts_one (pt_cmpR op_lt (pc D_draw G_draw hr1 (pa_cons (pv 0) (pa_cons pe_int pa_nil))) pe_int (nomark _))) (fun _ _ _ _ _ => (pv 13))) rfl)
      (pss_cons (ps_dp hu64 (pv 10) pe_str (pc D_pick G_pick hr2 (pa_cons (pv 0) (pa_cons (pe_lst (pa_cons pe_str (pa_cons pe_str (pa_cons pe_str (pa_cons pe_str pa_nil))))) pa_nil))) rfl)
      (pss_cons (ps_dp hu64 (pv 10) pe_str (pe_lc (own := [("mark", 11), ("end", 12)]) (g := gTup K 2 (gCons (gName 11) (gCons (gName 12) gNil))) rfl scDdn.nd (pi_list (pv 3)) (blkOk_by (own := [("mark", 11), ("end", 12)]) (N := NDdn) (sc := defScope sDdn) (by decide +kernel)) (fun _ _ _ _ _ => by exact (pg_tup rfl (pgs_cons (pg_name (i := 11) scDdn.nd rfl (Or.inl rfl)) (pgs_cons (pg_name (i := 12) scDdn.nd rfl (Or.inl rfl)) pgs_nil)))) (fun _ _ _ _ _ => pts_one (pt_cmpR op_eq (pc D_draw G_draw hr1 (pa_cons (pv 0) (pa_cons pe_int pa_nil))) pe_int (nomark _))) (fun _ _ _ _ _ => (pe_tup (pa_cons (pv 11) (pa_cons (pe_op op_add pe_int (pc D_draw G_draw hr1 (pa_cons (pv 0) (pa_cons (pv 12) pa_nil)))) pa_nil))))) rfl)
      (pss_cons (ps_dp hu64 (pv 10) pe_str (pe_lc (own := [("mark", 11), ("end", 12)]) (g := gTup K 2 (gCons (gName 11) (gCons (gName 12) gNil))) rfl scDdn.nd (pi_list (pv 3)) (blkOk_by (own := [("mark", 11), ("end", 12)]) (N := NDdn) (sc := defScope sDdn) (by decide +kernel)) (fun _ _ _ _ _ => by exact (pg_tup rfl (pgs_cons (pg_name (i := 11) scDdn.nd rfl (Or.inl rfl)) (pgs_cons (pg_name (i := 12) scDdn.nd rfl (Or.inl rfl)) pgs_nil)))) (fun _ _ _ _ _ => pts_one (pt_cmpR op_eq (pc D_draw G_draw hr1 (pa_cons (pv 0) (pa_cons pe_int pa_nil))) pe_int (nomark _))) (fun _ _ _ _ _ => (pe_tup (pa_cons (pv 11) (pa_cons (pe_op op_add pe_int (pc D_draw G_draw hr1 (pa_cons (pv 0) (pa_cons (pv 12) pa_nil)))) pa_nil))))) rfl)
      (pss_cons (ps_dp hu64 (pv 10) pe_str (pe_op op_cat (pv 7) (pe_op op_rep (pe_lst (pa_cons (pe_tup (pa_cons (pv 9) pa_nil)) pa_nil)) (pe_callTy call_int1 (by rfl) B.int (by decide +kernel) (pa_cons (pe_cmpR op_ne (pv 9) pe_str (nomark _)) pa_nil)))) rfl)
      (pss_one (ps_ret (pv 10)))))))))))))), ?_⟩
    obtain ⟨mps, hml1, hml2⟩ := hml
    have hml : PrL H ml ks := ⟨mps, hml1, hml2⟩
    refine step_asg ?_
    rw [rd_lcL]
    refine ⟨_, rfl, ml, rfl, ⟨_, SqL.of hml1⟩, lc_names hml (by omega) (fun _ _ => rfl) (fun _ _ => rfl) fun n0 H1 hn0 s1 ln0 => ?_⟩
    have pl1 := pl.same s1
    have qn0 := pl.ne hn0
    -- aims
    refine step_asg ⟨_, rfl, _, rfl, p, q, 3, rfl, by decide, pl1, fun r1 H2 b2 pl2 r10 r11 => ⟨_, rfl, p, q, 3, rfl, by decide, pl2, fun r2 H3 b3 pl3 r20 r21 => ⟨rfl, .inr ⟨_, rfl, ⟨r1, _, rfl, rfl, .inl ⟨by omega, by omega⟩, _, rfl, n0, _, rfl, SqL.of ((b2.trans b3) _ _ qn0 ln0), fun am ham => ?_⟩⟩⟩⟩⟩
    have e0 : 0 ≤ r1 * (if decide (V.int r2 = V.int 0) = true then (1 : Int) else 0) ∧ r1 * (if decide (V.int r2 = V.int 0) = true then (1 : Int) else 0) ≤ 2 := by
      split <;> omega
    generalize r1 * (if decide (V.int r2 = V.int 0) = true then (1 : Int) else 0) = ei at *
    rw [cut_take e0.1, List.map_take.symm]
    have zgo : ei.toNat ≤ 2 := by omega
    generalize hgo : (ks.map (·.1)).take ei.toNat = gs at *
    have B3 : Bt p H H3 := (Same.bt s1).trans (b2.trans b3)
    have ln0 := (b2.trans b3) _ _ qn0 ln0
    have nam := My.Same.new (o := .lst (gs.map V.str)) (Same.refl H3) ham
    have lam : upd H3 am (.lst (gs.map V.str)) am = some (.lst (gs.map V.str)) := upd_same
    have qam := pl3.ne ham
    generalize upd H3 am (.lst (gs.map V.str)) = H4 at *
    have pl4 := pl3.same nam
    have B4 : Bt p H H4 := B3.trans (Same.bt nam)
    have ln0 := nam _ _ ln0
    -- names, rows
    refine step_seq ?_
    refine ⟨_, rfl, sz (by simp), fun g1 hg1 => ?_⟩
    have ng1 := My.Same.new (o := .lst [.str "goal"]) (Same.refl H4) hg1
    have lg1 : upd H4 g1 (.lst [.str "goal"]) g1 = some (.lst [.str "goal"]) := upd_same
    generalize upd H4 g1 (.lst [.str "goal"]) = H5 at *
    refine ⟨_, rfl, am, rfl, _, ng1 _ _ lam, 1, _, rfl, ?_⟩
    have erep : (List.replicate (if ((gs.map V.str).length : Int) < 1 then ((gs.map V.str).length : Int) else 1).toNat [V.str "goal"]).flatten = (if gs = [] then ([] : List Str) else ["goal"]).map V.str := by
      cases gs with
      | nil => rfl
      | cons x xs =>
        rw [if_neg (by simp; omega), if_neg (by simp)]
        rfl
    refine ⟨g1, _, _, rfl, rfl, lg1, by split <;> omega, by split <;> omega, sz (by show 1 * _ ≤ 100000; split <;> omega), fun g2 hg2 => ?_⟩
    rw [erep]
    have ng2 := My.Same.new (o := .lst ((if gs = [] then ([] : List Str) else ["goal"]).map V.str)) (Same.refl H5) hg2
    have lg2 : upd H5 g2 (.lst ((if gs = [] then ([] : List Str) else ["goal"]).map V.str)) g2 = some (.lst ((if gs = [] then ([] : List Str) else ["goal"]).map V.str)) := upd_same
    generalize upd H5 g2 (.lst ((if gs = [] then ([] : List Str) else ["goal"]).map V.str)) = H6 at *
    refine ⟨n0, g2, _, _, rfl, rfl, ng2 _ _ (ng1 _ _ ln0), lg2, sz (by rw [List.length_map, List.length_map, List.length_map]; split <;> simp <;> omega), fun nm hnm => ?_⟩
    rw [List.map_append.symm]
    generalize hns : ks.map (·.1) ++ (if gs = [] then ([] : List Str) else ["goal"]) = ns at *
    have nnm := My.Same.new (o := .lst (ns.map V.str)) (Same.refl H6) hnm
    have lnm : upd H6 nm (.lst (ns.map V.str)) nm = some (.lst (ns.map V.str)) := upd_same
    generalize upd H6 nm (.lst (ns.map V.str)) = H7 at *
    have s47 := (ng1.trans ng2).trans nnm
    have pl7 := pl4.same s47
    have qnm := (pl4.same (ng1.trans ng2)).ne hnm
    have B7 : Bt p H H7 := B4.trans (Same.bt s47)
    have lam7 := s47 _ _ lam
    refine ⟨sz (by simp), fun rl hrl => ⟨_, _, rfl, ?_⟩⟩
    have nrl := My.Same.new (o := .lst []) (Same.refl H7) hrl
    have lrl : upd H7 rl (.lst []) rl = some (.lst []) := upd_same
    have qrl := pl7.ne hrl
    have qrq := pl7.neQ hrl
    generalize upd H7 rl (.lst []) = H8 at *
    have pl8 := pl7.same nrl
    have hnsC : ∀ x ∈ ns, okCps x ∧ x.length ≤ 8 := by
      intro x hx
      rw [← hns] at hx
      rcases List.mem_append.mp hx with hx | hx
      · obtain ⟨e, he, rfl⟩ := List.mem_map.mp hx
        exact (kmk e he).2
      · split at hx
        · cases hx
        · rw [List.mem_singleton.mp hx]
          exact ⟨by unfold okCps; decide +kernel, by decide +kernel⟩
    -- the loop
    refine step_seq ?_
    refine ⟨_, rfl, p, q, 3, rfl, by decide, pl8, fun r3 H9 b9 pl9 r30 r31 => ⟨_, rfl, sz (by simp), fun em hem => ?_⟩⟩
    have nem := My.Same.new (o := .lst []) (Same.refl H9) hem
    have lem : upd H9 em (.lst []) em = some (.lst []) := upd_same
    generalize upd H9 em (.lst []) = HA at *
    have plA := pl9.same nem
    have BA : Bt p H7 HA := (Same.bt nrl).trans (b9.trans (Same.bt nem))
    have lrlA := (b9.trans (Same.bt nem)) _ _ qrl lrl
    refine ⟨.list (ns.map .str), .list [], dp_strs (BA _ _ qnm lnm), .lst (SqL.of lem) .nil, sh_strs (fun x hx => (hnsC x hx).1), by decide +kernel, .inr ⟨_, rfl, ⟨r3, _, rfl, rfl, .inl ⟨by omega, by omega⟩, ?_⟩⟩⟩
    have ej : 0 ≤ r3 * (if (!PyData.eqv (.list (ns.map .str)) (.list [])) = true then (1 : Int) else 0) ∧ r3 * (if (!PyData.eqv (.list (ns.map .str)) (.list [])) = true then (1 : Int) else 0) ≤ 2 ∧ (0 < r3 * (if (!PyData.eqv (.list (ns.map .str)) (.list [])) = true then (1 : Int) else 0) → ns ≠ []) := by
      split
      · rename_i h
        refine ⟨by omega, by omega, fun _ e => ?_⟩
        rw [e] at h
        simp [PyData.eqv, PyData.eqvAll] at h
      · refine ⟨by omega, by omega, fun h => ?_⟩
        omega
    refine ⟨r3 * (if (!PyData.eqv (.list (ns.map .str)) (.list [])) = true then (1 : Int) else 0), rfl, by have := ej.1; omega, by have := ej.2.1; omega, moves_go (K := K) (ns := ns) (H0 := H7) BA plA hrl qrl qrq lnm qnm lrlA (by have := ej.2.1; omega) (fun h => ej.2.2 (by omega)) (fun x hx => Nat.le_trans (hnsC x hx).2 (by decide)) fun w8 HB mv sps bB plB hlen hlB hpB hok => ?_⟩
    dsimp only
    -- the act
    refine step_asg ?_
    refine ⟨_, rfl, sz (by simp), fun m7 hm7 => ?_⟩
    have nm7 := My.Same.new (o := .lst [.str "", .str "", .str "", .str "strike", .str "strike", .str "again", .str "turn"]) (Same.refl HB) hm7
    have lm7 : upd HB m7 (.lst [.str "", .str "", .str "", .str "strike", .str "strike", .str "again", .str "turn"]) m7 = some (.lst [.str "", .str "", .str "", .str "strike", .str "strike", .str "again", .str "turn"]) := upd_same
    have qm7 := plB.ne hm7
    generalize upd HB m7 (.lst [.str "", .str "", .str "", .str "strike", .str "strike", .str "again", .str "turn"]) = HC at *
    refine ⟨p, q, m7, _, rfl, plB.same nm7, lm7, qm7, by simp, fun ac HD bD plD hac => ?_⟩
    have hac' : ∃ a : Str, ac = .str a ∧ (a = "" ∨ a ∈ acts) := by
      simp only [List.mem_cons, List.not_mem_nil, or_false] at hac
      rcases hac with rfl | rfl | rfl | rfl | rfl | rfl | rfl
      · exact ⟨_, rfl, .inl rfl⟩
      · exact ⟨_, rfl, .inl rfl⟩
      · exact ⟨_, rfl, .inl rfl⟩
      · exact ⟨_, rfl, .inr (by decide)⟩
      · exact ⟨_, rfl, .inr (by decide)⟩
      · exact ⟨_, rfl, .inr (by decide)⟩
      · exact ⟨_, rfl, .inr (by decide)⟩
    obtain ⟨act, rfl, hact⟩ := hac'
    have bBD : Bt p HB HD := (Same.bt nm7).trans bD
    have hlD := bBD _ _ qrl hlB
    have hpD : Paired (StpAt HD) sps mv := Paired.mono (fun a s z => ⟨bBD a _ (plB.neO z.1 (fun _ _ e => by cases s <;> cases e)) z.1, z.2⟩) hpB
    have B7D : Bt p H7 HD := bB.trans bBD
    have BD : Bt p H HD := B7.trans B7D
    have lamD := B7D _ _ (fun e => qam e) lam7
    -- the dict
    refine step_asg ?_
    refine fun g hg => ?_
    have ngd := My.Same.new (o := .dK []) (Same.refl HD) hg
    have lgd : upd HD g (.dK []) g = some (.dK []) := upd_same
    have qg := plD.ne hg
    have qgq := plD.neQ hg
    generalize upd HD g (.dK []) = HE at *
    refine ⟨_, rfl, _, rfl, p, q, 2, rfl, by decide, plD.same ngd, fun r4 HF bF plF _ _ => ⟨rfl, _, rfl, _, rfl, _, rfl, p, q, rr, rfl, hrr, plF, fun r5 HG bG plG _ _ => ?_⟩⟩
    refine ⟨r5, 0, rfl, rfl, ?_⟩
    have bEG := bF.trans bG
    have lgG := bEG _ _ qg lgd
    refine ⟨lgG, [(Sum.inr "word", .str wd), (Sum.inr "opens", .bl (decide (V.int r4 = V.int 0))), (Sum.inr "goals", .ref am), (Sum.inr "card", .bl (decide ((0 : Int) < r5)))], rfl, by simp, ?_⟩
    generalize decide (V.int r4 = V.int 0) = op at *
    generalize decide ((0 : Int) < r5) = ca at *
    have lI : upd HG g (.dK (mergeK [] [(Sum.inr "word", V.str wd), (Sum.inr "opens", V.bl op), (Sum.inr "goals", V.ref am), (Sum.inr "card", V.bl ca)])) g = some (.dK [(Sum.inr "word", V.str wd), (Sum.inr "opens", V.bl op), (Sum.inr "goals", V.ref am), (Sum.inr "card", V.bl ca)]) := upd_same
    have plI : Pl (upd HG g (.dK (mergeK [] [(Sum.inr "word", V.str wd), (Sum.inr "opens", V.bl op), (Sum.inr "goals", V.ref am), (Sum.inr "card", V.bl ca)]))) p q := plG.set qg qgq
    have gI : Bg p g HD (upd HG g (.dK (mergeK [] [(Sum.inr "word", V.str wd), (Sum.inr "opens", V.bl op), (Sum.inr "goals", V.ref am), (Sum.inr "card", V.bl ca)]))) := ((Same.bg ngd).trans bEG.bg).trans Bg.upd
    generalize upd HG g (.dK (mergeK [] [(Sum.inr "word", V.str wd), (Sum.inr "opens", V.bl op), (Sum.inr "goals", V.ref am), (Sum.inr "card", V.bl ca)])) = HI at *
    have dD : Dk HD g := Dk.mk0 hg
    have hwlD := BD _ _ nwl hwl
    have hmlD := hml.bt pl nml BD
    have gwl := dD.ne hwlD (fun _ e => by cases e)
    -- answers
    refine step_seq ?_
    rw [rd_dp, rd_lcL]
    refine ⟨_, rfl, wl, rfl, ⟨_, SqL.of (gI _ _ nwl gwl hwlD)⟩, lc_ans (p := p) (q := q) (ws := ws) (gI _ _ nwl gwl hwlD) nwl plI (by decide) zws (fun _ => rfl) (fun _ => rfl) (fun _ => rfl) fun an HJ as han bJ plJ hsub lan => ⟨_, rfl, g, _, rfl, rfl, _, bJ _ _ qg lI, by exact (by decide : 4 < sizeLine), ?_⟩⟩
    have qan := plI.ne han
    have gan : an ≠ g := Ne.symm (ne_of_none lI han)
    have lHK : upd HJ g (.dK (putK [(Sum.inr "word", V.str wd), (Sum.inr "opens", V.bl op), (Sum.inr "goals", V.ref am), (Sum.inr "card", V.bl ca)] (Sum.inr "answers") (V.ref an))) g = some (.dK [(Sum.inr "word", V.str wd), (Sum.inr "opens", V.bl op), (Sum.inr "goals", V.ref am), (Sum.inr "card", V.bl ca), (Sum.inr "answers", (V.ref an))]) := by rw [upd_same]; rfl
    have uHK : Bg p g HJ (upd HJ g (.dK (putK [(Sum.inr "word", V.str wd), (Sum.inr "opens", V.bl op), (Sum.inr "goals", V.ref am), (Sum.inr "card", V.bl ca)] (Sum.inr "answers") (V.ref an)))) := Bg.upd
    have plHK : Pl (upd HJ g (.dK (putK [(Sum.inr "word", V.str wd), (Sum.inr "opens", V.bl op), (Sum.inr "goals", V.ref am), (Sum.inr "card", V.bl ca)] (Sum.inr "answers") (V.ref an)))) p q := plJ.set qg qgq
    generalize upd HJ g (.dK (putK [(Sum.inr "word", V.str wd), (Sum.inr "opens", V.bl op), (Sum.inr "goals", V.ref am), (Sum.inr "card", V.bl ca)] (Sum.inr "answers") (V.ref an))) = HK at *
    have gK : Bg p g HD HK := (gI.trans bJ.bg).trans uHK
    have fan := uHK _ _ qan gan lan
    -- whose
    dsimp only
    refine step_seq ?_
    rw [rd_dp]
    refine ⟨_, rfl, sz (by simp), fun m4 hm4 => ?_⟩
    have nm4 := My.Same.new (o := .lst [.str "any", .str "any", .str "own", .str "other"]) (Same.refl HK) hm4
    have lm4 : upd HK m4 (.lst [.str "any", .str "any", .str "own", .str "other"]) m4 = some (.lst [.str "any", .str "any", .str "own", .str "other"]) := upd_same
    have qm4 := plHK.ne hm4
    generalize upd HK m4 (.lst [.str "any", .str "any", .str "own", .str "other"]) = HL at *
    refine ⟨p, q, m4, _, rfl, plHK.same nm4, lm4, qm4, by simp, fun wv HM bM plM hwv => ?_⟩
    have hwv' : ∃ wh : Str, wv = .str wh ∧ wh ∈ (["any", "own", "other"] : List Str) := by
      simp only [List.mem_cons, List.not_mem_nil, or_false] at hwv
      rcases hwv with rfl | rfl | rfl | rfl
      · exact ⟨_, rfl, by simp⟩
      · exact ⟨_, rfl, by simp⟩
      · exact ⟨_, rfl, by simp⟩
      · exact ⟨_, rfl, by simp⟩
    obtain ⟨wh, rfl, hwh⟩ := hwv'
    have bKM : Bt p HK HM := (Same.bt nm4).trans bM
    refine ⟨_, rfl, g, _, rfl, rfl, _, bKM _ _ qg lHK, by exact (by decide : 5 < sizeLine), ?_⟩
    have lHN : upd HM g (.dK (putK [(Sum.inr "word", V.str wd), (Sum.inr "opens", V.bl op), (Sum.inr "goals", V.ref am), (Sum.inr "card", V.bl ca), (Sum.inr "answers", V.ref an)] (Sum.inr "whose") (V.str wh))) g = some (.dK [(Sum.inr "word", V.str wd), (Sum.inr "opens", V.bl op), (Sum.inr "goals", V.ref am), (Sum.inr "card", V.bl ca), (Sum.inr "answers", V.ref an), (Sum.inr "whose", (V.str wh))]) := by rw [upd_same]; rfl
    have uHN : Bg p g HM (upd HM g (.dK (putK [(Sum.inr "word", V.str wd), (Sum.inr "opens", V.bl op), (Sum.inr "goals", V.ref am), (Sum.inr "card", V.bl ca), (Sum.inr "answers", V.ref an)] (Sum.inr "whose") (V.str wh)))) := Bg.upd
    have plHN : Pl (upd HM g (.dK (putK [(Sum.inr "word", V.str wd), (Sum.inr "opens", V.bl op), (Sum.inr "goals", V.ref am), (Sum.inr "card", V.bl ca), (Sum.inr "answers", V.ref an)] (Sum.inr "whose") (V.str wh)))) p q := plM.set qg qgq
    generalize upd HM g (.dK (putK [(Sum.inr "word", V.str wd), (Sum.inr "opens", V.bl op), (Sum.inr "goals", V.ref am), (Sum.inr "card", V.bl ca), (Sum.inr "answers", V.ref an)] (Sum.inr "whose") (V.str wh))) = HN at *
    have gN : Bg p g HD HN := (gK.trans bKM.bg).trans uHN
    have gKN : Bg p g HK HN := bKM.bg.trans uHN
    -- asks
    dsimp only
    refine step_seq ?_
    rw [rd_dp, rd_lcL]
    have hmlN := gN.pr hmlD plD nml dD
    obtain ⟨np1, nq1, nq2⟩ := hmlN
    have hmlN : PrL HN ml ks := ⟨np1, nq1, nq2⟩
    refine ⟨_, rfl, ml, rfl, ⟨_, SqL.of nq1⟩, lc_cnts (p := p) (q := q) hmlN nml plHN (by decide) (by omega) kc (fun _ _ => rfl) (fun _ _ => rfl) (fun _ _ => rfl) (fun _ _ => rfl) fun ak HO1 ck hak bO plO hck lak => ⟨_, rfl, g, _, rfl, rfl, _, bO _ _ qg lHN, by exact (by decide : 6 < sizeLine), ?_⟩⟩
    have qak := plHN.ne hak
    have gak : ak ≠ g := Ne.symm (ne_of_none lHN hak)
    have lHP1 : upd HO1 g (.dK (putK [(Sum.inr "word", V.str wd), (Sum.inr "opens", V.bl op), (Sum.inr "goals", V.ref am), (Sum.inr "card", V.bl ca), (Sum.inr "answers", V.ref an), (Sum.inr "whose", V.str wh)] (Sum.inr "asks") (V.ref ak))) g = some (.dK [(Sum.inr "word", V.str wd), (Sum.inr "opens", V.bl op), (Sum.inr "goals", V.ref am), (Sum.inr "card", V.bl ca), (Sum.inr "answers", V.ref an), (Sum.inr "whose", V.str wh), (Sum.inr "asks", (V.ref ak))]) := by rw [upd_same]; rfl
    have uHP1 : Bg p g HO1 (upd HO1 g (.dK (putK [(Sum.inr "word", V.str wd), (Sum.inr "opens", V.bl op), (Sum.inr "goals", V.ref am), (Sum.inr "card", V.bl ca), (Sum.inr "answers", V.ref an), (Sum.inr "whose", V.str wh)] (Sum.inr "asks") (V.ref ak)))) := Bg.upd
    have plHP1 : Pl (upd HO1 g (.dK (putK [(Sum.inr "word", V.str wd), (Sum.inr "opens", V.bl op), (Sum.inr "goals", V.ref am), (Sum.inr "card", V.bl ca), (Sum.inr "answers", V.ref an), (Sum.inr "whose", V.str wh)] (Sum.inr "asks") (V.ref ak)))) p q := plO.set qg qgq
    generalize upd HO1 g (.dK (putK [(Sum.inr "word", V.str wd), (Sum.inr "opens", V.bl op), (Sum.inr "goals", V.ref am), (Sum.inr "card", V.bl ca), (Sum.inr "answers", V.ref an), (Sum.inr "whose", V.str wh)] (Sum.inr "asks") (V.ref ak))) = HP1 at *
    have gP : Bg p g HD HP1 := (gN.trans bO.bg).trans uHP1
    have gNP : Bg p g HN HP1 := bO.bg.trans uHP1
    have fak := uHP1.pr lak plO qak (Dk.mk1 (bO _ _ qg lHN))
    -- pays
    dsimp only
    refine step_seq ?_
    rw [rd_dp, rd_lcL]
    have hmlP := gP.pr hmlD plD nml dD
    obtain ⟨np2, nq3, nq4⟩ := hmlP
    have hmlP : PrL HP1 ml ks := ⟨np2, nq3, nq4⟩
    refine ⟨_, rfl, ml, rfl, ⟨_, SqL.of nq3⟩, lc_cnts (p := p) (q := q) hmlP nml plHP1 (by decide) (by omega) kc (fun _ _ => rfl) (fun _ _ => rfl) (fun _ _ => rfl) (fun _ _ => rfl) fun pa HQ cp hpa bQ plQ hcp lpa => ⟨_, rfl, g, _, rfl, rfl, _, bQ _ _ qg lHP1, by exact (by decide : 7 < sizeLine), ?_⟩⟩
    have qpa := plHP1.ne hpa
    have gpa : pa ≠ g := Ne.symm (ne_of_none lHP1 hpa)
    have lHR : upd HQ g (.dK (putK [(Sum.inr "word", V.str wd), (Sum.inr "opens", V.bl op), (Sum.inr "goals", V.ref am), (Sum.inr "card", V.bl ca), (Sum.inr "answers", V.ref an), (Sum.inr "whose", V.str wh), (Sum.inr "asks", V.ref ak)] (Sum.inr "pays") (V.ref pa))) g = some (.dK [(Sum.inr "word", V.str wd), (Sum.inr "opens", V.bl op), (Sum.inr "goals", V.ref am), (Sum.inr "card", V.bl ca), (Sum.inr "answers", V.ref an), (Sum.inr "whose", V.str wh), (Sum.inr "asks", V.ref ak), (Sum.inr "pays", (V.ref pa))]) := by rw [upd_same]; rfl
    have uHR : Bg p g HQ (upd HQ g (.dK (putK [(Sum.inr "word", V.str wd), (Sum.inr "opens", V.bl op), (Sum.inr "goals", V.ref am), (Sum.inr "card", V.bl ca), (Sum.inr "answers", V.ref an), (Sum.inr "whose", V.str wh), (Sum.inr "asks", V.ref ak)] (Sum.inr "pays") (V.ref pa)))) := Bg.upd
    have plHR : Pl (upd HQ g (.dK (putK [(Sum.inr "word", V.str wd), (Sum.inr "opens", V.bl op), (Sum.inr "goals", V.ref am), (Sum.inr "card", V.bl ca), (Sum.inr "answers", V.ref an), (Sum.inr "whose", V.str wh), (Sum.inr "asks", V.ref ak)] (Sum.inr "pays") (V.ref pa)))) p q := plQ.set qg qgq
    generalize upd HQ g (.dK (putK [(Sum.inr "word", V.str wd), (Sum.inr "opens", V.bl op), (Sum.inr "goals", V.ref am), (Sum.inr "card", V.bl ca), (Sum.inr "answers", V.ref an), (Sum.inr "whose", V.str wh), (Sum.inr "asks", V.ref ak)] (Sum.inr "pays") (V.ref pa))) = HR at *
    have gR : Bg p g HD HR := (gP.trans bQ.bg).trans uHR
    have gPR : Bg p g HP1 HR := bQ.bg.trans uHR
    have fpa := uHR.pr lpa plQ qpa (Dk.mk1 (bQ _ _ qg lHP1))
    -- steps
    dsimp only
    refine step_seq ?_
    rw [rd_dp]
    have hlR := gR _ _ qrl (dD.ne hlD (fun _ e => by cases e)) hlD
    refine ⟨_, rfl, _, rfl, sz (by simp), fun T hT => ?_⟩
    have nT := My.Same.new (o := .tup [.str act]) (Same.refl HR) hT
    have lT : upd HR T (.tup [.str act]) T = some (.tup [.str act]) := upd_same
    generalize upd HR T (.tup [.str act]) = HS at *
    refine ⟨sz (by simp), fun L1 hL1 => ?_⟩
    have nL1 := My.Same.new (o := .lst [.ref T]) (Same.refl HS) hL1
    have lL1 : upd HS L1 (.lst [.ref T]) L1 = some (.lst [.ref T]) := upd_same
    generalize upd HS L1 (.lst [.ref T]) = HT1 at *
    have erp : (List.replicate (if (!decide (V.str act = V.str "")) = true then (1 : Int) else 0).toNat [V.ref T]).flatten = (if act = "" then ([] : List Addr) else [T]).map V.ref := by
      by_cases z : act = ""
      · rw [if_pos z, if_neg (by simp [z])]; rfl
      · rw [if_neg z, if_pos (by simp [z])]; rfl
    refine ⟨_, rfl, rfl, .inr ⟨_, rfl, L1, _, _, rfl, rfl, lL1, by split <;> decide, by split <;> decide, sz (by show 1 * _ ≤ 100000; split <;> decide), fun L2 hL2 => ?_⟩⟩
    rw [erp]
    have nL2 := My.Same.new (o := .lst ((if act = "" then ([] : List Addr) else [T]).map V.ref)) (Same.refl HT1) hL2
    have lL2 : upd HT1 L2 (.lst ((if act = "" then ([] : List Addr) else [T]).map V.ref)) L2 = some (.lst ((if act = "" then ([] : List Addr) else [T]).map V.ref)) := upd_same
    generalize upd HT1 L2 (.lst ((if act = "" then ([] : List Addr) else [T]).map V.ref)) = HU at *
    have sRU := (nT.trans nL1).trans nL2
    have zmv : sps.length ≤ 2 := by
      rw [Paired.length hpB, hlen]
      have := ej.2.1
      omega
    refine ⟨rl, L2, _, _, rfl, rfl, sRU _ _ hlR, lL2, sz (by rw [List.length_map, List.length_map]; split <;> simp <;> omega), fun st hst => ?_⟩
    rw [List.map_append.symm]
    generalize hsq : sps ++ (if act = "" then ([] : List Addr) else [T]) = sq at *
    have nst := My.Same.new (o := .lst (sq.map V.ref)) (Same.refl HU) hst
    have lst1 : upd HU st (.lst (sq.map V.ref)) st = some (.lst (sq.map V.ref)) := upd_same
    generalize upd HU st (.lst (sq.map V.ref)) = HV at *
    have sRV := sRU.trans nst
    have plV := plHR.same sRV
    have lgV := sRV _ _ lHR
    refine ⟨_, rfl, g, _, rfl, rfl, _, lgV, by exact (by decide : 8 < sizeLine), ?_⟩
    have lHW : upd HV g (.dK (putK [(Sum.inr "word", V.str wd), (Sum.inr "opens", V.bl op), (Sum.inr "goals", V.ref am), (Sum.inr "card", V.bl ca), (Sum.inr "answers", V.ref an), (Sum.inr "whose", V.str wh), (Sum.inr "asks", V.ref ak), (Sum.inr "pays", V.ref pa)] (Sum.inr "steps") (V.ref st))) g = some (.dK [(Sum.inr "word", V.str wd), (Sum.inr "opens", V.bl op), (Sum.inr "goals", V.ref am), (Sum.inr "card", V.bl ca), (Sum.inr "answers", V.ref an), (Sum.inr "whose", V.str wh), (Sum.inr "asks", V.ref ak), (Sum.inr "pays", V.ref pa), (Sum.inr "steps", (V.ref st))]) := by rw [upd_same]; rfl
    have uHW : Bg p g HV (upd HV g (.dK (putK [(Sum.inr "word", V.str wd), (Sum.inr "opens", V.bl op), (Sum.inr "goals", V.ref am), (Sum.inr "card", V.bl ca), (Sum.inr "answers", V.ref an), (Sum.inr "whose", V.str wh), (Sum.inr "asks", V.ref ak), (Sum.inr "pays", V.ref pa)] (Sum.inr "steps") (V.ref st)))) := Bg.upd
    have plHW : Pl (upd HV g (.dK (putK [(Sum.inr "word", V.str wd), (Sum.inr "opens", V.bl op), (Sum.inr "goals", V.ref am), (Sum.inr "card", V.bl ca), (Sum.inr "answers", V.ref an), (Sum.inr "whose", V.str wh), (Sum.inr "asks", V.ref ak), (Sum.inr "pays", V.ref pa)] (Sum.inr "steps") (V.ref st)))) p q := plV.set qg qgq
    generalize upd HV g (.dK (putK [(Sum.inr "word", V.str wd), (Sum.inr "opens", V.bl op), (Sum.inr "goals", V.ref am), (Sum.inr "card", V.bl ca), (Sum.inr "answers", V.ref an), (Sum.inr "whose", V.str wh), (Sum.inr "asks", V.ref ak), (Sum.inr "pays", V.ref pa)] (Sum.inr "steps") (V.ref st))) = HW at *
    have gW : Bg p g HR HW := (Same.bg sRV).trans uHW
    have gDW : Bg p g HD HW := gR.trans gW
    have dV : Dk HV g := Dk.mk1 lgV
    refine ⟨_, rfl, ?_⟩
    have hstp : Paired (StpAt HV) sq (mv ++ ((if act = "" then (none : Option Str) else some act).toList.map Stp.act)) := by
      rw [← hsq]
      have h1 := (gR.trans (Same.bg sRV)).stp hpD plD dD
      by_cases z : act = ""
      · rw [if_pos z, if_pos z]; simpa using h1
      · rw [if_neg z, if_neg z]
        exact Paired.snoc h1 ⟨((nL1.trans nL2).trans nst) _ _ lT, trivial⟩
    refine qq g HW ⟨wd, op, as, wh, ck, cp, ca, gs, mv ++ ((if act = "" then (none : Option Str) else some act).toList.map Stp.act)⟩ (BD.none qg hg) ?_ plHW ⟨am, an, ak, pa, st, sq, ⟨B3.none qam ham, BD.none qan (gI.none qan gan han), BD.none qak (gN.none qak gak hak), BD.none qpa (gP.none qpa gpa hpa), BD.none ((plHR.same sRU).ne hst) ((gR.trans (Same.bg sRU)).none ((plHR.same sRU).ne hst) (Ne.symm (ne_of_none (sRU _ _ lHR) hst)) hst)⟩, lHW, gDW _ _ qam (dD.ne lamD (fun _ e => by cases e)) lamD, ?_, ?_, ?_, uHW _ _ (plHR.same sRU |>.ne hst) (dV.ne lst1 (fun _ e => by cases e)) lst1, uHW.stp hstp plV dV⟩ rfl ?_
    · intro b u n h
      exact gDW b u n (ne_of_none (BD b u n h) hg) (BD b u n h)
    · exact (gKN.trans (gNP.trans (gPR.trans gW))) _ _ qan gan fan
    · exact (gPR.trans gW).pr fak plHP1 qak (Dk.mk1 lHP1)
    · exact gW.pr fpa plHR qpa (Dk.mk1 lHR)
    · refine ⟨hsub, hwh, hck, hcp, ⟨ei.toNat, zgo, hgo.symm⟩, ⟨mv, (if act = "" then none else some act), by rw [hlen]; have := ej.2.1; omega, rfl, fun s hs => ?_, fun x hx => ?_⟩⟩
      · rw [hns]; exact hok s hs
      · rcases hact with z | z
        · rw [if_pos z] at hx; cases hx
        · by_cases y : act = ""
          · rw [if_pos y] at hx; cases hx
          · rw [if_neg y] at hx
            cases hx
            exact z
end
end My

set_option Elab.async false
set_option linter.all false
set_option maxRecDepth 100000
set_option maxHeartbeats 4000000
namespace My
open PySem PySem.Spec PyProof.Rows L2
theorem cut_drop {xs : List V} {i : Int} (h : 0 ≤ i) : cutV xs (some i) none = xs.drop i.toNat := by
  unfold cutV
  have e1 : HT.sIx xs.length xs.length none = xs.length := rfl
  have e2 : HT.sIx xs.length 0 (some i) = min i.toNat xs.length := by
    show (if i < 0 then (i + (xs.length : Int)).toNat else min i.toNat xs.length) = _
    rw [if_neg (by omega)]
  rw [e1, e2]
  rcases Nat.le_total i.toNat xs.length with z | z
  · rw [Nat.min_eq_left z, List.take_of_length_le (by rw [List.length_drop]; exact Nat.le_refl _)]
  · rw [Nat.min_eq_right z, Nat.sub_self, List.take_zero, List.drop_eq_nil_of_le z]
theorem pd_left {α β : Type} {F : α → β → Prop} {xs : List α} {ys : List β} (h : Paired F xs ys) : ∀ x ∈ xs, ∃ y, F x y := by
  induction h with
  | nil => intro x hx; cases hx
  | cons h _ ih =>
    intro x hx
    rcases List.mem_cons.mp hx with rfl | hx
    · exact ⟨_, h⟩
    · exact ih x hx
theorem pd_mono {α β : Type} {F G : α → β → Prop} {xs : List α} {ys : List β} (h : Paired F xs ys) (k : ∀ a b, a ∈ xs → F a b → G a b) : Paired G xs ys := by
  induction h with
  | nil => exact .nil
  | cons h _ ih => exact .cons (k _ _ (List.mem_cons_self ..) h) (ih fun a b m => k a b (List.mem_cons_of_mem _ m))
theorem pd_cons {α β : Type} {F : α → β → Prop} {x : α} {y : β} {xs : List α} {ys : List β} (h : Paired F (x :: xs) (y :: ys)) : F x y ∧ Paired F xs ys := by
  cases h with
  | cons h k => exact ⟨h, k⟩
section
variable {p q g l : Addr} {H H1 H2 H3 : Hp} {o : HO} {d : Dv}
theorem strs_ne {xs : List Str} : ∀ (q : Addr) (k : Int), HO.lst (xs.map V.str) ≠ .lst [.ref q, .int k] := fun q k e => by
  rcases xs with _ | ⟨x, xs⟩ <;> simp at e
theorem refs_ne {xs : List Addr} : ∀ (q : Addr) (k : Int), HO.lst (xs.map V.ref) ≠ .lst [.ref q, .int k] := fun q k e => by
  rcases xs with _ | ⟨x, _ | ⟨y, xs⟩⟩ <;> simp at e
theorem PrL.btO {ks : List (Str × Int)} (h : PrL H l ks) (pl : Pl H p q) (b : Bt p H H1) : PrL H1 l ks := h.bt pl (pl.neO h.choose_spec.1 refs_ne) b
theorem StpAt.neP {a : Addr} {s : Stp} (h : StpAt H a s) (pl : Pl H p q) : a ≠ p := pl.neO h.1 (fun _ _ e => by cases s <;> cases e)
/-- a drawn deed's dict stands as long as only the pool changes -/
theorem DeedAt.bt {S : Addr → Prop} (h : DeedAt S H g d) (pl : Pl H p q) (b : Bt p H H1) : DeedAt S H1 g d := by
  obtain ⟨ga, an, ak, pa, st, sps, hs, h1, h2, h3, h4, h5, h6, h7⟩ := h
  exact ⟨ga, an, ak, pa, st, sps, hs, b _ _ (pl.neO h1 (fun _ _ e => by cases e)) h1, b _ _ (pl.neO h2 strs_ne) h2, b _ _ (pl.neO h3 strs_ne) h3, h4.btO pl b, h5.btO pl b, b _ _ (pl.neO h6 refs_ne) h6, Paired.mono (fun a s z => ⟨b _ _ (z.neP pl) z.1, z.2⟩) h7⟩
theorem DeedAt.same {S : Addr → Prop} (h : DeedAt S H g d) (b : Same H H1) : DeedAt S H1 g d := by
  obtain ⟨ga, an, ak, pa, st, sps, hs, h1, h2, h3, h4, h5, h6, h7⟩ := h
  exact ⟨ga, an, ak, pa, st, sps, hs, b _ _ h1, b _ _ h2, b _ _ h3, h4.same b, h5.same b, b _ _ h6, Paired.mono (fun a s z => ⟨b _ _ z.1, z.2⟩) h7⟩
theorem DeedAt.imp {S T : Addr → Prop} (h : DeedAt S H g d) (b : ∀ a, S a → T a) : DeedAt T H g d := by
  obtain ⟨ga, an, ak, pa, st, sps, hs, h1⟩ := h
  exact ⟨ga, an, ak, pa, st, sps, ⟨b _ hs.1, b _ hs.2.1, b _ hs.2.2.1, b _ hs.2.2.2.1, b _ hs.2.2.2.2⟩, h1⟩
/-- a thing that is none of its parts, no tuple, is written -/
theorem DeedAt.set {S : Addr → Prop} (h : DeedAt S H g d) {a : Addr} (n : a ≠ g) (m : ¬ S a) (ht : ∀ xs, H a ≠ some (.tup xs)) : DeedAt S (upd H a o) g d := by
  obtain ⟨ga, an, ak, pa, st, sps, hs, h1, h2, h3, h4, h5, h6, h7⟩ := h
  have y : ∀ b, S b → b ≠ a := by rintro b hb rfl; exact m hb
  have z : ∀ b xs, H b = some (.tup xs) → upd H a o b = some (.tup xs) := fun b xs e => by
    rw [upd_ne (by rintro rfl; exact ht _ e)]; exact e
  have z2 : ∀ {l ks}, S l → PrL H l ks → PrL (upd H a o) l ks := fun hl ⟨ps, e1, e2⟩ => ⟨ps, by rw [upd_ne (y _ hl)]; exact e1, Paired.mono (fun x y e => z _ _ e) e2⟩
  exact ⟨ga, an, ak, pa, st, sps, hs, by rw [upd_ne (Ne.symm n)]; exact h1, by rw [upd_ne (y _ hs.1)]; exact h2, by rw [upd_ne (y _ hs.2.1)]; exact h3, z2 hs.2.2.1 h4, z2 hs.2.2.2.1 h5, by rw [upd_ne (y _ hs.2.2.2.2)]; exact h6, Paired.mono (fun a s e => ⟨z _ _ e.1, e.2⟩) h7⟩
/-- another dict is written -/
theorem DeedAt.setD {S : Addr → Prop} {k k2 : List (Key × V)} (h : DeedAt S H g d) {a : Addr} (n : a ≠ g) (ha : H a = some (.dK k)) : DeedAt S (upd H a (.dK k2)) g d := by
  obtain ⟨ga, an, ak, pa, st, sps, hs, h1, h2, h3, h4, h5, h6, h7⟩ := h
  have z : ∀ b o, H b = some o → (∀ k, o ≠ .dK k) → upd H a (.dK k2) b = some o := fun b o e c => by
    rw [upd_ne (by rintro rfl; rw [ha] at e; exact c _ (Option.some.inj e).symm)]; exact e
  have z2 : ∀ {l ks}, PrL H l ks → PrL (upd H a (.dK k2)) l ks := fun ⟨ps, e1, e2⟩ => ⟨ps, z _ _ e1 (fun _ e => by cases e), Paired.mono (fun x y e => z _ _ e (fun _ e => by cases e)) e2⟩
  exact ⟨ga, an, ak, pa, st, sps, hs, by rw [upd_ne (Ne.symm n)]; exact h1, z _ _ h2 (fun _ e => by cases e), z _ _ h3 (fun _ e => by cases e), z2 h4, z2 h5, z _ _ h6 (fun _ e => by cases e), Paired.mono (fun a s e => ⟨z _ _ e.1 (fun _ e => by cases e), e.2⟩) h7⟩
/-- its opens is written -/
theorem DeedAt.opens {S : Addr → Prop} (h : DeedAt S H g d) (b : Bool) : ∃ kvs, H g = some (.dK kvs) ∧ kvs.length < sizeLine ∧ DeedAt S (upd H g (.dK (putK kvs (.inr "opens") (.bl b)))) g { d with opens := b } := by
  obtain ⟨ga, an, ak, pa, st, sps, hs, h1, h2, h3, h4, h5, h6, h7⟩ := h
  refine ⟨_, h1, by exact (by decide : 9 < sizeLine), ?_⟩
  have e : putK (ddk d ga an ak pa st) (.inr "opens") (.bl b) = ddk { d with opens := b } ga an ak pa st := rfl
  rw [e]
  have z : ∀ b' o, H b' = some o → (∀ k, o ≠ .dK k) → upd H g (.dK (ddk { d with opens := b } ga an ak pa st)) b' = some o := fun b o e c => by
    rw [upd_ne (by rintro rfl; rw [h1] at e; exact c _ (Option.some.inj e).symm)]; exact e
  have z2 : ∀ {l ks}, PrL H l ks → PrL (upd H g (.dK (ddk { d with opens := b } ga an ak pa st))) l ks := fun ⟨ps, e1, e2⟩ => ⟨ps, z _ _ e1 (fun _ e => by cases e), Paired.mono (fun x y e => z _ _ e (fun _ e => by cases e)) e2⟩
  exact ⟨ga, an, ak, pa, st, sps, hs, upd_same, z _ _ h2 (fun _ e => by cases e), z _ _ h3 (fun _ e => by cases e), z2 h4, z2 h5, z _ _ h6 (fun _ e => by cases e), Paired.mono (fun a s e => ⟨z _ _ e.1 (fun _ e => by cases e), e.2⟩) h7⟩
theorem Drn.opens {ws : List Str} {ks : List (Str × Int)} (h : Drn ws ks d) (b : Bool) : Drn ws ks { d with opens := b } := ⟨h.ans, h.whose, h.asks, h.pays, h.goals, h.steps⟩
/-- a game under way: its dict, its deeds -/
structure Gm (S : Addr → Prop) (p q g dl ml : Addr) (gs : List Addr) (ds : List Dv) (ks : List (Str × Int)) (H0 H : Hp) (kvs : List (Key × V)) : Prop where
  bt : Bt p H0 H
  pl : Pl H p q
  lg : H g = some (.dK kvs)
  ldl : H dl = some (.lst (gs.map V.ref))
  lml : PrL H ml ks
  hp : Paired (DeedAt S H) gs ds
  g0 : H0 g = none
  gp : g ≠ p
  gq : g ≠ q
  dp : dl ≠ p
  mp : ml ≠ p
  gg : ∀ a ∈ gs, g ≠ a
section
variable {S : Addr → Prop} {dl ml : Addr} {gs : List Addr} {ds : List Dv} {ks : List (Str × Int)} {H0 : Hp} {kvs kvs2 : List (Key × V)}
theorem Gm.go (h : Gm S p q g dl ml gs ds ks H0 H kvs) (b : Bt p H H1) (pl : Pl H1 p q) : Gm S p q g dl ml gs ds ks H0 H1 kvs :=
  ⟨h.bt.trans b, pl, b _ _ h.gp h.lg, b _ _ h.dp h.ldl, h.lml.btO h.pl b, Paired.mono (fun _ _ z => z.bt h.pl b) h.hp, h.g0, h.gp, h.gq, h.dp, h.mp, h.gg⟩
theorem Gm.same (h : Gm S p q g dl ml gs ds ks H0 H kvs) (b : Same H H1) : Gm S p q g dl ml gs ds ks H0 H1 kvs := h.go (Same.bt b) (h.pl.same b)
theorem Gm.put (h : Gm S p q g dl ml gs ds ks H0 H kvs) : Gm S p q g dl ml gs ds ks H0 (upd H g (.dK kvs2)) kvs2 :=
  ⟨h.bt.set h.g0, h.pl.set h.gp h.gq, upd_same, by rw [upd_ne (by rintro rfl; have e := h.ldl; rw [h.lg] at e; cases e)]; exact h.ldl, (Bg.upd (p := p)).pr h.lml h.pl h.mp (Dk.mk1 h.lg), pd_mono h.hp fun a d ha z => z.setD (h.gg a ha) h.lg, h.g0, h.gp, h.gq, h.dp, h.mp, h.gg⟩
end
/-- [_law_drawn_deed(pool, word, words, marks, rarely) for word in words] -/
theorem lc_deeds {K : PySem.W.Frag} {wl ml : Addr} {ws : List Str} {ks : List (Str × Int)} {rr : Int} {σ : L2.St} {Q : VK} (hl : H wl = some (.lst (ws.map V.str))) (np : wl ≠ p) (pl : Pl H p q) (hz : ws.length ≤ 20) (hml : PrL H ml ks) (nml : ml ≠ p) (hks : ks ∈ marks7) (hr : 0 < rr)
    (hw : ∀ x, wipe ((wipe σ [11]).set 11 (some x)) [11] = wipe σ [11]) (h1 : ∀ x, ((wipe σ [11]).set 11 (some x))[11]? = some (some x)) (h0 : ∀ x, ((wipe σ [11]).set 11 (some x))[0]? = some (some (.ref p)))
    (h4 : ∀ x, ((wipe σ [11]).set 11 (some x))[4]? = some (some (.ref wl))) (h5 : ∀ x, ((wipe σ [11]).set 11 (some x))[5]? = some (some (.ref ml))) (h3 : ∀ x, ((wipe σ [11]).set 11 (some x))[3]? = some (some (.int rr)))
    (qq : ∀ (D : Addr) (H' : Hp) (gs : List Addr) (ds : List Dv), H D = none → Bt p H H' → Pl H' p q → H' D = some (.lst (gs.map V.ref)) → Paired (DeedAt (fun a => H a = none ∧ a ≠ D) H') gs ds → ds.map (·.word) = ws → (∀ d ∈ ds, Drn ws ks d) → gs.Nodup → (∀ g ∈ gs, H g = none) → Q (.ref D) H') :
    lcB (Itl K wl) (gName 11) tYes (tCall spDdn [] E0 (tCons (tVar 0) (tCons (tVar 11) (tCons (tVar 4) (tCons (tVar 5) (tCons (tVar 3) tNil)))))) [11] σ H Q := by
  intro D hD
  have nD := pl.ne hD
  have nQ := pl.neQ hD
  refine lc_it (walk_list (xs := ws.map V.str)) (fun i H' => Bt p H H' ∧ Pl H' p q ∧ ∃ (gs : List Addr) (ds : List Dv), H' D = some (.lst (gs.map V.ref)) ∧ Paired (DeedAt (fun a => H a = none ∧ a ≠ D) H') gs ds ∧ ds.map (·.word) = ws.take i ∧ (∀ d ∈ ds, Drn ws ks d) ∧ gs.Nodup ∧ ∀ g ∈ gs, H g = none)
    ⟨(Bt.refl p H).set hD, pl.set nD nQ, [], [], upd_same, .nil, rfl, (fun e h => nomatch h), List.nodup_nil, (fun e h => nomatch h)⟩ (fun i H' _ h => SqL.of (h.1 _ _ np hl)) ?_ ?_
  · rintro i x H' H2 hi ⟨bt, pl', gs, ds, hd, hp, hwd, hdr, hnd, hno⟩ ⟨rfl, hx⟩
    rw [List.getElem?_map] at hx
    obtain ⟨s, hs, rfl⟩ := Option.map_eq_some_iff.mp hx
    rw [List.length_map] at hi
    refine ⟨hw _, ?_⟩
    simp only [tYes, if_true]
    refine ⟨_, h0 _, _, h1 _, _, h4 _, _, h5 _, _, h3 _, p, q, wl, ml, s, ws, ks, rr, rfl, pl', bt _ _ np hl, np, hz, hml.btO pl bt, nml, hks, hr, fun g H3 d hg b3 pl3 hd3o hwd3 hdr3 => ?_⟩
    have hD3 := b3 _ _ nD hd
    have gne : g ≠ D := by rintro rfl; rw [hd] at hg; cases hg
    have len : gs.length = ds.length := Paired.length hp
    have len2 : ds.length ≤ i := by
      have := congrArg List.length hwd
      rw [List.length_map, List.length_take] at this
      omega
    have z : ∀ {a e}, DeedAt (fun a => H a = none ∧ a ≠ D) H3 a e → DeedAt (fun a => H a = none ∧ a ≠ D) (upd H3 D (.lst (gs.map V.ref ++ [.ref g]))) a e := fun {a e} w =>
      w.set (by obtain ⟨_, _, _, _, _, _, _, k1, _⟩ := w; rintro rfl; rw [hD3] at k1; cases k1) (fun h => h.2 rfl) (fun xs e => by rw [hD3] at e; cases e)
    have hd3 : DeedAt (fun a => H a = none ∧ a ≠ D) H3 g d := hd3o.imp fun a ha => ⟨(by
      cases e : H a with
      | none => rfl
      | some u =>
        by_cases hap : a = p
        · obtain ⟨_, _, w, _⟩ := pl'
          rw [hap, w] at ha; cases ha
        · rw [bt a u hap e] at ha; cases ha), by rintro rfl; rw [hd] at ha; cases ha⟩
    refine ⟨_, hD3, szl (by rw [List.length_map]; omega), (bt.trans b3).set hD, pl3.set nD nQ, gs ++ [g], ds ++ [d], by rw [upd_same, List.map_append]; rfl, ?_, ?_, ?_, ?_, ?_⟩
    · exact Paired.snoc (Paired.mono (fun a e w => z (w.bt pl' b3)) hp) (z hd3)
    · rw [List.map_append, hwd, take_more hs, ← hwd3]; rfl
    · intro e he
      rcases List.mem_append.mp he with he | he
      · exact hdr e he
      · rw [List.mem_singleton.mp he]; exact hdr3
    · rw [List.nodup_append]
      refine ⟨hnd, by simp, fun a ha b hb => ?_⟩
      rw [List.mem_singleton.mp hb]
      rintro rfl
      obtain ⟨e, he⟩ := pd_left hp a ha
      obtain ⟨ga, an, ak, pa, st, sps, _, k1, _⟩ := he
      rw [hg] at k1; cases k1
    · intro a ha
      rcases List.mem_append.mp ha with ha | ha
      · exact hno a ha
      · rw [List.mem_singleton.mp ha]; exact bt.none (pl'.ne hg) hg
  · rintro H' ⟨bt, pl', gs, ds, hd, hp, hwd, hdr, hnd, hno⟩
    rw [List.length_map, List.take_length] at hwd
    exact qq D H' gs ds hD bt pl' hd hp hwd hdr hnd hno
/-- [_law_draw(pool, end + 1) for mark, end in marks] -/
theorem lc_start {K : PySem.W.Frag} {ks : List (Str × Int)} {σ : L2.St} {Q : VK} (hl : PrL H l ks) (np : l ≠ p) (pl : Pl H p q) (hz : ks.length ≤ 20) (hk : ∀ e ∈ ks, 1 ≤ e.2 ∧ e.2 ≤ 3)
    (hw : ∀ x y, wipe (((wipe σ [13, 14]).set 13 (some x)).set 14 (some y)) [13, 14] = wipe σ [13, 14]) (h2 : ∀ x y, (((wipe σ [13, 14]).set 13 (some x)).set 14 (some y))[14]? = some (some y)) (h0 : ∀ x y, (((wipe σ [13, 14]).set 13 (some x)).set 14 (some y))[0]? = some (some (.ref p)))
    (qq : ∀ (D : Addr) (H' : Hp) (xs : List Int), H D = none → Bt p H H' → Pl H' p q → H' D = some (.lst (xs.map V.int)) → xs.length = ks.length → (∀ (i : Nat) (e : Str × Int) (x : Int), ks[i]? = some e → xs[i]? = some x → 0 ≤ x ∧ x ≤ e.2) → Q (.ref D) H') :
    lcB (Itl K l) (gTup K 2 (gCons (gName 13) (gCons (gName 14) gNil))) tYes (tCall spDrwB [] E0 (tCons (tVar 0) (tCons (tOp (rI0 fun i j => V.int (i + j)) (tVar 14) (tC (V.int 1))) tNil))) [13, 14] σ H Q := by
  obtain ⟨ps, hl, hp⟩ := hl
  have len : ps.length = ks.length := Paired.length hp
  intro D hD
  have nD := pl.ne hD
  have nQ := pl.neQ hD
  refine lc_it (walk_list (xs := ps.map V.ref)) (fun i H' => Bt p H H' ∧ Pl H' p q ∧ ∃ xs : List Int, H' D = some (.lst (xs.map V.int)) ∧ xs.length = (ks.take i).length ∧ ∀ (j : Nat) (e : Str × Int) (x : Int), ks[j]? = some e → xs[j]? = some x → 0 ≤ x ∧ x ≤ e.2)
    ⟨(Bt.refl p H).set hD, pl.set nD nQ, [], upd_same, rfl, fun j e x _ h => by simp at h⟩ (fun i H' _ h => SqL.of (h.1 _ _ np hl)) ?_ ?_
  · rintro i x H' H2 hi ⟨bt, pl', xs, hd, hlen, hx2⟩ ⟨rfl, hx⟩
    rw [List.getElem?_map] at hx
    obtain ⟨b, hb, rfl⟩ := Option.map_eq_some_iff.mp hx
    obtain ⟨e, he, hbe⟩ := pr_at hp i b hb
    have hbe' := bt _ _ (pl.neO hbe (fun _ _ z => by cases z)) hbe
    have hke := hk e (List.mem_of_getElem? he)
    rw [List.length_map] at hi
    have hli : xs.length = i := by rw [hlen, List.length_take]; omega
    refine ⟨b, _, rfl, SqT.of hbe', rfl, _, _, rfl, _, _, rfl, rfl, hw _ _, ?_⟩
    simp only [tYes, if_true]
    refine ⟨_, h0 _ _, _, h2 _ _, e.2, 1, rfl, rfl, p, q, e.2 + 1, rfl, by omega, pl', fun r H3 b3 pl3 r0 r1 => ?_⟩
    have hd3 := b3 _ _ nD hd
    refine ⟨_, hd3, szl (by rw [List.length_map]; omega), (bt.trans b3).set hD, pl3.set nD nQ, xs ++ [r], by rw [upd_same, List.map_append]; rfl, by rw [take_more he, List.length_append, List.length_append, hlen]; rfl, ?_⟩
    intro j e' x' hj hx'
    by_cases hjl : j < xs.length
    · rw [List.getElem?_append_left hjl] at hx'
      exact hx2 j e' x' hj hx'
    · have hjx : j = i := by
        have := List.getElem?_eq_some_iff.mp hx'
        obtain ⟨h, _⟩ := this
        rw [List.length_append, List.length_singleton] at h
        omega
      subst hjx
      rw [List.getElem?_append_right (by omega), hli, Nat.sub_self] at hx'
      obtain rfl : r = x' := by simpa using hx'
      rw [he] at hj
      obtain rfl := Option.some.inj hj
      exact ⟨r0, by omega⟩
  · rintro H' ⟨bt, pl', xs, hd, hlen, hx2⟩
    rw [List.length_map, len, List.take_length] at hlen
    exact qq D H' xs hD bt pl' hd hlen hx2
end
end My

set_option Elab.async false
set_option linter.all false
set_option maxRecDepth 100000
set_option maxHeartbeats 4000000
namespace My
open PySem PySem.Spec PyProof.Rows L2
abbrev sDgm : Stmt := topI 26
abbrev NDgm : List Str := ["pool", "deeds", "wakings", "rarely", "words", "marks", "game", "rows", "turn", "event", "seat", "word", "row", "mark", "end"]
theorem scDgm : FnScope NDgm ["pool", "deeds", "wakings", "rarely"] (defScope sDgm) := ⟨rfl, rfl, rfl, by decide +kernel, rfl, by decide +kernel, by decide +kernel⟩
def five : List Str := ["a", "bb", "hit", "nil", "up"]
/-- what a drawn game's words are -/
def Wds (ws : List Str) : Prop := ws.Sublist five ∧ 0 < ws.length
/-- a drawn game without wakings -/
def spDgm0 : Sp := fun vs H Q _ => ∃ (p q : Addr) (dd rr : Int), vs = [.ref p, .int dd, .int 0, .int rr] ∧ Pl H p q ∧ 0 < dd ∧ 0 < rr ∧
  ∀ (g dl : Addr) (kvs : List (Key × V)) (H' : Hp) (gs : List Addr) (ds : List Dv) (ws : List Str) (ks : List (Str × Int)), H g = none → Bt p H H' → Pl H' p q → H' g = some (.dK kvs) → valV kvs (.inr "deeds") = some (.ref dl) → H' dl = some (.lst (gs.map V.ref)) →
    Wds ws → ks ∈ marks7 → Paired (DeedAt (fun a => H a = none) H') gs ds → ds.map (·.word) = ws → (∀ d ∈ ds, Drn ws ks d) → Q (.ref g) H'
section
variable {P : Program} {w : World} {K : PySem.W.Frag} {mg : Str → Option Value} {base : Heap}
theorem ok_dgm0 {f : Addr} {fd : FuncData} (F : Fun K "_law_drawn_game" "_law_drawn_game" sDgm f fd) (B : Bn mg) (D_draw : Df K mg "_law_draw" sDrw ["pool", "many"]) (G_draw : FnOk P w K mg base CX0 1 D_draw.f D_draw.fd ["pool", "many"] spDrwB) (D_pick : Df K mg "_law_pick" sPck ["pool", "some"]) (G_pick : FnOk P w K mg base CX0 2 D_pick.f D_pick.fd ["pool", "some"] spPckB)
    (D_marks : Df K mg "_law_marks" sMks ["pool"]) (G_marks : FnOk P w K mg base CX0 3 D_marks.f D_marks.fd ["pool"] spMks) (D_deed : Df K mg "_law_drawn_deed" sDdn ["pool", "word", "words", "marks", "rarely"]) (G_deed : FnOk P w K mg base CX0 3 D_deed.f D_deed.fd ["pool", "word", "words", "marks", "rarely"] spDdn) : FnOk P w K mg base CX0 4 f fd ["pool", "deeds", "wakings", "rarely"] spDgm0 := by
  refine F.ok scDgm (fun vs H Q E h => ?_) (fun cdv A outer s H vs Q E hr h => ?_)
  · obtain ⟨p, q, dd, rr, rfl, _⟩ := h
    rfl
  · obtain ⟨p, q, dd, rr, rfl, pl, hdd, hrr, qq⟩ := h
    have hr3 := hr
    have hr2 := hr.mono (by decide : 2 ≤ 3)
    have hr1 := hr.mono (by decide : 1 ≤ 3)
    have hu64 := hr.units
    have hu := hu_of hr
    refine ⟨_, (pss_cons (ps_set (i := 4) scDgm.nd rfl (Or.inr rfl) (pe_slice sl_list (pe_slice sl_list (pe_lst (pa_cons pe_str (pa_cons pe_str (pa_cons pe_str (pa_cons pe_str (pa_cons pe_str pa_nil)))))) (po_some (pc D_draw G_draw hr1 (pa_cons (pv 0) (pa_cons pe_int pa_nil)))) po_none) po_none (po_some (pe_op op_add pe_int (pc D_draw G_draw hr1 (pa_cons (pv 0) (pa_cons (pv 1) pa_nil)))))))
      (pss_cons (ps_set (i := 5) scDgm.nd rfl (Or.inr rfl) (pc D_marks G_marks hr3 (pa_cons (pv 0) pa_nil)))
      (pss_cons (ps_set (i := 6) scDgm.nd rfl (Or.inl rfl) (pe_disp (pps_cons pe_str (pv 5) (pps_cons pe_str (pe_lc (own := [("word", 11)]) (g := gName 11) rfl scDgm.nd (pi_list (pv 4)) (blkOk_by (own := [("word", 11)]) (N := NDgm) (sc := defScope sDgm) (by decide +kernel)) (fun _ _ _ _ _ => pg_name (i := 11) scDgm.nd rfl (Or.inl rfl)) (fun _ _ _ _ _ => pts_nil) (fun _ _ _ _ _ => (pc D_deed G_deed hr3 (pa_cons (pv 0) (pa_cons (pv 11) (pa_cons (pv 4) (pa_cons (pv 5) (pa_cons (pv 3) pa_nil)))))))) pps_nil)) (by rfl) (by rfl) (fun z => by cases z) (by decide)))
      (pss_cons (ps_dp hu64 (pe_ix ix_lst (pe_dg hu64 (pv 6) pe_str) pe_int (fun _ _ => rfl)) pe_str pe_bl rfl)
      (pss_cons (ps_set (i := 7) scDgm.nd rfl (Or.inr rfl) pe_dnewT)
      (pss_cons (ps_for PassesOwn.never rfl (pi_range1 (by rfl) B.range (pa_cons (pc D_draw G_draw hr1 (pa_cons (pv 0) (pa_cons (pe_op op_add (pv 2) pe_int) pa_nil))) pa_nil)) (pg_name (i := 8) scDgm.nd rfl (Or.inl rfl))
        (pss_cons (ps_set (i := 9) scDgm.nd rfl (Or.inl rfl) (pc D_pick G_pick hr2 (pa_cons (pv 0) (pa_cons (pe_lst (pa_cons pe_str (pa_cons pe_str (pa_cons pe_str (pa_cons pe_str (pa_cons pe_str pa_nil)))))) pa_nil))))
        (pss_cons (ps_set (i := 10) scDgm.nd rfl (Or.inl rfl) (pc D_pick G_pick hr2 (pa_cons (pv 0) (pa_cons (pe_lst (pa_cons pe_str (pa_cons pe_str pa_nil))) pa_nil))))
        (pss_one (ps_dput hu (pv 7) (pe_tup (pa_cons (pv 9) (pa_cons (pc D_pick G_pick hr2 (pa_cons (pv 0) (pa_cons (pv 4) pa_nil))) (pa_cons (pc D_pick G_pick hr2 (pa_cons (pv 0) (pa_cons (pv 4) pa_nil))) (pa_cons (pv 10) pa_nil))))) (pe_cmpR op_eq (pc D_draw G_draw hr1 (pa_cons (pv 0) (pa_cons pe_int pa_nil))) pe_int (nomark _)) rfl)))))
      (pss_cons (ps_dp hu64 (pv 6) pe_str (pe_lock (pe_lc (own := [("row", 12)]) (g := gName 12) rfl scDgm.nd (pi_keys (pv 7)) (blkOk_by (own := [("row", 12)]) (N := NDgm) (sc := defScope sDgm) (by decide +kernel)) (fun _ _ _ _ _ => pg_name (i := 12) scDgm.nd rfl (Or.inl rfl)) (fun _ _ _ _ _ => pts_nil) (fun _ _ _ _ _ => (pe_op (show OpR _ (binaryOp .Add) (rCatT K) from op_catT) (pv 12) (pe_tup (pa_cons (pe_dget hu (pv 7) (pv 12) (fun _ _ => rfl)) pa_nil)))))) rfl)
      (pss_cons (ps_asg (pe_tup (pa_cons (pe_op op_add pe_int (pe_callTy call_int1 (by rfl) B.int (by decide +kernel) (pa_cons (pe_cmpR op_eq (pc D_draw G_draw hr1 (pa_cons (pv 0) (pa_cons pe_int pa_nil))) pe_int (nomark _)) pa_nil))) (pa_cons (pc D_pick G_pick hr2 (pa_cons (pv 0) (pa_cons (pe_lst (pa_cons pe_str (pa_cons pe_str (pa_cons pe_str pa_nil)))) pa_nil))) pa_nil))) (pg_tup rfl (pgs_cons (pg_sub (pv 6) pe_str (set_dict hu)) (pgs_cons (pg_sub (pv 6) pe_str (set_dict hu)) pgs_nil))))
      (pss_cons (ps_dp hu64 (pv 6) pe_str (pe_callTy call_tuple_of (by rfl) B.tuple (by decide +kernel) (pa_cons (pe_lc (own := [("mark", 13), ("end", 14)]) (g := gTup K 2 (gCons (gName 13) (gCons (gName 14) gNil))) rfl scDgm.nd (pi_list (pv 5)) (blkOk_by (own := [("mark", 13), ("end", 14)]) (N := NDgm) (sc := defScope sDgm) (by decide +kernel)) (fun _ _ _ _ _ => by exact (pg_tup rfl (pgs_cons (pg_name (i := 13) scDgm.nd rfl (Or.inl rfl)) (pgs_cons (pg_name (i := 14) scDgm.nd rfl (Or.inl rfl)) pgs_nil)))) (fun _ _ _ _ _ => pts_nil) (fun _ _ _ _ _ => (pc D_draw G_draw hr1 (pa_cons (pv 0) (pa_cons (pe_op op_add (pv 14) pe_int) pa_nil))))) pa_nil)) rfl)
      (pss_one (ps_ret (pv 6)))))))))))), ?_⟩
    -- words
    refine step_asg ⟨sz (by simp), fun m1 hm1 => ?_⟩
    have n1 := My.Same.new (o := .lst [.str "a", .str "bb", .str "hit", .str "nil", .str "up"]) (Same.refl H) hm1
    have l1 : upd H m1 (.lst [.str "a", .str "bb", .str "hit", .str "nil", .str "up"]) m1 = some (.lst [.str "a", .str "bb", .str "hit", .str "nil", .str "up"]) := upd_same
    have q1 := pl.ne hm1
    generalize upd H m1 (.lst [.str "a", .str "bb", .str "hit", .str "nil", .str "up"]) = H1 at *
    have pl1 := pl.same n1
    refine ⟨_, rfl, p, q, 2, rfl, by decide, pl1, fun r1 H2 b2 pl2 r10 r11 => ?_⟩
    refine ⟨r1, rfl, m1, _, rfl, SqL.of (b2 _ _ q1 l1), fun m2 hm2 => ?_⟩
    rw [cut_drop r10]
    have efv : [V.str "a", V.str "bb", V.str "hit", V.str "nil", V.str "up"] = five.map V.str := rfl
    rw [efv, List.map_drop.symm]
    have n2 := My.Same.new (o := .lst ((five.drop r1.toNat).map V.str)) (Same.refl H2) hm2
    have l2 : upd H2 m2 (.lst ((five.drop r1.toNat).map V.str)) m2 = some (.lst ((five.drop r1.toNat).map V.str)) := upd_same
    have q2 := pl2.ne hm2
    generalize upd H2 m2 (.lst ((five.drop r1.toNat).map V.str)) = H3 at *
    have pl3 := pl2.same n2
    refine ⟨_, rfl, _, rfl, p, q, dd, rfl, hdd, pl3, fun r2 H4 b4 pl4 r20 r21 => ?_⟩
    refine ⟨1, r2, rfl, rfl, 1 + r2, rfl, m2, _, rfl, SqL.of (b4 _ _ q2 l2), fun wl hwl => ?_⟩
    rw [cut_take (by omega), List.map_take.symm]
    have hwds : Wds ((five.drop r1.toNat).take (1 + r2).toNat) := by
      refine ⟨(List.take_sublist _ _).trans (List.drop_sublist _ _), ?_⟩
      rw [List.length_take, List.length_drop]
      have : five.length = 5 := rfl
      omega
    generalize hwse : (five.drop r1.toNat).take (1 + r2).toNat = ws at *
    have n4 := My.Same.new (o := .lst (ws.map V.str)) (Same.refl H4) hwl
    have l4 : upd H4 wl (.lst (ws.map V.str)) wl = some (.lst (ws.map V.str)) := upd_same
    have q4 := pl4.ne hwl
    generalize upd H4 wl (.lst (ws.map V.str)) = H5 at *
    have pl5 := pl4.same n4
    have B5 : Bt p H H5 := (Same.bt n1).trans (b2.trans ((Same.bt n2).trans (b4.trans (Same.bt n4))))
    have zws : ws.length ≤ 20 := Nat.le_trans hwds.1.length_le (by decide)
    -- marks
    refine step_asg ⟨_, rfl, p, q, rfl, pl5, fun ml H6 ks hml nml b6 pl6 hks lml => ?_⟩
    have B6 := B5.trans b6
    have l6 := b6 _ _ q4 l4
    -- the game
    refine step_asg ?_
    refine fun g hg => ?_
    have ng := My.Same.new (o := .dK []) (Same.refl H6) hg
    have lg : upd H6 g (.dK []) g = some (.dK []) := upd_same
    have qg := pl6.ne hg
    have qgq := pl6.neQ hg
    generalize upd H6 g (.dK []) = H7 at *
    have pl7 := pl6.same ng
    refine ⟨_, rfl, ?_⟩
    dsimp only [tPairs]
    rw [rd_c, rd_lcL]
    refine ⟨_, rfl, wl, rfl, ⟨_, SqL.of (ng _ _ l6)⟩, lc_deeds (p := p) (q := q) (ws := ws) (ml := ml) (ks := ks) (rr := rr) (ng _ _ l6) q4 pl7 zws (lml.same ng) nml hks hrr (fun _ => rfl) (fun _ => rfl) (fun _ => rfl) (fun _ => rfl) (fun _ => rfl) (fun _ => rfl) fun dl H8 gs ds hdl b8 pl8 ldl hpd hwd hdr hnd hno => ?_⟩
    refine ⟨b8 _ _ qg lg, [(Sum.inr "marks", .ref ml), (Sum.inr "deeds", .ref dl)], rfl, by simp, ?_⟩
    have lg8 := b8 _ _ qg lg
    have l9 : upd H8 g (.dK (mergeK [] [(Sum.inr "marks", V.ref ml), (Sum.inr "deeds", .ref dl)])) g = some (.dK [(Sum.inr "marks", V.ref ml), (Sum.inr "deeds", .ref dl)]) := upd_same
    have gdl : dl ≠ g := Ne.symm (ne_of_none lg hdl)
    have qdl := pl7.ne hdl
    have ldl9 : upd H8 g (.dK (mergeK [] [(Sum.inr "marks", V.ref ml), (Sum.inr "deeds", .ref dl)])) dl = some (.lst (gs.map V.ref)) := by rw [upd_ne gdl]; exact ldl
    have gmem : ∀ a ∈ gs, g ≠ a := fun a ha => ne_of_none lg (hno a ha)
    have hp9 : Paired (DeedAt (fun a => H7 a = none ∧ a ≠ dl) (upd H8 g (.dK (mergeK [] [(Sum.inr "marks", V.ref ml), (Sum.inr "deeds", .ref dl)])))) gs ds := pd_mono hpd fun a d ha h => h.setD (gmem a ha) lg8
    have pl9 := pl8.set (o := .dK (mergeK [] [(Sum.inr "marks", V.ref ml), (Sum.inr "deeds", .ref dl)])) qg qgq
    have u9 : Bg p g H8 (upd H8 g (.dK (mergeK [] [(Sum.inr "marks", V.ref ml), (Sum.inr "deeds", .ref dl)]))) := Bg.upd
    generalize upd H8 g (.dK (mergeK [] [(Sum.inr "marks", V.ref ml), (Sum.inr "deeds", .ref dl)])) = H9 at *
    have g79 : Bg p g H7 H9 := b8.bg.trans u9
    -- the first deed opens
    refine step_seq ?_
    rw [rd_dp]
    obtain ⟨g0, gr, rfl⟩ : ∃ g0 gr, gs = g0 :: gr := by
      cases gs with
      | nil =>
        cases hp9
        rw [← hwd] at hwds
        exact absurd hwds.2 (by simp)
      | cons a b => exact ⟨a, b, rfl⟩
    obtain ⟨d0, dr, rfl⟩ : ∃ d0 dr, ds = d0 :: dr := by
      cases hp9 with
      | cons => exact ⟨_, _, rfl⟩
    have ⟨h90, h9r⟩ := pd_cons hp9
    obtain ⟨kv0, k01, k02, k03⟩ := h90.opens true
    refine ⟨_, rfl, g, _, rfl, rfl, _, l9, .ref dl, rfl, dl, 0, rfl, rfl, _, ldl9, by decide, .ref g0, rfl, g0, _, rfl, rfl, kv0, k01, k02, ?_⟩
    have g0g : g ≠ g0 := gmem g0 (List.mem_cons_self ..)
    have n0p : g0 ≠ p := pl7.ne (hno g0 (List.mem_cons_self ..))
    have n0q : g0 ≠ q := pl7.neQ (hno g0 (List.mem_cons_self ..))
    rw [List.nodup_cons] at hnd
    have hpA : Paired (DeedAt (fun a => H7 a = none ∧ a ≠ dl) (upd H9 g0 (.dK (putK kv0 (Sum.inr "opens") (.bl true))))) (g0 :: gr) ({ d0 with opens := true } :: dr) := .cons k03 (pd_mono h9r fun a d ha h => h.setD (by rintro rfl; exact hnd.1 ha) k01)
    have hwdA : ({ d0 with opens := true } :: dr).map (·.word) = ws := hwd
    have hdrA : ∀ d ∈ { d0 with opens := true } :: dr, Drn ws ks d := fun d hd => by
      rcases List.mem_cons.mp hd with rfl | hd
      · exact (hdr d0 (List.mem_cons_self ..)).opens true
      · exact hdr d (List.mem_cons_of_mem _ hd)
    have plA := pl9.set (o := .dK (putK kv0 (Sum.inr "opens") (.bl true))) n0p n0q
    have lgA : upd H9 g0 (.dK (putK kv0 (Sum.inr "opens") (.bl true))) g = some (.dK [(Sum.inr "marks", V.ref ml), (Sum.inr "deeds", .ref dl)]) := by rw [upd_ne g0g]; exact l9
    have ldlA : upd H9 g0 (.dK (putK kv0 (Sum.inr "opens") (.bl true))) dl = some (.lst ((g0 :: gr).map V.ref)) := by rw [upd_ne (by rintro rfl; rw [k01] at ldl9; cases ldl9)]; exact ldl9
    have lmlA : PrL (upd H9 g0 (.dK (putK kv0 (Sum.inr "opens") (.bl true)))) ml ks := (Bg.upd (p := p)).pr (g79.pr (lml.same ng) pl7 nml (Dk.mk1 lg)) pl9 nml (Dk.mk1 k01)
    have BA : Bt p H (upd H9 g0 (.dK (putK kv0 (Sum.inr "opens") (.bl true)))) := fun a u n h => by
      have h7 := ng a u (B6 a u n h)
      rw [upd_ne (ne_of_none h7 (hno g0 (List.mem_cons_self ..)))]
      exact g79 a u n (ne_of_none (B6 a u n h) hg) h7
    generalize upd H9 g0 (.dK (putK kv0 (Sum.inr "opens") (.bl true))) = HA at *
    generalize { d0 with opens := true } :: dr = ds at *
    generalize g0 :: gr = gs at *
    have G := (Gm.mk (S := fun a => H7 a = none ∧ a ≠ dl) (dl := dl) (ml := ml) (gs := gs) (ds := ds) (ks := ks) BA plA lgA ldlA lmlA hpA (B6.none qg hg) qg qgq qdl nml gmem)
    clear BA plA lgA ldlA lmlA hpA
    -- rows
    dsimp only
    refine step_asg ?_
    refine fun ro hro => ?_
    have nro := My.Same.new (o := .dT []) (Same.refl HA) hro
    have lro : upd HA ro (.dT []) ro = some (.dT []) := upd_same
    have qro := G.pl.ne hro
    generalize upd HA ro (.dT []) = HB at *
    have G := G.same nro
    -- no turns
    refine step_seq ?_
    refine ⟨_, rfl, _, rfl, 0, 1, rfl, rfl, p, q, 1, rfl, by decide, G.pl, fun r3 HC bC plC r30 r31 => ⟨r3, rfl, by omega, by omega, ?_⟩⟩
    have G := G.go bC plC
    have lro := bC _ _ qro lro
    obtain rfl : r3 = 0 := by omega
    refine ⟨fun i m σ H' => i = 0 ∧ σ = _ ∧ H' = HC, ⟨0, rfl, rfl, rfl⟩, ?_⟩
    rintro _ _ _ HC ⟨rfl, rfl, rfl⟩
    refine .inl ⟨by simp [Itr], ?_⟩
    -- wakings
    dsimp only
    refine step_seq ?_
    rw [rd_dp, rd_lockE]
    refine ⟨ro, _, lro, trivial, fun od => ?_⟩
    rw [rd_lcK]
    refine ⟨_, rfl, ro, od, rfl, .inr ⟨[], upd_same, fun D hD => ?_⟩⟩
    have nD : ro ≠ D := ne_of_none upd_same hD
    refine ⟨fun i m H' => i = 0 ∧ H' = upd (upd HC ro (.frz od (.dT []))) D (.lst []), ⟨0, rfl, rfl⟩, ?_⟩
    rintro _ _ _ ⟨rfl, rfl⟩
    refine .inl ⟨⟨by rw [upd_ne nD, upd_same], Nat.zero_le _⟩, by rw [upd_ne nD, upd_same], ?_⟩
    have sD := same_unlock lro (My.Same.new (o := .lst []) (Same.refl _) hD)
    generalize upd (upd (upd HC ro (.frz od (.dT []))) D (.lst [])) ro (.dT []) = HD at *
    have G := G.same sD
    refine ⟨_, rfl, g, _, rfl, rfl, _, G.lg, by exact (by decide : 2 < sizeLine), ?_⟩
    have G := G.put (kvs2 := putK [(Sum.inr "marks", V.ref ml), (Sum.inr "deeds", V.ref dl)] (Sum.inr "wakings") (.ref D))
    generalize upd HD g (.dK (putK [(Sum.inr "marks", V.ref ml), (Sum.inr "deeds", V.ref dl)] (Sum.inr "wakings") (.ref D))) = HE at *
    -- seats, order
    dsimp only
    refine step_seq ?_
    refine ⟨_, rfl, p, q, 4, rfl, by decide, G.pl, fun r4 HF bF plF r40 r41 => ?_⟩
    have G := G.go bF plF
    refine ⟨rfl, .inr ⟨_, rfl, 2, _, rfl, rfl, ?_⟩⟩
    generalize (fun i j : Int => V.int (i + j)) 2 (if decide (V.int r4 = V.int 0) = true then (1 : Int) else 0) = sn at *
    refine ⟨_, rfl, sz (by simp), fun m5 hm5 => ?_⟩
    have n5 := My.Same.new (o := .lst [.str "first", .str "last", .str "any"]) (Same.refl HF) hm5
    have l5 : upd HF m5 (.lst [.str "first", .str "last", .str "any"]) m5 = some (.lst [.str "first", .str "last", .str "any"]) := upd_same
    have q5 := G.pl.ne hm5
    generalize upd HF m5 (.lst [.str "first", .str "last", .str "any"]) = HG at *
    have G := G.same n5
    refine ⟨p, q, m5, _, rfl, G.pl, l5, q5, by simp, fun x HH bH plH hx => ⟨sz (by simp), fun T hT => ?_⟩⟩
    have G := G.go bH plH
    have nT := My.Same.new (o := .tup [sn, x]) (Same.refl HH) hT
    have lT : upd HH T (.tup [sn, x]) T = some (.tup [sn, x]) := upd_same
    generalize upd HH T (.tup [sn, x]) = HI at *
    have G := G.same nT
    refine ⟨T, _, rfl, SqT.of lT, rfl, _, _, rfl, _, rfl, g, _, rfl, DPut.k (k := Sum.inr "seats") G.lg (by exact (by decide : 3 < sizeLine)), _, _, rfl, _, rfl, g, _, rfl, DPut.k (k := Sum.inr "order") upd_same (by exact (by decide : 4 < sizeLine)), rfl, ?_⟩
    have G := (G.put (kvs2 := putK (putK ([(Sum.inr "marks", V.ref ml), (Sum.inr "deeds", V.ref dl)] : List (Key × V)) (Sum.inr "wakings") (.ref D)) (Sum.inr "seats") sn)).put (kvs2 := putK (putK (putK ([(Sum.inr "marks", V.ref ml), (Sum.inr "deeds", V.ref dl)] : List (Key × V)) (Sum.inr "wakings") (.ref D)) (Sum.inr "seats") sn) (Sum.inr "order") x)
    generalize hkv : putK (putK (putK ([(Sum.inr "marks", V.ref ml), (Sum.inr "deeds", V.ref dl)] : List (Key × V)) (Sum.inr "wakings") (.ref D)) (Sum.inr "seats") sn) (Sum.inr "order") x = kv5 at *
    generalize upd (upd HI g (.dK (putK (putK ([(Sum.inr "marks", V.ref ml), (Sum.inr "deeds", V.ref dl)] : List (Key × V)) (Sum.inr "wakings") (.ref D)) (Sum.inr "seats") sn))) g (.dK kv5) = HJ at *
    -- start
    dsimp only
    refine step_seq ?_
    rw [rd_dp]
    obtain ⟨kz, kc, knd, kmk⟩ := marks7_ok ks hks
    rw [rd_cb, rd_cons, rd_lcL]
    have hmlJ := G.lml
    obtain ⟨mp1, mq1, mq2⟩ := hmlJ
    refine ⟨_, rfl, ml, rfl, ⟨_, SqL.of mq1⟩, lc_start (p := p) (q := q) G.lml nml G.pl (by omega) kc (fun _ _ => rfl) (fun _ _ => rfl) (fun _ _ => rfl) fun Ds HK xs hDs bK plK lDs _ _ => ?_⟩
    have G := G.go bK plK
    rw [rd_nil]
    refine ⟨Ds, _, rfl, .inl ⟨SqL.of lDs, fun ts hts => ?_⟩⟩
    have nts := My.Same.new (o := .tup (xs.map V.int)) (Same.refl HK) hts
    generalize upd HK ts (.tup (xs.map V.int)) = HL at *
    have G := G.same nts
    refine ⟨_, rfl, g, _, rfl, rfl, _, G.lg, by rw [← hkv]; exact (by decide : 5 < sizeLine), ?_⟩
    have G := G.put (kvs2 := putK kv5 (Sum.inr "start") (.ref ts))
    refine ⟨_, rfl, ?_⟩
    refine qq g dl _ _ gs ds ws ks G.g0 G.bt G.pl G.lg (by rw [← hkv]; rfl) G.ldl hwds hks (Paired.mono (fun a d z => z.imp fun b hb => ?_) G.hp) hwdA hdrA
    cases e : H b with
    | none => rfl
    | some u =>
      by_cases hbp : b = p
      · obtain ⟨k7, z7, h7, _⟩ := pl7
        rw [hbp, h7] at hb
        cases hb.1
      · have := ng b u (B6 b u hbp e)
        rw [hb.1] at this
        cases this
end
end My

set_option Elab.async false
set_option linter.all false
set_option maxRecDepth 100000
set_option maxHeartbeats 2000000
namespace My
open PySem PySem.Spec PyProof.Rows L2
theorem merge_app : ∀ (ks : List (Str × Int)) (acc : List (Key × V)), (∀ e ∈ ks, valV acc (Sum.inr e.1) = none) → (ks.map (·.1)).Nodup → mergeK acc (ks.map entK) = acc ++ ks.map entK
  | [], acc, _, _ => by simp [mergeK]
  | e :: ks, acc, h, nd => by
    rw [List.map_cons, List.nodup_cons] at nd
    have h1 : putK acc (entK e).1 (entK e).2 = acc ++ [entK e] := putK_new _ (h e (List.mem_cons_self ..))
    have ih := merge_app ks (acc ++ [entK e]) (fun f hf => by
      have h2 := h f (List.mem_cons_of_mem _ hf)
      have ne : ¬ (entK e).1 = Sum.inr f.1 := fun z => nd.1 (by
        have z2 : e.1 = f.1 := Sum.inr.inj z
        rw [z2]; exact List.mem_map_of_mem hf)
      unfold valV at h2 ⊢
      rw [List.find?_append]
      rw [Option.map_eq_none_iff] at h2
      rw [h2]
      simp [ne]) nd.2
    show mergeK (putK acc (entK e).1 (entK e).2) (ks.map entK) = _
    rw [h1, ih]
    simp
theorem pairs_sq {K : PySem.W.Frag} {H : Hp} {ps : List Addr} {ks : List (Str × Int)} (h : Paired (fun b e => H b = some (.tup [.str e.1, .int e.2])) ps ks) : Paired (fun p (kv : Key × V) => SqT K H p [kV kv.1, kv.2]) ps (ks.map entK) := by
  induction h with
  | nil => exact .nil
  | cons h _ ih => exact .cons (SqT.of h) ih
theorem merge_nil {ks : List (Str × Int)} (nd : (ks.map (·.1)).Nodup) : mergeK [] (ks.map entK) = ks.map entK := merge_app ks [] (fun _ _ => rfl) nd
abbrev sPAs : Stmt := inClass (topI 17) 2
abbrev NPAs : List Str := ["self"]
theorem scPAs : FnScope NPAs ["self"] (defScope sPAs) := ⟨rfl, rfl, rfl, by decide +kernel, rfl, by decide +kernel, by decide +kernel⟩
def spPAs (K : PySem.W.Frag) (C : Addr) : Sp := fun vs H Q _ => ∃ (x : Addr) (c : Dv), vs = [.ref x] ∧ DdAt K H C x c ∧ ∀ (l : Addr) (H' : Hp), H l = none → Same H H' → H' l = some (.dK (c.asks.map entK)) → Q (.ref l) H'
theorem ok_pAs {P : Program} {w : World} {K : PySem.W.Frag} {mg : Str → Option Value} {base : Heap} {f C : Addr} {fd : FuncData} (F : Fun K "asks" "Deed.asks" sPAs f fd) (B : Bn mg) (TD : DdT K C) : FnOk P w K mg base CX0 1 f fd ["self"] (spPAs K C) := by
  refine F.ok scPAs (fun vs H Q E h => ?_) (fun cdv A outer s H vs Q E hr h => ?_)
  · obtain ⟨x, c, rfl, _⟩ := h
    rfl
  obtain ⟨x, c, rfl, ⟨dx, ta, tk, tp, tg, ts, ps, hx, a1, ⟨p2, a2, b2⟩, ⟨p3, a3, b3⟩, a4, a5, b5, cp⟩, q⟩ := h
  refine ⟨_, (pss_one (ps_ret (pe_callTy (call_dictT rfl) (by rfl) B.dict (by decide +kernel) (pa_cons (pe_fld (pv 0) rfl) pa_nil)))), ?_⟩
  refine ⟨_, rfl, x, C, dx, _, _, rfl, hx, TD.cl, TD.n "_asks" (by decide), dfs_as .., ?_⟩
  refine ⟨_, _, c.asks.map entK, rfl, a2, ?_, fun l hl => ?_⟩
  · exact pairs_sq b2
  · rw [merge_nil cp.asksN]
    exact q l _ hl (My.Same.new (Same.refl H) hl) upd_same
abbrev sPPy : Stmt := inClass (topI 17) 3
abbrev NPPy : List Str := ["self"]
theorem scPPy : FnScope NPPy ["self"] (defScope sPPy) := ⟨rfl, rfl, rfl, by decide +kernel, rfl, by decide +kernel, by decide +kernel⟩
def spPPy (K : PySem.W.Frag) (C : Addr) : Sp := fun vs H Q _ => ∃ (x : Addr) (c : Dv), vs = [.ref x] ∧ DdAt K H C x c ∧ ∀ (l : Addr) (H' : Hp), H l = none → Same H H' → H' l = some (.dK (c.pays.map entK)) → Q (.ref l) H'
theorem ok_pPy {P : Program} {w : World} {K : PySem.W.Frag} {mg : Str → Option Value} {base : Heap} {f C : Addr} {fd : FuncData} (F : Fun K "pays" "Deed.pays" sPPy f fd) (B : Bn mg) (TD : DdT K C) : FnOk P w K mg base CX0 1 f fd ["self"] (spPPy K C) := by
  refine F.ok scPPy (fun vs H Q E h => ?_) (fun cdv A outer s H vs Q E hr h => ?_)
  · obtain ⟨x, c, rfl, _⟩ := h
    rfl
  obtain ⟨x, c, rfl, ⟨dx, ta, tk, tp, tg, ts, ps, hx, a1, ⟨p2, a2, b2⟩, ⟨p3, a3, b3⟩, a4, a5, b5, cp⟩, q⟩ := h
  refine ⟨_, (pss_one (ps_ret (pe_callTy (call_dictT rfl) (by rfl) B.dict (by decide +kernel) (pa_cons (pe_fld (pv 0) rfl) pa_nil)))), ?_⟩
  refine ⟨_, rfl, x, C, dx, _, _, rfl, hx, TD.cl, TD.n "_pays" (by decide), dfs_pa .., ?_⟩
  refine ⟨_, _, c.pays.map entK, rfl, a3, ?_, fun l hl => ?_⟩
  · exact pairs_sq b3
  · rw [merge_nil cp.paysN]
    exact q l _ hl (My.Same.new (Same.refl H) hl) upd_same
end My

set_option Elab.async false
set_option linter.all false
set_option maxRecDepth 100000
set_option maxHeartbeats 2000000
namespace My
open PySem PySem.Spec PyProof.Rows L2 PySem.Froz
/-! ### sorted(set(texts)) -/
/-- the unlike ones among the first i -/
def dl (xs : List Str) : Nat → List Str
  | 0 => []
  | i + 1 => if xs.getD i Str.empty ∈ dl xs i then dl xs i else xs.getD i Str.empty :: dl xs i
theorem dl_len (xs : List Str) : ∀ i, (dl xs i).length ≤ i
  | 0 => Nat.le_refl _
  | i + 1 => by
    have h := dl_len xs i
    unfold dl
    split
    · omega
    · rw [List.length_cons]; omega
theorem dl_nodup (xs : List Str) : ∀ i, (dl xs i).Nodup
  | 0 => List.nodup_nil
  | i + 1 => by
    have h := dl_nodup xs i
    unfold dl
    split
    · exact h
    · rename_i n
      exact List.nodup_cons.mpr ⟨n, h⟩
theorem dl_mem {xs : List Str} : ∀ {i : Nat}, i ≤ xs.length → ∀ z, z ∈ dl xs i ↔ z ∈ xs.take i
  | 0, _, z => by simp [dl]
  | i + 1, h, z => by
    have ih := dl_mem (xs := xs) (i := i) (by omega) z
    have lt : i < xs.length := h
    have e : xs.getD i Str.empty = xs[i] := by rw [List.getD_eq_getElem?_getD, List.getElem?_eq_getElem lt]; rfl
    rw [List.take_succ_eq_append_getElem lt, List.mem_append, List.mem_singleton, ← e, ← ih]
    have e2 : dl xs (i + 1) = if xs.getD i Str.empty ∈ dl xs i then dl xs i else xs.getD i Str.empty :: dl xs i := rfl
    rw [e2]
    split
    · rename_i m
      exact ⟨.inl, fun w => w.elim id fun q => q ▸ m⟩
    · rw [List.mem_cons]
      exact Or.comm
theorem perm_of_sub : ∀ {l zs : List Str}, l.Nodup → (∀ z ∈ l, z ∈ zs) → zs.length ≤ l.length → zs.Perm l
  | [], zs, _, _, h => by
    have e : zs = [] := List.length_eq_zero_iff.mp (Nat.le_zero.mp h)
    rw [e]
  | x :: l, zs, nd, sub, h => by
    rw [List.nodup_cons] at nd
    have p := List.perm_cons_erase (sub x (List.mem_cons_self ..))
    have ih := perm_of_sub (l := l) (zs := zs.erase x) nd.2 (fun z hz => by
      have ne : z ≠ x := fun q => nd.1 (q ▸ hz)
      exact (List.mem_erase_of_ne ne).mpr (sub z (List.mem_cons_of_mem _ hz))) (by
      have := p.length_eq
      rw [List.length_cons] at this h
      omega)
    exact p.trans (ih.cons x)
/-- the set at a holds the texts l; its table can be walked -/
def TxR (P : Program) (w : World) (h : Heap) (a : Addr) (l : List Str) : Prop := ∃ D : SD, h.get? a = some (sObj "set" D) ∧ TxOk P w D l ∧ Ris D.2.2.place.toList ∧ (w.params.followText "set-order" = true ∨ D.2.2.led = true)
theorem add_walk {h : Int} {v : Value} {D : SD} (r : Ris D.2.2.place.toList) : Ris (addTx h v D).2.2.place.toList ∧ (addTx h v D).2.2.led = D.2.2.led := by
  obtain ⟨es, ep, t⟩ := D
  have r1 := layNew_ris t es h v r
  have d1 := layNew_led t es h v
  show Ris (tailTx ep (layNew t es h v).1 (if (layNew t es h v).2.1.plain = true then { (layNew t es h v).2.1 with plain := false } else (layNew t es h v).2.1) (layNew t es h v).2.2.1).2.2.place.toList ∧
    (tailTx ep (layNew t es h v).1 (if (layNew t es h v).2.1.plain = true then { (layNew t es h v).2.1 with plain := false } else (layNew t es h v).2.1) (layNew t es h v).2.2.1).2.2.led = t.led
  have r2 : Ris (if (layNew t es h v).2.1.plain = true then { (layNew t es h v).2.1 with plain := false } else (layNew t es h v).2.1).place.toList := by split <;> exact r1
  have d2 : (if (layNew t es h v).2.1.plain = true then { (layNew t es h v).2.1 with plain := false } else (layNew t es h v).2.1).led = t.led := by split <;> exact d1
  generalize (if (layNew t es h v).2.1.plain = true then { (layNew t es h v).2.1 with plain := false } else (layNew t es h v).2.1) = t2 at *
  unfold tailTx
  split
  · exact ⟨relayAll_ris t2 _ _, (relayAll_led t2 _ _).trans d2⟩
  · exact ⟨r2, d2⟩
section
variable {P : Program} {w : World} {A : Around} {E : Value → Shared → Prop} {s : Shared}
/-- the add of a text that is there already -/
theorem add_there {a : Addr} {D : SD} {l : List Str} {k : Str} {u : Tok} {Q : Bool → Shared → Prop} (at_ : s.heap.get? a = some (sObj "set" D)) (F : TxOk P w D l) (m : k ∈ l) (few : l.length < scanBound) (q : Q false s) : wpAny (model P w) A (setAddHashed a (.str k u) (hashStr w k)) Q E s := by
  obtain ⟨es, ep, t⟩ := D
  have dat : (sObj "set" (es, ep, t)).data = .set es ep t := rfl
  have el : ElemsOf (strKind P w) es.toList := F.el
  have few0 : es.size < scanBound := by have := F.sz; show es.size < _; have e : es.size = l.length := F.sz; omega
  have key : (strKind P w).is k (.str k u) = true := is_str k u
  unfold setAddHashed setAddHashedIn
  refine wpAny_holding (wpAny_bind (wpAny_setState_of at_ dat F.fit ?_))
  dsimp only
  rw [byScan_of rfl few0 el]
  simp only [↓reduceIte]
  unfold setAddByScan
  refine wpAny_bind (wpAny_bind (wpAny_rule (wpAny_bind (wpAny_setScan_of (knd := strKind P w) (k := k) key at_ dat F.fit el ?_))))
  cases found : List.findIdx? (fun e => (strKind P w).is k e.2) es.toList with
  | some j =>
    dsimp only
    exact wpAny_pure (wpAny_pure q)
  | none =>
    obtain ⟨e, he, z⟩ := (F.mem k).mp m
    have c := List.findIdx?_eq_none_iff.mp found e he
    rw [z] at c
    cases c
end
section
variable {P : Program} {w : World} {A : Around} {R : Result → Shared → Prop} {I : Addr} {fp wr : List Addr} {G : Array GenState → Array GenState → Prop} {n : Nat} {Pv : Nat → Value → Prop} {St : Nat → Shared → Prop}
theorem loopTw (W : WalksS P w A.in1 I fp wr G n Pv St) (z : Addr) (out : z ∉ fp) (xs : List Str) (len : xs.length = n) (room : n + 1 < scanBound) (vals : ∀ i v, Pv i v → ∃ t, v = .str (xs.getD i Str.empty) t) :
    ∀ (left i : Nat) (s : Shared), n - i = left → i ≤ n → St i s → TxR P w s.heap z (dl xs i) →
      (∀ s', Moved (z :: wr) G s s' → TxR P w s'.heap z (dl xs n) → R (.ok (.ret .none)) s') →
      codeAny (model P w) A (.builtin "set.update.loop" ⟨[.ref z, .ref I], []⟩) R s := by
  have outW : z ∉ wr := fun m => out (W.sub _ m)
  have wider : ∀ b ∈ wr, b ∈ z :: wr := fun b m => List.mem_cons_of_mem _ m
  have moved : ∀ {s1 s2 : Shared} {l : List Str}, Moved wr G s1 s2 → TxR P w s1.heap z l → TxR P w s2.heap z l := fun mv ⟨D, at_, rest⟩ => ⟨D, mv.heap z _ outW at_, rest⟩
  intro left
  induction left with
  | zero =>
    intro i s e1 e2 st set fin
    obtain rfl : i = n := by omega
    refine codeAny_builtin F.entry_set_update_loop ?_
    rw [Around.under_plainId F.plain_set_update_loop _]
    exact wpAny_bind (W.done s _ _ st fun s' mv => wpAny_pure (fin s' (mv.mono wider) (moved mv set)))
  | succ left ih =>
    intro i s e1 e2 st set fin
    have more : i < n := by omega
    refine codeAny_builtin F.entry_set_update_loop ?_
    rw [Around.under_plainId F.plain_set_update_loop _]
    refine wpAny_bind (W.item i s _ _ more st fun v s' pv st' mv => ?_)
    obtain ⟨t, rfl⟩ := vals i v pv
    refine wpAny_bind (wpAny_holding ?_)
    unfold setAdd
    refine wpAny_holding (wpAny_bind ((PySem.strKind P w).pyHash (k := xs.getD i Str.empty) (strKind_is _ _ _ _) ?_))
    obtain ⟨D, at_, ok, ris, led⟩ := moved mv set
    have le := dl_len xs i
    have next : ∀ (s2 : Shared), s2 = { s' with toks := s'.toks + 1, heap := s2.heap } → Heap.SameBut z s'.heap s2.heap → TxR P w s2.heap z (dl xs (i + 1)) →
        codeAny (model P w) A (.builtin "set.update.loop" ⟨[.ref z, .ref I], []⟩) R s2 := fun s2 e same set3 => by
      refine ih (i + 1) _ (by omega) more ?_ set3 fun s'' mv2 set4 => ?_
      · rw [e]
        refine W.frame _ s' _ _ st' (Nat.le_succ _) fun b m o e => ?_
        rw [same.2 b (fun q : b = z => out (q ▸ m))]
        exact e
      · rw [e] at mv2
        refine fin s'' (Moved.trans W.gtrans ((mv.mono wider).then_heap (Nat.le_succ _) fun b o m e => ?_) mv2) set4
        rw [same.2 b (fun q : b = z => m (q ▸ List.mem_cons_self))]
        exact e
    by_cases there : xs.getD i Str.empty ∈ dl xs i
    · refine add_there (s := { s' with toks := s'.toks + 1 }) at_ ok there (by omega) ?_
      refine wpAny_pure ⟨plainId_quiet F.plain_set_update_loop _, next _ rfl (Heap.SameBut.refl z _) ⟨D, at_, ?_, ris, led⟩⟩
      show TxOk P w D (if _ then _ else _)
      rw [if_pos there]
      exact ok
    · refine add_x (s := { s' with toks := s'.toks + 1 }) at_ ok there (by omega) ?_
      have w2 := add_walk (h := hashStr w (xs.getD i Str.empty)) (v := .str (xs.getD i Str.empty) t) ris
      refine wpAny_pure ⟨plainId_quiet F.plain_set_update_loop _, next _ rfl (Heap.SameBut.update s'.heap z _) ⟨_, get_upd _ at_ rfl, ?_, w2.1, led.imp id fun q => by rw [w2.2]; exact q⟩⟩
      show TxOk P w _ (if _ then _ else _)
      rw [if_neg there]
      exact add_ok t ok
end
end My

set_option Elab.async false
set_option linter.all false
set_option maxRecDepth 100000
set_option maxHeartbeats 2000000
namespace My
open PySem PySem.Spec PyProof.Rows L2 PySem.Froz
section
variable {P : Program} {w : World} {A : Around} {E : Value → Shared → Prop} {s : Shared}
set_option maxHeartbeats 3200000 in
/-- set(xs), xs a list of texts -/
theorem set_lstTw {l : Addr} {its : Array Value} {xs : List Str} {Q : Value → Shared → Prop} (calm : A.handled = none) (src : s.heap.IsList l its) (txt : StrsAre its.toList xs) (room : xs.length + 1 < scanBound)
    (fin : ∀ (h2 : Heap) (tk2 : Nat), TxR P w h2 s.heap.objs.size (dl xs its.size) → (∀ b o, b < s.heap.objs.size → s.heap.get? b = some o → h2.get? b = some o) → Q (.ref s.heap.objs.size) { s with heap := h2, toks := tk2 }) :
    wpAny (model P w) A (call (.type "set") [.ref l]) Q E s := by
  obtain ⟨cc, tl, hmro⟩ := PySem.F.called_set.mro
  have f1 := PySem.F.called_set.made
  have f2 := PySem.F.called_set.sub
  refine wpAny_call (codeAny_of_tree (?_ : wpAny _ _ (callAny (.type "set") _) _ _ _))
  refine wpAny_pure ⟨Code.quiet_builtin _ (by decide +kernel), codeAny_builtin PySem.F.entry_type_call ?_⟩
  rw [Around.under_plain (weight_type_call_type "set" [.ref l] []) rfl]
  have f3 := PySem.F.called_set.notType
  have f4 := PySem.F.called_set.canCreate
  have f5 := PySem.F.typeCall_set_1 (.ref l)
  repeat (any_goals (first | assumption | wp_step))
  let led : Bool := !w.params.followText "set-order"
  let em : Bool → Obj := fun led => { cls := .type "set", dict := none, data := .set #[] 0 (.fresh 0 0 led) }
  refine codeAny_mono (code_set_led1 (.ref l) (E := E) (Q₁ := fun o1 st1 => o1 = .ref s.heap.objs.size ∧ st1 = { s with heap := s.heap.push (em led) }) ⟨rfl, rfl⟩) fun res st1 got => ?_
  match res, got with
  | .error e, got => exact got
  | .ok (.ret o1), ⟨e1, e2⟩ =>
    subst e1 e2
    have atS : (s.heap.push (em led)).get? s.heap.objs.size = some (em led) := Heap.get?_push_size _ rfl
    have tyS : Shared.TypeIs { s with heap := s.heap.push (em led) } (.ref s.heap.objs.size) "set" := ⟨_, atS, rfl⟩
    have f6 := PySem.F.called_set.init.lookup
    have f7 := PySem.F.called_set.init.bind (.ref s.heap.objs.size)
    repeat (any_goals (first | assumption | wp_step))
    refine codeAny_mono (codeAny_call_builtin (R := wants (fun res st2 => res = .none ∧ ∃ h2 tk2, st2 = { s with heap := h2, toks := tk2 } ∧ TxR P w h2 s.heap.objs.size (dl xs its.size) ∧
      (∀ b o, b < s.heap.objs.size → s.heap.get? b = some o → h2.get? b = some o)) E) PySem.F.called_set.init.plain PySem.F.entry_set_init (check_set_init_1 tyS ?_)) fun res2 st2 got2 => ?_
    · obtain ⟨⟨ocls, odict, odata, oslots⟩, ho, hc, nl, hd⟩ := src
      simp only at hc hd
      subst hc hd
      have ho2 : (s.heap.push (em led)).get? l = some { cls := .type "list", dict := odict, data := .seq its nl, slots := oslots } := Heap.get?_push_of_some _ ho
      have g1 := PySem.F.sub_list_set
      have g2 := PySem.F.sub_list_frozenset
      have g3 : (Value.type "list" == Value.type "dict") = false := by decide
      have src2 : (s.heap.push (em led)).IsList l its := ⟨_, ho2, rfl, nl, rfl⟩
      unfold Builtin.«set.__init__» noKeywords Builtin.Frozenset.updateFrom
      generalize hPI : pyIter = PI
      wp_walk
      subst hPI
      refine wpAny_pyIter_list src2 (wpAny_bind (wpAny_runValue ?_))
      have low : l < s.heap.objs.size := Heap.lt_size ho
      have sz1 : (s.heap.push (em led)).objs.size = s.heap.objs.size + 1 := Heap.size_push ..
      have notI : l ≠ (s.heap.push (em led)).objs.size := by rw [sz1]; exact Nat.ne_of_lt (Nat.lt_succ_of_lt low)
      have notIn : s.heap.objs.size ∉ [(s.heap.push (em led)).objs.size, l] := by
        rw [sz1]
        simp only [List.mem_cons, List.not_mem_nil, or_false, not_or]
        exact ⟨Nat.ne_of_lt (Nat.lt_succ_self _), Nat.ne_of_gt low⟩
      have len : xs.length = its.size := by rw [← StrsAre.len_eq txt, Array.length_toList]
      refine loopTw ((Walks.list (by simp [calm]) _ l notI its).toS) s.heap.objs.size notIn xs len (by rw [← len]; exact room) (fun i v hv => SS.strs_at txt i v (by rw [Array.getElem?_toList]; exact hv)) (its.size - 0) 0 _ (by omega) (Nat.zero_le _) ⟨⟨_, Heap.get?_push_size _ rfl, rfl, rfl⟩, src2.push _⟩ ?_ ?_
      · refine ⟨(#[], 0, .fresh 0 0 led), Heap.get?_push_of_some _ atS, TxOk.nil rfl, List.Pairwise.nil, ?_⟩
        show _ ∨ (!w.params.followText "set-order") = true
        cases w.params.followText "set-order"
        · exact .inr rfl
        · exact .inl rfl
      · rintro ⟨h2, g2, d2, tk2, os2⟩ mv set
        obtain rfl : g2 = s.gens := mv.gens
        obtain rfl : d2 = s.drawn := mv.drawn
        obtain rfl : os2 = s.os := mv.os
        refine wpAny_pure (wpAny_pure ⟨rfl, h2, tk2, rfl, set, fun b o hb e => ?_⟩)
        refine mv.heap b o ?_ (Heap.get?_push_of_some _ (Heap.get?_push_of_some _ e))
        rw [sz1]
        simp only [List.mem_cons, List.not_mem_nil, or_false, not_or]
        exact ⟨Nat.ne_of_lt hb, Nat.ne_of_lt (Nat.lt_succ_of_lt hb)⟩
    · match res2, got2 with
      | .error e, got2 => exact got2
      | .ok (.ret r2), ⟨e3, h2, tk2, e4, set, kept⟩ =>
        subst e3 e4
        repeat (any_goals (first | assumption | wp_step))
        exact fin _ _ set kept
end
end My

set_option Elab.async false
set_option linter.all false
set_option maxRecDepth 100000
set_option maxHeartbeats 2000000
namespace My
open PySem PySem.Spec PyProof.Rows L2 PySem.Froz
section
variable {P : Program} {w : World} {A : Around} {E : Value → Shared → Prop} {s : Shared}
/-- the texts of the rows of a set -/
theorem rows_txt {l : List Str} : ∀ {vs : List Value}, (∀ v ∈ vs, ∃ k, (PySem.strKind P w).is k v = true) → ∃ zs, StrsAre vs zs ∧ ∀ k, k ∈ zs ↔ ∃ v ∈ vs, (PySem.strKind P w).is k v = true
  | [], _ => ⟨[], .nil, fun k => by simp⟩
  | v :: vs, h => by
    obtain ⟨zs, txt, m⟩ := rows_txt (l := l) (vs := vs) fun u hu => h u (List.mem_cons_of_mem _ hu)
    obtain ⟨k, hk⟩ := h v (List.mem_cons_self ..)
    have hv : ∃ t, v = .str k t := by
      have hk2 : Value.isStrOf k v = true := hk
      cases v <;> first | (cases hk2; done) | skip
      rename_i y t
      have e : y = k := by simpa [Value.isStrOf] using hk2
      exact ⟨t, by rw [e]⟩
    obtain ⟨t, rfl⟩ := hv
    refine ⟨k :: zs, .cons k t txt, fun j => ?_⟩
    rw [List.mem_cons, m j]
    constructor
    · rintro (rfl | ⟨v, hv, q⟩)
      · exact ⟨_, List.mem_cons_self .., hk⟩
      · exact ⟨v, List.mem_cons_of_mem _ hv, q⟩
    · rintro ⟨v, hv, q⟩
      rcases List.mem_cons.mp hv with rfl | hv
      · exact .inl ((PySem.strKind P w).inj _ j k q hk)
      · exact .inr ⟨v, hv, q⟩
/-- sorted(a set of texts) -/
theorem sort_setTx {a : Addr} {l : List Str} {Q : Value → Shared → Prop} (R : TxR P w s.heap a l) (nd : l.Nodup) (calm : A.handled = none) (few : l.length < 64)
    (fin : ∀ (s2 : Shared) (p : Addr) (out : Array Value) (c : Nat) (ys : List Str), (∀ b o, s.heap.get? b = some o → s2.heap.get? b = some o) → s2.gens = s.gens → s2.os = s.os → s.heap.objs.size ≤ p → s2.heap.get? p = some (seqObj "list" out c) →
      StrsAre out.toList ys → ys.Perm l → sortedS ys = true → Q (.ref p) s2) : wpAny (model P w) A (call (.builtin "sorted") [.ref a]) Q E s := by
  obtain ⟨⟨es, ep, t⟩, at_, ok, ris, led⟩ := R
  have szl : es.size = l.length := ok.sz
  refine Calls.call_function_entry kind_sorted plain_sorted entry_sorted (args_sorted1 _) ?_
  unfold Builtin.«sorted»
  refine wpAny_bind (m := checkCount "sorted" 1 1 _) (wpAny_pure ?_)
  refine wpAny_bind (collect_set (A := A.in1) (es := es) (ep := ep) (t := t) calm ⟨_, at_, rfl, rfl⟩ ok.fit (by rw [szl]; unfold scanBound; omega) ris led fun s1 vs k1 hz g1 o1 pm => ?_)
  have el : ElemsOf (PySem.strKind P w) es.toList := ok.el
  obtain ⟨zs, txt, mem⟩ := rows_txt (P := P) (w := w) (l := l) (vs := vs) fun v hv => by
    obtain ⟨e, he, q⟩ := List.mem_map.mp (pm.mem_iff.mp hv)
    obtain ⟨⟨k, hk, _⟩, _⟩ := el e he
    exact ⟨k, q ▸ hk⟩
  have len : vs.length = l.length := by rw [pm.length_eq, List.length_map, Array.length_toList, szl]
  have perm : zs.Perm l := perm_of_sub nd (fun z hz => by
    obtain ⟨e, he, q⟩ := (ok.mem z).mp hz
    exact (mem z).mpr ⟨e.2, pm.mem_iff.mpr (List.mem_map_of_mem he), q⟩) (by rw [← StrsAre.len_eq txt, len]; exact Nat.le_refl _)
  refine wpAny_bind (wpAny_newList ?_ (by rw [len, sizeLine_eq]; omega))
  have own : (s1.heap.push (seqObj "list" vs.toArray 0)).get? s1.heap.objs.size = some (seqObj "list" vs.toArray 0) := Heap.get?_push_size _ rfl
  refine wpAny_bind (wpAny_holding (wpAny_call_entry slot_list_sort ⟨_, own, rfl⟩ entry_list_sort (list_sort_treeK strKind_oneLt own txt.keysOf (fun v1 v2 r e => keyKind_strs (by rw [← e]; exact txt)) (by rw [len]; exact few) fun st' a1 a2 => ⟨_, rfl, ?_⟩) (args_list_sort _)))
  obtain ⟨ys, b1, b2, b3⟩ := sorted_out_str txt a1 a2
  obtain ⟨c, hc⟩ := sortedHeap_at (vs := vs) (out := (arrOf st').map (·.2)) own
  refine wpAny_pure ⟨_, rfl, fin _ s1.heap.objs.size _ c ys (fun b u e => ?_) g1 o1 hz hc b1 (b2.trans perm) b3⟩
  have q := k1 b u e
  have lt := Heap.lt_size q
  show (sortedHeap (s1.heap.push (seqObj "list" vs.toArray 0)) s1.heap.objs.size vs _).get? b = some u
  rw [sortedHeap_old (Nat.ne_of_lt lt) (by rw [size_push']; exact Nat.lt_succ_of_lt lt)]
  exact Heap.get?_push_of_some _ q
end
/-- sorted(set(e)), e a list of texts -/
def tSortUn (K : PySem.W.Frag) (te : TE) : TE := fun σ H Q => te σ H fun x H1 => ∃ (a : Addr) (xs : List Str), x = .ref a ∧ SqL K H1 a (xs.map V.str) ∧ xs.length < 64 ∧
  ∀ (ys : List Str) (p : Addr), H1 p = none → ys.Nodup → (∀ z, z ∈ ys ↔ z ∈ xs) → sortedS ys = true → Q (.ref p) (upd H1 p (.lst (ys.map V.str)))
theorem rd_sortUn {K : PySem.W.Frag} {te : TE} {σ : L2.St} {H : Hp} {Q : VK} : tSortUn K te σ H Q = te σ H fun x H1 => ∃ (a : Addr) (xs : List Str), x = .ref a ∧ SqL K H1 a (xs.map V.str) ∧ xs.length < 64 ∧
  ∀ (ys : List Str) (p : Addr), H1 p = none → ys.Nodup → (∀ z, z ∈ ys ↔ z ∈ xs) → sortedS ys = true → Q (.ref p) (upd H1 p (.lst (ys.map V.str))) := rfl
theorem pe_sortUn {X : Cx} {e : Expr} {te : TE} {p p2 q pos : Pos} (calm : X.calm = true) (m1 : X.mg "sorted" = none) (m2 : X.mg "set" = none) (he : PE X e te) (g1 : Gl X "sorted" := by rfl) (g2 : Gl X "set" := by rfl)
    (na : starEach [e] X.env = (false, eval e X.env) :: starEach [] X.env := by rfl) : PE X (.Call (.Name "sorted" p) [.Call (.Name "set" p2) [e] [] q] [] pos) (tSortUn X.K te) := by
  constructor
  intro pins s σ H Q I h
  refine Call_ (ld_blt I g1 m1 boot_sorted (callWith_builtin1 (args_cons ?_ rfl) rfl rfl))
  refine Call_ (ld_blt I g2 m2 boot_set (callWith_type1 (args_cons (thn (he.run pins s σ H _ I h) ?_) na) na rfl))
  rintro v st ⟨x, H1, J, rx, a, xs, rfl, src, few, wish⟩
  obtain rfl : v = Value.ref a := rx
  refine args_nil ?_
  obtain ⟨its, rv, pl, _⟩ := J.list src
  refine set_lstTw (J.ok.hd calm) pl.isList (by simpa using strsAre_of rv) (by unfold scanBound; omega) fun h2 tk2 set kept => ?_
  refine args_nil ?_
  have len : its.toArray.size = xs.length := by rw [List.size_toArray, ← rv.length, List.length_map]
  rw [len] at set
  have J2 : Inv X pins σ H1 { st with heap := h2, toks := tk2 } := J.kept fun b o z => kept b o (Heap.lt_size z) z
  have le := dl_len xs xs.length
  have mem := dl_mem (xs := xs) (Nat.le_refl xs.length)
  rw [List.take_length] at mem
  refine sort_setTx (s := { st with heap := h2, toks := tk2 }) set (dl_nodup xs _) (J.ok.hd calm) (by omega) fun s3 p3 out c ys keep gens os lo at_ txt perm srt => ?_
  have new : H1 p3 = none := J2.hok.fresh lo
  have fit : (ys.map V.str).length ≤ sizeLine := by rw [List.length_map, perm.length_eq, sizeLine_eq]; omega
  have J3 : Inv X pins σ (upd H1 p3 (.lst (ys.map V.str))) s3 := J2.call' (ch := []) os (Un.laid keep lo new) (J2.hok.laid keep lo ⟨fit, out.toList, c, vals_of_strs txt, at_⟩) (by rw [gens]; exact J2.bare) (fun _ z => nomatch z)
  exact ⟨.ref p3, _, J3, rfl, wish ys p3 new (perm.nodup_iff.mpr (dl_nodup xs _)) (fun z => (perm.mem_iff).trans (mem z)) srt⟩
end My

set_option Elab.async false
set_option linter.all false
set_option maxRecDepth 100000
set_option maxHeartbeats 2000000
namespace My
open PySem PySem.Spec PyProof.Rows L2
/-- t + u of tuples, t may be empty -/
def rCat2 (K : PySem.W.Frag) : R2 := fun x y H Q => ∃ (a b : Addr) (xs ys : List V), x = .ref a ∧ y = .ref b ∧ SqT K H a xs ∧ SqT K H b ys ∧ xs.length + ys.length ≤ sizeLine ∧ ∀ (p : Addr) (H' : Hp), Same H H' → SqT K H' p (xs ++ ys) → Q (.ref p) H'
theorem rd_cat2 {K : PySem.W.Frag} {x y : V} {H : Hp} {Q : VK} : rCat2 K x y H Q = ∃ (a b : Addr) (xs ys : List V), x = .ref a ∧ y = .ref b ∧ SqT K H a xs ∧ SqT K H b ys ∧ xs.length + ys.length ≤ sizeLine ∧ ∀ (p : Addr) (H' : Hp), Same H H' → SqT K H' p (xs ++ ys) → Q (.ref p) H' := rfl
theorem op_cat2 {X : Cx} : OpR X (binaryOp .Add) (rCat2 X.K) := by
  intro pins s σ H x y v u Q I rx ry ⟨a, b, xs, ys, ea, eb, ha, hb, fit, wish⟩
  cases xs with
  | cons z zs =>
    refine op_catT pins s σ H x y v u Q I rx ry ⟨a, b, z :: zs, ys, ea, eb, ha, hb, (fun e => nomatch e), fit, fun e => ?_, fun _ p hp => ?_⟩
    · refine wish a H (Same.refl H) ?_
      rw [e, List.append_nil]
      exact ha
    · exact wish p _ (My.Same.new (Same.refl H) hp) (SqT.of upd_same)
  | nil =>
    subst ea eb
    cases rx
    cases ry
    obtain ⟨i1, r1, ⟨⟨c1, d1, t1, sl1⟩, g1, k1, n1, q1⟩, _⟩ := I.tuple ha
    obtain ⟨i2, r2, ⟨⟨c2, d2, t2, sl2⟩, g2, k2, n2, q2⟩, _⟩ := I.tuple hb
    simp only at k1 q1 k2 q2
    subst k1 q1 k2 q2
    cases r1
    exact concat_meets ⟨_, g1, rfl⟩ ⟨_, g2, rfl⟩ noFill_tuple_add seq_tuple_add PySem.F.slot_tuple_add PySem.F.entry_tuple_add (PySem.F.args_tuple_add_2 _ _)
      (tuple_addW0 a b _ i2.toArray n1 n2 d1 d2 sl1 sl2 rfl) ⟨g1, g2, .ref b, H, I, rfl, wish b H (Same.refl H) hb⟩
/-- len(xs), a list or a tuple -/
def rLenLT (K : PySem.W.Frag) : List V → Hp → VK → Prop := fun xs H Q => ∃ p ys, xs = [V.ref p] ∧ (SqL K H p ys ∨ SqT K H p ys) ∧ Q (V.int ys.length) H
theorem call_len_sq {X : Cx} : CallR X (.builtin "len") (rLenLT X.K) := call_len_seq
theorem pd_app {α β : Type} {F : α → β → Prop} {xs xs2 : List α} {ys ys2 : List β} (h : Paired F xs ys) (k : Paired F xs2 ys2) : Paired F (xs ++ xs2) (ys ++ ys2) := by
  induction h with
  | nil => exact k
  | cons h _ ih => exact .cons h ih
theorem sqT_same {K : PySem.W.Frag} {H H' : Hp} {a : Addr} {xs : List V} (h : SqT K H a xs) (s : Same H H') : SqT K H' a xs := by
  rcases h with (h | ⟨o, h⟩) | h
  · exact .inl (.inl (s _ _ h))
  · exact .inl (.inr ⟨o, s _ _ h⟩)
  · exact .inr h
end My

set_option Elab.async false
set_option linter.all false
set_option maxRecDepth 100000
set_option maxHeartbeats 4000000
namespace My
open PySem PySem.Spec PyProof.Rows L2
theorem pd_at {α β : Type} {F : α → β → Prop} {xs : List α} {ys : List β} (h : Paired F xs ys) : ∀ (i : Nat) (x : α), xs[i]? = some x → ∃ y, ys[i]? = some y ∧ F x y := by
  induction h with
  | nil => intro i x h; simp at h
  | @cons x y l r h _ ih =>
    intro i b e
    cases i with
    | zero => simp at e; subst e; exact ⟨y, rfl, h⟩
    | succ i => simpa using ih i b (by simpa using e)
def mvMark : Stp → Option Str
  | .move _ m => if m = "goal" then none else some m
  | .act _ => none
/-- the marks that occur in a deed -/
def marksOf (c : Dv) : List Str := ((c.asks ++ c.pays).map (·.1) ++ c.steps.filterMap mvMark) ++ c.goals
/-- [a for a, n in pairs] -/
theorem lc_pairs {K : PySem.W.Frag} {J : It} {G : Hp → Prop} {ps : List Addr} {ks : List (Str × Int)} {i j : Nat} {σ : L2.St} {H : Hp} {Q : VK} (w : Walk J (ps.map V.ref).length G (YAt (ps.map V.ref))) (hG : ∀ H', Same H H' → G H') (hp : Paired (fun b (e : Str × Int) => H b = some (.tup [.str e.1, .int e.2])) ps ks) (hz : ks.length ≤ 1000)
    (hw : ∀ x y, wipe (((wipe σ [i, j]).set i (some x)).set j (some y)) [i, j] = wipe σ [i, j]) (h1 : ∀ x y, (((wipe σ [i, j]).set i (some x)).set j (some y))[i]? = some (some x))
    (qq : ∀ (D : Addr) (H' : Hp), H D = none → Same H H' → H' D = some (.lst ((ks.map (·.1)).map V.str)) → Q (.ref D) H') :
    lcB J (gTup K 2 (gCons (gName i) (gCons (gName j) gNil))) tYes (tVar i) [i, j] σ H Q := by
  have len : ps.length = ks.length := Paired.length hp
  intro D hD
  refine lc_it w (fun i H' => Same H H' ∧ H' D = some (.lst (((ks.take i).map (·.1)).map V.str))) ⟨My.Same.new (Same.refl H) hD, upd_same⟩ (fun i H' _ h => hG H' h.1) ?_ ?_
  · rintro i x H' H2 hi ⟨sm, hd⟩ ⟨rfl, hx⟩
    rw [List.getElem?_map] at hx
    obtain ⟨b, hb, rfl⟩ := Option.map_eq_some_iff.mp hx
    obtain ⟨e, he, hbe⟩ := pd_at hp i b hb
    rw [List.length_map] at hi
    refine ⟨b, _, rfl, SqT.of (sm _ _ hbe), rfl, _, _, rfl, _, _, rfl, rfl, hw _ _, ?_⟩
    simp only [tYes, if_true]
    refine ⟨_, h1 _ _, _, hd, szl (by rw [List.length_map, List.length_map, List.length_take]; omega), My.Same.new sm hD, ?_⟩
    rw [upd_same, take_more he, List.map_append, List.map_append]
    rfl
  · rintro H' ⟨sm, hd⟩
    rw [List.length_map, len, List.take_length] at hd
    exact qq D H' hD sm hd
/-- [step[1] for step in steps if len(step) == 2 and step[1] != "goal"] -/
theorem lc_moves {K : PySem.W.Frag} {J : It} {G : Hp → Prop} {ps : List Addr} {sts : List Stp} {i : Nat} {σ : L2.St} {H : Hp} {Q : VK} (w : Walk J (ps.map V.ref).length G (YAt (ps.map V.ref))) (hG : ∀ H', Same H H' → G H') (hp : Paired (StpAt H) ps sts) (hz : sts.length ≤ 1000)
    (hw : ∀ x, wipe ((wipe σ [i]).set i (some x)) [i] = wipe σ [i]) (h1 : ∀ x, ((wipe σ [i]).set i (some x))[i]? = some (some x))
    (qq : ∀ (D : Addr) (H' : Hp), H D = none → Same H H' → H' D = some (.lst ((sts.filterMap mvMark).map V.str)) → Q (.ref D) H') :
    lcB J (gName i) (tAnd (tTest (tOp rEq (tCB (rLenLT K) (tCons (tVar i) tNil)) (tC (V.int 2)))) (tTest (tOp rNe (tOp rIxTp (tVar i) (tC (V.int 1))) (tC (V.str "goal"))))) (tOp rIxTp (tVar i) (tC (V.int 1))) [i] σ H Q := by
  have len : ps.length = sts.length := Paired.length hp
  intro D hD
  refine lc_it w (fun i H' => Same H H' ∧ H' D = some (.lst (((sts.take i).filterMap mvMark).map V.str))) ⟨My.Same.new (Same.refl H) hD, upd_same⟩ (fun i H' _ h => hG H' h.1) ?_ ?_
  · rintro i x H' H2 hi ⟨sm, hd⟩ ⟨rfl, hx⟩
    rw [List.getElem?_map] at hx
    obtain ⟨b, hb, rfl⟩ := Option.map_eq_some_iff.mp hx
    obtain ⟨e, he, hbe⟩ := pd_at hp i b hb
    have hb1 := sm _ _ hbe.1
    rw [List.length_map] at hi
    have tk := take_more he
    refine ⟨hw _, _, h1 _, b, _, rfl, .inr (SqT.of hb1), ?_⟩
    cases e with
    | act a =>
      refine ⟨rfl, false, (by show V.bl (decide (V.int 1 = V.int 2)) = V.bl false; rw [decide_eq_false (by intro e; cases e)]), ?_⟩
      refine ⟨sm, ?_⟩
      rw [tk, List.filterMap_append, List.map_append]
      have e0 : List.filterMap mvMark [Stp.act a] = [] := rfl
      rw [e0, List.map_nil, List.append_nil]
      exact hd
    | move d m =>
      refine ⟨rfl, true, (by show V.bl (decide (V.int 2 = V.int 2)) = V.bl true; rw [decide_eq_true rfl]), ?_⟩
      refine ⟨_, h1 _, b, 1, rfl, rfl, _, hb1, by decide, .str m, rfl, rfl, _, rfl, ?_⟩
      by_cases z : m = "goal"
      · rw [decide_eq_true (by rw [z])]
        refine ⟨sm, ?_⟩
        rw [tk, List.filterMap_append, List.map_append]
        have e0 : List.filterMap mvMark [Stp.move d m] = [] := by simp [List.filterMap_cons, mvMark, z]
        rw [e0, List.map_nil, List.append_nil]
        exact hd
      · rw [decide_eq_false (by intro e; cases e; exact z rfl)]
        refine ⟨_, h1 _, b, 1, rfl, rfl, _, hb1, by decide, .str m, rfl, ?_⟩
        refine ⟨_, hd, szl ?_, My.Same.new sm hD, ?_⟩
        · have := List.length_filterMap_le mvMark (sts.take i)
          rw [List.length_map]
          rw [List.length_take] at this
          omega
        · rw [upd_same, tk, List.filterMap_append, List.map_append]
          have e0 : List.filterMap mvMark [Stp.move d m] = [m] := by simp [List.filterMap_cons, mvMark, z]
          rw [e0]
          rfl
  · rintro H' ⟨sm, hd⟩
    rw [List.length_map, len, List.take_length] at hd
    exact qq D H' hD sm hd
abbrev sAm : Stmt := inClass (topI 17) 7
abbrev NAm : List Str := ["self", "counted", "changed", "mark", "count", "step"]
theorem scAm : FnScope NAm ["self"] (defScope sAm) := ⟨rfl, rfl, rfl, by decide +kernel, rfl, by decide +kernel, by decide +kernel⟩
def spAm (K : PySem.W.Frag) (C : Addr) : Sp := fun vs H Q _ => ∃ (x : Addr) (c : Dv), vs = [.ref x] ∧ DdAt K H C x c ∧ ∀ (l : Addr) (H' : Hp) (ys : List Str), H l = none → Same H H' → ys.Nodup → (∀ z, z ∈ ys ↔ z ∈ marksOf c) → sortedS ys = true → H' l = some (.lst (ys.map V.str)) → Q (.ref l) H'
theorem ok_am {P : Program} {w : World} {K : PySem.W.Frag} {mg : Str → Option Value} {base : Heap} {f C : Addr} {fd : FuncData} (F : Fun K "all_marks" "Deed.all_marks" sAm f fd) (B : Bn mg) (TD : DdT K C) : FnOk P w K mg base CX0 1 f fd ["self"] (spAm K C) := by
  refine F.ok scAm (fun vs H Q E h => ?_) (fun cdv A outer s H vs Q E hr h => ?_)
  · obtain ⟨x, c, rfl, _⟩ := h
    rfl
  obtain ⟨x, c, rfl, ⟨dx, ta, tk, tp, tg, ts, ps, hx, a1, ⟨p2, a2, b2⟩, ⟨p3, a3, b3⟩, a4, a5, b5, cp⟩, q⟩ := h
  refine ⟨_, (pss_cons (ps_setLc (i := 1) (own := [("mark", 3), ("count", 4)]) (g := gTup K 2 (gCons (gName 3) (gCons (gName 4) gNil))) rfl scAm.nd rfl rfl (sw_true rfl rfl rfl (by decide +kernel)) (pi_any (pe_op op_cat2 (pe_fld (pv 0) rfl) (pe_fld (pv 0) rfl))) (blkOk_by (own := [("mark", 3), ("count", 4)]) (N := NAm) (sc := defScope sAm) (by decide +kernel)) (fun _ _ _ _ _ => by exact (pg_tup rfl (pgs_cons (pg_name (i := 3) scAm.nd rfl (Or.inl rfl)) (pgs_cons (pg_name (i := 4) scAm.nd rfl (Or.inl rfl)) pgs_nil)))) (fun _ _ _ _ _ => pts_nil) (fun _ _ _ _ _ => (pv 3)))
      (pss_cons (ps_setLc (i := 2) (own := [("step", 5)]) (g := gName 5) rfl scAm.nd rfl rfl (sw_true rfl rfl rfl (by decide +kernel)) (pi_any (pe_fld (pv 0) rfl)) (blkOk_by (own := [("step", 5)]) (N := NAm) (sc := defScope sAm) (by decide +kernel)) (fun _ _ _ _ _ => pg_name (i := 5) scAm.nd rfl (Or.inl rfl)) (fun _ _ _ _ _ => pts_one (PW.pt (pw_and (pt_cmpR op_eq (pe_callB (show CallR _ (.builtin "len") (rLenLT K) from call_len_sq) (by rfl) B.len (by decide +kernel) (pa_cons (pv 5) pa_nil)) pe_int (nomark _)) (pw_and1 (pt_cmpR op_ne (pe_ix ix_tp (pv 5) pe_int (fun _ _ => rfl)) pe_str (nomark _)))))) (fun _ _ _ _ _ => (pe_ix ix_tp (pv 5) pe_int (fun _ _ => rfl))))
      (pss_one (ps_ret (pe_sortUn rfl B.sorted B.set (pe_op op_cat (pe_op op_cat (pv 1) (pv 2)) (pe_callTy call_list_of (by rfl) B.list (by decide +kernel) (pa_cons (pe_fld (pv 0) rfl) pa_nil)))))))), ?_⟩
  refine step_asg ?_
  rw [rd_lcA]
  refine ⟨_, rfl, x, C, dx, _, _, rfl, hx, TD.cl, TD.n "_asks" (by decide), dfs_as .., _, rfl, x, C, dx, _, _, rfl, hx, TD.cl, TD.n "_pays" (by decide), dfs_pa .., ?_⟩
  refine ⟨tk, tp, _, _, rfl, rfl, a2.sqT, a3.sqT, ?_, fun u H1 s1 hu => ?_⟩
  · have l2 : p2.length = c.asks.length := Paired.length b2
    have l3 : p3.length = c.pays.length := Paired.length b3
    have fw := cp.few
    exact sz (by rw [List.length_map, List.length_map]; omega)
  refine ⟨u, rfl, .inr ⟨⟨_, hu⟩, ?_⟩⟩
  have fw := cp.few
  rw [List.map_append.symm] at hu
  refine lc_pairs (K := K) (ps := p2 ++ p3) (ks := c.asks ++ c.pays) walk_tup (fun H' s => sqT_same hu s) (Paired.mono (fun _ _ z => s1 _ _ z) (pd_app b2 b3)) (by rw [List.length_append]; omega) (fun _ _ => rfl) (fun _ _ => rfl) fun n1 H2 hn1 s2 ln1 => ?_
  have s12 := s1.trans s2
  refine step_asg ?_
  rw [rd_lcA]
  refine ⟨_, rfl, x, C, dx, _, _, rfl, s12 _ _ hx, TD.cl, TD.n "_steps" (by decide), dfs_st .., ts, rfl, .inr ⟨⟨_, (a5.same s12).sq⟩, ?_⟩⟩
  refine lc_moves (K := K) walk_tup (fun H' s => ((a5.same s12).same s).sq) (Paired.mono (fun _ _ z => ⟨s12 _ _ z.1, z.2⟩) b5) (by omega) (fun _ => rfl) (fun _ => rfl) fun n2 H3 hn2 s3 ln2 => ?_
  have s13 := s12.trans s3
  have lf := List.length_filterMap_le mvMark c.steps
  refine ⟨_, rfl, _, rfl, n1, n2, _, _, rfl, rfl, s3 _ _ ln1, ln2, sz (by rw [List.length_map, List.length_map, List.length_map, List.length_append]; omega), fun d1 hd1 => ?_⟩
  rw [List.map_append.symm]
  have s4 := My.Same.new (o := .lst (((c.asks ++ c.pays).map (·.1) ++ c.steps.filterMap mvMark).map V.str)) (Same.refl H3) hd1
  have ld1 : upd H3 d1 (.lst (((c.asks ++ c.pays).map (·.1) ++ c.steps.filterMap mvMark).map V.str)) d1 = some (.lst (((c.asks ++ c.pays).map (·.1) ++ c.steps.filterMap mvMark).map V.str)) := upd_same
  generalize upd H3 d1 (.lst (((c.asks ++ c.pays).map (·.1) ++ c.steps.filterMap mvMark).map V.str)) = H4 at *
  have s14 := s13.trans s4
  refine ⟨_, rfl, x, C, dx, _, _, rfl, s14 _ _ hx, TD.cl, TD.n "_goals" (by decide), dfs_go .., tg, _, rfl, .inr (SqT.of (s14 _ _ a4)), fun gl hgl => ?_⟩
  have s5 := My.Same.new (o := .lst (c.goals.map V.str)) (Same.refl H4) hgl
  have lgl : upd H4 gl (.lst (c.goals.map V.str)) gl = some (.lst (c.goals.map V.str)) := upd_same
  generalize upd H4 gl (.lst (c.goals.map V.str)) = H5 at *
  refine ⟨d1, gl, _, _, rfl, rfl, s5 _ _ ld1, lgl, sz (by rw [List.length_map, List.length_map, List.length_append, List.length_map, List.length_append]; omega), fun d2 hd2 => ?_⟩
  rw [List.map_append.symm]
  rw [show ((c.asks ++ c.pays).map (·.1) ++ c.steps.filterMap mvMark) ++ c.goals = marksOf c from rfl]
  have s6 := My.Same.new (o := .lst ((marksOf c).map V.str)) (Same.refl H5) hd2
  have ld2 : upd H5 d2 (.lst ((marksOf c).map V.str)) d2 = some (.lst ((marksOf c).map V.str)) := upd_same
  have s16 := (s14.trans s5).trans s6
  refine ⟨d2, marksOf c, rfl, SqL.of ld2, ?_, fun ys l hl nd mem srt => ?_⟩
  · unfold marksOf
    rw [List.length_append, List.length_append, List.length_map, List.length_append]
    omega
  · refine q l _ ys ?_ (My.Same.new' s16 hl) nd mem srt upd_same
    cases e : H l with
    | none => rfl
    | some u =>
      have := s16 l u e
      rw [hl] at this
      cases this
end My

set_option Elab.async false
set_option linter.all false
set_option maxRecDepth 100000
set_option maxHeartbeats 2000000
namespace My
open PySem PySem.Spec PyProof.Rows L2
/-- sorted(a list of pairs of a text and a number) -/
def rSortPr (K : PySem.W.Frag) : List V → Hp → VK → Prop := fun vs H Q => ∃ (a : Addr) (ps : List Addr) (ks : List (Str × Int)), vs = [.ref a] ∧ SqL K H a (ps.map V.ref) ∧ Paired (fun b (e : Str × Int) => H b = some (.tup [.str e.1, .int e.2])) ps ks ∧ ks.length < 64 ∧
  ∀ (l : Addr) (ps2 : List Addr) (ys : List (Str × Int)), H l = none → ys.Perm ks → ys.Pairwise (fun e f => ltCps f.1.cps.toList e.1.cps.toList = false) → Paired (fun b (e : Str × Int) => H b = some (.tup [.str e.1, .int e.2])) ps2 ys → Q (.ref l) (upd H l (.lst (ps2.map V.ref)))
theorem pd_atF {α β : Type} {F : α → β → Prop} {xs : List α} {ys : List β} (h : Paired F xs ys) : ∀ (i : Nat) (x : α), xs[i]? = some x → ∃ y, ys[i]? = some y ∧ F x y := by
  induction h with
  | nil => intro i x h; simp at h
  | @cons x y l r h _ ih =>
    intro i b e
    cases i with
    | zero => simp at e; subst e; exact ⟨y, rfl, h⟩
    | succ i => simpa using ih i b (by simpa using e)
theorem cr_sortPr {X : Cx} : CallR X (.builtin "sorted") (rSortPr X.K) := by
  rintro pins s σ H xs us Q I r ⟨a, ps, ks, rfl, src, prs, few, wish⟩
  obtain rfl := Vals.ref1 r
  obtain ⟨its, rv, pl, fit⟩ := I.list src
  have ei := refs_at rv
  subst ei
  have len : ps.length = ks.length := Paired.length prs
  have at_ : ∀ (j : Nat) (b : Addr), ps[j]? = some b → ∃ (e : Str × Int) (t u : Tok) (o : Obj) (n : Nat), ks[j]? = some e ∧ s.heap.get? b = some o ∧ o.cls = .type "tuple" ∧ o.data = .seq #[.str e.1 t, .int e.2 u] n ∧ H b = some (.tup [.str e.1, .int e.2]) := by
    intro j b hj
    obtain ⟨e, he, hb⟩ := pd_atF prs j b hj
    obtain ⟨vs, rv, ⟨o, g, c, n, d⟩, _⟩ := I.tuple (SqT.of (K := X.K) hb)
    obtain ⟨u, y, e2, ru, ry⟩ := vals2 rv
    subst e2
    obtain ⟨t, rfl⟩ := ru
    obtain ⟨t2, rfl⟩ := ry
    exact ⟨e, t, t2, o, n, he, g, c, d, hb⟩
  have key : ∀ {b : Addr} {e : Str × Int} {t u : Tok} {o : Obj} {n : Nat}, s.heap.get? b = some o → o.cls = .type "tuple" → o.data = .seq #[.str e.1 t, .int e.2 u] n → G.tupKeyC s.heap tn (.ref b) = some [Sum.inr e.1.cps.toList, Sum.inl e.2] :=
    fun g c d => G.tupKeyC_of g c d rfl
  have each : ∀ v ∈ ps.map Value.ref, ∃ (j : Nat) (b : Addr), v = .ref b ∧ ps[j]? = some b := by
    intro v hv
    obtain ⟨b, hb, rfl⟩ := List.mem_map.mp hv
    obtain ⟨j, hj⟩ := List.mem_iff_getElem?.mp hb
    exact ⟨j, b, rfl, hj⟩
  obtain ⟨fs, hfs⟩ := tups_all (h := s.heap) (shape := tn) (vs := ps.map Value.ref) fun v hv => by
    obtain ⟨j, b, rfl, hj⟩ := each v hv
    obtain ⟨e, t, u, o, n, _, g, c, d, _⟩ := at_ j b hj
    exact ⟨_, b, o, _, n, rfl, g, c, d, rfl, (fun z => by cases z), fun _ => ⟨e.1, t, rfl⟩⟩
  refine G.sorted_tups (shape := tn) pl.isList hfs (fun v hv => ?_) (by rw [List.length_map, sizeLine_eq]; omega) fun st' b1 b2 _ => ?_
  · obtain ⟨j, b, rfl, hj⟩ := each v hv
    obtain ⟨e, t, u, o, n, _, g, c, d, _⟩ := at_ j b hj
    exact ⟨_, key g c d⟩
  have perm : (arrOf st').toList.Perm ((ps.map Value.ref).zip (ps.map Value.ref)) := by
    rw [← pairsOf_toList]
    exact Array.perm_iff_toList_perm.mp b1
  obtain ⟨zs, zperm, zmap⟩ := perm_lift (fun z : Addr × Str × Int => (Value.ref z.1, Value.ref z.1)) perm (ps.zip ks) (DX.zip_self Value.ref ps ks len)
  have idx : ∀ z ∈ zs, ∃ j : Nat, ps[j]? = some z.1 ∧ ks[j]? = some z.2 := fun z hz => by
    obtain ⟨j, hj⟩ := List.mem_iff_getElem?.mp (zperm.mem_iff.mp hz)
    exact ⟨j, List.getElem?_zip_eq_some.mp hj⟩
  have atZ : ∀ z ∈ zs, G.tupKeyC s.heap tn (.ref z.1) = some [Sum.inr z.2.1.cps.toList, Sum.inl z.2.2] ∧ H z.1 = some (.tup [.str z.2.1, .int z.2.2]) := fun z hz => by
    obtain ⟨j, j1, j2⟩ := idx z hz
    obtain ⟨e, t, u, o, n, k1, g, c, d, hb⟩ := at_ j z.1 j1
    obtain rfl : e = z.2 := Option.some.inj (k1.symm.trans j2)
    exact ⟨key g c d, hb⟩
  have atI : ∀ (i : Nat) (hi : i < zs.length), KK (G.tupKindC s.heap tn) (arrOf st') i = [Sum.inr (zs[i]).2.1.cps.toList, Sum.inl (zs[i]).2.2] := fun i hi => by
    have k := (atZ _ (List.getElem_mem hi)).1
    have e1 : (arrOf st')[i]? = some (Value.ref (zs[i]).1, Value.ref (zs[i]).1) := by
      rw [← Array.getElem?_toList, ← zmap, List.getElem?_map, List.getElem?_eq_getElem hi]
      rfl
    unfold KK
    rw [e1]
    show (G.tupKeyC s.heap tn (.ref (zs[i]).1)).getD [] = _
    rw [k]
    rfl
  have outL : ((arrOf st').map (·.2)).toList = zs.map fun z => Value.ref z.1 := by
    rw [Array.toList_map, ← zmap, List.map_map]
    rfl
  have ysPerm : (zs.map (·.2)).Perm ks := by
    have e1 := zperm.map (·.2)
    rwa [List.map_snd_zip (by rw [len]; exact Nat.le_refl _)] at e1
  have zlen : zs.length = ks.length := by
    have e1 := ysPerm.length_eq
    rwa [List.length_map] at e1
  have ysSort : (zs.map (·.2)).Pairwise (fun e f => ltCps f.1.cps.toList e.1.cps.toList = false) := by
    rw [List.pairwise_map, List.pairwise_iff_getElem]
    intro i j hi hj hij
    have z := b2 i j (Nat.le_of_lt hij) (by rw [pairsOf_size, List.length_map]; omega)
    rw [atI i hi, atI j hj] at z
    exact tn_le z
  generalize (arrOf st').map (·.2) = out at outL
  obtain ⟨ep, at2⟩ := sortedAll_at s.heap (ps.map Value.ref) out
  have vals : Vals ((zs.map (·.1)).map V.ref) out.toList := by
    rw [outL, List.map_map]
    exact vals_maps (fun z : Addr × Str × Int => V.ref z.1) (fun z => Value.ref z.1) zs fun _ _ => rfl
  exact ⟨.ref _, upd H (s.heap.objs.size + 1) (.lst ((zs.map (·.1)).map V.ref)), I.laid (t' := s.toks) (fun _ _ => sortedAll_old) (Nat.le_succ _) ⟨by rw [List.length_map, List.length_map, sizeLine_eq]; omega, out.toList, ep, vals, at2⟩, rfl,
    wish _ (zs.map (·.1)) (zs.map (·.2)) (I.hok.fresh (Nat.le_succ _)) ysPerm ysSort (pair_maps fun z hz => (atZ z hz).2)⟩
end My

set_option Elab.async false
set_option linter.all false
set_option maxRecDepth 100000
set_option maxHeartbeats 2000000
namespace My
open PySem PySem.Spec PyProof.Rows L2
/-- d.update(e), two dicts of texts and numbers as keys -/
def rUpdK : V → List V → Hp → VK → Prop := fun x xs H Q => ∃ (a b : Addr) (kvs more : List (Key × V)), x = .ref a ∧ xs = [.ref b] ∧ H a = some (.dK kvs) ∧ H b = some (.dK more) ∧ a ≠ b ∧ kvs.length + more.length ≤ sizeLine ∧ Q .non (upd H a (.dK (mergeK kvs more)))
theorem mt_updK {X : Cx} : MtR X "dict.update" rUpdK := by
  rintro pins s σ H x xs v us Q I rx rxs ⟨a, b, kvs, more, rfl, rfl, ha, hb, ne, fit, q⟩
  cases rx
  obtain ⟨u, rfl, ru⟩ := vals1 rxs
  cases ru
  obtain ⟨z1, n1, vs, rel1, dd1⟩ := dk_of I.hok ha
  obtain ⟨z2, n2, ws, rel2, dd2⟩ := dk_of I.hok hb
  refine call_meetsIn F.slot_dict_update dd1.typeIs F.entry_dict_update (F.args_dict_update_2 _ _) (meets_dict_update (mixKind X.prog X.w) a b ne n2) ⟨vs, ws, dd1, dd2, ?_, fun h' e1 e2 same => ?_⟩
  · rw [← rel1.length, ← rel2.length]
    exact fit
  · have there : ∃ o, h'.get? a = some o := let ⟨o, _, _, g, _⟩ := e1; ⟨o, g⟩
    have few : (mergeK kvs more).length ≤ sizeLine := Nat.le_trans (length_mergeK more kvs) fit
    exact ⟨.non, _, d_write (t' := s.toks) I (by rw [ha]; exact True.intro) same there (dk_new few n1 (KV.merge rel2 rel1) e1), rfl, q⟩
/-- d.update(e) -/
def tUpd (td te : TE) : TE := fun σ H Q => td σ H fun x H1 => ∃ a, x = .ref a ∧ (∃ kvs, H1 a = some (.dK kvs)) ∧ te σ H1 fun y H2 => ∃ (b : Addr) (kvs more : List (Key × V)), y = .ref b ∧ H2 a = some (.dK kvs) ∧ H2 b = some (.dK more) ∧ a ≠ b ∧ kvs.length + more.length ≤ sizeLine ∧ Q .non (upd H2 a (.dK (mergeK kvs more)))
theorem pe_upd {X : Cx} {o e : Expr} {ta te : TE} {apos cpos : Pos} (ho : PE X o ta) (he : PE X e te)
    (hbase : attributeBase o "update" X.env (eval o X.env) = eval o X.env := by rfl)
    (hfew : ((backTo cpos (starEach (e :: []) X.env)).all (fun x => !x.1) && (backToKw cpos (keywordEach [] X.env)).all (fun x => x.1.isSome)
      && decide ((e :: []).length + ([] : List Keyword).length + (if ([] : List Keyword).isEmpty then 0 else 1) < 30)) = true := by rfl)
    (hline : (apos.endLine == cpos.line) = true := by rfl) (hs : starEach (e :: []) X.env = (false, eval e X.env) :: starEach [] X.env := by rfl) (hplain : (backTo cpos (starEach [] X.env)).any (·.1) = false := by rfl) :
    PE X (.Call (.Attribute o "update" apos) [e] [] cpos) (tUpd ta te) :=
  (pe_bm PySem.F.plainAttrs_dict PySem.F.slot_dict_update PySem.F.type_dict_update mt_updK ho.mon (pa_cons he.mon pa_nil hs) hbase hfew hline hs hplain).imp fun σ H Q q =>
    ⟨_, q, fun x H1 ⟨a, ex, ⟨kv, hk⟩, q1⟩ => ⟨by subst ex; exact .inr (.inr (.inl ⟨rfl, .inl ⟨kv, hk⟩⟩)), _, q1, fun y H2 ⟨b, kvs, more, ey, ha, hb, ne, fit, q2⟩ => ⟨a, b, kvs, more, ex, by rw [ey], ha, hb, ne, fit, q2⟩⟩⟩
/-- xs.insert(i, v) -/
def tIns (td ti te : TE) : TE := fun σ H Q => td σ H fun x H1 => ∃ l, x = .ref l ∧ (∃ xs, H1 l = some (.lst xs)) ∧ ti σ H1 fun z H2 => te σ H2 fun y H3 => ∃ (i : Int) (xs : List V), z = .int i ∧ H3 l = some (.lst xs) ∧ xs.length < sizeLine ∧ 0 ≤ i ∧ i < 2 ^ 63 ∧ Q .non (upd H3 l (.lst (xs.take i.toNat ++ [y] ++ xs.drop i.toNat)))
theorem pe_ins {X : Cx} {o e f : Expr} {ta ti te : TE} {apos cpos : Pos} (ho : PE X o ta) (hi : PE X e ti) (he : PE X f te)
    (hbase : attributeBase o "insert" X.env (eval o X.env) = eval o X.env := by rfl)
    (hfew : ((backTo cpos (starEach (e :: [f]) X.env)).all (fun x => !x.1) && (backToKw cpos (keywordEach [] X.env)).all (fun x => x.1.isSome)
      && decide ((e :: [f]).length + ([] : List Keyword).length + (if ([] : List Keyword).isEmpty then 0 else 1) < 30)) = true := by rfl)
    (hline : (apos.endLine == cpos.line) = true := by rfl) (hs : starEach (e :: [f]) X.env = (false, eval e X.env) :: starEach [f] X.env := by rfl) (hs2 : starEach [f] X.env = (false, eval f X.env) :: starEach [] X.env := by rfl) (hplain : (backTo cpos (starEach [f] X.env)).any (·.1) = false := by rfl) :
    PE X (.Call (.Attribute o "insert" apos) [e, f] [] cpos) (tIns ta ti te) :=
  (pe_bm PySem.F.plainAttrs_list PySem.F.slot_list_insert PySem.F.type_list_insert mt_insert ho.mon (pa_cons hi.mon (pa_cons he.mon pa_nil hs2) hs) hbase hfew hline hs hplain).imp fun σ H Q q =>
    ⟨_, q, fun x H1 ⟨l, ex, ⟨xs, hl⟩, q1⟩ => ⟨by subst ex; exact tyL (SqL.of hl), _, q1, fun z H2 q2 => ⟨_, q2, fun y H3 ⟨i, ys, ez, hl2, fit, h0, h1, q3⟩ => ⟨l, ys, i, y, ex, by rw [ez], hl2, fit, h0, h1, q3⟩⟩⟩⟩
end My

set_option Elab.async false
set_option linter.all false
set_option maxRecDepth 100000
set_option maxHeartbeats 2000000
namespace My
open PySem PySem.Spec PyProof.Rows L2
/-! ### what is sorted is told by what it holds -/
abbrev leS (a b : Str) : Prop := ltCps b.cps.toList a.cps.toList = false
theorem leS_iff {a b : Str} : leS a b ↔ a.cps.toList ≤ b.cps.toList := by
  unfold leS
  rw [ltCps_eq, decide_eq_false_iff_not]
  exact List.not_lt
theorem leS_trans {a b c : Str} (h : leS a b) (k : leS b c) : leS a c := leS_iff.mpr (List.le_trans (leS_iff.mp h) (leS_iff.mp k))
theorem leS_anti {a b : Str} (h : leS a b) (k : leS b a) : a = b := by
  have e := List.le_antisymm (leS_iff.mp h) (leS_iff.mp k)
  cases a
  cases b
  congr 1
  exact Array.toList_inj.mp e
theorem rising_pw : ∀ (xs : List Str) (p : Str), risingS p xs = true → (p :: xs).Pairwise leS
  | [], p, _ => List.pairwise_singleton _ _
  | x :: xs, p, h => by
    have h2 : (!ltCps x.cps.toList p.cps.toList && risingS x xs) = true := h
    rw [Bool.and_eq_true, Bool.not_eq_true'] at h2
    have ih := rising_pw xs x h2.2
    refine List.pairwise_cons.mpr ⟨fun y hy => ?_, ih⟩
    rcases List.mem_cons.mp hy with rfl | hy
    · exact h2.1
    · exact leS_trans h2.1 ((List.pairwise_cons.mp ih).1 y hy)
theorem sorted_pw : ∀ {xs : List Str}, sortedS xs = true → xs.Pairwise leS
  | [], _ => List.Pairwise.nil
  | x :: xs, h => rising_pw xs x h
theorem sorted_uniq {xs ys : List Str} (h : sortedS xs = true) (k : sortedS ys = true) (p : xs.Perm ys) : xs = ys :=
  p.eq_of_pairwise (le := leS) (fun _ _ _ _ h k => leS_anti h k) (sorted_pw h) (sorted_pw k)
theorem nodup_key {ks : List (Str × Int)} (nd : (ks.map (·.1)).Nodup) : ∀ {a b : Str × Int}, a ∈ ks → b ∈ ks → a.1 = b.1 → a = b := by
  induction ks with
  | nil => intro a b h; cases h
  | cons e ks ih =>
    rw [List.map_cons, List.nodup_cons] at nd
    intro a b ha hb eq
    rcases List.mem_cons.mp ha with e1 | h1 <;> rcases List.mem_cons.mp hb with e2 | h2
    · rw [e1, e2]
    · refine absurd ?_ nd.1
      rw [← e1, eq]
      exact List.mem_map_of_mem h2
    · refine absurd ?_ nd.1
      rw [← e2, ← eq]
      exact List.mem_map_of_mem h1
    · exact ih nd.2 h1 h2 eq
theorem counts_uniq {xs ys : List (Str × Int)} (h : xs.Pairwise (fun e f => ltCps f.1.cps.toList e.1.cps.toList = false)) (k : ys.Pairwise (fun e f => ltCps f.1.cps.toList e.1.cps.toList = false)) (p : xs.Perm ys) (nd : (ys.map (·.1)).Nodup) : xs = ys :=
  p.eq_of_pairwise (le := fun e f => leS e.1 f.1) (fun a b ha hb h k => nodup_key nd (p.mem_iff.mp ha) hb (leS_anti h k)) h k
end My

set_option Elab.async false
set_option linter.all false
set_option maxRecDepth 100000
set_option maxHeartbeats 2000000
namespace My
open PySem PySem.Spec PyProof.Rows L2
abbrev leK (e f : Str × Int) : Prop := ltCps f.1.cps.toList e.1.cps.toList = false
/-- c is d with its parts in order -/
structure Srt (d c : Dv) : Prop where
  word : c.word = d.word
  opens : c.opens = d.opens
  whose : c.whose = d.whose
  card : c.card = d.card
  steps : c.steps = d.steps
  ans : c.ans.Perm d.ans
  ansS : sortedS c.ans = true
  asks : c.asks.Perm d.asks
  asksS : c.asks.Pairwise leK
  pays : c.pays.Perm d.pays
  paysS : c.pays.Pairwise leK
  goals : c.goals.Perm d.goals
  goalsS : sortedS c.goals = true
/-- the same parts, in another order -/
structure Alike (d e : Dv) : Prop where
  word : d.word = e.word
  opens : d.opens = e.opens
  whose : d.whose = e.whose
  card : d.card = e.card
  steps : d.steps = e.steps
  ans : d.ans.Perm e.ans
  asks : d.asks.Perm e.asks
  pays : d.pays.Perm e.pays
  goals : d.goals.Perm e.goals
section
variable {d e c b : Dv}
theorem Srt.alike (h : Srt d c) (k : Alike d e) : Srt e c := ⟨h.word.trans k.word, h.opens.trans k.opens, h.whose.trans k.whose, h.card.trans k.card, h.steps.trans k.steps, h.ans.trans k.ans, h.ansS, h.asks.trans k.asks, h.asksS, h.pays.trans k.pays, h.paysS, h.goals.trans k.goals, h.goalsS⟩
theorem Srt.uniq (h : Srt d c) (k : Srt d b) (nk : (d.asks.map (·.1)).Nodup) (np : (d.pays.map (·.1)).Nodup) : c = b := by
  obtain ⟨w, o, an, wh, ak, pa, ca, go, st⟩ := c
  obtain ⟨w2, o2, an2, wh2, ak2, pa2, ca2, go2, st2⟩ := b
  obtain ⟨rfl, rfl, rfl, rfl, rfl, a1, a2, k1, k2, p1, p2, g1, g2⟩ := h
  obtain ⟨e1, e2, e3, e4, e5, b1, b2, l1, l2, q1, q2, h1, h2⟩ := k
  dsimp only at *
  subst e1 e2 e3 e4 e5
  have x1 := sorted_uniq a2 b2 (a1.trans b1.symm)
  have x2 := sorted_uniq g2 h2 (g1.trans h1.symm)
  have x3 := counts_uniq k2 l2 (k1.trans l1.symm) ((l1.map (·.1)).nodup_iff.mpr nk)
  have x4 := counts_uniq p2 q2 (p1.trans q1.symm) ((q1.map (·.1)).nodup_iff.mpr np)
  subst x1 x2 x3 x4
  rfl
theorem Srt.cps (h : Srt d c) (k : d.Cps) : c.Cps where
  ans := fun x hx => k.ans x (h.ans.mem_iff.mp hx)
  asks := fun x hx => k.asks x (h.asks.mem_iff.mp hx)
  pays := fun x hx => k.pays x (h.pays.mem_iff.mp hx)
  asksN := (h.asks.map (·.1)).nodup_iff.mpr k.asksN
  paysN := (h.pays.map (·.1)).nodup_iff.mpr k.paysN
  few := by rw [h.ans.length_eq, h.asks.length_eq, h.pays.length_eq, h.goals.length_eq, h.steps]; exact k.few
  goals := fun x hx => k.goals x (h.goals.mem_iff.mp hx)
  steps := fun x hx => k.steps x (h.steps ▸ hx)
end
/-- Deed.__init__ where all parts are right: the deed stands, its parts in order -/
def spDI2 (K : PySem.W.Frag) (C : Addr) : Sp := fun vs H Q E => ∃ (x dx an go st : Addr) (ps : List Addr) (aV pV : V) (d : Dv), vs = [.ref x, .str d.word, .bl d.opens, .ref an, .str d.whose, aV, pV, .bl d.card, .ref go, .ref st] ∧ H x = some (.ins C dx []) ∧ d.Ok ∧ d.Cps ∧
  Row K H an (d.ans.map V.str) ∧ CntV H aV d.asks ∧ CntV H pV d.pays ∧ Row K H go (d.goals.map V.str) ∧ Row K H st (ps.map V.ref) ∧ Paired (StpAt H) ps d.steps ∧
  ∀ (H' : Hp) (c : Dv), Srt d c → DdAt K H' C x c → (∀ b o, b ≠ x → H b = some o → H' b = some o) → Q .non H'
theorem di2_imp {K : PySem.W.Frag} {C : Addr} (vs : List V) (H : Hp) (Q : VK) (E : XK) (h : spDI2 K C vs H Q E) : spDI K C vs H Q E := by
  obtain ⟨x, dx, an, go, st, ps, aV, pV, d, e, hx, ok, cps, ha, hk, hp, hg, hs, hst, q⟩ := h
  refine ⟨x, dx, an, go, st, ps, aV, pV, d, e, hx, ok, ha, hk, hp, hg, hs, hst, fun H' ta tk tp tg ts hx' keep ⟨za, a1, a2, a3⟩ ⟨pk, zk, k1, k2, k3, k4⟩ ⟨pp, zp, p1, p2, p3, p4⟩ ⟨zg, g1, g2, g3⟩ hts => ?_⟩
  have sr : Srt d { d with ans := za, asks := zk, pays := zp, goals := zg } := ⟨rfl, rfl, rfl, rfl, rfl, a1, a2, k1, k2, p1, p2, g1, g2⟩
  refine q H' _ sr ⟨dx, ta, tk, tp, tg, ts, ps, hx', a3, ⟨pk, k3, k4⟩, ⟨pp, p3, p4⟩, g3, hts, Paired.mono (fun a s z => ⟨keep _ _ (ne_of z.1 hx (by intro y; cases s <;> cases y)) z.1, z.2⟩) hst, sr.cps cps⟩ keep
end My

set_option Elab.async false
set_option linter.all false
set_option maxRecDepth 100000
set_option maxHeartbeats 2000000
namespace My
open PySem PySem.Spec PyProof.Rows L2
theorem five_ok : ∀ x ∈ five, isWord (.str x) = true ∧ okCps x ∧ x ≠ "other" ∧ x ≠ "zz" := by
  intro x hx
  have z : ∀ x ∈ five, (isWord (.str x) && (x.cps.all (· < 0x110000) && (!decide (x = "other") && !decide (x = "zz")))) = true := by decide +kernel
  have y := z x hx
  simp only [Bool.and_eq_true, Bool.not_eq_true', decide_eq_false_iff_not] at y
  exact ⟨y.1, y.2.1, y.2.2.1, y.2.2.2⟩
theorem five_nodup : five.Nodup := by decide +kernel
theorem hasS_of {ws : List Str} {x : Str} (h : x ∈ ws) : hasS ws (.str x) = true := by
  simp [hasS, h]
theorem mark_ne {x : Str} (h : isMark x = true) : isWord (.str x) = true ∧ x ≠ "goal" := by
  unfold isMark at h
  rw [Bool.and_eq_true, Bool.not_eq_true', decide_eq_false_iff_not] at h
  exact h
theorem acts_cps : ∀ a ∈ acts, okCps a := by
  intro a h
  have z : ∀ a ∈ acts, (a.cps.all (· < 0x110000)) = true := by decide +kernel
  exact z a h
theorem dirs_cps : ∀ a ∈ (["more", "less"] : List Str), okCps a := by
  intro a h
  have z : ∀ a ∈ (["more", "less"] : List Str), (a.cps.all (· < 0x110000)) = true := by decide +kernel
  exact z a h
theorem cnts_ok {ks cs : List (Str × Int)} (hk : ks ∈ marks7) (h : Cnts ks cs) : okCounts cs ∧ (∀ e ∈ cs, okCps e.1) := by
  obtain ⟨kz, kc, knd, kmk⟩ := marks7_ok ks hk
  have at_ : ∀ e ∈ cs, ∃ f ∈ ks, f.1 = e.1 := fun e he => by
    have := h.1.subset (List.mem_map_of_mem he)
    obtain ⟨f, hf, q⟩ := List.mem_map.mp this
    exact ⟨f, hf, q⟩
  refine ⟨⟨?_, h.1.nodup knd, fun e he => ?_⟩, fun e he => ?_⟩
  · have := h.1.length_le
    rw [List.length_map, List.length_map] at this
    omega
  · obtain ⟨f, hf, q⟩ := at_ e he
    have := h.2 e he
    refine ⟨?_, ?_⟩
    · unfold cntOk
      rw [← q, (kmk f hf).1, decide_eq_true this.1, decide_eq_true this.2]
      rfl
    · rw [← q]
      exact Nat.le_trans (kmk f hf).2.2 (by decide)
  · obtain ⟨f, hf, q⟩ := at_ e he
    rw [← q]
    exact (kmk f hf).2.1
theorem drn_ok {ws : List Str} {ks : List (Str × Int)} {d : Dv} (hw : Wds ws) (hk : ks ∈ marks7) (h : Drn ws ks d) (hd : d.word ∈ ws) : d.Ok ∧ d.Cps := by
  obtain ⟨kz, kc, knd, kmk⟩ := marks7_ok ks hk
  obtain ⟨a1, a2⟩ := cnts_ok hk h.asks
  obtain ⟨p1, p2⟩ := cnts_ok hk h.pays
  have anF := h.ans.trans hw.1
  obtain ⟨n, hn, hg⟩ := h.goals
  have gSub : d.goals.Sublist (ks.map (·.1)) := by rw [hg]; exact List.take_sublist _ _
  have gMk : ∀ x ∈ d.goals, isMark x = true ∧ okCps x := fun x hx => by
    obtain ⟨f, hf, q⟩ := List.mem_map.mp (gSub.subset hx)
    rw [← q]
    exact ⟨(kmk f hf).1, (kmk f hf).2.1⟩
  have gLen : d.goals.length ≤ 2 := by
    rw [hg, List.length_take]
    omega
  obtain ⟨mv, a, hmv, hst, hmo, hac⟩ := h.steps
  have aLen : a.toList.length ≤ 1 := by cases a <;> simp
  have sLen : d.steps.length ≤ 3 := by
    rw [hst, List.length_append, List.length_map]
    omega
  have mk : ∀ s ∈ mv, ∀ l, s.ok l (decide (0 < d.goals.length)) = true ∧ s.cps := fun s hs l => by
    obtain ⟨dir, m, rfl, hdir, hm⟩ := hmo s hs
    have d1 := hasS_of hdir
    rcases List.mem_append.mp hm with hm | hm
    · obtain ⟨f, hf, q⟩ := List.mem_map.mp hm
      refine ⟨?_, dirs_cps _ hdir, ?_⟩
      · show (hasS ["more", "less"] (.str dir) && (isMark m || (decide (0 < d.goals.length) && hasS ["goal"] (.str m)))) = true
        rw [d1, ← q, (kmk f hf).1]
        rfl
      · rw [← q]; exact (kmk f hf).2.1
    · split at hm
      · cases hm
      · rename_i ne
        obtain rfl := List.mem_singleton.mp hm
        refine ⟨?_, dirs_cps _ hdir, by unfold okCps; decide +kernel⟩
        have pos : 0 < d.goals.length := List.length_pos_iff.mpr ne
        show (hasS ["more", "less"] (.str dir) && (isMark "goal" || (decide (0 < d.goals.length) && hasS ["goal"] (.str "goal")))) = true
        rw [d1, decide_eq_true pos, hasS_of (ws := ["goal"]) (x := "goal") (by simp)]
        simp
  have stOk : stepsOk (decide (0 < d.goals.length)) d.steps = true := by
    unfold stepsOk
    rw [List.all_eq_true]
    intro i _
    unfold okAt
    cases e : d.steps[i]? with
    | none => rfl
    | some s =>
      dsimp only
      rw [hst] at e
      by_cases hi : i < mv.length
      · rw [List.getElem?_append_left hi] at e
        exact (mk s (List.mem_of_getElem? e) _).1
      · rw [List.getElem?_append_right (by omega)] at e
        cases a with
        | none => simp at e
        | some x =>
          have hx := hac x rfl
          have i0 : i - mv.length = 0 := by
            have := (List.getElem?_eq_some_iff.mp e).1
            simp at this
            omega
          rw [i0] at e
          obtain rfl : Stp.act x = s := by simpa using e
          have dl : d.steps.length = mv.length + 1 := by rw [hst]; simp
          show (decide (((i : Nat) : Int) = (d.steps.length : Int) - 1) && hasS acts (.str x)) = true
          rw [decide_eq_true (by rw [dl]; omega), hasS_of hx]
          rfl
  refine ⟨⟨(five_ok _ (hw.1.subset hd)).1, ⟨?_, anF.nodup five_nodup, fun x hx => (five_ok x (anF.subset hx)).1⟩, hasS_of h.whose, a1, p1, ⟨gLen, gSub.nodup knd, fun x hx => (mark_ne (gMk x hx).1).1⟩, ?_, by omega, stOk⟩, ⟨fun x hx => (five_ok x (anF.subset hx)).2.1, a2, p2, a1.2.1, p1.2.1, ⟨?_, a1.1, p1.1, gLen, by omega⟩, fun x hx => (gMk x hx).2, fun s hs => ?_⟩⟩
  · exact Nat.le_trans anF.length_le (by decide)
  · rw [Bool.eq_false_iff]
    intro z
    have := List.contains_iff_mem.mp z
    exact (mark_ne (gMk _ this).1).2 rfl
  · exact Nat.le_trans anF.length_le (by decide)
  · rw [hst] at hs
    rcases List.mem_append.mp hs with hs | hs
    · exact (mk s hs true).2
    · obtain ⟨x, hx, rfl⟩ := List.mem_map.mp hs
      exact acts_cps x (hac x (by simpa using hx))
end My

set_option Elab.async false
set_option linter.all false
set_option maxRecDepth 100000
set_option maxHeartbeats 2000000
namespace My
open PySem PySem.Spec PyProof.Rows L2
/-- a property of a class and what its getter promises -/
structure Prp (P : Program) (w : World) (K : PySem.W.Frag) (mg : Str → Option Value) (base : Heap) (C : Addr) (f : Str) (sp : Sp) where
  p : Addr
  g : Addr
  fd : FuncData
  of : PropOf K C f p g
  G : FnOk P w K mg base CX0 1 g fd ["self"] sp
  b : Binds K fd ["self"] []
/-- a method without parameters and what it promises -/
structure Mth (P : Program) (w : World) (K : PySem.W.Frag) (mg : Str → Option Value) (base : Heap) (C : Addr) (f : Str) (sp : Sp) where
  g : Addr
  fd : FuncData
  of : Meth K C f g
  G : FnOk P w K mg base CX0 1 g fd ["self"] sp
  b : Binds K fd ["self"] []
/-- all of Deed that is read -/
structure DdR (P : Program) (w : World) (K : PySem.W.Frag) (mg : Str → Option Value) (base : Heap) (C : Addr) where
  T : DdT K C
  an : Prp P w K mg base C "answers" (spPAn K C)
  as : Prp P w K mg base C "asks" (spPAs K C)
  py : Prp P w K mg base C "pays" (spPPy K C)
  go : Prp P w K mg base C "goals" (spPGo K C)
  st : Prp P w K mg base C "steps" (spPSt K C)
  ac : Prp P w K mg base C "act" (spPa K C)
  am : Mth P w K mg base C "all_marks" (spAm K C)
section
variable {X : Cx} {C : Addr} {f : Str} {sp : Sp} {e : Expr} {pos : Pos} {ta : TE}
theorem pass0 : Passes CX0 X E0 := fun pins s σ H z s' I c => c.elim
theorem pe_pr (W : Prp X.prog X.w X.K X.mg X.base C f sp) (T : DdT X.K C) (hr : Room 2 X.A) (he : PE X e ta) (hab : attributeBase e f X.env (eval e X.env) = eval e X.env := by rfl) : PE X (.Attribute e f pos) (tProp C sp [] E0 ta) :=
  pe_prop he T.cl W.of W.G hr W.b .nil pass0 hab
end
end My

set_option Elab.async false
set_option linter.all false
set_option maxRecDepth 100000
set_option maxHeartbeats 4000000
namespace My
open PySem PySem.Spec PyProof.Rows L2
abbrev sTol : Stmt := topI 28
abbrev NTol : List Str := ["one", "found"]
theorem scTol : FnScope NTol ["one"] (defScope sTol) := ⟨rfl, rfl, rfl, by decide +kernel, rfl, by decide +kernel, by decide +kernel⟩
def dTxL (ws : List Str) : PyData := .list (ws.map .str)
def dCnD (ks : List (Str × Int)) : PyData := .dict (ks.map fun e => (.str e.1, .int e.2))
def dStL (sts : List Stp) : PyData := .list (sts.map Stp.data)
/-- what is told of a deed, its marks in order -/
def toldD (c : Dv) (ms : List Str) : PyData := .list [.str c.word, .bool c.opens, dTxL c.ans, .str c.whose, dCnD c.asks, dTxL (c.asks.map (·.1)), dCnD c.pays, dTxL (c.pays.map (·.1)), .bool c.card, dTxL c.goals, dStL c.steps, .str (actOf c.steps), dTxL ms]
theorem dq_txs {K : PySem.W.Frag} {H : Hp} : ∀ (ws : List Str), DqAll K H (ws.map V.str) (ws.map .str)
  | [] => .nil
  | w :: ws => .cons (.str w) (dq_txs ws)
theorem dq_txL {K : PySem.W.Frag} {H : Hp} {l : Addr} {ws : List Str} (h : H l = some (.lst (ws.map V.str))) : Dq K H (.ref l) (dTxL ws) := .lst (SqL.of h) (dq_txs ws)
theorem dq_kvs {K : PySem.W.Frag} {H : Hp} : ∀ (ks : List (Str × Int)), DqKv K H (ks.map entK) (ks.map fun e => (.str e.1, .int e.2))
  | [] => .nil
  | e :: ks => .cons (.int e.2) (dq_kvs ks)
theorem dq_cnD {K : PySem.W.Frag} {H : Hp} {l : Addr} {ks : List (Str × Int)} (h : H l = some (.dK (ks.map entK))) : Dq K H (.ref l) (dCnD ks) := .dic h (dq_kvs ks)
theorem dq_stL {K : PySem.W.Frag} {H : Hp} {l : Addr} {ps : List Addr} {sts : List Stp} (h : H l = some (.lst (ps.map V.ref))) (hp : Paired (StpAt H) ps sts) : Dq K H (.ref l) (dStL sts) := by
  refine .lst (SqL.of h) ?_
  clear h
  induction hp with
  | nil => exact .nil
  | @cons p s _ _ h _ ih =>
    refine .cons ?_ ih
    cases s with
    | act a => exact .tup (SqT.of h.1) (.cons (.str _) .nil)
    | move d m => exact .tup (SqT.of h.1) (.cons (.str _) (.cons (.str _) .nil))
/-- marks in order -/
def MkOf (c : Dv) (ms : List Str) : Prop := ms.Nodup ∧ (∀ z, z ∈ ms ↔ z ∈ marksOf c) ∧ sortedS ms = true
def spTol (K : PySem.W.Frag) (C : Addr) : Sp := fun vs H Q _ => ∃ (x : Addr) (c : Dv), vs = [.ref x] ∧ DdAt K H C x c ∧ ∀ (l : Addr) (H' : Hp) (ms : List Str), Same H H' → MkOf c ms → Dq K H' (.ref l) (toldD c ms) → Q (.ref l) H'
theorem DdAt.same {K : PySem.W.Frag} {C x : Addr} {c : Dv} {H H' : Hp} (h : DdAt K H C x c) (s : Same H H') : DdAt K H' C x c := by
  obtain ⟨dx, ta, tk, tp, tg, ts, ps, hx, a1, ⟨p2, a2, b2⟩, ⟨p3, a3, b3⟩, a4, a5, b5, cp⟩ := h
  exact ⟨dx, ta, tk, tp, tg, ts, ps, s _ _ hx, s _ _ a1, ⟨p2, a2.same s, Paired.mono (fun _ _ z => s _ _ z) b2⟩, ⟨p3, a3.same s, Paired.mono (fun _ _ z => s _ _ z) b3⟩, s _ _ a4, a5.same s, Paired.mono (fun _ _ z => ⟨s _ _ z.1, z.2⟩) b5, cp⟩
section
variable {P : Program} {w : World} {K : PySem.W.Frag} {mg : Str → Option Value} {base : Heap}
theorem ok_tol {f C : Addr} {fd : FuncData} (F : Fun K "_law_told" "_law_told" sTol f fd) (B : Bn mg) (W : DdR P w K mg base C) : FnOk P w K mg base CX0 3 f fd ["one"] (spTol K C) := by
  refine F.ok scTol (fun vs H Q E h => ?_) (fun cdv A outer s H vs Q E hr h => ?_)
  · obtain ⟨x, c, rfl, _⟩ := h
    rfl
  · obtain ⟨x, c, rfl, hd, q⟩ := h
    have hr2 := hr
    have hr1 := hr.mono (by decide : 1 ≤ 2)
    refine ⟨_, (pss_cons (ps_set (i := 1) scTol.nd rfl (Or.inl rfl) (pe_lst (pa_cons (pe_fld (pv 0) rfl) (pa_cons (pe_fld (pv 0) rfl) (pa_cons (pe_pr W.an W.T hr2 (pv 0)) (pa_cons (pe_fld (pv 0) rfl) (pa_cons (pe_pr W.as W.T hr2 (pv 0)) (pa_cons (pe_callTy (call_listD rfl) (by rfl) B.list (by decide +kernel) (pa_cons (pe_pr W.as W.T hr2 (pv 0)) pa_nil)) (pa_cons (pe_pr W.py W.T hr2 (pv 0)) (pa_cons (pe_callTy (call_listD rfl) (by rfl) B.list (by decide +kernel) (pa_cons (pe_pr W.py W.T hr2 (pv 0)) pa_nil)) (pa_cons (pe_fld (pv 0) rfl) pa_nil)))))))))))
      (pss_one (ps_ret (pe_op op_cat (pv 1) (pe_lst (pa_cons (pe_pr W.go W.T hr2 (pv 0)) (pa_cons (pe_pr W.st W.T hr2 (pv 0)) (pa_cons (pe_pr W.ac W.T hr2 (pv 0)) (pa_cons (pe_meth0 (pl := (_)) (pv 0) W.T.cl W.am.of W.am.G hr1 W.am.b .nil pass0) pa_nil))))))))), ?_⟩
    refine step_asg ?_
    obtain ⟨dx, ta, tk, tp, tg, ts, ps, hx, _⟩ := id hd
    refine ⟨_, rfl, x, C, dx, _, _, rfl, hx, W.T.cl, W.T.n "word" (by decide), dfs_wo .., _, rfl, x, C, dx, _, _, rfl, hx, W.T.cl, W.T.n "opens" (by decide), dfs_op .., _, rfl, x, dx, _, rfl, hx, x, c, rfl, hd, fun l1 H1 hl1 s1 e1 => ?_⟩
    have d1 := hd.same s1
    have x1 := s1 _ _ hx
    refine ⟨_, rfl, x, C, dx, _, _, rfl, x1, W.T.cl, W.T.n "whose" (by decide), dfs_wh .., _, rfl, x, dx, _, rfl, x1, x, c, rfl, d1, fun l2 H2 hl2 s2 e2 => ?_⟩
    have d2 := d1.same s2
    have x2 := s2 _ _ x1
    refine ⟨_, rfl, x, dx, _, rfl, x2, x, c, rfl, d2, fun l3 H3 hl3 s3 e3 => ⟨l3, _, rfl, .inl e3, fun l4 hl4 => ?_⟩⟩
    have k4 : (c.asks.map entK).map (fun kv => kV kv.1) = (c.asks.map (·.1)).map V.str := by rw [List.map_map, List.map_map]; rfl
    rw [k4]
    have s4 := My.Same.new (o := .lst ((c.asks.map (·.1)).map V.str)) (Same.refl H3) hl4
    have e4 : upd H3 l4 (.lst ((c.asks.map (·.1)).map V.str)) l4 = some (.lst ((c.asks.map (·.1)).map V.str)) := upd_same
    generalize upd H3 l4 (.lst ((c.asks.map (·.1)).map V.str)) = H4 at *
    have d4 := (d2.same s3).same s4
    have x4 := s4 _ _ (s3 _ _ x2)
    refine ⟨_, rfl, x, dx, _, rfl, x4, x, c, rfl, d4, fun l5 H5 hl5 s5 e5 => ?_⟩
    have d5 := d4.same s5
    have x5 := s5 _ _ x4
    refine ⟨_, rfl, x, dx, _, rfl, x5, x, c, rfl, d5, fun l6 H6 hl6 s6 e6 => ⟨l6, _, rfl, .inl e6, fun l7 hl7 => ?_⟩⟩
    have k7 : (c.pays.map entK).map (fun kv => kV kv.1) = (c.pays.map (·.1)).map V.str := by rw [List.map_map, List.map_map]; rfl
    rw [k7]
    have s7 := My.Same.new (o := .lst ((c.pays.map (·.1)).map V.str)) (Same.refl H6) hl7
    have e7 : upd H6 l7 (.lst ((c.pays.map (·.1)).map V.str)) l7 = some (.lst ((c.pays.map (·.1)).map V.str)) := upd_same
    generalize upd H6 l7 (.lst ((c.pays.map (·.1)).map V.str)) = H7 at *
    have d7 := (d5.same s6).same s7
    have x7 := s7 _ _ (s6 _ _ x5)
    refine ⟨_, rfl, x, C, dx, _, _, rfl, x7, W.T.cl, W.T.n "card" (by decide), dfs_ca .., sz (by simp), fun lf hlf => ?_⟩
    have s8 := My.Same.new (o := .lst [.str c.word, .bl c.opens, .ref l1, .str c.whose, .ref l2, .ref l4, .ref l5, .ref l7, .bl c.card]) (Same.refl H7) hlf
    have e8 : upd H7 lf (.lst [.str c.word, .bl c.opens, .ref l1, .str c.whose, .ref l2, .ref l4, .ref l5, .ref l7, .bl c.card]) lf = some (.lst [.str c.word, .bl c.opens, .ref l1, .str c.whose, .ref l2, .ref l4, .ref l5, .ref l7, .bl c.card]) := upd_same
    generalize upd H7 lf (.lst [.str c.word, .bl c.opens, .ref l1, .str c.whose, .ref l2, .ref l4, .ref l5, .ref l7, .bl c.card]) = H8 at *
    have d8 := d7.same s8
    have x8 := s8 _ _ x7
    refine ⟨_, rfl, _, rfl, x, dx, _, rfl, x8, x, c, rfl, d8, fun l9 H9 hl9 s9 e9 => ?_⟩
    have d9 := d8.same s9
    have x9 := s9 _ _ x8
    refine ⟨_, rfl, x, dx, _, rfl, x9, x, c, rfl, d9, fun l10 ps10 H10 hl10 s10 e10 p10 => ?_⟩
    have d10 := d9.same s10
    have x10 := s10 _ _ x9
    refine ⟨_, rfl, x, dx, _, rfl, x10, x, c, rfl, d10, ?_⟩
    refine ⟨_, rfl, x, dx, _, rfl, x10, (by unfold dfs; simp only [lookup_putF]; rfl), x, c, rfl, d10, fun l11 H11 ms hl11 s11 nd mem srt e11 => ?_⟩
    refine ⟨sz (by simp), fun lg hlg => ?_⟩
    have s12 := My.Same.new (o := .lst [.ref l9, .ref l10, .str (actOf c.steps), .ref l11]) (Same.refl H11) hlg
    have e12 : upd H11 lg (.lst [.ref l9, .ref l10, .str (actOf c.steps), .ref l11]) lg = some (.lst [.ref l9, .ref l10, .str (actOf c.steps), .ref l11]) := upd_same
    generalize upd H11 lg (.lst [.ref l9, .ref l10, .str (actOf c.steps), .ref l11]) = H12 at *
    have s812 := ((s9.trans s10).trans s11).trans s12
    refine ⟨lf, lg, _, _, rfl, rfl, s812 _ _ e8, e12, sz (by simp), fun lo hlo => ?_⟩
    have s13 := My.Same.new (o := .lst [.str c.word, .bl c.opens, .ref l1, .str c.whose, .ref l2, .ref l4, .ref l5, .ref l7, .bl c.card, .ref l9, .ref l10, .str (actOf c.steps), .ref l11]) (Same.refl H12) hlo
    have e13 : upd H12 lo (.lst [.str c.word, .bl c.opens, .ref l1, .str c.whose, .ref l2, .ref l4, .ref l5, .ref l7, .bl c.card, .ref l9, .ref l10, .str (actOf c.steps), .ref l11]) lo = some (.lst [.str c.word, .bl c.opens, .ref l1, .str c.whose, .ref l2, .ref l4, .ref l5, .ref l7, .bl c.card, .ref l9, .ref l10, .str (actOf c.steps), .ref l11]) := upd_same
    have t12 := s812.trans s13
    have t7 := s8.trans t12
    have t5 := (s6.trans s7).trans t7
    have t4 := s5.trans t5
    have t2 := (s3.trans s4).trans t4
    have t1 := s2.trans t2
    refine q lo _ ms (s1.trans t1) ⟨nd, mem, srt⟩ (.lst (SqL.of e13) ?_)
    exact .cons (.str _) (.cons (.bl _) (.cons (dq_txL (t1 _ _ e1)) (.cons (.str _) (.cons (dq_cnD (t2 _ _ e2)) (.cons (dq_txL (t4 _ _ e4)) (.cons (dq_cnD (t5 _ _ e5)) (.cons (dq_txL (t7 _ _ e7)) (.cons (.bl _)
      (.cons (dq_txL (((s10.trans s11).trans (s12.trans s13)) _ _ e9)) (.cons (dq_stL ((s11.trans (s12.trans s13)) _ _ e10) (Paired.mono (fun _ _ z => ⟨(s11.trans (s12.trans s13)) _ _ z.1, z.2⟩) p10)) (.cons (.str _) (.cons (dq_txL ((s12.trans s13) _ _ e11)) .nil))))))))))))
end
end My

set_option Elab.async false
set_option linter.all false
set_option maxRecDepth 100000
set_option maxHeartbeats 4000000
namespace My
open PySem PySem.Spec PyProof.Rows L2
abbrev sMko : Stmt := topI 27
abbrev NMko : List Str := ["deed", "named", "one", "least", "step"]
theorem scMko : FnScope NMko ["deed"] (defScope sMko) := ⟨rfl, rfl, rfl, by decide +kernel, rfl, by decide +kernel, by decide +kernel⟩
theorem mk_uniq {c : Dv} {ms ns : List Str} (h : MkOf c ms) (k : MkOf c ns) : ms = ns :=
  sorted_uniq h.2.2 k.2.2 ((List.perm_ext_iff_of_nodup h.1 k.1).mpr fun z => (h.2.1 z).trans (k.2.1 z).symm)
theorem marks_srt {d c : Dv} (h : Srt d c) (z : Str) : z ∈ marksOf c ↔ z ∈ marksOf d := by
  unfold marksOf
  simp only [List.mem_append, List.mem_map, h.steps, h.goals.mem_iff, h.asks.mem_iff, h.pays.mem_iff]
theorem MkOf.srt {d c : Dv} {ms : List Str} (h : Srt d c) (k : MkOf d ms) : MkOf c ms := ⟨k.1, fun z => (k.2.1 z).trans (marks_srt h z).symm, k.2.2⟩
def spMko : Sp := fun vs H Q _ => ∃ (S : Addr → Prop) (g : Addr) (d : Dv), vs = [.ref g] ∧ DeedAt S H g d ∧ d.Cps ∧ ∀ (l : Addr) (H' : Hp) (ms : List Str), Same H H' → MkOf d ms → H' l = some (.lst (ms.map V.str)) → Q (.ref l) H'
section
variable {P : Program} {w : World} {K : PySem.W.Frag} {mg : Str → Option Value} {base : Heap}
theorem ok_mko {f : Addr} {fd : FuncData} (F : Fun K "_law_marks_of" "_law_marks_of" sMko f fd) (B : Bn mg) : FnOk P w K mg base CX0 1 f fd ["deed"] spMko := by
  refine F.ok scMko (fun vs H Q E h => ?_) (fun cdv A outer s H vs Q E hr h => ?_)
  · obtain ⟨S, g, d, rfl, _⟩ := h
    rfl
  · obtain ⟨S, g, d, rfl, ⟨ga, an, ak, pa, st, sps, _, h1, h2, h3, ⟨kps, h4, k4⟩, ⟨pps, h5, k5⟩, h6, h7⟩, cp, q⟩ := h
    have hu64 := hr.units
    refine ⟨_, (pss_cons (ps_set (i := 1) scMko.nd rfl (Or.inl rfl) (pe_op op_cat (pe_lc (own := [("one", 2), ("least", 3)]) (g := gTup K 2 (gCons (gName 2) (gCons (gName 3) gNil))) rfl scMko.nd (pi_list (pe_op op_cat (pe_dg hu64 (pv 0) pe_str) (pe_dg hu64 (pv 0) pe_str))) (blkOk_by (own := [("one", 2), ("least", 3)]) (N := NMko) (sc := defScope sMko) (by decide +kernel)) (fun _ _ _ _ _ => by exact (pg_tup rfl (pgs_cons (pg_name (i := 2) scMko.nd rfl (Or.inl rfl)) (pgs_cons (pg_name (i := 3) scMko.nd rfl (Or.inl rfl)) pgs_nil)))) (fun _ _ _ _ _ => pts_nil) (fun _ _ _ _ _ => (pv 2))) (pe_dg hu64 (pv 0) pe_str)))
      (pss_cons (ps_set (i := 1) scMko.nd rfl (Or.inl rfl) (pe_op op_cat (pv 1) (pe_lc (own := [("step", 4)]) (g := gName 4) rfl scMko.nd (pi_list (pe_dg hu64 (pv 0) pe_str)) (blkOk_by (own := [("step", 4)]) (N := NMko) (sc := defScope sMko) (by decide +kernel)) (fun _ _ _ _ _ => pg_name (i := 4) scMko.nd rfl (Or.inl rfl)) (fun _ _ _ _ _ => pts_one (PW.pt (pw_and (pt_cmpR op_eq (pe_callB (show CallR _ (.builtin "len") (rLenLT K) from call_len_sq) (by rfl) B.len (by decide +kernel) (pa_cons (pv 4) pa_nil)) pe_int (nomark _)) (pw_and1 (pt_cmpR op_ne (pe_ix ix_tp (pv 4) pe_int (fun _ _ => rfl)) pe_str (nomark _)))))) (fun _ _ _ _ _ => (pe_ix ix_tp (pv 4) pe_int (fun _ _ => rfl))))))
      (pss_one (ps_ret (pe_sortUn rfl B.sorted B.set (pe_lc (own := [("one", 2)]) (g := gName 2) rfl scMko.nd (pi_list (pv 1)) (blkOk_by (own := [("one", 2)]) (N := NMko) (sc := defScope sMko) (by decide +kernel)) (fun _ _ _ _ _ => pg_name (i := 2) scMko.nd rfl (Or.inl rfl)) (fun _ _ _ _ _ => pts_nil) (fun _ _ _ _ _ => (pe_callTy SkE.call_str_str (by rfl) B.str (by decide +kernel) (pa_cons (pv 2) pa_nil))))))))), ?_⟩
    have fw := cp.few
    have lk : kps.length = d.asks.length := Paired.length k4
    have lp : pps.length = d.pays.length := Paired.length k5
    refine step_asg ?_
    rw [rd_op, rd_lcL]
    refine ⟨_, rfl, g, "asks", rfl, rfl, _, h1, .ref ak, rfl, _, rfl, g, "pays", rfl, rfl, _, h1, .ref pa, rfl, ak, pa, _, _, rfl, rfl, h4, h5, sz (by rw [List.length_map, List.length_map]; omega), fun u hu => ?_⟩
    rw [List.map_append.symm]
    have s1 := My.Same.new (o := .lst ((kps ++ pps).map V.ref)) (Same.refl H) hu
    have e1 : upd H u (.lst ((kps ++ pps).map V.ref)) u = some (.lst ((kps ++ pps).map V.ref)) := upd_same
    generalize upd H u (.lst ((kps ++ pps).map V.ref)) = H1 at *
    refine ⟨u, rfl, ⟨_, SqL.of e1⟩, ?_⟩
    refine lc_pairs (K := K) (ps := kps ++ pps) (ks := d.asks ++ d.pays) walk_list (fun H' s => SqL.of (s _ _ e1)) (Paired.mono (fun _ _ z => s1 _ _ z) (pd_app k4 k5)) (by rw [List.length_append]; omega) (fun _ _ => rfl) (fun _ _ => rfl) fun n1 H2 hn1 s2 ln1 => ?_
    have s12 := s1.trans s2
    refine ⟨_, rfl, g, "goals", rfl, rfl, _, s12 _ _ h1, .ref ga, rfl, n1, ga, _, _, rfl, rfl, ln1, s12 _ _ h2, sz (by rw [List.length_map, List.length_map, List.length_map, List.length_append]; omega), fun u2 hu2 => ?_⟩
    rw [List.map_append.symm]
    have s3 := My.Same.new (o := .lst (((d.asks ++ d.pays).map (·.1) ++ d.goals).map V.str)) (Same.refl H2) hu2
    have e3 : upd H2 u2 (.lst (((d.asks ++ d.pays).map (·.1) ++ d.goals).map V.str)) u2 = some (.lst (((d.asks ++ d.pays).map (·.1) ++ d.goals).map V.str)) := upd_same
    generalize upd H2 u2 (.lst (((d.asks ++ d.pays).map (·.1) ++ d.goals).map V.str)) = H3 at *
    have s13 := s12.trans s3
    refine step_asg ?_
    rw [rd_op]
    refine ⟨_, rfl, ?_⟩
    dsimp only
    rw [rd_lcL]
    refine ⟨_, rfl, g, "steps", rfl, rfl, _, s13 _ _ h1, .ref st, rfl, st, rfl, ⟨_, SqL.of (s13 _ _ h6)⟩, ?_⟩
    refine lc_moves (K := K) walk_list (fun H' s => SqL.of (s _ _ (s13 _ _ h6))) (Paired.mono (fun _ _ z => ⟨s13 _ _ z.1, z.2⟩) h7) (by omega) (fun _ => rfl) (fun _ => rfl) fun n2 H4 hn2 s4 ln2 => ?_
    have lf := List.length_filterMap_le mvMark d.steps
    refine ⟨u2, n2, _, _, rfl, rfl, s4 _ _ e3, ln2, sz (by rw [List.length_map, List.length_map, List.length_append, List.length_map, List.length_append]; omega), fun u3 hu3 => ?_⟩
    rw [List.map_append.symm]
    have zlen : ((d.asks ++ d.pays).map (·.1) ++ d.goals ++ d.steps.filterMap mvMark).length < 64 := by
      rw [List.length_append, List.length_append, List.length_map, List.length_append]
      omega
    have zmem : ∀ z, z ∈ (d.asks ++ d.pays).map (·.1) ++ d.goals ++ d.steps.filterMap mvMark ↔ z ∈ marksOf d := fun z => by
      unfold marksOf
      simp only [List.mem_append]
      constructor
      · rintro ((h | h) | h)
        · exact .inl (.inl h)
        · exact .inr h
        · exact .inl (.inr h)
      · rintro ((h | h) | h)
        · exact .inl (.inl h)
        · exact .inr h
        · exact .inl (.inr h)
    generalize (d.asks ++ d.pays).map (·.1) ++ d.goals ++ d.steps.filterMap mvMark = Nm at *
    have s5 := My.Same.new (o := .lst (Nm.map V.str)) (Same.refl H4) hu3
    have e5 : upd H4 u3 (.lst (Nm.map V.str)) u3 = some (.lst (Nm.map V.str)) := upd_same
    generalize upd H4 u3 (.lst (Nm.map V.str)) = H5 at *
    have s15 := (s13.trans s4).trans s5
    show tSortUn _ _ _ _ _
    rw [rd_sortUn, rd_lcL]
    refine ⟨_, rfl, u3, rfl, ⟨_, SqL.of e5⟩, lcB_map (xs := Nm.map V.str) (walk_list (K := K)) (fun H' s => SqL.of (s _ _ e5)) (by rw [List.length_map]; omega) id (fun _ => rfl) (fun x H' R hx _ hR => ?_) fun D H6 hD s6 eD => ?_⟩
    · obtain ⟨z, _, rfl⟩ := List.mem_map.mp hx
      exact ⟨_, rfl, z, rfl, hR H' (Same.refl H')⟩
    · rw [List.map_id] at eD
      refine ⟨D, Nm, rfl, SqL.of eD, zlen, fun ys l hl nd mem srt => ?_⟩
      exact q l _ ys (My.Same.new' (s15.trans s6) hl) ⟨nd, fun z => (mem z).trans (zmem z), srt⟩ upd_same
end
end My

set_option Elab.async false
set_option linter.all false
set_option maxRecDepth 100000
set_option maxHeartbeats 4000000
namespace My
open PySem PySem.Spec PyProof.Rows L2
abbrev sDue : Stmt := topI 29
abbrev NDue : List Str := ["deed", "ask", "pay", "rows", "act", "found"]
theorem scDue : FnScope NDue ["deed"] (defScope sDue) := ⟨rfl, rfl, rfl, by decide +kernel, rfl, by decide +kernel, by decide +kernel⟩
theorem dp_stl {K : PySem.W.Frag} {H : Hp} {t : Addr} {ps : List Addr} {sts : List Stp} (h : H t = some (.lst (ps.map V.ref))) (hp : Paired (StpAt H) ps sts) : Dp K H (.ref t) (.list (sts.map Stp.data)) := by
  refine .lst (SqL.of h) ?_
  clear h
  induction hp with
  | nil => exact .nil
  | @cons p s _ _ h _ ih =>
    refine .cons ?_ ih
    cases s with
    | act a => exact .tup (SqT.of h.1) (.cons (.str _) .nil)
    | move d m => exact .tup (SqT.of h.1) (.cons (.str _) (.cons (.str _) .nil))
theorem shaped_stl {sts : List Stp} (h : ∀ s ∈ sts, s.cps) : SeqAt.shaped (.list (sts.map Stp.data)) = true := by
  obtain ⟨a, b⟩ := lay_st h
  unfold SeqAt.shaped
  simp [PyData.canLay0, PyData.depth, a]
  omega
theorem ne_nil_st (sts : List Stp) : (!PyData.eqv (.list (sts.map Stp.data)) (.list [])) = !sts.isEmpty := by
  cases sts <;> simp [PyData.eqv, PyData.eqvAll]
/-- rows[len(rows) - 1][0] if rows != [] and len(rows[len(rows) - 1]) == 1 else "stay" -/
theorem due_act {K : PySem.W.Frag} {st : Addr} {sps : List Addr} {sts : List Stp} {σ : L2.St} {H : Hp} {Q : VK} (hr : σ[3]? = some (some (.ref st))) (h6 : H st = some (.lst (sps.map V.ref))) (h7 : Paired (StpAt H) sps sts) (cp : ∀ s ∈ sts, s.cps) (q : ∀ H', Same H H' → Q (.str (actOf sts)) H') :
    tIf (tAnd (tTest (tOp (rNeD K) (tVar 3) (tLst tNil))) (tTest (tOp rEq (tCB (fun xs H_1 Q => ∃ p ys, xs = [V.ref p] ∧ (SqL K H_1 p ys ∨ SqT K H_1 p ys) ∧ Q (V.int ys.length) H_1) (tCons (tOp rIxLst (tVar 3) (tOp (rI0 fun i j => V.int (i - j)) (tCB rLenL (tCons (tVar 3) tNil)) (tC (V.int 1)))) tNil)) (tC (V.int 1))))) (tOp rIxTp (tOp rIxLst (tVar 3) (tOp (rI0 fun i j => V.int (i - j)) (tCB rLenL (tCons (tVar 3) tNil)) (tC (V.int 1)))) (tC (V.int 0))) (tC (V.str "stay")) σ H Q := by
  refine ⟨_, hr, sz (by simp), fun em hem => ?_⟩
  have s5 := My.Same.new (o := .lst []) (Same.refl H) hem
  have e5 : upd H em (.lst []) em = some (.lst []) := upd_same
  generalize upd H em (.lst []) = H5 at *
  have h6' := s5 _ _ h6
  have h7' : Paired (StpAt H5) sps sts := Paired.mono (fun _ _ z => ⟨s5 _ _ z.1, z.2⟩) h7
  refine ⟨.list (sts.map Stp.data), .list [], dp_stl h6' h7', .lst (SqL.of e5) .nil, shaped_stl cp, by decide +kernel, _, rfl, ?_⟩
  rw [ne_nil_st]
  have q := q H5 s5
  rcases last_of h7' with ⟨e1, e2⟩ | ⟨pl, b, sl, s, e1, e2, hb⟩
  · subst e2
    exact q
  · have ee : (!sts.isEmpty) = true := by rw [e2]; cases sl <;> rfl
    have ea : actOf sts = lastAct s := by rw [e2]; exact act_last sl s
    rw [ea] at q
    rw [ee]
    have len : sps.length = pl.length + 1 := by rw [e1, List.length_append]; rfl
    have at_ : (sps.map V.ref)[((((sps.map V.ref).length : Nat) : Int) - 1).toNat]? = some (.ref b) := by
      rw [List.length_map, len]
      have e : (((pl.length + 1 : Nat) : Int) - 1).toNat = pl.length := by omega
      rw [e, e1, List.map_append, List.getElem?_append_right (by rw [List.length_map]; exact Nat.le_refl _), List.length_map, Nat.sub_self]
      rfl
    have pos : (0 : Int) ≤ (((sps.map V.ref).length : Nat) : Int) - 1 := by rw [List.length_map, len]; omega
    dsimp only
    rw [if_pos rfl]
    cases s with
    | act a =>
      refine ⟨_, hr, _, hr, st, rfl, _, h6', _, 1, rfl, rfl, st, _, rfl, rfl, _, h6', pos, .ref b, at_, b, _, rfl, .inr (SqT.of hb.1), rfl, _, rfl, ?_⟩
      dsimp only
      rw [if_pos (by show decide (V.int 1 = V.int 1) = true; simp)]
      exact ⟨_, hr, _, hr, st, rfl, _, h6', _, 1, rfl, rfl, st, _, rfl, rfl, _, h6', pos, .ref b, at_, b, 0, rfl, rfl, _, hb.1, by decide, .str a, rfl, q⟩
    | move d m =>
      refine ⟨_, hr, _, hr, st, rfl, _, h6', _, 1, rfl, rfl, st, _, rfl, rfl, _, h6', pos, .ref b, at_, b, _, rfl, .inr (SqT.of hb.1), rfl, _, rfl, ?_⟩
      dsimp only
      rw [if_neg (by show ¬ decide (V.int 2 = V.int 1) = true; simp)]
      exact q
def spDue (K : PySem.W.Frag) : Sp := fun vs H Q _ => ∃ (S : Addr → Prop) (g : Addr) (d : Dv), vs = [.ref g] ∧ DeedAt S H g d ∧ d.Cps ∧ ∀ (l : Addr) (H' : Hp) (c : Dv) (ms : List Str), Same H H' → Srt d c → MkOf c ms → Dq K H' (.ref l) (toldD c ms) → Q (.ref l) H'
section
variable {P : Program} {w : World} {K : PySem.W.Frag} {mg : Str → Option Value} {base : Heap}
theorem ok_due {f : Addr} {fd : FuncData} (F : Fun K "_law_due" "_law_due" sDue f fd) (B : Bn mg) (D_mko : Df K mg "_law_marks_of" sMko ["deed"]) (G_mko : FnOk P w K mg base CX0 1 D_mko.f D_mko.fd ["deed"] spMko) : FnOk P w K mg base CX0 2 f fd ["deed"] (spDue K) := by
  refine F.ok scDue (fun vs H Q E h => ?_) (fun cdv A outer s H vs Q E hr h => ?_)
  · obtain ⟨S, g, d, rfl, _⟩ := h
    rfl
  · obtain ⟨S, g, d, rfl, hdd, cp, q⟩ := h
    obtain ⟨ga, an, ak, pa, st, sps, _, h1, h2, h3, ⟨kps, h4, k4⟩, ⟨pps, h5, k5⟩, h6, h7⟩ := id hdd
    have hu64 := hr.units
    have hr1 := hr
    refine ⟨_, (pss_cons (ps_par (i := 1) (j := 2) (by rfl) scDue.nd rfl rfl (by decide) rfl rfl (pa_cons (pe_callTy (call_dictP rfl) (by rfl) B.dict (by decide +kernel) (pa_cons (pe_callB cr_sortPr (by rfl) B.sorted (by decide +kernel) (pa_cons (pe_dg hu64 (pv 0) pe_str) pa_nil)) pa_nil)) (pa_cons (pe_callTy (call_dictP rfl) (by rfl) B.dict (by decide +kernel) (pa_cons (pe_callB cr_sortPr (by rfl) B.sorted (by decide +kernel) (pa_cons (pe_dg hu64 (pv 0) pe_str) pa_nil)) pa_nil)) pa_nil)) (by rfl))
      (pss_cons (ps_set (i := 3) scDue.nd rfl (Or.inl rfl) (pe_dg hu64 (pv 0) pe_str))
      (pss_cons (ps_set (i := 4) scDue.nd rfl (Or.inl rfl) (pe_ifExp (PW.pt (pw_and (pt_cmpR (op_neD hu64) (pv 3) (pe_lst pa_nil) (nomark _)) (pw_and1 (pt_cmpR op_eq (pe_callB call_len_seq (by rfl) B.len (by decide +kernel) (pa_cons (pe_ix ix_lst (pv 3) (pe_op op_sub (pe_callB call_lenL (by rfl) B.len (by decide +kernel) (pa_cons (pv 3) pa_nil)) pe_int) (fun _ _ => rfl)) pa_nil)) pe_int (nomark _))))) (pe_ix ix_tp (pe_ix ix_lst (pv 3) (pe_op op_sub (pe_callB call_lenL (by rfl) B.len (by decide +kernel) (pa_cons (pv 3) pa_nil)) pe_int) (fun _ _ => rfl)) pe_int (fun _ _ => rfl)) pe_str))
      (pss_cons (ps_set (i := 5) scDue.nd rfl (Or.inl rfl) (pe_lst (pa_cons (pe_dg hu64 (pv 0) pe_str) (pa_cons (pe_dg hu64 (pv 0) pe_str) (pa_cons (pe_callB cr_sortTx (by rfl) B.sorted (by decide +kernel) (pa_cons (pe_dg hu64 (pv 0) pe_str) pa_nil)) (pa_cons (pe_dg hu64 (pv 0) pe_str) (pa_cons (pv 1) (pa_cons (pe_callTy (call_listD rfl) (by rfl) B.list (by decide +kernel) (pa_cons (pv 1) pa_nil)) (pa_cons (pv 2) (pa_cons (pe_callTy (call_listD rfl) (by rfl) B.list (by decide +kernel) (pa_cons (pv 2) pa_nil)) pa_nil))))))))))
      (pss_one (ps_ret (pe_op op_cat (pv 5) (pe_lst (pa_cons (pe_dg hu64 (pv 0) pe_str) (pa_cons (pe_callB cr_sortTx (by rfl) B.sorted (by decide +kernel) (pa_cons (pe_dg hu64 (pv 0) pe_str) pa_nil)) (pa_cons (pv 3) (pa_cons (pv 4) (pa_cons (pc D_mko G_mko hr1 (pa_cons (pv 0) pa_nil)) pa_nil))))))))))))), ?_⟩
    have fw := cp.few
    refine step_seq ?_
    refine ⟨_, rfl, g, "asks", rfl, rfl, _, h1, .ref ak, rfl, ak, kps, d.asks, rfl, SqL.of h4, k4, by omega, fun l1 ps1 as hl1 pa1 sa1 pr1 => ?_⟩
    have s1 := My.Same.new (o := .lst (ps1.map V.ref)) (Same.refl H) hl1
    have e1 : upd H l1 (.lst (ps1.map V.ref)) l1 = some (.lst (ps1.map V.ref)) := upd_same
    generalize upd H l1 (.lst (ps1.map V.ref)) = H1 at *
    have asN : (as.map (·.1)).Nodup := (pa1.map (·.1)).nodup_iff.mpr cp.asksN
    refine ⟨l1, ps1, as.map entK, rfl, SqL.of e1, pairs_sq (Paired.mono (fun _ _ z => s1 _ _ z) pr1), fun da hda => ?_⟩
    rw [merge_nil asN]
    have s2 := My.Same.new (o := .dK (as.map entK)) (Same.refl H1) hda
    have e2 : upd H1 da (.dK (as.map entK)) da = some (.dK (as.map entK)) := upd_same
    generalize upd H1 da (.dK (as.map entK)) = H2 at *
    have s02 := s1.trans s2
    refine ⟨_, rfl, g, "pays", rfl, rfl, _, s02 _ _ h1, .ref pa, rfl, pa, pps, d.pays, rfl, SqL.of (s02 _ _ h5), Paired.mono (fun _ _ z => s02 _ _ z) k5, by omega, fun l3 ps3 bs hl3 pa3 sa3 pr3 => ?_⟩
    have s3 := My.Same.new (o := .lst (ps3.map V.ref)) (Same.refl H2) hl3
    have e3 : upd H2 l3 (.lst (ps3.map V.ref)) l3 = some (.lst (ps3.map V.ref)) := upd_same
    generalize upd H2 l3 (.lst (ps3.map V.ref)) = H3 at *
    have bsN : (bs.map (·.1)).Nodup := (pa3.map (·.1)).nodup_iff.mpr cp.paysN
    refine ⟨l3, ps3, bs.map entK, rfl, SqL.of e3, pairs_sq (Paired.mono (fun _ _ z => s3 _ _ z) pr3), fun db hdb => ?_⟩
    rw [merge_nil bsN]
    have s4 := My.Same.new (o := .dK (bs.map entK)) (Same.refl H3) hdb
    have e4 : upd H3 db (.dK (bs.map entK)) db = some (.dK (bs.map entK)) := upd_same
    generalize upd H3 db (.dK (bs.map entK)) = H4 at *
    have s04 := s02.trans (s3.trans s4)
    have e2 := (s3.trans s4) _ _ e2
    refine ⟨_, _, rfl, ?_⟩
    dsimp only
    refine step_asg ⟨_, rfl, g, "steps", rfl, rfl, _, s04 _ _ h1, .ref st, rfl, ?_⟩
    refine step_asg ?_
    refine due_act (K := K) rfl (s04 _ _ h6) (Paired.mono (fun _ _ z => ⟨s04 _ _ z.1, z.2⟩) h7) cp.steps fun H5 s5 => ?_
    have s05 := s04.trans s5
    have e2 := s5 _ _ e2
    have e4 := s5 _ _ e4
    refine step_asg ?_
    refine ⟨_, rfl, g, "word", rfl, rfl, _, s05 _ _ h1, .str d.word, rfl, _, rfl, g, "opens", rfl, rfl, _, s05 _ _ h1, .bl d.opens, rfl, _, rfl, g, "answers", rfl, rfl, _, s05 _ _ h1, .ref an, rfl, an, d.ans, rfl, .inl (SqL.of (s05 _ _ h3)), by omega, fun ys1 l5 py1 sy1 hl5 => ?_⟩
    have s6 := My.Same.new (o := .lst (ys1.map V.str)) (Same.refl H5) hl5
    have e6 : upd H5 l5 (.lst (ys1.map V.str)) l5 = some (.lst (ys1.map V.str)) := upd_same
    generalize upd H5 l5 (.lst (ys1.map V.str)) = H6 at *
    have s06 := s05.trans s6
    refine ⟨_, rfl, g, "whose", rfl, rfl, _, s06 _ _ h1, .str d.whose, rfl, _, rfl, _, rfl, da, _, rfl, .inl (s6 _ _ e2), fun l7 hl7 => ?_⟩
    have k7 : (as.map entK).map (fun kv => kV kv.1) = (as.map (·.1)).map V.str := by rw [List.map_map, List.map_map]; rfl
    rw [k7]
    have s7 := My.Same.new (o := .lst ((as.map (·.1)).map V.str)) (Same.refl H6) hl7
    have e7 : upd H6 l7 (.lst ((as.map (·.1)).map V.str)) l7 = some (.lst ((as.map (·.1)).map V.str)) := upd_same
    generalize upd H6 l7 (.lst ((as.map (·.1)).map V.str)) = H7 at *
    refine ⟨_, rfl, _, rfl, db, _, rfl, .inl ((s6.trans s7) _ _ e4), fun l8 hl8 => ?_⟩
    have k8 : (bs.map entK).map (fun kv => kV kv.1) = (bs.map (·.1)).map V.str := by rw [List.map_map, List.map_map]; rfl
    rw [k8]
    have s8 := My.Same.new (o := .lst ((bs.map (·.1)).map V.str)) (Same.refl H7) hl8
    have e8 : upd H7 l8 (.lst ((bs.map (·.1)).map V.str)) l8 = some (.lst ((bs.map (·.1)).map V.str)) := upd_same
    generalize upd H7 l8 (.lst ((bs.map (·.1)).map V.str)) = H8 at *
    refine ⟨sz (by simp), fun lf hlf => ?_⟩
    have s9 := My.Same.new (o := .lst [.str d.word, .bl d.opens, .ref l5, .str d.whose, .ref da, .ref l7, .ref db, .ref l8]) (Same.refl H8) hlf
    have e9 : upd H8 lf (.lst [.str d.word, .bl d.opens, .ref l5, .str d.whose, .ref da, .ref l7, .ref db, .ref l8]) lf = some (.lst [.str d.word, .bl d.opens, .ref l5, .str d.whose, .ref da, .ref l7, .ref db, .ref l8]) := upd_same
    generalize upd H8 lf (.lst [.str d.word, .bl d.opens, .ref l5, .str d.whose, .ref da, .ref l7, .ref db, .ref l8]) = H9 at *
    have s69 := (s7.trans s8).trans s9
    have s09 := s06.trans s69
    refine ⟨_, rfl, _, rfl, g, "card", rfl, rfl, _, s09 _ _ h1, .bl d.card, rfl, _, rfl, g, "goals", rfl, rfl, _, s09 _ _ h1, .ref ga, rfl, ga, d.goals, rfl, .inl (SqL.of (s09 _ _ h2)), by omega, fun ys2 l10 py2 sy2 hl10 => ?_⟩
    have s10 := My.Same.new (o := .lst (ys2.map V.str)) (Same.refl H9) hl10
    have e10 : upd H9 l10 (.lst (ys2.map V.str)) l10 = some (.lst (ys2.map V.str)) := upd_same
    generalize upd H9 l10 (.lst (ys2.map V.str)) = H10 at *
    have s010 := s09.trans s10
    refine ⟨_, rfl, _, rfl, _, rfl, S, g, d, rfl, DeedAt.same hdd s010, cp, fun l11 H11 ms s11 mk e11 => ?_⟩
    refine ⟨sz (by simp), fun lg hlg => ?_⟩
    have s12 := My.Same.new (o := .lst [.bl d.card, .ref l10, .ref st, .str (actOf d.steps), .ref l11]) (Same.refl H11) hlg
    have e12 : upd H11 lg (.lst [.bl d.card, .ref l10, .ref st, .str (actOf d.steps), .ref l11]) lg = some (.lst [.bl d.card, .ref l10, .ref st, .str (actOf d.steps), .ref l11]) := upd_same
    generalize upd H11 lg (.lst [.bl d.card, .ref l10, .ref st, .str (actOf d.steps), .ref l11]) = H12 at *
    have t9 := (s10.trans s11).trans s12
    refine ⟨lf, lg, _, _, rfl, rfl, t9 _ _ e9, e12, sz (by simp), fun lo hlo => ?_⟩
    have s13 := My.Same.new (o := .lst [.str d.word, .bl d.opens, .ref l5, .str d.whose, .ref da, .ref l7, .ref db, .ref l8, .bl d.card, .ref l10, .ref st, .str (actOf d.steps), .ref l11]) (Same.refl H12) hlo
    have e13 : upd H12 lo (.lst [.str d.word, .bl d.opens, .ref l5, .str d.whose, .ref da, .ref l7, .ref db, .ref l8, .bl d.card, .ref l10, .ref st, .str (actOf d.steps), .ref l11]) lo = some (.lst [.str d.word, .bl d.opens, .ref l5, .str d.whose, .ref da, .ref l7, .ref db, .ref l8, .bl d.card, .ref l10, .ref st, .str (actOf d.steps), .ref l11]) := upd_same
    have u11 := s12.trans s13
    have u10 := s11.trans u11
    have u9 := t9.trans s13
    have u8 := s9.trans u9
    have u7 := s8.trans u8
    have u6 := s7.trans u7
    have u5 := s6.trans u6
    have sr : Srt d { d with ans := ys1, asks := as, pays := bs, goals := ys2 } := ⟨rfl, rfl, rfl, rfl, rfl, py1, sy1, pa1, sa1, pa3, sa3, py2, sy2⟩
    refine q lo _ _ ms (s05.trans u5) sr (mk.srt sr) (.lst (SqL.of e13) ?_)
    exact .cons (.str _) (.cons (.bl _) (.cons (dq_txL (u6 _ _ e6)) (.cons (.str _) (.cons (dq_cnD (u5 _ _ e2)) (.cons (dq_txL (u7 _ _ e7)) (.cons (dq_cnD (u5 _ _ e4)) (.cons (dq_txL (u8 _ _ e8)) (.cons (.bl _)
      (.cons (dq_txL (u10 _ _ e10)) (.cons (dq_stL ((s05.trans u5) _ _ h6) (Paired.mono (fun _ _ z => ⟨(s05.trans u5) _ _ z.1, z.2⟩) h7)) (.cons (.str _) (.cons (dq_txL (u11 _ _ e11)) .nil))))))))))))
end
end My

set_option Elab.async false
set_option linter.all false
set_option maxRecDepth 100000
set_option maxHeartbeats 4000000
namespace My
open PySem PySem.Spec PyProof.Rows L2
abbrev psDI : List Str := ["self", "word", "opens", "answers", "whose", "asks", "pays", "card", "goals", "steps"]
/-- the class Deed as it is made -/
structure DdM (P : Program) (w : World) (K : PySem.W.Frag) (mg : Str → Option Value) (base : Heap) (C : Addr) where
  f : Addr
  fd : FuncData
  G : FnOk P w K mg base (L2.CX P w) 5 f fd psDI (spDI K C)
  M : Mk K C f
  g : mg "Deed" = some (.ref C)
  gk : List Value → List Value → List Value
  b2 : KBn K fd psDI 2 ["opens", "answers", "whose", "asks", "pays", "card", "goals", "steps"] gk (fun vs zs => vs ++ zs)
theorem okWords.perm {m : Nat} {xs ys : List Str} (h : okWords m xs) (p : xs.Perm ys) : okWords m ys := ⟨by rw [← p.length_eq]; exact h.1, p.nodup_iff.mp h.2.1, fun x hx => h.2.2 x (p.mem_iff.mpr hx)⟩
theorem okCounts.perm {xs ys : List (Str × Int)} (h : okCounts xs) (p : xs.Perm ys) : okCounts ys := ⟨by rw [← p.length_eq]; exact h.1, (p.map (·.1)).nodup_iff.mp h.2.1, fun x hx => h.2.2 x (p.mem_iff.mpr hx)⟩
theorem Dv.Ok.alike {d e : Dv} (h : d.Ok) (k : Alike d e) : e.Ok where
  word := k.word ▸ h.word
  ans := h.ans.perm k.ans
  whose := k.whose ▸ h.whose
  asks := h.asks.perm k.asks
  pays := h.pays.perm k.pays
  goals := h.goals.perm k.goals
  goal := by
    have := h.goal
    rw [Bool.eq_false_iff] at this ⊢
    exact fun z => this (List.contains_iff_mem.mpr (k.goals.mem_iff.mpr (List.contains_iff_mem.mp z)))
  few := k.steps ▸ h.few
  steps := by rw [← k.steps, ← k.goals.length_eq]; exact h.steps
theorem Dv.Cps.alike {d e : Dv} (h : d.Cps) (k : Alike d e) : e.Cps where
  ans := fun x hx => h.ans x (k.ans.mem_iff.mpr hx)
  asks := fun x hx => h.asks x (k.asks.mem_iff.mpr hx)
  pays := fun x hx => h.pays x (k.pays.mem_iff.mpr hx)
  asksN := (k.asks.map (·.1)).nodup_iff.mp h.asksN
  paysN := (k.pays.map (·.1)).nodup_iff.mp h.paysN
  few := by rw [← k.ans.length_eq, ← k.asks.length_eq, ← k.pays.length_eq, ← k.goals.length_eq, ← k.steps]; exact h.few
  goals := fun x hx => h.goals x (k.goals.mem_iff.mpr hx)
  steps := fun x hx => h.steps x (k.steps ▸ hx)
theorem Alike.symm {d e : Dv} (k : Alike d e) : Alike e d := ⟨k.word.symm, k.opens.symm, k.whose.symm, k.card.symm, k.steps.symm, k.ans.symm, k.asks.symm, k.pays.symm, k.goals.symm⟩
theorem pd_rev {α β : Type} {F : α → β → Prop} {xs : List α} {ys : List β} (h : Paired F xs ys) : Paired F xs.reverse ys.reverse := by
  induction h with
  | nil => exact .nil
  | cons h _ ih =>
    rw [List.reverse_cons, List.reverse_cons]
    exact pd_app ih (.cons h .nil)
abbrev sBlt : Stmt := topI 32
abbrev NBlt : List Str := ["deed", "likes", "aims", "rows"]
theorem scBlt : FnScope NBlt ["deed", "likes", "aims", "rows"] (defScope sBlt) := ⟨rfl, rfl, rfl, by decide +kernel, rfl, by decide +kernel, by decide +kernel⟩
/-- a deed made of a drawn deed's parts, likes and aims in another order, rows as they are -/
def spBlt (K : PySem.W.Frag) (C : Addr) : Sp := fun vs H Q _ => ∃ (S : Addr → Prop) (g li ai ro : Addr) (d : Dv) (zs ys : List Str) (ps : List Addr), vs = [.ref g, .ref li, .ref ai, .ref ro] ∧ DeedAt S H g d ∧ d.Ok ∧ d.Cps ∧ Row K H li (zs.map V.str) ∧ d.ans.Perm zs ∧ Row K H ai (ys.map V.str) ∧ d.goals.Perm ys ∧ Row K H ro (ps.map V.ref) ∧ Paired (StpAt H) ps d.steps ∧
  ∀ (x : Addr) (H' : Hp) (c : Dv), Same H H' → Srt d c → DdAt K H' C x c → Q (.ref x) H'
section
variable {P : Program} {w : World} {K : PySem.W.Frag} {mg : Str → Option Value} {base : Heap}
theorem ok_blt {f C : Addr} {fd : FuncData} (F : Fun K "_law_built" "_law_built" sBlt f fd) (B : Bn mg) (MD : DdM P w K mg base C) : FnOk P w K mg base CX0 7 f fd ["deed", "likes", "aims", "rows"] (spBlt K C) := by
  refine F.ok scBlt (fun vs H Q E h => ?_) (fun cdv A outer s H vs Q E hr h => ?_)
  · obtain ⟨S, g, li, ai, ro, d, zs, ys, ps, rfl, _⟩ := h
    rfl
  · obtain ⟨S, g, li, ai, ro, d, zs, ys, ps, rfl, hdd, ok, cp, hli, pli, hai, pai, hro, pro, q⟩ := h
    obtain ⟨ga, an, ak, pa, st, sps, _, h1, h2, h3, ⟨kps, h4, k4⟩, ⟨pps, h5, k5⟩, h6, h7⟩ := id hdd
    have hu64 := hr.units
    have hr6 := hr
    refine ⟨_, (pss_one (ps_ret (pe_makeK (x := "Deed") (E := E0) MD.M MD.G hr6 rfl MD.g MD.b2 passL (pa_cons (pe_dg hu64 (pv 0) pe_str) pa_nil) (pk_cons (pe_dg hu64 (pv 0) pe_str) (pk_cons (pv 1) (pk_cons (pe_dg hu64 (pv 0) pe_str) (pk_cons (pe_callTy (call_dictP rfl) (by rfl) B.dict (by decide +kernel) (pa_cons (pe_revL (pe_dg hu64 (pv 0) pe_str)) pa_nil)) (pk_cons (pe_callTy (call_dictP rfl) (by rfl) B.dict (by decide +kernel) (pa_cons (pe_revL (pe_dg hu64 (pv 0) pe_str)) pa_nil)) (pk_cons (pe_dg hu64 (pv 0) pe_str) (pk_cons (pv 2) (pk_cons (pv 3) pk_nil))))))))))), ?_⟩
    have fw := cp.few
    refine ⟨_, rfl, g, "word", rfl, rfl, _, h1, .str d.word, rfl, _, rfl, g, "opens", rfl, rfl, _, h1, .bl d.opens, rfl, _, rfl, _, rfl, g, "whose", rfl, rfl, _, h1, .str d.whose, rfl, _, rfl, g, "asks", rfl, rfl, _, h1, .ref ak, rfl, ak, _, rfl, SqL.of h4, fun l1 hl1 => ?_⟩
    rw [List.map_reverse.symm]
    have s1 := My.Same.new (o := .lst (kps.reverse.map V.ref)) (Same.refl H) hl1
    have e1 : upd H l1 (.lst (kps.reverse.map V.ref)) l1 = some (.lst (kps.reverse.map V.ref)) := upd_same
    generalize upd H l1 (.lst (kps.reverse.map V.ref)) = H1 at *
    have al : Alike d { d with ans := zs, asks := d.asks.reverse, pays := d.pays.reverse, goals := ys } := ⟨rfl, rfl, rfl, rfl, rfl, pli, (List.reverse_perm _).symm, (List.reverse_perm _).symm, pai⟩
    have cp2 := cp.alike al
    refine ⟨l1, kps.reverse, d.asks.reverse.map entK, rfl, SqL.of e1, pairs_sq (Paired.mono (fun _ _ z => s1 _ _ z) (pd_rev k4)), fun da hda => ?_⟩
    rw [merge_nil cp2.asksN]
    have s2 := My.Same.new (o := .dK (d.asks.reverse.map entK)) (Same.refl H1) hda
    have e2 : upd H1 da (.dK (d.asks.reverse.map entK)) da = some (.dK (d.asks.reverse.map entK)) := upd_same
    generalize upd H1 da (.dK (d.asks.reverse.map entK)) = H2 at *
    have s02 := s1.trans s2
    refine ⟨_, rfl, g, "pays", rfl, rfl, _, s02 _ _ h1, .ref pa, rfl, pa, _, rfl, SqL.of (s02 _ _ h5), fun l3 hl3 => ?_⟩
    rw [List.map_reverse.symm]
    have s3 := My.Same.new (o := .lst (pps.reverse.map V.ref)) (Same.refl H2) hl3
    have e3 : upd H2 l3 (.lst (pps.reverse.map V.ref)) l3 = some (.lst (pps.reverse.map V.ref)) := upd_same
    generalize upd H2 l3 (.lst (pps.reverse.map V.ref)) = H3 at *
    have s03 := s02.trans s3
    refine ⟨l3, pps.reverse, d.pays.reverse.map entK, rfl, SqL.of e3, pairs_sq (Paired.mono (fun _ _ z => s03 _ _ z) (pd_rev k5)), fun db hdb => ?_⟩
    rw [merge_nil cp2.paysN]
    have s4 := My.Same.new (o := .dK (d.pays.reverse.map entK)) (Same.refl H3) hdb
    have e4 : upd H3 db (.dK (d.pays.reverse.map entK)) db = some (.dK (d.pays.reverse.map entK)) := upd_same
    generalize upd H3 db (.dK (d.pays.reverse.map entK)) = H4 at *
    have s04 := s03.trans s4
    refine ⟨_, rfl, g, "card", rfl, rfl, _, s04 _ _ h1, .bl d.card, rfl, _, rfl, _, rfl, rfl, rfl, fun x dx hx hdx ne => ?_⟩
    have s5 := My.Same.new (o := .own x) (Same.refl H4) hdx
    have hx5 : upd H4 dx (.own x) x = none := by rw [upd_ne (Ne.symm ne)]; exact hx
    have s6 := My.Same.new (o := .ins C dx []) (Same.refl (upd H4 dx (.own x))) hx5
    have e6 : upd (upd H4 dx (.own x)) x (.ins C dx []) x = some (.ins C dx []) := upd_same
    generalize upd (upd H4 dx (.own x)) x (.ins C dx []) = H6 at *
    have s46 := s5.trans s6
    have s06 := s04.trans s46
    have hxH : ∀ b o, H b = some o → b ≠ x := fun b o h => ne_of_none (s04 b o h) hx
    exact di2_imp _ _ _ _ ⟨x, dx, li, ai, ro, ps, .ref da, .ref db, { d with ans := zs, asks := d.asks.reverse, pays := d.pays.reverse, goals := ys }, rfl, e6, ok.alike al, cp2, hli.same s06, .inr ⟨da, rfl, ((s3.trans s4).trans s46) _ _ e2⟩, .inr ⟨db, rfl, s46 _ _ e4⟩, hai.same s06, hro.same s06, Paired.mono (fun _ _ z => ⟨s06 _ _ z.1, z.2⟩) pro,
      fun H' c sr hdd keep => ⟨rfl, q x H' c (fun b o h => keep b o (hxH b o h) (s06 b o h)) (sr.alike al.symm) hdd⟩⟩
end
end My

set_option Elab.async false
set_option linter.all false
set_option maxRecDepth 100000
set_option maxHeartbeats 4000000
namespace My
open PySem PySem.Spec PyProof.Rows L2
abbrev sMdd : Stmt := topI 24
abbrev NMdd : List Str := ["deed"]
theorem scMdd : FnScope NMdd ["deed"] (defScope sMdd) := ⟨rfl, rfl, rfl, by decide +kernel, rfl, by decide +kernel, by decide +kernel⟩
/-- a deed made of a dict of parts -/
def spMdd (K : PySem.W.Frag) (C : Addr) : Sp := fun vs H Q _ => ∃ (S : Addr → Prop) (g : Addr) (d : Dv), vs = [.ref g] ∧ DeedAt S H g d ∧ d.Ok ∧ d.Cps ∧ ∀ (x : Addr) (H' : Hp) (c : Dv), Same H H' → Srt d c → DdAt K H' C x c → Q (.ref x) H'
section
variable {P : Program} {w : World} {K : PySem.W.Frag} {mg : Str → Option Value} {base : Heap}
theorem ok_mdd {f C : Addr} {fd : FuncData} (F : Fun K "_law_made_deed" "_law_made_deed" sMdd f fd) (B : Bn mg) (MD : DdM P w K mg base C) : FnOk P w K mg base CX0 7 f fd ["deed"] (spMdd K C) := by
  refine F.ok scMdd (fun vs H Q E h => ?_) (fun cdv A outer s H vs Q E hr h => ?_)
  · obtain ⟨S, g, d, rfl, _⟩ := h
    rfl
  · obtain ⟨S, g, d, rfl, hdd, ok, cp, q⟩ := h
    obtain ⟨ga, an, ak, pa, st, sps, _, h1, h2, h3, ⟨kps, h4, k4⟩, ⟨pps, h5, k5⟩, h6, h7⟩ := id hdd
    have hu64 := hr.units
    have hr6 := hr
    refine ⟨_, (pss_one (ps_ret (pe_makeK (x := "Deed") (E := E0) MD.M MD.G hr6 rfl MD.g MD.b2 passL (pa_cons (pe_dg hu64 (pv 0) pe_str) pa_nil) (pk_cons (pe_dg hu64 (pv 0) pe_str) (pk_cons (pe_callTy call_list_of (by rfl) B.list (by decide +kernel) (pa_cons (pe_dg hu64 (pv 0) pe_str) pa_nil)) (pk_cons (pe_dg hu64 (pv 0) pe_str) (pk_cons (pe_callTy (call_dictP rfl) (by rfl) B.dict (by decide +kernel) (pa_cons (pe_dg hu64 (pv 0) pe_str) pa_nil)) (pk_cons (pe_callTy (call_dictP rfl) (by rfl) B.dict (by decide +kernel) (pa_cons (pe_dg hu64 (pv 0) pe_str) pa_nil)) (pk_cons (pe_dg hu64 (pv 0) pe_str) (pk_cons (pe_callTy call_list_of (by rfl) B.list (by decide +kernel) (pa_cons (pe_dg hu64 (pv 0) pe_str) pa_nil)) (pk_cons (pe_callTy call_list_of (by rfl) B.list (by decide +kernel) (pa_cons (pe_dg hu64 (pv 0) pe_str) pa_nil)) pk_nil))))))))))), ?_⟩
    refine ⟨_, rfl, g, "word", rfl, rfl, _, h1, .str d.word, rfl, _, rfl, g, "opens", rfl, rfl, _, h1, .bl d.opens, rfl, _, rfl, g, "answers", rfl, rfl, _, h1, .ref an, rfl, an, _, rfl, .inl (SqL.of h3), fun l1 hl1 => ?_⟩
    have s1 := My.Same.new (o := .lst (d.ans.map V.str)) (Same.refl H) hl1
    have e1 : upd H l1 (.lst (d.ans.map V.str)) l1 = some (.lst (d.ans.map V.str)) := upd_same
    generalize upd H l1 (.lst (d.ans.map V.str)) = H1 at *
    refine ⟨_, rfl, g, "whose", rfl, rfl, _, s1 _ _ h1, .str d.whose, rfl, _, rfl, g, "asks", rfl, rfl, _, s1 _ _ h1, .ref ak, rfl, ak, kps, d.asks.map entK, rfl, SqL.of (s1 _ _ h4), pairs_sq (Paired.mono (fun _ _ z => s1 _ _ z) k4), fun da hda => ?_⟩
    rw [merge_nil cp.asksN]
    have s2 := My.Same.new (o := .dK (d.asks.map entK)) (Same.refl H1) hda
    have e2 : upd H1 da (.dK (d.asks.map entK)) da = some (.dK (d.asks.map entK)) := upd_same
    generalize upd H1 da (.dK (d.asks.map entK)) = H2 at *
    have s02 := s1.trans s2
    refine ⟨_, rfl, g, "pays", rfl, rfl, _, s02 _ _ h1, .ref pa, rfl, pa, pps, d.pays.map entK, rfl, SqL.of (s02 _ _ h5), pairs_sq (Paired.mono (fun _ _ z => s02 _ _ z) k5), fun db hdb => ?_⟩
    rw [merge_nil cp.paysN]
    have s3 := My.Same.new (o := .dK (d.pays.map entK)) (Same.refl H2) hdb
    have e3 : upd H2 db (.dK (d.pays.map entK)) db = some (.dK (d.pays.map entK)) := upd_same
    generalize upd H2 db (.dK (d.pays.map entK)) = H3 at *
    have s03 := s02.trans s3
    refine ⟨_, rfl, g, "card", rfl, rfl, _, s03 _ _ h1, .bl d.card, rfl, _, rfl, g, "goals", rfl, rfl, _, s03 _ _ h1, .ref ga, rfl, ga, _, rfl, .inl (SqL.of (s03 _ _ h2)), fun l4 hl4 => ?_⟩
    have s4 := My.Same.new (o := .lst (d.goals.map V.str)) (Same.refl H3) hl4
    have e4 : upd H3 l4 (.lst (d.goals.map V.str)) l4 = some (.lst (d.goals.map V.str)) := upd_same
    generalize upd H3 l4 (.lst (d.goals.map V.str)) = H4 at *
    have s04 := s03.trans s4
    refine ⟨_, rfl, g, "steps", rfl, rfl, _, s04 _ _ h1, .ref st, rfl, st, _, rfl, .inl (SqL.of (s04 _ _ h6)), fun l5 hl5 => ?_⟩
    have s5 := My.Same.new (o := .lst (sps.map V.ref)) (Same.refl H4) hl5
    have e5 : upd H4 l5 (.lst (sps.map V.ref)) l5 = some (.lst (sps.map V.ref)) := upd_same
    generalize upd H4 l5 (.lst (sps.map V.ref)) = H5 at *
    have s05 := s04.trans s5
    refine ⟨rfl, rfl, fun x dx hx hdx ne => ?_⟩
    have s6 := My.Same.new (o := .own x) (Same.refl H5) hdx
    have hx6 : upd H5 dx (.own x) x = none := by rw [upd_ne (Ne.symm ne)]; exact hx
    have s7 := My.Same.new (o := .ins C dx []) (Same.refl (upd H5 dx (.own x))) hx6
    have e7 : upd (upd H5 dx (.own x)) x (.ins C dx []) x = some (.ins C dx []) := upd_same
    generalize upd (upd H5 dx (.own x)) x (.ins C dx []) = H7 at *
    have s57 := s6.trans s7
    have s47 := s5.trans s57
    have s37 := s4.trans s47
    have s27 := s3.trans s37
    have s17 := s2.trans s27
    have s07 := s1.trans s17
    have hxH : ∀ b o, H b = some o → b ≠ x := fun b o h => ne_of_none (s05 b o h) hx
    exact di2_imp _ _ _ _ ⟨x, dx, l1, l4, l5, sps, .ref da, .ref db, d, rfl, e7, ok, cp, .inl (s17 _ _ e1), .inr ⟨da, rfl, s27 _ _ e2⟩, .inr ⟨db, rfl, s37 _ _ e3⟩, .inl (s47 _ _ e4), .inl (s57 _ _ e5), Paired.mono (fun _ _ z => ⟨s07 _ _ z.1, z.2⟩) h7,
      fun H' c sr hdd keep => ⟨rfl, q x H' c (fun b o h => keep b o (hxH b o h) (s07 b o h)) sr hdd⟩⟩
end
end My

set_option Elab.async false
set_option linter.all false
set_option maxRecDepth 100000
set_option maxHeartbeats 4000000
namespace My
open PySem PySem.Spec PyProof.Rows L2
abbrev sSpo : Stmt := topI 31
abbrev NSpo : List Str := ["one"]
theorem scSpo : FnScope NSpo ["one"] (defScope sSpo) := ⟨rfl, rfl, rfl, by decide +kernel, rfl, by decide +kernel, by decide +kernel⟩
theorem same_upd3 {H H5 : Hp} {l dd : Addr} {o1 o2 o3 : HO} (s : Same H H5) (hd : H5 dd = none) (hl : H l = none) : Same H (upd (upd (upd H5 dd o1) dd o2) l o3) := fun b o h => by
  have h5 := s b o h
  rw [upd_ne (ne_of_none h hl), upd_ne (ne_of_none h5 hd), upd_ne (ne_of_none h5 hd)]
  exact h5
theorem nodup_len : ∀ {ms ns : List Str}, ms.Nodup → (∀ z ∈ ms, z ∈ ns) → ms.length ≤ ns.length
  | [], ns, _, _ => Nat.zero_le _
  | x :: ms, ns, nd, h => by
    rw [List.nodup_cons] at nd
    have p := List.perm_cons_erase (h x (List.mem_cons_self ..))
    have ih := nodup_len (ms := ms) (ns := ns.erase x) nd.2 fun z hz => (List.mem_erase_of_ne (fun e : z = x => nd.1 (by rw [← e]; exact hz))).mpr (h z (List.mem_cons_of_mem _ hz))
    rw [List.length_cons, p.length_eq, List.length_cons]
    omega
/-- all that a deed tells is changed: the deed stands -/
def spSpo (K : PySem.W.Frag) (C : Addr) : Sp := fun vs H Q _ => ∃ (x : Addr) (c : Dv), vs = [.ref x] ∧ DdAt K H C x c ∧ ∀ H' : Hp, Same H H' → Q .non H'
section
variable {P : Program} {w : World} {K : PySem.W.Frag} {mg : Str → Option Value} {base : Heap}
theorem ok_spo {f C : Addr} {fd : FuncData} (F : Fun K "_law_all_spoilt" "_law_all_spoilt" sSpo f fd) (B : Bn mg) (W : DdR P w K mg base C) : FnOk P w K mg base CX0 3 f fd ["one"] (spSpo K C) := by
  refine F.ok scSpo (fun vs H Q E h => ?_) (fun cdv A outer s H vs Q E hr h => ?_)
  · obtain ⟨x, c, rfl, _⟩ := h
    rfl
  · obtain ⟨x, c, rfl, hd, q⟩ := h
    have hr2 := hr
    have hr1 := hr.mono (by decide : 1 ≤ 2)
    refine ⟨_, (pss_cons (ps_expr (pe_app (pe_pr W.an W.T hr2 (pv 0)) pe_str))
      (pss_cons (ps_expr (pe_app (pe_pr W.go W.T hr2 (pv 0)) pe_str))
      (pss_cons (ps_expr (pe_app (pe_pr W.st W.T hr2 (pv 0)) (pe_tup (pa_cons pe_str pa_nil))))
      (pss_cons (ps_expr (pe_app (pe_meth0 (pl := (_)) (pv 0) W.T.cl W.am.of W.am.G hr1 W.am.b .nil pass0) pe_str))
      (pss_cons (ps_expr (pe_upd (pe_pr W.as W.T hr2 (pv 0)) (pe_disp (pps_cons pe_str pe_int pps_nil) (by rfl) (by rfl) (fun z => by cases z) (by decide))))
      (pss_one (ps_expr (pe_upd (pe_pr W.py W.T hr2 (pv 0)) (pe_disp (pps_cons pe_str pe_int pps_nil) (by rfl) (by rfl) (fun z => by cases z) (by decide)))))))))), ?_⟩
    have cp := hd.choose_spec.choose_spec.choose_spec.choose_spec.choose_spec.choose_spec.choose_spec.2.2.2.2.2.2.2
    obtain ⟨dx, ta, tk, tp, tg, ts, ps, hx, _⟩ := id hd
    have fw := cp.few
    refine step_seq ?_
    refine ⟨_, rfl, x, dx, _, rfl, hx, x, c, rfl, hd, fun l1 H1 hl1 s1 e1 => ⟨l1, rfl, ⟨_, e1⟩, _, e1, szl (by rw [List.length_map]; omega), ?_⟩⟩
    have t1 := My.Same.new (o := .lst (c.ans.map V.str ++ [.str "x"])) s1 hl1
    generalize upd H1 l1 (.lst (c.ans.map V.str ++ [.str "x"])) = G1 at *
    have d1 := hd.same t1
    have x1 := t1 _ _ hx
    refine step_seq ?_
    refine ⟨_, rfl, x, dx, _, rfl, x1, x, c, rfl, d1, fun l2 H2 hl2 s2 e2 => ⟨l2, rfl, ⟨_, e2⟩, _, e2, szl (by rw [List.length_map]; omega), ?_⟩⟩
    have t2 := My.Same.new (o := .lst (c.goals.map V.str ++ [.str "x"])) s2 hl2
    generalize upd H2 l2 (.lst (c.goals.map V.str ++ [.str "x"])) = G2 at *
    have d2 := d1.same t2
    have x2 := t2 _ _ x1
    refine step_seq ?_
    refine ⟨_, rfl, x, dx, _, rfl, x2, x, c, rfl, d2, fun l3 ps3 H3 hl3 s3 e3 p3 => ⟨l3, rfl, ⟨_, e3⟩, sz (by simp), fun T hT => ⟨_, by rw [upd_ne (ne_of_none e3 hT)]; exact e3, szl (by rw [List.length_map, Paired.length p3]; omega), ?_⟩⟩⟩
    have t3 := My.Same.new (o := .lst (ps3.map V.ref ++ [.ref T])) (My.Same.new' (o := .tup [.str "strike"]) s3 hT) hl3
    generalize upd (upd H3 T (.tup [.str "strike"])) l3 (.lst (ps3.map V.ref ++ [.ref T])) = G3 at *
    have d3 := d2.same t3
    have x3 := t3 _ _ x2
    refine step_seq ?_
    refine ⟨_, rfl, x, dx, _, rfl, x3, (by unfold dfs; simp only [lookup_putF]; rfl), x, c, rfl, d3, fun l4 H4 ms hl4 s4 nd mem srt e4 => ⟨l4, rfl, ⟨_, e4⟩, _, e4, szl ?_, ?_⟩⟩
    · rw [List.length_map]
      have h1 := nodup_len nd fun z hz => (mem z).mp hz
      have h2 : (marksOf c).length ≤ 12 := by
        unfold marksOf
        have lf := List.length_filterMap_le mvMark c.steps
        rw [List.length_append, List.length_append, List.length_map, List.length_append]
        omega
      omega
    have t4 := My.Same.new (o := .lst (ms.map V.str ++ [.str "x"])) s4 hl4
    generalize upd H4 l4 (.lst (ms.map V.str ++ [.str "x"])) = G4 at *
    have d4 := d3.same t4
    have x4 := t4 _ _ x3
    refine step_seq ?_
    refine ⟨_, rfl, x, dx, _, rfl, x4, x, c, rfl, d4, fun l5 H5 hl5 s5 e5 => ⟨l5, rfl, ⟨_, e5⟩, fun dd5 hdd5 => ?_⟩⟩
    have ne5 : l5 ≠ dd5 := ne_of_none e5 hdd5
    refine ⟨upd_same, [(Sum.inr "x", V.int 1)], rfl, by simp, dd5, _, _, rfl, (by rw [upd_ne ne5, upd_ne ne5]; exact e5), upd_same, ne5, sz (by rw [List.length_map]; show _ + 1 ≤ _; omega), ?_⟩
    have t5 := same_upd3 (o1 := .dK []) (o2 := .dK (mergeK [] [(Sum.inr "x", V.int 1)])) (o3 := .dK (mergeK (c.asks.map entK) (mergeK [] [(Sum.inr "x", V.int 1)]))) s5 hdd5 hl5
    generalize upd (upd (upd H5 dd5 (.dK [])) dd5 (.dK (mergeK [] [(Sum.inr "x", V.int 1)]))) l5 (.dK (mergeK (c.asks.map entK) (mergeK [] [(Sum.inr "x", V.int 1)]))) = G5 at *
    have d5 := d4.same t5
    have x5 := t5 _ _ x4
    refine ⟨_, rfl, x, dx, _, rfl, x5, x, c, rfl, d5, fun l6 H6 hl6 s6 e6 => ⟨l6, rfl, ⟨_, e6⟩, fun dd6 hdd6 => ?_⟩⟩
    have ne6 : l6 ≠ dd6 := ne_of_none e6 hdd6
    refine ⟨upd_same, [(Sum.inr "x", V.int 1)], rfl, by simp, dd6, _, _, rfl, (by rw [upd_ne ne6, upd_ne ne6]; exact e6), upd_same, ne6, sz (by rw [List.length_map]; show _ + 1 ≤ _; omega), ?_⟩
    have t6 := same_upd3 (o1 := .dK []) (o2 := .dK (mergeK [] [(Sum.inr "x", V.int 1)])) (o3 := .dK (mergeK (c.pays.map entK) (mergeK [] [(Sum.inr "x", V.int 1)]))) s6 hdd6 hl6
    exact q _ (((((t1.trans t2).trans t3).trans t4).trans t5).trans t6)
end
end My

set_option Elab.async false
set_option linter.all false
set_option maxRecDepth 100000
set_option maxHeartbeats 4000000
namespace My
open PySem PySem.Spec PyProof.Rows L2
abbrev sOth : Stmt := topI 33
abbrev NOth : List Str := ["pool", "deed", "part", "later"]
theorem scOth : FnScope NOth ["pool", "deed"] (defScope sOth) := ⟨rfl, rfl, rfl, by decide +kernel, rfl, by decide +kernel, by decide +kernel⟩
/-- [(k, d[k]) for k in d], d locked -/
theorem lc_ent {K : PySem.W.Frag} {d : Addr} {o : Obj} {kvs : List (Key × V)} {i j : Nat} {σ : L2.St} {H : Hp} {Q : VK} (hd : H d = some (.frz o (.dK kvs))) (hz : kvs.length ≤ 1000) (hk : ∀ (n : Nat) (e : Key × V), kvs[n]? = some e → valV kvs e.1 = some e.2)
    (hw : ∀ x, wipe ((wipe σ [i]).set i (some x)) [i] = wipe σ [i]) (h1 : ∀ x, ((wipe σ [i]).set i (some x))[i]? = some (some x)) (h2 : ∀ x, ((wipe σ [i]).set i (some x))[j]? = some (some (.ref d)))
    (qq : ∀ (D : Addr) (H' : Hp) (bs : List Addr), Same H H' → H' D = some (.lst (bs.map V.ref)) → Paired (fun b (e : Key × V) => H' b = some (.tup [kV e.1, e.2])) bs kvs → Q (.ref D) H') :
    lcB (Itk d o kvs) (gName i) tYes (tTup (tCons (tVar i) (tCons (tDGet (tVar j) (tVar i)) tNil))) [i] σ H Q := by
  intro D hD
  refine lc_it walk_keysAt (fun n H' => Same H H' ∧ ∃ bs : List Addr, H' D = some (.lst (bs.map V.ref)) ∧ Paired (fun b (e : Key × V) => H' b = some (.tup [kV e.1, e.2])) bs (kvs.take n)) ⟨My.Same.new (Same.refl H) hD, [], upd_same, .nil⟩ (fun n H' _ h => h.1 _ _ hd) ?_ ?_
  · rintro n x H' H2 hn ⟨sm, bs, lD, prs⟩ ⟨rfl, hx⟩
    rw [List.getElem?_map] at hx
    obtain ⟨e, he, rfl⟩ := Option.map_eq_some_iff.mp hx
    rw [List.length_map] at hn
    refine ⟨hw _, ?_⟩
    simp only [tYes, if_true]
    refine ⟨_, h1 _, _, h2 _, _, h1 _, d, e.2, rfl, .inl ⟨kvs, e.1, .inr ⟨o, sm _ _ hd⟩, rfl, (hk n e he).symm⟩, sz (by simp), fun T hT => ?_⟩
    have nT := ne_of_none lD hT
    have len : bs.length = (kvs.take n).length := Paired.length prs
    refine ⟨_, by rw [upd_ne nT]; exact lD, szl (by rw [List.length_map, len, List.length_take]; omega), My.Same.new (My.Same.new' sm hT) hD, bs ++ [T], by rw [upd_same, List.map_append]; rfl, ?_⟩
    rw [take_more he]
    refine Paired.snoc (Paired.mono (fun a b z => ?_) prs) (by rw [upd_ne (Ne.symm nT), upd_same])
    rw [upd_ne (ne_of z lD (by intro y; cases y)), upd_ne (ne_of_none z hT)]
    exact z
  · rintro H' ⟨sm, bs, lD, prs⟩
    rw [List.length_map, List.take_length] at prs
    exact qq D H' bs sm lD prs
theorem eqv_decL {xs ys : List PyData} (h1 : plA xs = true) (h2 : plA ys = true) {p : Prop} [Decidable p] (h : PyData.list xs = .list ys ↔ p) : PyData.eqv (.list xs) (.list ys) = decide p := by
  apply Bool.eq_iff_iff.mpr
  rw [decide_eq_true_eq, ← h, PyData.list.injEq, ← eqvA_pl xs ys h1 h2]
  simp [PyData.eqv]
theorem stl_inj {a b : List Stp} : PyData.list (a.map Stp.data) = .list (b.map Stp.data) ↔ a = b := by
  constructor
  · intro h
    have e := PyData.list.inj h
    exact st_inj.mp (by unfold dSt; rw [e])
  · intro h
    rw [h]
theorem txl_inj {a b : List Str} : PyData.list (a.map .str) = .list (b.map .str) ↔ a = b := by
  constructor
  · intro h
    exact map_inj (fun p q z => PyData.str.inj z) (PyData.list.inj h)
  · intro h
    rw [h]
theorem ddk_val {d : Dv} {ga an ak pa st : Addr} : ∀ (n : Nat) (e : Key × V), (ddk d ga an ak pa st)[n]? = some e → valV (ddk d ga an ak pa st) e.1 = some e.2 := by
  intro n e h
  have hn : n < 9 := (List.getElem?_eq_some_iff.mp h).1
  have : n = 0 ∨ n = 1 ∨ n = 2 ∨ n = 3 ∨ n = 4 ∨ n = 5 ∨ n = 6 ∨ n = 7 ∨ n = 8 := by omega
  rcases this with rfl | rfl | rfl | rfl | rfl | rfl | rfl | rfl | rfl <;> (obtain rfl := Option.some.inj h; rfl)
/-- a deed's dict with one part otherwise -/
def spOth : Sp := fun vs H Q _ => ∃ (p q g : Addr) (S : Addr → Prop) (d : Dv), vs = [.ref p, .ref g] ∧ Pl H p q ∧ DeedAt S H g d ∧ d.Ok ∧ d.Cps ∧ d.word ∈ five ∧ d.ans.Sublist five ∧
  ∀ (l : Addr) (H' : Hp) (e : Dv), Bt p H H' → Pl H' p q → DeedAt (fun _ => True) H' l e → e.Ok → e.Cps → (∀ b c, Srt d b → Srt e c → b ≠ c) → Q (.ref l) H'
section
variable {P : Program} {w : World} {K : PySem.W.Frag} {mg : Str → Option Value} {base : Heap}
theorem ok_oth {f : Addr} {fd : FuncData} (F : Fun K "_law_otherwise" "_law_otherwise" sOth f fd) (B : Bn mg) (D_pick : Df K mg "_law_pick" sPck ["pool", "some"]) (G_pick : FnOk P w K mg base CX0 2 D_pick.f D_pick.fd ["pool", "some"] spPckB) : FnOk P w K mg base CX0 3 f fd ["pool", "deed"] spOth := by
  refine F.ok scOth (fun vs H Q E h => ?_) (fun cdv A outer s H vs Q E hr h => ?_)
  · obtain ⟨p, q, g, S, d, rfl, _⟩ := h
    rfl
  · obtain ⟨p, q, g, S, d, rfl, pl, hdd, ok, cp, hwo, han, qq⟩ := h
    obtain ⟨ga, an, ak, pa, st, sps, hS, h1, h2, h3, h4, h5, h6, h7⟩ := id hdd
    have hr2 := hr
    have hu64 := hr.units
    have hu := hu_of hr
    refine ⟨_, (pss_cons (ps_set (i := 3) scOth.nd rfl (Or.inl rfl) (pe_callTy (call_dictP rfl) (by rfl) B.dict (by decide +kernel) (pa_cons (pe_lock (pe_lc (own := [("part", 2)]) (g := gName 2) rfl scOth.nd (pi_keys (pv 1)) (blkOk_by (own := [("part", 2)]) (N := NOth) (sc := defScope sOth) (by decide +kernel)) (fun _ _ _ _ _ => pg_name (i := 2) scOth.nd rfl (Or.inl rfl)) (fun _ _ _ _ _ => pts_nil) (fun _ _ _ _ _ => (pe_tup (pa_cons (pv 2) (pa_cons (pe_dget hu (pv 1) (pv 2) (fun _ _ => rfl)) pa_nil)))))) pa_nil)))
      (pss_cons (ps_set (i := 2) scOth.nd rfl (Or.inl rfl) (pc D_pick G_pick hr2 (pa_cons (pv 0) (pa_cons (pe_lst (pa_cons pe_str (pa_cons pe_str (pa_cons pe_str (pa_cons pe_str (pa_cons pe_str (pa_cons pe_str pa_nil))))))) pa_nil))))
      (pss_cons (ps_if (pt_cmpR op_inRow (pv 2) (pe_tup (pa_cons pe_str (pa_cons pe_str pa_nil))) (by rfl))
        (pss_one (ps_dp hu64 (pv 3) (pv 2) (pe_not (pe_dg hu64 (pv 1) (pv 2))) rfl))
        (pss_one (ps_if (pt_cmpR op_eq (pv 2) pe_str (nomark _))
          (pss_one (ps_dp hu64 (pv 3) (pv 2) pe_str rfl))
          (pss_one (ps_if (pt_cmpR op_eq (pv 2) pe_str (nomark _))
            (pss_one (ps_dp hu64 (pv 3) (pv 2) (pe_ifExp (pt_cmpR op_ne (pe_dg hu64 (pv 1) (pv 2)) pe_str (nomark _)) pe_str pe_str) rfl))
            (pss_one (ps_if (pt_cmpR op_eq (pv 2) pe_str (nomark _))
              (pss_one (ps_dp hu64 (pv 3) (pv 2) (pe_ifExp (pt_cmpR (op_neD hu64) (pe_dg hu64 (pv 1) (pv 2)) (pe_lst (pa_cons (pe_tup (pa_cons pe_str pa_nil)) pa_nil)) (nomark _)) (pe_lst (pa_cons (pe_tup (pa_cons pe_str pa_nil)) pa_nil)) (pe_lst pa_nil)) rfl))
              (pss_one (ps_dp hu64 (pv 3) (pv 2) (pe_ifExp (pt_cmpR (op_neD hu64) (pe_dg hu64 (pv 1) (pv 2)) (pe_lst (pa_cons pe_str pa_nil)) (nomark _)) (pe_lst (pa_cons pe_str pa_nil)) (pe_lst pa_nil)) rfl)))))))))
      (pss_one (ps_ret (pv 3)))))), ?_⟩
    refine step_asg ?_
    rw [rd_cb, rd_cons, rd_lockE]
    refine ⟨g, _, h1, trivial, fun od => ?_⟩
    rw [rd_lcK]
    refine ⟨_, rfl, g, od, rfl, .inl ⟨_, upd_same, ?_⟩⟩
    refine lc_ent (K := K) (j := 1) upd_same (by show 9 ≤ 1000; decide) ddk_val (fun _ => rfl) (fun _ => rfl) (fun _ => rfl) fun D H1 bs s1 lD prs => ?_
    refine ⟨s1 _ _ upd_same, ?_⟩
    have sm := same_unlock h1 s1
    have gf := s1 _ _ upd_same
    have lD2 : upd H1 g (.dK (ddk d ga an ak pa st)) D = some (.lst (bs.map V.ref)) := by rw [upd_ne (ne_of lD gf (by intro y; cases y))]; exact lD
    have prs2 : Paired (fun b (e : Key × V) => upd H1 g (.dK (ddk d ga an ak pa st)) b = some (.tup [kV e.1, e.2])) bs (ddk d ga an ak pa st) := Paired.mono (fun a b z => by rw [upd_ne (ne_of z gf (by intro y; cases y))]; exact z) prs
    generalize upd H1 g (.dK (ddk d ga an ak pa st)) = H2 at *
    rw [rd_nil]
    refine ⟨D, bs, _, rfl, SqL.of lD2, Paired.mono (fun _ _ z => SqT.of z) prs2, fun lt hlt => ?_⟩
    rw [show mergeK [] (ddk d ga an ak pa st) = ddk d ga an ak pa st from rfl]
    have s2 := My.Same.new (o := .dK (ddk d ga an ak pa st)) (Same.refl H2) hlt
    have e2 : upd H2 lt (.dK (ddk d ga an ak pa st)) lt = some (.dK (ddk d ga an ak pa st)) := upd_same
    have plt := (pl.same sm).ne hlt
    have qlt := (pl.same sm).neQ hlt
    have ltg : lt ≠ g := Ne.symm (ne_of_none (sm _ _ h1) hlt)
    have hltH : H lt = none := by
      cases e : H lt with
      | none => rfl
      | some u => rw [sm _ _ e] at hlt; cases hlt
    generalize upd H2 lt (.dK (ddk d ga an ak pa st)) = H3 at *
    have s03 := sm.trans s2
    have pl3 := pl.same s03
    -- the part
    refine step_asg ⟨_, rfl, sz (by simp), fun m1 hm1 => ?_⟩
    have s4 := My.Same.new (o := .lst [.str "word", .str "opens", .str "card", .str "whose", .str "steps", .str "answers"]) (Same.refl H3) hm1
    have e4 : upd H3 m1 (.lst [.str "word", .str "opens", .str "card", .str "whose", .str "steps", .str "answers"]) m1 = some (.lst [.str "word", .str "opens", .str "card", .str "whose", .str "steps", .str "answers"]) := upd_same
    have q4 := pl3.ne hm1
    generalize upd H3 m1 (.lst [.str "word", .str "opens", .str "card", .str "whose", .str "steps", .str "answers"]) = H4 at *
    refine ⟨p, q, m1, _, rfl, pl3.same s4, e4, q4, by simp, fun v H5 b5 pl5 hv => ?_⟩
    have B5 : Bt p H H5 := (Same.bt (s03.trans s4)).trans b5
    have e5 := b5 _ _ plt (s4 _ _ e2)
    have gp : g ≠ p := pl.neO h1 (fun _ _ e => by cases e)
    have g5 := B5 g _ gp h1
    have a2 := B5 ga _ (pl.neO h2 strs_ne) h2
    have a3 := B5 an _ (pl.neO h3 strs_ne) h3
    have a4 := PrL.btO h4 pl B5
    have a5 := PrL.btO h5 pl B5
    have a6 := B5 st _ (pl.neO h6 refs_ne) h6
    have a7 : Paired (StpAt H5) sps d.steps := Paired.mono (fun a s z => ⟨B5 _ _ (z.neP pl) z.1, z.2⟩) h7
    have close : ∀ (H6 : Hp) (k : List (Key × V)) (e : Dv) (an' st' : Addr) (sps' : List Addr), Same H5 H6 → k = ddk e ga an' ak pa st' → e.goals = d.goals → e.asks = d.asks → e.pays = d.pays → H6 an' = some (.lst (e.ans.map V.str)) → H6 st' = some (.lst (sps'.map V.ref)) → Paired (StpAt H6) sps' e.steps → e.Ok → e.Cps →
        (∀ b c, Srt d b → Srt e c → b ≠ c) → Q (.ref lt) (upd H6 lt (.dK k)) := by
      intro H6 k e an' st' sps' s6 ek eg ea ep ha hs hp eok ecp ne
      have l6 := s6 _ _ e5
      have z : ∀ b o, H6 b = some o → (∀ k, o ≠ .dK k) → upd H6 lt (.dK k) b = some o := fun b o e c => by
        rw [upd_ne (by rintro rfl; rw [l6] at e; exact c _ (Option.some.inj e).symm)]; exact e
      have z2 : ∀ {l ks}, PrL H5 l ks → PrL (upd H6 lt (.dK k)) l ks := fun ⟨ps, e1, e2⟩ => ⟨ps, z _ _ (s6 _ _ e1) (fun _ e => by cases e), Paired.mono (fun x y e => z _ _ (s6 _ _ e) (fun _ e => by cases e)) e2⟩
      refine qq lt _ e ((B5.trans (Same.bt s6)).set hltH) ((pl5.same s6).set plt qlt) ⟨ga, an', ak, pa, st', sps', ⟨trivial, trivial, trivial, trivial, trivial⟩, by rw [upd_same, ek], z _ _ (by rw [eg]; exact s6 _ _ a2) (fun _ e => by cases e), z _ _ ha (fun _ e => by cases e), by rw [ea]; exact z2 a4, by rw [ep]; exact z2 a5, z _ _ hs (fun _ e => by cases e), Paired.mono (fun a s e => ⟨z _ _ e.1 (fun _ e => by cases e), e.2⟩) hp⟩ eok ecp ne
    simp only [List.mem_cons, List.not_mem_nil, or_false] at hv
    rcases hv with rfl | rfl | rfl | rfl | rfl | rfl
    · -- word
      refine step_seq (step_if ⟨_, rfl, sz (by simp), fun T hT => ⟨T, "word", ["opens", "card"], rfl, rfl, .inr (.inl upd_same), _, rfl, ?_⟩⟩)
      dsimp only
      rw [if_neg (by decide +kernel)]
      have s6 := My.Same.new (o := .tup [.str "opens", .str "card"]) (Same.refl H5) hT
      refine step_if ⟨_, rfl, rfl, _, rfl, ?_⟩
      dsimp only
      rw [if_pos (by decide +kernel)]
      refine ⟨_, rfl, _, rfl, lt, "word", rfl, rfl, _, s6 _ _ e5, by exact (by decide : 9 < sizeLine), _, rfl, ?_⟩
      refine close _ _ { d with word := "other" } an st sps s6 rfl rfl rfl rfl (s6 _ _ a3) (s6 _ _ a6) (Paired.mono (fun _ _ z => ⟨s6 _ _ z.1, z.2⟩) a7) ⟨(by show isWord (.str "other") = true; decide +kernel), ok.ans, ok.whose, ok.asks, ok.pays, ok.goals, ok.goal, ok.few, ok.steps⟩ ⟨cp.ans, cp.asks, cp.pays, cp.asksN, cp.paysN, cp.few, cp.goals, cp.steps⟩ fun b c h k e => ?_
      have : d.word = "other" := by rw [← h.word, e, k.word]
      exact (five_ok _ hwo).2.2.1 this
    · -- opens
      refine step_seq (step_if ⟨_, rfl, sz (by simp), fun T hT => ⟨T, "opens", ["opens", "card"], rfl, rfl, .inr (.inl upd_same), _, rfl, ?_⟩⟩)
      dsimp only
      rw [if_pos (by decide +kernel)]
      have s6 := My.Same.new (o := .tup [.str "opens", .str "card"]) (Same.refl H5) hT
      refine ⟨_, rfl, _, rfl, g, "opens", rfl, rfl, _, s6 _ _ g5, .bl d.opens, rfl, d.opens, rfl, _, rfl, _, rfl, lt, "opens", rfl, rfl, _, s6 _ _ e5, by exact (by decide : 9 < sizeLine), _, rfl, ?_⟩
      refine close _ _ { d with opens := !d.opens } an st sps s6 rfl rfl rfl rfl (s6 _ _ a3) (s6 _ _ a6) (Paired.mono (fun _ _ z => ⟨s6 _ _ z.1, z.2⟩) a7) ⟨ok.word, ok.ans, ok.whose, ok.asks, ok.pays, ok.goals, ok.goal, ok.few, ok.steps⟩ ⟨cp.ans, cp.asks, cp.pays, cp.asksN, cp.paysN, cp.few, cp.goals, cp.steps⟩ fun b c h k e => ?_
      have : d.opens = !d.opens := h.opens.symm.trans ((congrArg Dv.opens e).trans k.opens)
      cases z : d.opens <;> rw [z] at this <;> cases this
    · -- card
      refine step_seq (step_if ⟨_, rfl, sz (by simp), fun T hT => ⟨T, "card", ["opens", "card"], rfl, rfl, .inr (.inl upd_same), _, rfl, ?_⟩⟩)
      dsimp only
      rw [if_pos (by decide +kernel)]
      have s6 := My.Same.new (o := .tup [.str "opens", .str "card"]) (Same.refl H5) hT
      refine ⟨_, rfl, _, rfl, g, "card", rfl, rfl, _, s6 _ _ g5, .bl d.card, rfl, d.card, rfl, _, rfl, _, rfl, lt, "card", rfl, rfl, _, s6 _ _ e5, by exact (by decide : 9 < sizeLine), _, rfl, ?_⟩
      refine close _ _ { d with card := !d.card } an st sps s6 rfl rfl rfl rfl (s6 _ _ a3) (s6 _ _ a6) (Paired.mono (fun _ _ z => ⟨s6 _ _ z.1, z.2⟩) a7) ⟨ok.word, ok.ans, ok.whose, ok.asks, ok.pays, ok.goals, ok.goal, ok.few, ok.steps⟩ ⟨cp.ans, cp.asks, cp.pays, cp.asksN, cp.paysN, cp.few, cp.goals, cp.steps⟩ fun b c h k e => ?_
      have : d.card = !d.card := h.card.symm.trans ((congrArg Dv.card e).trans k.card)
      cases z : d.card <;> rw [z] at this <;> cases this
    · -- whose
      refine step_seq (step_if ⟨_, rfl, sz (by simp), fun T hT => ⟨T, "whose", ["opens", "card"], rfl, rfl, .inr (.inl upd_same), _, rfl, ?_⟩⟩)
      dsimp only
      rw [if_neg (by decide +kernel)]
      have s6 := My.Same.new (o := .tup [.str "opens", .str "card"]) (Same.refl H5) hT
      generalize upd H5 T (.tup [.str "opens", .str "card"]) = H6 at *
      refine step_if ⟨_, rfl, rfl, _, rfl, ?_⟩
      dsimp only
      rw [if_neg (by decide +kernel)]
      refine step_if ⟨_, rfl, rfl, _, rfl, ?_⟩
      dsimp only
      rw [if_pos (by decide +kernel)]
      refine ⟨_, rfl, _, rfl, g, "whose", rfl, rfl, _, s6 _ _ g5, .str d.whose, rfl, rfl, _, rfl, ?_⟩
      dsimp only
      by_cases hw : d.whose = "own"
      · rw [if_neg (by rw [hw]; simp)]
        refine ⟨_, rfl, _, rfl, lt, "whose", rfl, rfl, _, s6 _ _ e5, by exact (by decide : 9 < sizeLine), _, rfl, ?_⟩
        refine close _ _ { d with whose := "any" } an st sps s6 rfl rfl rfl rfl (s6 _ _ a3) (s6 _ _ a6) (Paired.mono (fun _ _ z => ⟨s6 _ _ z.1, z.2⟩) a7) ⟨ok.word, ok.ans, (by show hasS ["any", "own", "other"] (.str "any") = true; decide +kernel), ok.asks, ok.pays, ok.goals, ok.goal, ok.few, ok.steps⟩ ⟨cp.ans, cp.asks, cp.pays, cp.asksN, cp.paysN, cp.few, cp.goals, cp.steps⟩ fun b c h k e => ?_
        have : d.whose = "any" := h.whose.symm.trans ((congrArg Dv.whose e).trans k.whose)
        rw [hw] at this
        exact absurd this (by decide +kernel)
      · rw [if_pos (by simp [hw])]
        refine ⟨_, rfl, _, rfl, lt, "whose", rfl, rfl, _, s6 _ _ e5, by exact (by decide : 9 < sizeLine), _, rfl, ?_⟩
        refine close _ _ { d with whose := "own" } an st sps s6 rfl rfl rfl rfl (s6 _ _ a3) (s6 _ _ a6) (Paired.mono (fun _ _ z => ⟨s6 _ _ z.1, z.2⟩) a7) ⟨ok.word, ok.ans, (by show hasS ["any", "own", "other"] (.str "own") = true; decide +kernel), ok.asks, ok.pays, ok.goals, ok.goal, ok.few, ok.steps⟩ ⟨cp.ans, cp.asks, cp.pays, cp.asksN, cp.paysN, cp.few, cp.goals, cp.steps⟩ fun b c h k e => ?_
        exact hw (h.whose.symm.trans ((congrArg Dv.whose e).trans k.whose))
    · -- steps
      refine step_seq (step_if ⟨_, rfl, sz (by simp), fun T hT => ⟨T, "steps", ["opens", "card"], rfl, rfl, .inr (.inl upd_same), _, rfl, ?_⟩⟩)
      dsimp only
      rw [if_neg (by decide +kernel)]
      have s6 := My.Same.new (o := .tup [.str "opens", .str "card"]) (Same.refl H5) hT
      generalize upd H5 T (.tup [.str "opens", .str "card"]) = H6 at *
      refine step_if ⟨_, rfl, rfl, _, rfl, ?_⟩
      dsimp only
      rw [if_neg (by decide +kernel)]
      refine step_if ⟨_, rfl, rfl, _, rfl, ?_⟩
      dsimp only
      rw [if_neg (by decide +kernel)]
      refine step_if ⟨_, rfl, rfl, _, rfl, ?_⟩
      dsimp only
      rw [if_pos (by decide +kernel)]
      refine ⟨_, rfl, _, rfl, g, "steps", rfl, rfl, _, s6 _ _ g5, .ref st, rfl, sz (by simp), fun T1 hT1 => ⟨sz (by simp), fun L1 hL1 => ?_⟩⟩
      have s7 := My.Same.new (o := .tup [.str "strike"]) (Same.refl H6) hT1
      have e7 : upd H6 T1 (.tup [.str "strike"]) T1 = some (.tup [.str "strike"]) := upd_same
      generalize upd H6 T1 (.tup [.str "strike"]) = H7 at *
      have s8 := My.Same.new (o := .lst [.ref T1]) (Same.refl H7) hL1
      have e8 : upd H7 L1 (.lst [.ref T1]) L1 = some (.lst [.ref T1]) := upd_same
      generalize upd H7 L1 (.lst [.ref T1]) = H8 at *
      have s68 := s7.trans s8
      have s58 := s6.trans s68
      refine ⟨.list (d.steps.map Stp.data), .list ([Stp.act "strike"].map Stp.data), dp_stl (s58 _ _ a6) (Paired.mono (fun _ _ z => ⟨s58 _ _ z.1, z.2⟩) a7), .lst (SqL.of e8) (.cons (.tup (SqT.of (s8 _ _ e7)) (.cons (.str _) .nil)) .nil), shaped_stl cp.steps, by decide +kernel, _, rfl, ?_⟩
      rw [eqv_decL (p := d.steps = [Stp.act "strike"]) (pl_st d.steps) (pl_st [Stp.act "strike"]) stl_inj]
      dsimp only
      by_cases hs : d.steps = [Stp.act "strike"]
      · rw [if_neg (by simp [hs])]
        refine ⟨sz (by simp), fun L2 hL2 => ?_⟩
        have s9 := My.Same.new (o := .lst []) (Same.refl H8) hL2
        have e9 : upd H8 L2 (.lst []) L2 = some (.lst []) := upd_same
        generalize upd H8 L2 (.lst []) = H9 at *
        have s59 := s58.trans s9
        refine ⟨_, rfl, _, rfl, lt, "steps", rfl, rfl, _, s59 _ _ e5, by exact (by decide : 9 < sizeLine), _, rfl, ?_⟩
        refine close _ _ { d with steps := [] } an L2 [] s59 rfl rfl rfl rfl (s59 _ _ a3) e9 .nil ⟨ok.word, ok.ans, ok.whose, ok.asks, ok.pays, ok.goals, ok.goal, Nat.zero_le _, rfl⟩ ⟨cp.ans, cp.asks, cp.pays, cp.asksN, cp.paysN, ⟨cp.few.1, cp.few.2.1, cp.few.2.2.1, cp.few.2.2.2.1, Nat.zero_le _⟩, cp.goals, fun s h => nomatch h⟩ fun b c h k e => ?_
        have : d.steps = [] := h.steps.symm.trans ((congrArg Dv.steps e).trans k.steps)
        rw [hs] at this
        cases this
      · rw [if_pos (by simp [hs])]
        refine ⟨sz (by simp), fun T2 hT2 => ⟨sz (by simp), fun L2 hL2 => ?_⟩⟩
        have s9 := My.Same.new (o := .tup [.str "strike"]) (Same.refl H8) hT2
        have e9 : upd H8 T2 (.tup [.str "strike"]) T2 = some (.tup [.str "strike"]) := upd_same
        generalize upd H8 T2 (.tup [.str "strike"]) = H9 at *
        have s10 := My.Same.new (o := .lst [.ref T2]) (Same.refl H9) hL2
        have e10 : upd H9 L2 (.lst [.ref T2]) L2 = some (.lst [.ref T2]) := upd_same
        generalize upd H9 L2 (.lst [.ref T2]) = H10 at *
        have s510 := s58.trans (s9.trans s10)
        refine ⟨_, rfl, _, rfl, lt, "steps", rfl, rfl, _, s510 _ _ e5, by exact (by decide : 9 < sizeLine), _, rfl, ?_⟩
        refine close _ _ { d with steps := [.act "strike"] } an L2 [T2] s510 rfl rfl rfl rfl (s510 _ _ a3) e10 (.cons ⟨s10 _ _ e9, trivial⟩ .nil) ⟨ok.word, ok.ans, ok.whose, ok.asks, ok.pays, ok.goals, ok.goal, by show 1 ≤ 4; decide, ?_⟩ ⟨cp.ans, cp.asks, cp.pays, cp.asksN, cp.paysN, ⟨cp.few.1, cp.few.2.1, cp.few.2.2.1, cp.few.2.2.2.1, by show 1 ≤ 4; decide⟩, cp.goals, fun s h => ?_⟩ fun b c h k e => ?_
        · show stepsOk (decide (0 < d.goals.length)) [.act "strike"] = true
          cases decide (0 < d.goals.length) <;> decide +kernel
        · rw [List.mem_singleton.mp h]
          exact acts_cps "strike" (by decide +kernel)
        · exact hs (h.steps.symm.trans ((congrArg Dv.steps e).trans k.steps))
    · -- answers
      refine step_seq (step_if ⟨_, rfl, sz (by simp), fun T hT => ⟨T, "answers", ["opens", "card"], rfl, rfl, .inr (.inl upd_same), _, rfl, ?_⟩⟩)
      dsimp only
      rw [if_neg (by decide +kernel)]
      have s6 := My.Same.new (o := .tup [.str "opens", .str "card"]) (Same.refl H5) hT
      generalize upd H5 T (.tup [.str "opens", .str "card"]) = H6 at *
      refine step_if ⟨_, rfl, rfl, _, rfl, ?_⟩
      dsimp only
      rw [if_neg (by decide +kernel)]
      refine step_if ⟨_, rfl, rfl, _, rfl, ?_⟩
      dsimp only
      rw [if_neg (by decide +kernel)]
      refine step_if ⟨_, rfl, rfl, _, rfl, ?_⟩
      dsimp only
      rw [if_neg (by decide +kernel)]
      refine ⟨_, rfl, _, rfl, g, "answers", rfl, rfl, _, s6 _ _ g5, .ref an, rfl, sz (by simp), fun L1 hL1 => ?_⟩
      have s7 := My.Same.new (o := .lst [.str "zz"]) (Same.refl H6) hL1
      have e7 : upd H6 L1 (.lst [.str "zz"]) L1 = some (.lst [.str "zz"]) := upd_same
      generalize upd H6 L1 (.lst [.str "zz"]) = H7 at *
      have s57 := s6.trans s7
      refine ⟨.list (d.ans.map .str), .list (((["zz"] : List Str)).map .str), dp_strs (s57 _ _ a3), .lst (SqL.of e7) (.cons (.str _) .nil), sh_strs cp.ans, by decide +kernel, _, rfl, ?_⟩
      rw [eqv_decL (p := d.ans = (["zz"] : List Str)) (pl_tx d.ans) (pl_tx (["zz"] : List Str)) txl_inj]
      dsimp only
      have nz : ∀ x ∈ d.ans, x ≠ "zz" := fun x hx => (five_ok x (han.subset hx)).2.2.2
      have hs : ¬ d.ans = (["zz"] : List Str) := fun e => nz "zz" (by rw [e]; simp) rfl
      rw [if_pos (by simp [hs])]
      refine ⟨sz (by simp), fun L2 hL2 => ?_⟩
      have s9 := My.Same.new (o := .lst [.str "zz"]) (Same.refl H7) hL2
      have e9 : upd H7 L2 (.lst [.str "zz"]) L2 = some (.lst [.str "zz"]) := upd_same
      generalize upd H7 L2 (.lst [.str "zz"]) = H9 at *
      have s59 := s57.trans s9
      refine ⟨_, rfl, _, rfl, lt, "answers", rfl, rfl, _, s59 _ _ e5, by exact (by decide : 9 < sizeLine), _, rfl, ?_⟩
      refine close _ _ { d with ans := ["zz"] } L2 st sps s59 rfl rfl rfl rfl e9 (s59 _ _ a6) (Paired.mono (fun _ _ z => ⟨s59 _ _ z.1, z.2⟩) a7) ⟨ok.word, ⟨by show 1 ≤ 6; decide, by simp, fun x hx => ?_⟩, ok.whose, ok.asks, ok.pays, ok.goals, ok.goal, ok.few, ok.steps⟩ ⟨fun x hx => ?_, cp.asks, cp.pays, cp.asksN, cp.paysN, ⟨by show 1 ≤ 6; decide, cp.few.2⟩, cp.goals, cp.steps⟩ fun b c h k e => ?_
      · rw [List.mem_singleton.mp hx]
        decide +kernel
      · rw [List.mem_singleton.mp hx]
        unfold okCps
        decide +kernel
      · have p1 := k.ans
        rw [← e] at p1
        have m : ("zz" : Str) ∈ d.ans := h.ans.mem_iff.mp (p1.mem_iff.mpr (List.mem_singleton.mpr rfl))
        exact nz "zz" m rfl
end
end My

set_option Elab.async false
set_option linter.all false
set_option maxRecDepth 100000
set_option maxHeartbeats 2000000
namespace My
open PySem PySem.Spec PyProof.Rows L2
/-- repr(a), a a list, a tuple or a dict of data, its text of any length that a row may have -/
def rReprS (K : PySem.W.Frag) : List V → Hp → VK → Prop := fun vs H Q => ∃ (a : Addr) (d : PyData), vs = [.ref a] ∧ Dq K H (.ref a) d ∧ d.showable = true ∧ d.depth ≤ 6 ∧ d.shown.length ≤ sizeLine ∧ Q (.str d.shown) H
theorem rd_reprS {K : PySem.W.Frag} {v : V} {H : Hp} {Q : VK} : rReprS K [v] H Q = ∃ (a : Addr) (d : PyData), v = .ref a ∧ Dq K H (.ref a) d ∧ d.showable = true ∧ d.depth ≤ 6 ∧ d.shown.length ≤ sizeLine ∧ Q (.str d.shown) H := by
  simp [rReprS]
theorem call_reprS {X : Cx} (hg : X.A.guards = some []) (hu : X.A.units + 64 < cLine) : CallR X (.builtin "repr") (rReprS X.K) := by
  intro pins s σ H xs us Q I r h
  obtain ⟨a, d, rfl, hd, hs, hp, hl, q⟩ := h
  cases r with
  | cons r1 r2 =>
    cases r2
    cases r1
    exact (Dq.rz I d _ _ hd rfl).repr hs hl hg (by omega) (fun _ _ e => e) (fun h' u tk hk => ⟨.str d.shown, H, I.kept hk, ⟨u, rfl⟩, q⟩)
end My

set_option Elab.async false
set_option linter.all false
set_option maxRecDepth 100000
set_option maxHeartbeats 2000000
namespace My
open PySem PySem.Spec PyProof.Rows L2
/-- a text that is shown in few signs -/
def Sm (x : Str) : Prop := okCps x ∧ x.length ≤ 8
theorem word_sm {x : Str} (h : isWord (.str x) = true) : Sm x := by
  have h1 : ((decide (1 ≤ x.length) && decide (x.length ≤ 8)) && x.cps.toList.all fun c => decide (c ∈ letters.cps.toList)) = true := h
  simp only [Bool.and_eq_true, decide_eq_true_eq, List.all_eq_true] at h1
  refine ⟨?_, h1.1.2⟩
  unfold okCps
  rw [Array.all_eq_true']
  intro c hc
  have z : ∀ c ∈ letters.cps.toList, c < 0x110000 := by decide +kernel
  exact decide_eq_true (z c (h1.2 c (Array.mem_toList_iff.mpr hc)))
theorem sm_short {x : Str} (h : Sm x) : PyData.leavesShort 13 (.str x) = true := by
  simp only [PyData.leavesShort, List.all_eq_true, decide_eq_true_eq]
  intro c hc
  have := h.1
  unfold okCps at this
  rw [Array.all_eq_true'] at this
  have z := of_decide_eq_true (this c (Array.mem_toList_iff.mp hc))
  exact Nat.lt_trans z (by decide)
structure GdA (ds : List PyData) (n w : Nat) : Prop where
  show_ : PyData.showableAll ds = true
  short : PyData.leavesShortAll 13 ds = true
  depth : PyData.depthAll ds ≤ n
  weight : PyData.weightAll ds ≤ w
theorem gd_nil {n : Nat} : GdA [] n 0 := ⟨rfl, rfl, Nat.zero_le _, Nat.le_refl _⟩
theorem gd_cons {d : PyData} {ds : List PyData} {n a b : Nat} (h1 : d.showable = true) (h2 : d.leavesShort 13 = true) (h3 : d.depth ≤ n) (h4 : d.weight ≤ a) (k : GdA ds n b) : GdA (d :: ds) n (a + 1 + b) :=
  ⟨by simp [PyData.showableAll, h1, k.show_], by simp [PyData.leavesShortAll, h2, k.short], by simp only [PyData.depthAll]; exact Nat.max_le.mpr ⟨h3, k.depth⟩, by simp only [PyData.weightAll]; have := k.weight; omega⟩
theorem gd_txs : ∀ {ws : List Str}, (∀ x ∈ ws, Sm x) → GdA (ws.map .str) 0 (9 * ws.length)
  | [], _ => gd_nil
  | w :: ws, h => by
    have ih := gd_txs (ws := ws) fun x hx => h x (List.mem_cons_of_mem _ hx)
    have hw := h w (List.mem_cons_self ..)
    have g := gd_cons (d := .str w) (n := 0) (a := 8) rfl (sm_short hw) (Nat.zero_le _) hw.2 ih
    exact ⟨g.show_, g.short, g.depth, Nat.le_trans g.weight (by rw [List.length_cons]; omega)⟩
theorem gd_list {ds : List PyData} {n w : Nat} (h : GdA ds n w) : (PyData.list ds).showable = true ∧ (PyData.list ds).leavesShort 13 = true ∧ (PyData.list ds).depth ≤ n + 1 ∧ (PyData.list ds).weight ≤ w :=
  ⟨h.show_, h.short, Nat.succ_le_succ h.depth, h.weight⟩
theorem gd_tuple {ds : List PyData} {n w : Nat} (h : GdA ds n w) : (PyData.tuple ds).showable = true ∧ (PyData.tuple ds).leavesShort 13 = true ∧ (PyData.tuple ds).depth ≤ n + 1 ∧ (PyData.tuple ds).weight ≤ w :=
  ⟨h.show_, h.short, Nat.succ_le_succ h.depth, h.weight⟩
theorem num_ok : ∀ i : Int, 1 ≤ i → i ≤ 3 → (PyData.int i).showable = true ∧ (PyData.int i).leavesShort 13 = true ∧ (PyData.int i).weight ≤ 2 := by
  intro i h1 h2
  have : i = 1 ∨ i = 2 ∨ i = 3 := by omega
  rcases this with rfl | rfl | rfl <;> exact ⟨by decide +kernel, by decide +kernel, by decide +kernel⟩
theorem gd_kvs : ∀ {ks : List (Str × Int)}, (∀ e ∈ ks, Sm e.1 ∧ 1 ≤ e.2 ∧ e.2 ≤ 3) → PyData.showableKv (ks.map fun e => (.str e.1, .int e.2)) = true ∧ PyData.leavesShortKv 13 (ks.map fun e => (.str e.1, .int e.2)) = true ∧ PyData.depthKv (ks.map fun e => (.str e.1, .int e.2)) ≤ 0 ∧ PyData.weightKv (ks.map fun e => (.str e.1, .int e.2)) ≤ 12 * ks.length
  | [], _ => ⟨rfl, rfl, Nat.le_refl _, Nat.le_refl _⟩
  | e :: ks, h => by
    obtain ⟨a, b, c, d⟩ := gd_kvs (ks := ks) fun x hx => h x (List.mem_cons_of_mem _ hx)
    obtain ⟨he, h1, h2⟩ := h e (List.mem_cons_self ..)
    obtain ⟨n1, n2, n3⟩ := num_ok e.2 h1 h2
    have s1 := sm_short he
    have w1 : (PyData.str e.1).weight ≤ 8 := he.2
    refine ⟨?_, ?_, ?_, ?_⟩
    · rw [List.map_cons]
      simp only [PyData.showableKv, a, n1, Bool.and_true]
      rfl
    · rw [List.map_cons]
      simp only [PyData.leavesShortKv, s1, n2, b, Bool.and_true]
    · rw [List.map_cons]
      simp only [PyData.depthKv]
      exact Nat.max_le.mpr ⟨Nat.le_refl _, c⟩
    · rw [List.map_cons, List.length_cons]
      simp only [PyData.weightKv]
      omega
theorem gd_sts : ∀ {sts : List Stp}, (∀ s ∈ sts, match s with | .act a => Sm a | .move d m => Sm d ∧ Sm m) → GdA (sts.map Stp.data) 1 (19 * sts.length)
  | [], _ => gd_nil
  | s :: sts, h => by
    have ih := gd_sts (sts := sts) fun x hx => h x (List.mem_cons_of_mem _ hx)
    have hs := h s (List.mem_cons_self ..)
    have t : ∃ ws : List Str, s.data = .tuple (ws.map .str) ∧ (∀ x ∈ ws, Sm x) ∧ ws.length ≤ 2 := by
      cases s with
      | act a => exact ⟨[a], rfl, fun x hx => by rw [List.mem_singleton.mp hx]; exact hs, by simp⟩
      | move d m => exact ⟨[d, m], rfl, fun x hx => by
          rcases List.mem_cons.mp hx with rfl | hx
          · exact hs.1
          · rw [List.mem_singleton.mp hx]; exact hs.2, by simp⟩
    obtain ⟨ws, e, hws, len⟩ := t
    obtain ⟨a, b, c, d⟩ := gd_tuple (gd_txs hws)
    rw [List.map_cons, e]
    have g := gd_cons (n := 1) a b c d ih
    exact ⟨g.show_, g.short, g.depth, Nat.le_trans g.weight (by rw [List.length_cons]; omega)⟩
def StpSm : Stp → Prop
  | .act a => Sm a
  | .move d m => Sm d ∧ Sm m
/-- a deed all whose texts are short -/
structure Dv.Sms (c : Dv) : Prop where
  word : Sm c.word
  whose : Sm c.whose
  ans : ∀ x ∈ c.ans, Sm x
  asks : ∀ e ∈ c.asks, Sm e.1 ∧ 1 ≤ e.2 ∧ e.2 ≤ 3
  pays : ∀ e ∈ c.pays, Sm e.1 ∧ 1 ≤ e.2 ∧ e.2 ≤ 3
  goals : ∀ x ∈ c.goals, Sm x
  steps : ∀ s ∈ c.steps, StpSm s
theorem act_sm {sts : List Stp} (h : ∀ s ∈ sts, StpSm s) : Sm (actOf sts) := by
  have st : Sm "stay" := ⟨by unfold okCps; decide +kernel, by decide +kernel⟩
  unfold actOf
  cases e : sts.getLast? with
  | none => exact st
  | some s =>
    cases s with
    | act a => exact h _ (List.mem_of_getLast? e)
    | move d m => exact st
theorem marks_sm {c : Dv} (h : c.Sms) : ∀ x ∈ marksOf c, Sm x := by
  intro x hx
  unfold marksOf at hx
  rcases List.mem_append.mp hx with hx | hx
  · rcases List.mem_append.mp hx with hx | hx
    · obtain ⟨e, he, rfl⟩ := List.mem_map.mp hx
      rcases List.mem_append.mp he with he | he
      · exact (h.asks e he).1
      · exact (h.pays e he).1
    · obtain ⟨s, hs, e⟩ := List.mem_filterMap.mp hx
      have := h.steps s hs
      cases s with
      | act a => cases e
      | move d m =>
        have e2 : (if m = "goal" then none else some m) = some x := e
        by_cases z : m = "goal"
        · rw [if_pos z] at e2
          cases e2
        · rw [if_neg z] at e2
          obtain rfl := Option.some.inj e2
          exact this.2
  · exact h.goals x hx
theorem told_ok {c : Dv} {ms : List Str} (h : c.Sms) (cp : c.Cps) (hm : MkOf c ms) : (toldD c ms).showable = true ∧ (toldD c ms).depth ≤ 6 ∧ (toldD c ms).shown.length ≤ sizeLine := by
  have fw := cp.few
  have ml : ms.length ≤ 12 := by
    have h1 := nodup_len hm.1 fun z hz => (hm.2.1 z).mp hz
    have h2 : (marksOf c).length ≤ 12 := by
      unfold marksOf
      have lf := List.length_filterMap_le mvMark c.steps
      rw [List.length_append, List.length_append, List.length_map, List.length_append]
      omega
    omega
  have sms : ∀ x ∈ ms, Sm x := fun x hx => marks_sm h x ((hm.2.1 x).mp hx)
  have keyA : ∀ x ∈ c.asks.map (·.1), Sm x := fun x hx => by
    obtain ⟨e, he, rfl⟩ := List.mem_map.mp hx
    exact (h.asks e he).1
  have keyP : ∀ x ∈ c.pays.map (·.1), Sm x := fun x hx => by
    obtain ⟨e, he, rfl⟩ := List.mem_map.mp hx
    exact (h.pays e he).1
  have str : ∀ {x : Str} {ds : List PyData} {b : Nat}, Sm x → GdA ds 2 b → GdA (.str x :: ds) 2 (9 + b) := fun hx k => gd_cons (a := 8) rfl (sm_short hx) (Nat.zero_le _) hx.2 k
  have boo : ∀ {x : Bool} {ds : List PyData} {b : Nat}, GdA ds 2 b → GdA (.bool x :: ds) 2 (1 + b) := fun k => gd_cons (a := 0) rfl rfl (Nat.zero_le _) (Nat.le_refl _) k
  have txl : ∀ {ws : List Str} {ds : List PyData} {b : Nat}, (∀ x ∈ ws, Sm x) → GdA ds 2 b → GdA (dTxL ws :: ds) 2 (9 * ws.length + 1 + b) := fun hx k =>
    let ⟨a1, a2, a3, a4⟩ := gd_list (gd_txs hx)
    gd_cons a1 a2 (Nat.le_trans a3 (by decide)) a4 k
  have cnd : ∀ {ks : List (Str × Int)} {ds : List PyData} {b : Nat}, (∀ e ∈ ks, Sm e.1 ∧ 1 ≤ e.2 ∧ e.2 ≤ 3) → GdA ds 2 b → GdA (dCnD ks :: ds) 2 (12 * ks.length + 1 + b) := fun hx k =>
    let ⟨a1, a2, a3, a4⟩ := gd_kvs hx
    gd_cons a1 a2 (Nat.le_trans (Nat.succ_le_succ a3) (by decide)) a4 k
  have stl : ∀ {ds : List PyData} {b : Nat}, GdA ds 2 b → GdA (dStL c.steps :: ds) 2 (19 * c.steps.length + 1 + b) := fun k =>
    let ⟨a1, a2, a3, a4⟩ := gd_list (gd_sts (sts := c.steps) fun s hs => by
      have := h.steps s hs
      cases s <;> exact this)
    gd_cons a1 a2 a3 a4 k
  have all := str h.word (boo (x := c.opens) (txl h.ans (str h.whose (cnd h.asks (txl keyA (cnd h.pays (txl keyP (boo (x := c.card) (txl h.goals (stl (str (act_sm h.steps) (txl sms gd_nil))))))))))))
  obtain ⟨a1, a2, a3, a4⟩ := gd_list all
  refine ⟨a1, Nat.le_trans a3 (by decide), PyData.shown_fits (B := 13) (by decide) (by decide) a2 (Nat.le_trans a4 ?_)⟩
  rw [List.length_map, List.length_map]
  have : (2 : Nat) ^ 20 = 1048576 := by decide
  omega
theorem Srt.sms {d c : Dv} (h : Srt d c) (k : d.Sms) : c.Sms where
  word := h.word ▸ k.word
  whose := h.whose ▸ k.whose
  ans := fun x hx => k.ans x (h.ans.mem_iff.mp hx)
  asks := fun x hx => k.asks x (h.asks.mem_iff.mp hx)
  pays := fun x hx => k.pays x (h.pays.mem_iff.mp hx)
  goals := fun x hx => k.goals x (h.goals.mem_iff.mp hx)
  steps := fun x hx => k.steps x (h.steps ▸ hx)
theorem lit_sm : ∀ x ∈ (["any", "own", "other", "more", "less", "goal", "strike", "again", "turn"] : List Str), Sm x := by
  intro x hx
  have z : ∀ x ∈ (["any", "own", "other", "more", "less", "goal", "strike", "again", "turn"] : List Str), (x.cps.all (· < 0x110000) && decide (x.length ≤ 8)) = true := by decide +kernel
  have y := z x hx
  rw [Bool.and_eq_true, decide_eq_true_eq] at y
  exact y
theorem cnts_sm {ks cs : List (Str × Int)} (hk : ks ∈ marks7) (h : Cnts ks cs) : ∀ e ∈ cs, Sm e.1 ∧ 1 ≤ e.2 ∧ e.2 ≤ 3 := by
  obtain ⟨kz, kc, knd, kmk⟩ := marks7_ok ks hk
  intro e he
  obtain ⟨f, hf, q⟩ := List.mem_map.mp (h.1.subset (List.mem_map_of_mem he))
  rw [← q]
  exact ⟨⟨(kmk f hf).2.1, (kmk f hf).2.2⟩, h.2 e he⟩
theorem drn_sms {ws : List Str} {ks : List (Str × Int)} {d : Dv} (hw : Wds ws) (hk : ks ∈ marks7) (h : Drn ws ks d) (hd : d.word ∈ ws) : d.Sms := by
  obtain ⟨kz, kc, knd, kmk⟩ := marks7_ok ks hk
  have mk : ∀ x ∈ ks.map (·.1), Sm x := fun x hx => by
    obtain ⟨f, hf, q⟩ := List.mem_map.mp hx
    rw [← q]
    exact ⟨(kmk f hf).2.1, (kmk f hf).2.2⟩
  have fv : ∀ x ∈ five, Sm x := fun x hx => word_sm (five_ok x hx).1
  refine ⟨fv _ (hw.1.subset hd), lit_sm _ ?_, fun x hx => fv x ((h.ans.trans hw.1).subset hx), cnts_sm hk h.asks, cnts_sm hk h.pays, fun x hx => ?_, fun s hs => ?_⟩
  · have := h.whose
    simp only [List.mem_cons, List.not_mem_nil, or_false] at this ⊢
    rcases this with e | e | e <;> simp [e]
  · obtain ⟨n, _, hg⟩ := h.goals
    rw [hg] at hx
    exact mk x ((List.take_sublist _ _).subset hx)
  · obtain ⟨mv, a, _, hst, hmo, hac⟩ := h.steps
    rw [hst] at hs
    rcases List.mem_append.mp hs with hs | hs
    · obtain ⟨dir, m, rfl, hdir, hm⟩ := hmo s hs
      refine ⟨lit_sm _ ?_, ?_⟩
      · simp only [List.mem_cons, List.not_mem_nil, or_false] at hdir ⊢
        rcases hdir with e | e <;> simp [e]
      · rcases List.mem_append.mp hm with hm | hm
        · exact mk m hm
        · split at hm
          · cases hm
          · rw [List.mem_singleton.mp hm]
            exact lit_sm _ (by simp)
    · obtain ⟨x, hx, rfl⟩ := List.mem_map.mp hs
      have := hac x (by simpa using hx)
      refine lit_sm _ ?_
      unfold acts at this
      simp only [List.mem_cons, List.not_mem_nil, or_false] at this ⊢
      rcases this with e | e | e <;> simp [e]
end My

set_option Elab.async false
set_option linter.all false
set_option maxRecDepth 100000
set_option maxHeartbeats 4000000
namespace My
open PySem PySem.Spec PyProof.Rows L2
abbrev sIso : Stmt := topI 30
abbrev NIso : List Str := ["pool", "rows", "found", "one"]
theorem scIso : FnScope NIso ["pool", "rows"] (defScope sIso) := ⟨rfl, rfl, rfl, by decide +kernel, rfl, by decide +kernel, by decide +kernel⟩
/-- a list in some drawn order -/
def spIso : Sp := fun vs H Q _ => ∃ (p q a : Addr) (xs : List V), vs = [.ref p, .ref a] ∧ Pl H p q ∧ H a = some (.lst xs) ∧ a ≠ p ∧ xs.length ≤ 20 ∧ ∀ (l : Addr) (H' : Hp) (ys : List V), H l = none → l ≠ p → Bt p H H' → Pl H' p q → ys.Perm xs → H' l = some (.lst ys) → Q (.ref l) H'
theorem ins_perm (ys : List V) (i : Nat) (x : V) : (ys.take i ++ [x] ++ ys.drop i).Perm (ys ++ [x]) := by
  have e : ys = ys.take i ++ ys.drop i := (List.take_append_drop i ys).symm
  rw [List.append_assoc]
  refine (List.Perm.append_left _ (List.perm_append_comm)).trans ?_
  rw [← List.append_assoc, ← e]
section
variable {P : Program} {w : World} {K : PySem.W.Frag} {mg : Str → Option Value} {base : Heap}
theorem ok_iso {f : Addr} {fd : FuncData} (F : Fun K "_law_in_some_order" "_law_in_some_order" sIso f fd) (B : Bn mg) (D_draw : Df K mg "_law_draw" sDrw ["pool", "many"]) (G_draw : FnOk P w K mg base CX0 1 D_draw.f D_draw.fd ["pool", "many"] spDrwB) : FnOk P w K mg base CX0 2 f fd ["pool", "rows"] spIso := by
  refine F.ok scIso (fun vs H Q E h => ?_) (fun cdv A outer s H vs Q E hr h => ?_)
  · obtain ⟨p, q, a, xs, rfl, _⟩ := h
    rfl
  · obtain ⟨p, q, a, xs, rfl, pl, ha, na, hz, qq⟩ := h
    have hr1 := hr
    refine ⟨_, (pss_cons (ps_set (i := 2) scIso.nd rfl (Or.inl rfl) (pe_lst pa_nil))
      (pss_cons (ps_for PassesOwn.never rfl (pi_list (pv 1)) (pg_name (i := 3) scIso.nd rfl (Or.inl rfl))
        (pss_one (ps_expr (pe_ins (pv 2) (pc D_draw G_draw hr1 (pa_cons (pv 0) (pa_cons (pe_op op_add (pe_callB call_lenL (by rfl) B.len (by decide +kernel) (pa_cons (pv 2) pa_nil)) pe_int) pa_nil))) (pv 3)))))
      (pss_one (ps_ret (pv 2))))), ?_⟩
    refine step_asg ⟨sz (by simp), fun l hl => ?_⟩
    have nl := pl.ne hl
    have ql := pl.neQ hl
    refine step_seq ?_
    refine ⟨_, rfl, a, rfl, ⟨_, SqL.of (by rw [upd_ne (ne_of_none ha hl)]; exact ha)⟩, for_it (walk_list (xs := xs)) (fun i σ H' => ∃ w3 : Option V, σ = [some (.ref p), some (.ref a), some (.ref l), w3] ∧ Bt p H H' ∧ Pl H' p q ∧ ∃ ys : List V, H' l = some (.lst ys) ∧ ys.Perm (xs.take i)) ⟨_, rfl, (Bt.refl p H).set hl, pl.set nl ql, [], upd_same, .nil⟩ (fun _ _ _ _ ⟨_, _, b, _⟩ => SqL.of (b _ _ na ha)) ?_ ?_⟩
    · rintro i x _ H1 H2 hi ⟨w3, rfl, b1, pl1, ys, ly, perm⟩ ⟨rfl, hx⟩
      have len : ys.length = i := by rw [perm.length_eq, List.length_take]; omega
      refine ⟨_, rfl, l, rfl, ⟨_, ly⟩, _, rfl, _, rfl, l, rfl, ys, ly, ?_⟩
      refine ⟨_, 1, rfl, rfl, p, q, (ys.length : Int) + 1, rfl, by omega, pl1, fun r H3 b3 pl3 r0 r1 => ⟨_, rfl, r, ys, rfl, b3 _ _ nl ly, szl (by omega), r0, by omega, ?_⟩⟩
      refine ⟨_, rfl, (b1.trans b3).set hl, pl3.set nl ql, _, upd_same, ?_⟩
      rw [take_more hx]
      exact (ins_perm ys r.toNat x).trans (perm.append_right _)
    · rintro _ H1 ⟨w3, rfl, b1, pl1, ys, ly, perm⟩
      rw [List.take_length] at perm
      exact ⟨_, rfl, qq l H1 ys hl nl b1 pl1 perm ly⟩
end
end My

set_option Elab.async false
set_option linter.all false
set_option maxRecDepth 100000
set_option maxHeartbeats 4000000
namespace My
open PySem PySem.Spec PyProof.Rows L2
/-- all that is no list stands -/
def Lo (H H' : Hp) : Prop := ∀ a u, H a = some u → (∀ xs, u ≠ .lst xs) → H' a = some u
theorem Lo.refl (H : Hp) : Lo H H := fun _ _ h _ => h
theorem Lo.trans {H1 H2 H3 : Hp} (s : Lo H1 H2) (t : Lo H2 H3) : Lo H1 H3 := fun a u h n => t a u (s a u h n) n
theorem Same.lo {H H' : Hp} (s : Same H H') : Lo H H' := fun a u h _ => s a u h
theorem Bt.lo {p q : Addr} {H H' : Hp} (pl : Pl H p q) (b : Bt p H H') : Lo H H' := fun a u h n => b a u (fun e => by
  subst e
  obtain ⟨k, zs, h1, _⟩ := pl
  rw [h1] at h
  exact n _ (Option.some.inj h).symm) h
theorem Lo.set {H : Hp} {l : Addr} {xs : List V} {o : HO} (hl : H l = some (.lst xs)) : Lo H (upd H l o) := fun a u h n => by
  rw [upd_ne (by rintro rfl; rw [hl] at h; exact n _ (Option.some.inj h).symm)]
  exact h
theorem StpAt.lo {H H' : Hp} {p : Addr} {s : Stp} (h : StpAt H p s) (b : Lo H H') : StpAt H' p s := by
  cases s with
  | act a => exact ⟨b _ _ h.1 (by intro xs y; cases y), h.2⟩
  | move d m => exact ⟨b _ _ h.1 (by intro xs y; cases y), h.2⟩
theorem Tp.lo {K : PySem.W.Frag} {H H' : Hp} {a : Addr} {xs : List V} (h : Tp K H a xs) (b : Lo H H') : Tp K H' a xs := h.imp (fun z => b _ _ z (by intro xs y; cases y)) id
theorem PairsAt.lo {H H' : Hp} {t : Addr} {ks : List (Str × Int)} (h : PairsAt H t ks) (b : Lo H H') : PairsAt H' t ks := by
  obtain ⟨ps, ⟨o, h1, h2⟩, h3⟩ := h
  exact ⟨ps, ⟨o, b _ _ h1 (by intro xs y; cases y), h2⟩, Paired.mono (fun _ _ z => b _ _ z (by intro xs y; cases y)) h3⟩
theorem DdAt.lo {K : PySem.W.Frag} {C x : Addr} {c : Dv} {H H' : Hp} (h : DdAt K H C x c) (s : Lo H H') : DdAt K H' C x c := by
  obtain ⟨dx, ta, tk, tp, tg, ts, ps, hx, a1, a2, a3, a4, a5, b5, cp⟩ := h
  exact ⟨dx, ta, tk, tp, tg, ts, ps, s _ _ hx (by intro xs y; cases y), s _ _ a1 (by intro xs y; cases y), a2.lo s, a3.lo s, s _ _ a4 (by intro xs y; cases y), a5.lo s, Paired.mono (fun _ _ z => z.lo s) b5, cp⟩
theorem srt_words {ds cs : List Dv} (h : Paired Srt ds cs) : cs.map (·.word) = ds.map (·.word) := by
  induction h with
  | nil => rfl
  | cons h _ ih => rw [List.map_cons, List.map_cons, h.word, ih]
theorem Wds.nodup {ws : List Str} (h : Wds ws) : ws.Nodup := List.Pairwise.sublist h.1 (by decide +kernel : five.Nodup)
theorem words_ne {cs : List Dv} (h : (cs.map (·.word)).Nodup) {i j : Nat} {c e : Dv} (hi : cs[i]? = some c) (hj : cs[j]? = some e) : (c = e) ↔ (j = i) := by
  constructor
  · intro z
    subst z
    have e1 : (cs.map (·.word))[i]? = some c.word := by rw [List.getElem?_map, hi]; rfl
    have e2 : (cs.map (·.word))[j]? = some c.word := by rw [List.getElem?_map, hj]; rfl
    obtain ⟨l1, g1⟩ := List.getElem?_eq_some_iff.mp e1
    obtain ⟨l2, g2⟩ := List.getElem?_eq_some_iff.mp e2
    rcases Nat.lt_trichotomy j i with z | z | z
    · exact absurd (g2.trans g1.symm) (List.pairwise_iff_getElem.mp h j i l2 l1 z)
    · exact z
    · exact absurd (g1.trans g2.symm) (List.pairwise_iff_getElem.mp h i j l1 l2 z)
  · intro z
    subst z
    exact Option.some.inj (hi.symm.trans hj)
/-- [e for x in xs] at its list, e leaving what stands as it is -/
theorem lc_map {J : It} {G : Hp → Prop} {xs : List V} {j : Nat} {te : TE} {σ : L2.St} {H : Hp} {D : Addr} {Qd : Hp → Prop} (w : Walk J xs.length G (YAt xs)) (hG : ∀ H', Same H H' → G H') (hz : xs.length ≤ 1000) (f : V → V) (hw : ∀ x, wipe ((wipe σ [j]).set j (some x)) [j] = wipe σ [j])
    (he : ∀ (x : V) (H' : Hp) (R : VK), x ∈ xs → Same H H' → (∀ H2, Same H' H2 → R (f x) H2) → te ((wipe σ [j]).set j (some x)) H' R) (hD : H D = none)
    (hq : ∀ (H' : Hp), Same H H' → H' D = some (.lst (xs.map f)) → Qd H') : ∃ W : Nat → Nat → Hp → Prop, (∃ m, W 0 m (upd H D (.lst []))) ∧ ∀ i m H, W i m H →
      (J.stop i H ∧ Qd H) ∨ (J.go i H ∧ ∃ Nx : Hp → Prop, (∀ H', Nx H' → ∃ m', m' < m ∧ W (i + 1) m' H') ∧ ∀ x H', J.yld i H x H' → gName j x (wipe σ [j]) H' fun σ2 H2 => wipe σ2 [j] = wipe σ [j] ∧ tYes σ2 H2 fun b H3 =>
        if b = true then te σ2 H3 fun y H4 => ∃ acc, H4 D = some (.lst acc) ∧ acc.length < sizeLine ∧ Nx (upd H4 D (.lst (acc ++ [y]))) else Nx H3) := by
  refine lc_it w (fun i H' => Same H H' ∧ H' D = some (.lst ((xs.take i).map f))) ⟨My.Same.new (Same.refl H) hD, upd_same⟩ (fun i H' _ h => hG H' h.1) ?_ ?_
  · rintro i x H' H2 hi ⟨sm, hl⟩ ⟨rfl, hx⟩
    refine ⟨hw _, ?_⟩
    simp only [tYes, if_true]
    refine he x _ _ (List.mem_of_getElem? hx) sm fun H3 s3 => ⟨_, s3 _ _ hl, szl ?_, My.Same.new (sm.trans s3) hD, ?_⟩
    · rw [List.length_map, List.length_take]
      omega
    · rw [upd_same, take_more hx, List.map_append]
      rfl
  · rintro H' ⟨sm, hl⟩
    rw [List.take_length] at hl
    exact hq H' sm hl
def strOf : V → Str
  | .str x => x
  | _ => ""
theorem perm_strs {ys : List V} {xs : List Str} (h : ys.Perm (xs.map V.str)) : ∃ zs : List Str, ys = zs.map V.str ∧ zs.Perm xs := by
  have e : (xs.map V.str).map strOf = xs := by
    rw [List.map_map]
    exact (List.map_congr_left (fun _ _ => rfl)).trans (List.map_id xs)
  refine ⟨ys.map strOf, ?_, by rw [← e]; exact h.map strOf⟩
  rw [List.map_map]
  refine ((List.map_congr_left fun y hy => ?_).trans (List.map_id ys)).symm
  obtain ⟨x, _, rfl⟩ := List.mem_map.mp (h.mem_iff.mp hy)
  rfl
theorem dp_bls {K : PySem.W.Frag} {H : Hp} {p : Addr} {bs : List Bool} (h : H p = some (.lst (bs.map V.bl))) : Dp K H (.ref p) (.list (bs.map .bool)) := by
  refine .lst (SqL.of h) ?_
  clear h
  induction bs with
  | nil => exact .nil
  | cons b bs ih => exact .cons (.bl b) ih
theorem lay_bls : ∀ bs : List Bool, PyData.canLayAll0 (bs.map .bool) = true ∧ PyData.depthAll (bs.map .bool) = 0
  | [] => by simp [PyData.canLayAll0, PyData.depthAll]
  | b :: bs => by
    obtain ⟨h1, h2⟩ := lay_bls bs
    simp [PyData.canLayAll0, PyData.canLay0, PyData.depthAll, PyData.depth, h1, h2]
theorem sh_bls (bs : List Bool) : SeqAt.shaped (.list (bs.map .bool)) = true := by
  obtain ⟨h1, h2⟩ := lay_bls bs
  unfold SeqAt.shaped
  simp [PyData.canLay0, PyData.depth, h1, h2]
theorem eqv_bls (bs : List Bool) : PyData.eqv (.list (bs.map .bool)) (.list (bs.map .bool)) = true := SeqAt.eqv_refl _ (by simp [PyData.canLay0, lay_bls])
/-- the deed that is made of a word alone -/
def d0 : Dv := ⟨"a", false, [], "any", [], [], true, [], []⟩
theorem ok0 : d0.Ok := ⟨by decide +kernel, ⟨by decide, .nil, nofun⟩, by decide +kernel, ⟨by decide, .nil, nofun⟩, ⟨by decide, .nil, nofun⟩, ⟨by decide, .nil, nofun⟩, by decide +kernel, by decide, by decide +kernel⟩
theorem srt0 : Srt d0 d0 := ⟨rfl, rfl, rfl, rfl, rfl, .nil, rfl, .nil, .nil, .nil, .nil, .nil, rfl⟩
theorem mk0 : MkOf d0 [] := ⟨.nil, fun z => ⟨nofun, fun h => by simp [marksOf, d0] at h⟩, rfl⟩
theorem sms0 : d0.Sms := ⟨word_sm (by decide +kernel), lit_sm _ (by simp [d0]), nofun, nofun, nofun, nofun, nofun⟩
abbrev menu13 (T L : Addr) : List V := [.str "a", .str "abcdefgh", .str "goal", .str "", .str "abcdefghi", .str "A", .str "a1", .str "a b", .non, .int 5, .ref T, .ref L, .bl true]
end My

set_option Elab.async false
set_option linter.all false
set_option maxRecDepth 100000
set_option maxHeartbeats 8000000
namespace My
open PySem PySem.Spec PyProof.Rows L2
abbrev sLaw : Stmt := topI 34
abbrev NLaw : List Str := ["script", "k", "pool", "game", "made", "deed", "likes", "aims", "rows", "one", "other", "at", "short", "menu", "number", "value"]
theorem scLaw : FnScope NLaw ["script"] (defScope sLaw) := ⟨rfl, rfl, rfl, by decide +kernel, rfl, by decide +kernel, by decide +kernel⟩
def spLaw (K : PySem.W.Frag) : Sp := fun vs H Q _ => ∃ (a : Addr) (ns : List Int), vs = [.ref a] ∧ SqL K H a (ns.map V.int) ∧ ns.length ≤ 63 ∧ ∀ H', Q (.bl true) H'
/-- all that the law calls -/
structure Lw (P : Program) (w : World) (K : PySem.W.Frag) (mg : Str → Option Value) (base : Heap) (C : Addr) where
  B : Bn mg
  D_opn : Df K mg "_law_opened" sOpn ["script", "k", "many"]
  G_opn : FnOk P w K mg base CX0 2 D_opn.f D_opn.fd ["script", "k", "many"] (spOpn K)
  D_dgm : Df K mg "_law_drawn_game" sDgm ["pool", "deeds", "wakings", "rarely"]
  G_dgm : FnOk P w K mg base CX0 4 D_dgm.f D_dgm.fd ["pool", "deeds", "wakings", "rarely"] spDgm0
  D_iso : Df K mg "_law_in_some_order" sIso ["pool", "rows"]
  G_iso : FnOk P w K mg base CX0 2 D_iso.f D_iso.fd ["pool", "rows"] spIso
  D_blt : Df K mg "_law_built" sBlt ["deed", "likes", "aims", "rows"]
  G_blt : FnOk P w K mg base CX0 7 D_blt.f D_blt.fd ["deed", "likes", "aims", "rows"] (spBlt K C)
  D_spo : Df K mg "_law_all_spoilt" sSpo ["one"]
  G_spo : FnOk P w K mg base CX0 3 D_spo.f D_spo.fd ["one"] (spSpo K C)
  D_tol : Df K mg "_law_told" sTol ["one"]
  G_tol : FnOk P w K mg base CX0 3 D_tol.f D_tol.fd ["one"] (spTol K C)
  D_due : Df K mg "_law_due" sDue ["deed"]
  G_due : FnOk P w K mg base CX0 2 D_due.f D_due.fd ["deed"] (spDue K)
  D_mdd : Df K mg "_law_made_deed" sMdd ["deed"]
  G_mdd : FnOk P w K mg base CX0 7 D_mdd.f D_mdd.fd ["deed"] (spMdd K C)
  D_oth : Df K mg "_law_otherwise" sOth ["pool", "deed"]
  G_oth : FnOk P w K mg base CX0 3 D_oth.f D_oth.fd ["pool", "deed"] spOth
  Dis_word : Df K mg "is_word" sWrd ["value"]
  Gis_word : FnOk P w K mg base CX0 1 Dis_word.f Dis_word.fd ["value"] spWrd
  MD : DdM P w K mg base C
  DE : DdE P w K mg base C
  t0 : Addr
  t1 : Addr
  t2 : Addr
  k0 : KT K t0 []
  k1 : KT K t1 []
  k2 : KT K t2 []
  ds : List Value
  v0 : Vals [.bl false, .ref t0, .str "any", .non, .non, .bl true, .ref t1, .ref t2] ds
  b0 : Binds K MD.fd psDI ds
section
variable {P : Program} {w : World} {K : PySem.W.Frag} {mg : Str → Option Value} {base : Heap}
theorem ok_law {f C : Addr} {fd : FuncData} (F : Fun K "law" "law" sLaw f fd) (L : Lw P w K mg base C) : AtTop P w K mg base f fd ["script"] (spLaw K) := by
  obtain ⟨B, D_opn, G_opn, D_dgm, G_dgm, D_iso, G_iso, D_blt, G_blt, D_spo, G_spo, D_tol, G_tol, D_due, G_due, D_mdd, G_mdd, D_oth, G_oth, Dis_word, Gis_word, MD, DE, tk0, tk1, tk2, kt0, kt1, kt2, ds, v0, b0⟩ := L
  refine top_ok (k := 7) F scLaw ⟨rfl, by decide, by decide⟩ (fun vs H Q E h => ?_) (fun cdv s H vs Q E hr h => ?_)
  · obtain ⟨a, ns, rfl, _⟩ := h
    rfl
  · obtain ⟨a, ns, rfl, hS, hn, q⟩ := h
    have hu64 := hr.units
    have hgu : (callerA.deeper (envOfC "law" (defScope sLaw) s.heap.objs.size f cdv)).guards = some [] := rfl
    have hr7 := hr
    have hr6 := hr.mono (by decide : 6 ≤ 7)
    have hr4 := hr.mono (by decide : 4 ≤ 7)
    have hr3 := hr.mono (by decide : 3 ≤ 7)
    have hr2 := hr.mono (by decide : 2 ≤ 7)
    have hr1 := hr.mono (by decide : 1 ≤ 7)
    refine ⟨_, (pss_cons (ps_for PassesOwn.never rfl (pi_range1 (by rfl) B.range (pa_cons (pe_callB (call_max2 rfl) (by rfl) B.max (by decide +kernel) (pa_cons pe_int (pa_cons (pe_callB (call_min2 rfl) (by rfl) B.min (by decide +kernel) (pa_cons (pe_callB call_lenSq (by rfl) B.len (by decide +kernel) (pa_cons (pv 0) pa_nil)) (pa_cons pe_int pa_nil))) pa_nil))) pa_nil)) (pg_name (i := 1) scLaw.nd rfl (Or.inl rfl))
        (pss_cons (ps_set (i := 2) scLaw.nd rfl (Or.inl rfl) (pc D_opn G_opn hr2 (pa_cons (pv 0) (pa_cons (pv 1) (pa_cons pe_int pa_nil)))))
        (pss_cons (ps_set (i := 3) scLaw.nd rfl (Or.inl rfl) (pc D_dgm G_dgm hr4 (pa_cons (pv 2) (pa_cons pe_int (pa_cons pe_int (pa_cons pe_int pa_nil))))))
        (pss_cons (ps_set (i := 4) scLaw.nd rfl (Or.inl rfl) (pe_lst pa_nil))
        (pss_cons (ps_for PassesOwn.never rfl (pi_list (pe_dg hu64 (pv 3) pe_str)) (pg_name (i := 5) scLaw.nd rfl (Or.inl rfl))
          (pss_cons (ps_par (i := 6) (j := 7) (by rfl) scLaw.nd rfl rfl (by decide) rfl rfl (pa_cons (pc D_iso G_iso hr2 (pa_cons (pv 2) (pa_cons (pe_dg hu64 (pv 5) pe_str) pa_nil))) (pa_cons (pc D_iso G_iso hr2 (pa_cons (pv 2) (pa_cons (pe_dg hu64 (pv 5) pe_str) pa_nil))) pa_nil)) (by rfl))
          (pss_cons (ps_set (i := 8) scLaw.nd rfl (Or.inl rfl) (pe_callTy call_list_of (by rfl) B.list (by decide +kernel) (pa_cons (pe_dg hu64 (pv 5) pe_str) pa_nil)))
          (pss_cons (ps_set (i := 9) scLaw.nd rfl (Or.inr rfl) (pc D_blt G_blt hr7 (pa_cons (pv 5) (pa_cons (pv 6) (pa_cons (pv 7) (pa_cons (pv 8) pa_nil))))))
          (pss_cons (ps_set (i := 10) scLaw.nd rfl (Or.inl rfl) (pc D_blt G_blt hr7 (pa_cons (pv 5) (pa_cons (pe_callTy call_tuple_of (by rfl) B.tuple (by decide +kernel) (pa_cons (pv 6) pa_nil)) (pa_cons (pe_callTy call_tuple_of (by rfl) B.tuple (by decide +kernel) (pa_cons (pv 7) pa_nil)) (pa_cons (pe_callTy call_tuple_of (by rfl) B.tuple (by decide +kernel) (pa_cons (pv 8) pa_nil)) pa_nil))))))
          (pss_cons (ps_expr (pe_app (pv 6) pe_str))
          (pss_cons (ps_expr (pe_app (pv 7) pe_str))
          (pss_cons (ps_expr (pe_app (pv 8) (pe_tup (pa_cons pe_str pa_nil))))
          (pss_cons (ps_expr (pc D_spo G_spo hr3 (pa_cons (pv 9) pa_nil)))
          (pss_cons (ps_if (PW.pt (pw_or (pt_cmpR op_ne (pe_callB (call_reprS hgu hu64) (by rfl) B.repr (by decide +kernel) (pa_cons (pc D_tol G_tol hr3 (pa_cons (pv 9) pa_nil)) pa_nil)) (pe_callB (call_reprS hgu hu64) (by rfl) B.repr (by decide +kernel) (pa_cons (pc D_due G_due hr2 (pa_cons (pv 5) pa_nil)) pa_nil)) (nomark _)) (pw_or1 (pt_cmpR op_ne (pe_callB (call_reprS hgu hu64) (by rfl) B.repr (by decide +kernel) (pa_cons (pc D_tol G_tol hr3 (pa_cons (pv 10) pa_nil)) pa_nil)) (pe_callB (call_reprS hgu hu64) (by rfl) B.repr (by decide +kernel) (pa_cons (pc D_due G_due hr2 (pa_cons (pv 5) pa_nil)) pa_nil)) (nomark _)))))
            (pss_one (ps_ret pe_bl))
            pss_nil)
          (pss_cons (ps_if (PW.pt (pw_or (pt_cmpR (op_neDd DE hr2) (pv 9) (pv 10) (nomark _)) (pw_or (pt_not (pt_cmpR (op_eqDd DE hr1) (pv 9) (pv 10) (nomark _))) (pw_or (pt_cmpR (op_eqDd DE hr1) (pv 9) (pe_dg hu64 (pv 5) pe_str) (nomark _)) (pw_or1 (pt_cmpR (op_eqDd DE hr1) (pv 9) pe_int (nomark _)))))))
            (pss_one (ps_ret pe_bl))
            pss_nil)
          (pss_cons (ps_if (pt_cmpR (op_eqDd DE hr1) (pv 9) (pc D_mdd G_mdd hr7 (pa_cons (pc D_oth G_oth hr3 (pa_cons (pv 2) (pa_cons (pv 5) pa_nil))) pa_nil)) (nomark _))
            (pss_one (ps_ret pe_bl))
            pss_nil)
          (pss_one (ps_expr (pe_app (pv 4) (pv 9))))))))))))))))
        (pss_cons (ps_for PassesOwn.never rfl (pi_enum (by rfl) B.enumerate (pa_cons (pv 4) pa_nil)) (pg_tup rfl (pgs_cons (pg_name (i := 11) scLaw.nd rfl (Or.inr rfl)) (pgs_cons (pg_name (i := 9) scLaw.nd rfl (Or.inr rfl)) pgs_nil)))
          (pss_one (ps_if (pt_cmpR (op_neD hu64) (pe_lc (own := [("other", 10)]) (g := gName 10) rfl scLaw.nd (pi_list (pv 4)) (blkOk_by (own := [("other", 10)]) (N := NLaw) (sc := defScope sLaw) (by decide +kernel)) (fun _ _ _ _ _ => pg_name (i := 10) scLaw.nd rfl (Or.inl rfl)) (fun _ _ _ _ _ => pts_nil) (fun _ _ _ _ _ => (pe_cmpR (show OpR _ (compareOp .Eq) (rEqDd K C) from op_eqDd DE hr1) (pv 9) (pv 10) (nomark _)))) (pe_lc (own := [("number", 14)]) (g := gName 14) rfl scLaw.nd (pi_range1 (by rfl) B.range (pa_cons (pe_callB call_lenL (by rfl) B.len (by decide +kernel) (pa_cons (pv 4) pa_nil)) pa_nil)) (blkOk_by (own := [("number", 14)]) (N := NLaw) (sc := defScope sLaw) (by decide +kernel)) (fun _ _ _ _ _ => pg_name (i := 14) scLaw.nd rfl (Or.inl rfl)) (fun _ _ _ _ _ => pts_nil) (fun _ _ _ _ _ => (pe_cmpR op_eq (pv 14) (pv 11) (nomark _)))) (nomark _))
            (pss_one (ps_ret pe_bl))
            pss_nil)))
        (pss_cons (ps_set (i := 12) scLaw.nd rfl (Or.inl rfl) (pe_make (x := "Deed") (E := E0) MD.M MD.G hr6 rfl MD.g b0 v0 passL (pa_cons pe_str pa_nil)))
        (pss_cons (ps_if (pt_cmpR op_ne (pe_callB (call_reprS hgu hu64) (by rfl) B.repr (by decide +kernel) (pa_cons (pc D_tol G_tol hr3 (pa_cons (pv 12) pa_nil)) pa_nil)) (pe_callB (call_reprS hgu hu64) (by rfl) B.repr (by decide +kernel) (pa_cons (pe_lst (pa_cons pe_str (pa_cons pe_bl (pa_cons (pe_lst pa_nil) (pa_cons pe_str (pa_cons pe_dnewK (pa_cons (pe_lst pa_nil) (pa_cons pe_dnewK (pa_cons (pe_lst pa_nil) (pa_cons pe_bl (pa_cons (pe_lst pa_nil) (pa_cons (pe_lst pa_nil) (pa_cons pe_str (pa_cons (pe_lst pa_nil) pa_nil)))))))))))))) pa_nil)) (nomark _))
          (pss_one (ps_ret pe_bl))
          pss_nil)
        (pss_cons (ps_set (i := 13) scLaw.nd rfl (Or.inl rfl) (pe_lst (pa_cons pe_str (pa_cons pe_str (pa_cons pe_str (pa_cons pe_str (pa_cons pe_str (pa_cons pe_str (pa_cons pe_str (pa_cons pe_str (pa_cons pe_non (pa_cons pe_int (pa_cons (pe_tup (pa_cons pe_str pa_nil)) (pa_cons (pe_lst (pa_cons pe_str pa_nil)) (pa_cons pe_bl pa_nil)))))))))))))))
        (pss_one (ps_if (pt_cmpR (op_neD hu64) (pe_lc (own := [("value", 15)]) (g := gName 15) rfl scLaw.nd (pi_list (pv 13)) (blkOk_by (own := [("value", 15)]) (N := NLaw) (sc := defScope sLaw) (by decide +kernel)) (fun _ _ _ _ _ => pg_name (i := 15) scLaw.nd rfl (Or.inl rfl)) (fun _ _ _ _ _ => pts_nil) (fun _ _ _ _ _ => (pc Dis_word Gis_word hr1 (pa_cons (pv 15) pa_nil)))) (pe_op op_cat (pe_op op_rep (pe_lst (pa_cons pe_bl pa_nil)) pe_int) (pe_op op_rep (pe_lst (pa_cons pe_bl pa_nil)) pe_int)) (nomark _))
          (pss_one (ps_ret pe_bl))
          pss_nil)))))))))))
      (pss_one (ps_ret pe_bl))), ?_⟩
    have hL : ((ns.map V.int).length : Int) = (ns.length : Int) := by rw [List.length_map]
    generalize hL2 : ((ns.map V.int).length : Int) = len at hL
    refine step_seq ?_
    refine for_r1 (m := if (if (6 : Int) < len then 6 else len) > 1 then (if (6 : Int) < len then 6 else len) else 1) ?_ (fun Q q => ?_) (fun i σ' H' => ∃ w1 w2 w3 w4 w5 w6 w7 w8 w9 w10 w11 w12 w13 w14 w15 : Option V, σ' = [some (.ref a), w1, w2, w3, w4, w5, w6, w7, w8, w9, w10, w11, w12, w13, w14, w15] ∧ Same H H')
      ⟨_, _, _, _, _, _, _, _, _, _, _, _, _, _, _, rfl, Same.refl H⟩ ?_ ?_
    · split <;> split <;> omega
    · subst hL2
      exact ⟨_, rfl, a, rfl, _, hS, _, 6, rfl, 1, _, rfl, q⟩
    · rintro i0 _ H0 hi ⟨w1, w2, w3, w4, w5, w6, w7, w8, w9, w10, w11, w12, w13, w14, w15, rfl, sm⟩
      have hi' : i0 < 7 := by
        split at hi <;> (try split at hi) <;> omega
      have hne : ns ≠ [] → ((i0 : Int)).toNat < ns.length := fun hne => by
        have h1 : 0 < ns.length := List.length_pos_iff.mpr hne
        rw [Int.toNat_natCast]
        split at hi <;> (try split at hi) <;> omega
      refine step_asg ⟨_, rfl, _, rfl, a, ns, (i0 : Int), 300, rfl, sm.seq hS, Int.natCast_nonneg i0, by omega, hne, by decide, by decide, fun p q0 zs H1 hp hq npq s1 h1p h1q => ?_⟩
      have pl1 : Pl H1 p q0 := ⟨0, zs, h1p, Int.le_refl _, h1q⟩
      refine step_asg ⟨_, rfl, p, q0, 5, 3, rfl, pl1, by decide, by decide, fun g dl kvs H2 gs ds ws ks hg b2 pl2 hgk hdl hdd hws hks hpd hw hdr => ?_⟩
      refine step_asg ⟨sz (by simp), fun mL hm => ?_⟩
      have nm2 := pl2.ne hm
      have qm2 := pl2.neQ hm
      have eg := b2
      have lm0 : upd H2 mL (.lst []) mL = some (.lst (([] : List Addr).map V.ref)) := upd_same
      have B0 : Bt p H2 (upd H2 mL (.lst [])) := (Bt.refl p H2).set hm
      have pl0 : Pl (upd H2 mL (.lst [])) p q0 := pl2.set nm2 qm2
      have len5 : ws.length ≤ 5 := hws.1.length_le
      have lends : ds.length ≤ 5 := by rw [← hw, List.length_map] at len5; exact len5
      have npg : ∀ {o : HO}, H2 g = some (.dK kvs) → g ≠ p := fun _ => pl2.neO hgk (fun _ _ e => by cases e)
      have ngp : g ≠ p := pl2.neO hgk (fun _ _ e => by cases e)
      have ndp : dl ≠ p := by
        refine pl2.neO hdd (fun q k e => ?_)
        have := HO.lst.inj e
        cases gs with
        | nil => cases this
        | cons b r =>
          cases r with
          | nil => cases this
          | cons c r =>
            have z := (List.cons.inj (List.cons.inj this).2).1
            cases z
      generalize upd H2 mL (.lst []) = H3 at *
      refine step_seq ?_
      refine ⟨_, rfl, g, "deeds", rfl, rfl, kvs, B0 _ _ ngp hgk, .ref dl, hdl, dl, rfl, ⟨_, SqL.of (B0 _ _ ndp hdd)⟩, for_it (walk_list (xs := gs.map V.ref)) (fun i σ H' => ∃ w5 w6 w7 w8 w9 w10 : Option V, σ = [some (.ref a), some (.int (i0 : Int)), some (.ref p), some (.ref g), some (.ref mL), w5, w6, w7, w8, w9, w10, w11, w12, w13, w14, w15] ∧ Bt p H2 H' ∧ Pl H' p q0 ∧ ∃ (xs : List Addr) (cs : List Dv), H' mL = some (.lst (xs.map V.ref)) ∧ Paired (DdAt K H' C) xs cs ∧ Paired Srt (ds.take i) cs)
        ⟨_, _, _, _, _, _, rfl, B0, pl0, [], [], lm0, .nil, .nil⟩ (fun i σ H' _ ⟨_, _, _, _, _, _, _, B1, _⟩ => SqL.of (B1 _ _ ndp hdd)) ?_ ?_⟩
      · rintro j x _ H4 H5 hj ⟨w5, w6, w7, w8, w9, w10, rfl, B1, pl4, xs, cs, lm, hdx, hsr⟩ ⟨rfl, hx⟩
        rw [List.getElem?_map] at hx
        obtain ⟨gd, hgd, rfl⟩ := Option.map_eq_some_iff.mp hx
        obtain ⟨d, hd, hdd2⟩ := pd_at hpd _ _ hgd
        have D4 := (hdd2.bt pl2 B1)
        obtain ⟨ok, cp⟩ := drn_ok hws hks (hdr d (List.mem_of_getElem? hd)) (by rw [← hw]; exact List.mem_map_of_mem (List.mem_of_getElem? hd))
        have Dp := D4
        obtain ⟨ga, an, ak, pa, st, sps, hnS, g1, g2, g3, g4, g5, g6, g7⟩ := id Dp
        have nan := pl4.neO g3 strs_ne
        have ngd : gd ≠ p := pl4.neO g1 (fun _ _ e => by cases e)
        have fw := cp.few
        refine step_seq ?_
        refine ⟨_, rfl, _, rfl, gd, "answers", rfl, rfl, _, g1, .ref an, rfl, p, q0, an, _, rfl, pl4, g3, nan, by rw [List.length_map]; omega, fun l1 H5 ys1 hl1 nl1 b5 pl5 pm1 e1 => ?_⟩
        obtain ⟨zs1, rfl, pz1⟩ := perm_strs pm1
        have D5 := Dp.bt pl4 b5
        refine ⟨_, rfl, _, rfl, gd, "goals", rfl, rfl, _, b5 _ _ ngd g1, .ref ga, rfl, p, q0, ga, _, rfl, pl5, b5 _ _ (pl4.neO g2 strs_ne) g2, pl4.neO g2 strs_ne, by rw [List.length_map]; omega, fun l2 H6 ys2 hl2 nl2 b6 pl6 pm2 e2 => ?_⟩
        obtain ⟨zs2, rfl, pz2⟩ := perm_strs pm2
        have D6 := D5.bt pl5 b6
        have e1 := b6 _ _ nl1 e1
        have lm := b6 _ _ (pl5.neO (b5 _ _ (pl4.neO lm refs_ne) lm) refs_ne) (b5 _ _ (pl4.neO lm refs_ne) lm)
        have B6 := (B1.trans b5).trans b6
        have hdx := Paired.mono (fun _ _ z => (z.lo (b5.lo pl4)).lo (b6.lo pl5)) hdx
        have n12 : l1 ≠ l2 := ne_of_none (by assumption) hl2
        have z1 := B1.none nl1 hl1
        have q1 := pl4.neQ hl1
        have z2 := (B1.trans b5).none nl2 hl2
        have q2 := pl5.neQ hl2
        have n1m : l1 ≠ mL := (ne_of_none (by assumption) hl1).symm
        have n2m : l2 ≠ mL := (ne_of_none (b5 _ _ (pl4.neO (by assumption) refs_ne) (by assumption)) hl2).symm
        refine ⟨_, _, rfl, ?_⟩
        -- rows
        dsimp only
        have len7 := Paired.length g7
        obtain ⟨ga6, an6, ak6, pa6, st6, sps6, _, k1, k2, k3, k4, k5, k6, k7⟩ := id D6
        refine step_asg ⟨_, rfl, gd, "steps", rfl, rfl, _, k1, .ref st6, rfl, st6, _, rfl, .inl (SqL.of k6), fun l3 hl3 => ?_⟩
        have s7 := My.Same.new (o := .lst (sps6.map V.ref)) (Same.refl H6) hl3
        have e3 : upd H6 l3 (.lst (sps6.map V.ref)) l3 = some (.lst (sps6.map V.ref)) := upd_same
        generalize upd H6 l3 (.lst (sps6.map V.ref)) = H7 at *
        -- one
        refine step_asg ⟨_, rfl, _, rfl, _, rfl, _, rfl, _, gd, l1, l2, l3, d, zs1, zs2, sps6, rfl, D6.same s7, ok, cp, .inl (s7 _ _ e1), pz1.symm, .inl (s7 _ _ e2), pz2.symm, .inl e3, Paired.mono (fun _ _ z => ⟨s7 _ _ z.1, z.2⟩) k7, fun x1 H8 c s8 sr dd1 => ?_⟩
        have s78 := s7.trans s8
        -- other
        refine step_asg ⟨_, rfl, _, rfl, l1, _, rfl, .inl ⟨SqL.of (s78 _ _ e1), fun t1 ht1 => ?_⟩⟩
        have s9 := My.Same.new (o := .tup (zs1.map V.str)) (Same.refl H8) ht1
        have f1 : upd H8 t1 (.tup (zs1.map V.str)) t1 = some (.tup (zs1.map V.str)) := upd_same
        generalize upd H8 t1 (.tup (zs1.map V.str)) = H9 at *
        refine ⟨_, rfl, l2, _, rfl, .inl ⟨SqL.of ((s78.trans s9) _ _ e2), fun t2 ht2 => ?_⟩⟩
        have s10 := My.Same.new (o := .tup (zs2.map V.str)) (Same.refl H9) ht2
        have f2 : upd H9 t2 (.tup (zs2.map V.str)) t2 = some (.tup (zs2.map V.str)) := upd_same
        generalize upd H9 t2 (.tup (zs2.map V.str)) = H10 at *
        refine ⟨_, rfl, l3, _, rfl, .inl ⟨SqL.of (((s8.trans s9).trans s10) _ _ e3), fun t3 ht3 => ?_⟩⟩
        have s11 := My.Same.new (o := .tup (sps6.map V.ref)) (Same.refl H10) ht3
        have f3 : upd H10 t3 (.tup (sps6.map V.ref)) t3 = some (.tup (sps6.map V.ref)) := upd_same
        generalize upd H10 t3 (.tup (sps6.map V.ref)) = H11 at *
        have s811 := (s9.trans s10).trans s11
        have s711 := s8.trans s811
        have s611 := s7.trans s711
        refine ⟨_, gd, t1, t2, t3, d, zs1, zs2, sps6, rfl, D6.same s611, ok, cp, .inr (.inl ((s10.trans s11) _ _ f1)), pz1.symm, .inr (.inl (s11 _ _ f2)), pz2.symm, .inr (.inl f3), Paired.mono (fun _ _ z => ⟨s611 _ _ z.1, z.2⟩) k7, fun x2 H12 c2 s12 sr2 dd2 => ?_⟩
        obtain rfl := sr.uniq sr2 cp.asksN cp.paysN
        have s612 := s611.trans s12
        have dd1 := dd1.same (s811.trans s12)
        have e1 := s612 _ _ e1
        have e2 := s612 _ _ e2
        have e3 := (s711.trans s12) _ _ e3
        have lm := s612 _ _ lm
        have hdx := Paired.mono (fun _ _ z => z.same s612) hdx
        have D12 := D6.same s612
        have B12 := B6.trans (Same.bt s612)
        have pl12 := pl6.same s612
        have n13 : l1 ≠ l3 := ne_of_none (by assumption) hl3
        have nl3 := pl6.ne hl3
        have z3 := B6.none nl3 hl3
        have q3 := pl6.neQ hl3
        have n3m : l3 ≠ mL := (ne_of_none (by assumption) hl3).symm
        have n23 : l2 ≠ l3 := ne_of_none (by assumption) hl3
        have lz1 : zs1.length ≤ 6 := by rw [pz1.length_eq]; exact fw.1
        have lz2 : zs2.length ≤ 6 := by rw [pz2.length_eq]; have := fw.2.2.2.1; omega
        have lz3 : sps6.length ≤ 6 := by rw [Paired.length k7]; have := fw.2.2.2.2; omega
        clear s7 s8 s78 s9 s10 s11 s811 s711 s611 s12 f1 f2 f3
        -- the given lists are changed
        refine step_seq ?_
        refine ⟨_, rfl, l1, rfl, ⟨_, e1⟩, _, e1, szl (by rw [List.length_map]; omega), ?_⟩
        have o1 := Lo.set (o := .lst (zs1.map V.str ++ [.str "x"])) e1
        have e2 : upd H12 l1 (.lst (zs1.map V.str ++ [.str "x"])) l2 = some (.lst (zs2.map V.str)) := by rw [upd_ne n12.symm]; exact e2
        have e3 : upd H12 l1 (.lst (zs1.map V.str ++ [.str "x"])) l3 = some (.lst (sps6.map V.ref)) := by rw [upd_ne n13.symm]; exact e3
        have lm : upd H12 l1 (.lst (zs1.map V.str ++ [.str "x"])) mL = some (.lst (xs.map V.ref)) := by rw [upd_ne n1m.symm]; exact lm
        have B13 := B12.set (o := .lst (zs1.map V.str ++ [.str "x"])) z1
        have pl13 := pl12.set (o := .lst (zs1.map V.str ++ [.str "x"])) nl1 q1
        generalize upd H12 l1 (.lst (zs1.map V.str ++ [.str "x"])) = H13 at *
        refine step_seq ?_
        refine ⟨_, rfl, l2, rfl, ⟨_, e2⟩, _, e2, szl (by rw [List.length_map]; omega), ?_⟩
        have o2 := Lo.set (o := .lst (zs2.map V.str ++ [.str "x"])) e2
        have e3 : upd H13 l2 (.lst (zs2.map V.str ++ [.str "x"])) l3 = some (.lst (sps6.map V.ref)) := by rw [upd_ne n23.symm]; exact e3
        have lm : upd H13 l2 (.lst (zs2.map V.str ++ [.str "x"])) mL = some (.lst (xs.map V.ref)) := by rw [upd_ne n2m.symm]; exact lm
        have B14 := B13.set (o := .lst (zs2.map V.str ++ [.str "x"])) z2
        have pl14 := pl13.set (o := .lst (zs2.map V.str ++ [.str "x"])) nl2 q2
        generalize upd H13 l2 (.lst (zs2.map V.str ++ [.str "x"])) = H14 at *
        refine step_seq ?_
        refine ⟨_, rfl, l3, rfl, ⟨_, e3⟩, sz (by simp), fun T hT => ?_⟩
        have sT := My.Same.new (o := .tup [.str "again"]) (Same.refl H14) hT
        have nT3 : l3 ≠ T := ne_of_none e3 hT
        have e3 := sT _ _ e3
        have lm := sT _ _ lm
        have B15 := B14.trans (Same.bt sT)
        have pl15 := pl14.same sT
        generalize upd H14 T (.tup [.str "again"]) = H15 at *
        refine ⟨_, e3, szl (by rw [List.length_map]; omega), ?_⟩
        have o3 := Lo.set (o := .lst (sps6.map V.ref ++ [.ref T])) e3
        have lm : upd H15 l3 (.lst (sps6.map V.ref ++ [.ref T])) mL = some (.lst (xs.map V.ref)) := by rw [upd_ne n3m.symm]; exact lm
        have B16 := B15.set (o := .lst (sps6.map V.ref ++ [.ref T])) z3
        have pl16 := pl15.set (o := .lst (sps6.map V.ref ++ [.ref T])) nl3 q3
        generalize upd H15 l3 (.lst (sps6.map V.ref ++ [.ref T])) = H16 at *
        have o16 := ((o1.trans o2).trans (Same.lo sT)).trans o3
        have dd1 := dd1.lo o16
        have dd2 := dd2.lo o16
        have hdx := Paired.mono (fun _ _ z => z.lo o16) hdx
        clear o1 o2 o3 sT e3 nT3 o16 n12 n13 n23 n1m n2m n3m
        -- all that one tells is changed
        refine step_seq ?_
        refine ⟨_, rfl, x1, _, rfl, dd1, fun H17 s17 => ?_⟩
        have dd1 := dd1.same s17
        have dd2 := dd2.same s17
        have hdx := Paired.mono (fun _ _ z => z.same s17) hdx
        have lm := s17 _ _ lm
        have B17 := B16.trans (Same.bt s17)
        have pl17 := pl16.same s17
        have D17 := hdd2.bt pl2 B17
        have hdw : d.word ∈ ws := by rw [← hw]; exact List.mem_map_of_mem (List.mem_of_getElem? hd)
        have dsm := drn_sms hws hks (hdr d (List.mem_of_getElem? hd)) hdw
        -- told is what is due
        dsimp only
        refine step_seq (step_if ?_)
        refine ⟨_, rfl, x1, _, rfl, dd1, fun la H18 ma s18 mka dqa => ?_⟩
        obtain ⟨u1, u2, u3⟩ := told_ok (sr.sms dsm) (sr.cps cp) mka
        refine ⟨la, _, rfl, dqa, u1, u2, u3, _, rfl, _, gd, d, rfl, D17.same s18, cp, fun lb H19 cb mb s19 srb mkb dqb => ?_⟩
        obtain rfl := sr.uniq srb cp.asksN cp.paysN
        obtain rfl := mk_uniq mka mkb
        refine ⟨lb, _, rfl, dqb, u1, u2, u3, rfl, _, rfl, ?_⟩
        refine Eq.mpr (if_neg (by simp)) ?_
        have s19 := s18.trans s19
        refine ⟨_, rfl, x2, _, rfl, dd2.same s19, fun lc H20 mc s20 mkc dqc => ?_⟩
        obtain rfl := mk_uniq mka mkc
        refine ⟨lc, _, rfl, dqc, u1, u2, u3, _, rfl, _, gd, d, rfl, D17.same (s19.trans s20), cp, fun le H21 ce me s21 sre mke dqe => ?_⟩
        obtain rfl := sr.uniq sre cp.asksN cp.paysN
        obtain rfl := mk_uniq mka mke
        refine ⟨le, _, rfl, dqe, u1, u2, u3, rfl, _, rfl, ?_⟩
        refine Eq.mpr (if_neg (by simp)) ?_
        have s1721 := (s19.trans s20).trans s21
        have dd1 := dd1.same s1721
        have dd2 := dd2.same s1721
        have hdx := Paired.mono (fun _ _ z => z.same s1721) hdx
        have lm := s1721 _ _ lm
        have B21 := B17.trans (Same.bt s1721)
        have pl21 := pl17.same s1721
        have D21 := hdd2.bt pl2 B21
        obtain ⟨ga7, an7, ak7, pa7, st7, sps7, _, m1, _⟩ := id D21
        -- == and !=
        try unfold tNext
        dsimp only
        refine step_seq (step_if ?_)
        refine ⟨_, rfl, _, rfl, x1, _, x2, _, rfl, rfl, dd1, dd2, _, rfl, ?_⟩
        refine Eq.mpr (if_neg (by simp)) ?_
        refine ⟨_, rfl, _, rfl, x1, _, rfl, dd1, .inr (.inr ⟨x2, _, rfl, dd2, _, rfl, ?_⟩)⟩
        refine Eq.mpr (if_neg (by simp)) ?_
        refine ⟨_, rfl, _, rfl, gd, "word", rfl, rfl, _, m1, .str d.word, rfl, x1, _, rfl, dd1, .inl ⟨_, rfl, _, rfl, ?_⟩⟩
        refine Eq.mpr (if_neg (by simp)) ?_
        refine ⟨_, rfl, x1, _, rfl, dd1, .inr (.inl ⟨_, rfl, _, rfl, ?_⟩)⟩
        refine Eq.mpr (if_neg (by simp)) ?_
        -- other than the bent one
        try unfold tNext
        dsimp only
        refine step_seq (step_if ?_)
        refine ⟨_, rfl, _, rfl, _, rfl, p, q0, gd, _, d, rfl, pl21, D21, ok, cp, hws.1.subset hdw, (hdr d (List.mem_of_getElem? hd)).ans.trans hws.1, fun lo H22 e b22 pl22 De eok ecp ne => ?_⟩
        refine ⟨_, lo, e, rfl, De, eok, ecp, fun x3 H23 c3 s23 sr3 dd3 => ?_⟩
        have dd1 := (dd1.lo (b22.lo pl21)).same s23
        refine ⟨x1, _, rfl, dd1, .inr (.inr ⟨x3, _, rfl, dd3, _, rfl, ?_⟩)⟩
        refine Eq.mpr (if_neg (by simpa using ne _ _ sr sr3)) ?_
        have nmp : mL ≠ p := nm2
        have lm := s23 _ _ (b22 _ _ nmp lm)
        have hdx := Paired.mono (fun _ _ z => (z.lo (b22.lo pl21)).same s23) hdx
        have B23 := (B21.trans b22).trans (Same.bt s23)
        have pl23 := pl22.same s23
        -- made.append(one)
        try unfold tNext
        dsimp only
        have lxs : xs.length ≤ 5 := by
          rw [Paired.length hdx, ← Paired.length hsr, List.length_take]
          omega
        refine ⟨_, rfl, mL, rfl, ⟨_, lm⟩, _, rfl, _, lm, szl (by rw [List.length_map]; omega), ?_⟩
        have o := Lo.set (o := .lst (xs.map V.ref ++ [.ref x1])) lm
        refine ⟨_, _, _, _, _, _, rfl, B23.set hm, pl23.set nm2 qm2, xs ++ [x1], cs ++ [_], by rw [upd_same, List.map_append]; rfl, pd_app (Paired.mono (fun _ _ z => z.lo o) hdx) (.cons (dd1.lo o) .nil), ?_⟩
        rw [take_more hd]
        exact pd_app hsr (.cons sr .nil)
      · rintro _ H4 ⟨w5, w6, w7, w8, w9, w10, rfl, B1, pl4, xs, cs, lm, hdx, hsr⟩
        have lgs : gs.length = ds.length := Paired.length hpd
        rw [List.length_map, lgs, List.take_length] at hsr
        have cw : (cs.map (·.word)).Nodup := by rw [srt_words hsr, hw]; exact hws.nodup
        have lcs : cs.length ≤ 5 := by rw [← Paired.length hsr]; exact lends
        have lxs : xs.length = cs.length := Paired.length hdx
        -- each is equal to itself alone
        refine step_seq ?_
        refine ⟨_, rfl, mL, _, rfl, SqL.of lm, for_it (walk_enum (xs := xs.map V.ref)) (fun i σ H' => Same H4 H' ∧ ∃ w9 w11 : Option V, σ = [some (.ref a), some (.int (i0 : Int)), some (.ref p), some (.ref g), some (.ref mL), w5, w6, w7, w8, w9, w10, w11, w12, w13, w14, w15]) ⟨Same.refl H4, _, _, rfl⟩ (fun i σ H' _ h => SqL.of (h.1 _ _ lm)) ?_ ?_⟩
        · rintro j x _ H' H2 hj ⟨sj, w9, w11, rfl⟩ ⟨T, x0, y0, rfl, hT, rfl, e1, e2⟩
          have e2' : (xs.map V.ref)[j]? = some y0 := e2
          rw [List.getElem?_map] at e2'
          obtain ⟨x1, hx1, rfl⟩ := Option.map_eq_some_iff.mp e2'
          obtain rfl : V.int (j : Nat) = x0 := Option.some.inj e1
          obtain ⟨c, hc, hA⟩ := pd_at hdx _ _ hx1
          have s1 := My.Same.new' (o := .tup [.int (j : Nat), .ref x1]) sj hT
          have hT1 : upd H' T (.tup [.int (j : Nat), .ref x1]) T = some (.tup [.int (j : Nat), .ref x1]) := upd_same
          generalize upd H' T (.tup [.int (j : Nat), .ref x1]) = H5 at *
          refine ⟨T, [.int (j : Nat), .ref x1], rfl, SqT.of hT1, rfl, _, _, rfl, _, _, rfl, rfl, ?_⟩
          refine step_if ?_
          refine ⟨_, rfl, mL, rfl, ⟨_, SqL.of (s1 _ _ lm)⟩, fun L1 hL1 => ?_⟩
          refine lc_it (walk_list (xs := xs.map V.ref)) (fun i H' => Same H5 H' ∧ H' L1 = some (.lst ((cs.take i).map fun e => V.bl (decide (c = e))))) ⟨My.Same.new (Same.refl H5) hL1, upd_same⟩ (fun _ _ _ h => SqL.of (h.1 _ _ (s1 _ _ lm))) ?_ ?_
          · rintro i x _ H6 hi ⟨s6, h6⟩ ⟨rfl, hx⟩
            rw [List.getElem?_map] at hx
            obtain ⟨y1, hy1, rfl⟩ := Option.map_eq_some_iff.mp hx
            obtain ⟨e, he, hE⟩ := pd_at hdx _ _ hy1
            have s16 := s1.trans s6
            refine ⟨rfl, ?_⟩
            simp only [tYes, if_true]
            refine ⟨_, rfl, _, rfl, x1, c, rfl, hA.same s16, .inr (.inr ⟨y1, e, rfl, hE.same s16, _, h6, szl (by rw [List.length_map, List.length_take]; omega), My.Same.new s6 hL1, ?_⟩)⟩
            rw [upd_same, take_more he, List.map_append]
            rfl
          · rintro H6 ⟨s6, h6⟩
            have l6 := s6 _ _ (s1 _ _ lm)
            refine ⟨_, rfl, mL, rfl, _, l6, _, rfl, Int.natCast_nonneg _, ?_, fun L2 hL2 => ?_⟩
            · rw [List.length_map]; omega
            have hn : (((xs.map V.ref).length : Nat) : Int).toNat = xs.length := by rw [Int.toNat_natCast, List.length_map]
            refine lc_it (walk_range (lo := 0) (n := (((xs.map V.ref).length : Nat) : Int).toNat)) (fun i H' => Same H6 H' ∧ H' L2 = some (.lst (((List.range xs.length).take i).map fun i => V.bl (decide (i = j))))) ⟨My.Same.new (Same.refl H6) hL2, upd_same⟩ (fun _ _ _ _ => trivial) ?_ ?_
            · rintro i x H7 H8 hi ⟨s7, h7⟩ ⟨rfl, rfl⟩
              rw [hn] at hi
              refine ⟨rfl, ?_⟩
              simp only [tYes, if_true]
              refine ⟨_, rfl, _, rfl, rfl, _, h7, szl (by rw [List.length_map, List.length_take]; omega), My.Same.new s7 hL2, ?_⟩
              rw [upd_same]
              have e3 : (List.range xs.length)[i]? = some i := by simp [hi]
              rw [take_more e3, List.map_append]
              have e4 : decide (V.int ((0 : Int) + (i : Int)) = V.int (j : Int)) = decide (i = j) := by
                by_cases z : i = j
                · subst z; simp
                · rw [decide_eq_false z]
                  refine decide_eq_false fun y => z ?_
                  have := V.int.inj y
                  omega
              show some (HO.lst (_ ++ [V.bl (decide (V.int ((0 : Int) + (i : Int)) = V.int (j : Int)))])) = _
              rw [e4]
              rfl
            · rintro H7 ⟨s7, h7⟩
              have h8 := s7 _ _ h6
              rw [hn, List.take_of_length_le (by rw [List.length_range]; exact Nat.le_refl _)] at h7
              rw [List.take_of_length_le (by rw [List.length_map, lxs]; exact Nat.le_refl _)] at h8
              have eb : cs.map (fun e => decide (c = e)) = (List.range xs.length).map fun i => decide (i = j) := by
                refine List.ext_getElem (by simp [lxs]) fun i h1 h2 => ?_
                simp only [List.getElem_map, List.getElem_range]
                have hi : i < cs.length := by simpa using h1
                exact decide_eq_decide.mpr (words_ne cw hc (List.getElem?_eq_getElem hi))
              have g8 : H7 L1 = some (.lst ((cs.map fun e => decide (c = e)).map V.bl)) := by rw [h8, List.map_map]; rfl
              have g7 : H7 L2 = some (.lst ((cs.map fun e => decide (c = e)).map V.bl)) := by rw [h7, eb, List.map_map]; rfl
              refine ⟨_, _, dp_bls g8, dp_bls g7, sh_bls _, sh_bls _, _, rfl, ?_⟩
              rw [eqv_bls]
              exact iteF ⟨(s1.trans s6).trans s7, _, _, rfl⟩
        · rintro _ H5 ⟨s5, w9, w11, rfl⟩
          have cp0 : d0.Cps := ⟨by simp [d0], by simp [d0], by simp [d0], by simp [d0], by simp [d0], by simp [d0], by simp [d0], by simp [d0]⟩
          dsimp only
          refine step_asg ?_
          intro x dx hx hdx nex
          have s6 := My.Same.new (o := .own x) (Same.refl H5) hdx
          have hx6 : upd H5 dx (.own x) x = none := by rw [upd_ne (Ne.symm nex)]; exact hx
          have s7 := My.Same.new (o := .ins C dx []) (Same.refl (upd H5 dx (.own x))) hx6
          have e7 : upd (upd H5 dx (.own x)) x (.ins C dx []) x = some (.ins C dx []) := upd_same
          generalize upd (upd H5 dx (.own x)) x (.ins C dx []) = H6 at *
          have s56 := s6.trans s7
          refine di2_imp _ _ _ _ ⟨x, dx, tk0, tk1, tk2, [], .non, .non, d0, rfl, e7, ok0, cp0, .inr (.inr kt0), .inl ⟨rfl, rfl⟩, .inl ⟨rfl, rfl⟩, .inr (.inr kt1), .inr (.inr kt2), .nil, fun H7 c sr hdd keep => ⟨rfl, ?_⟩⟩
          obtain rfl := sr.uniq srt0 cp0.asksN cp0.paysN
          have s57 : Same H5 H7 := fun b o h => keep b o (ne_of_none h hx) (s56 b o h)
          clear s6 s7 hx6 e7 s56
          refine step_seq (step_if ?_)
          refine ⟨_, rfl, x, _, rfl, hdd, fun la H8 ma s8 mka dqa => ?_⟩
          obtain ⟨u1, u2, u3⟩ := told_ok sms0 cp0 mka
          obtain rfl := mk_uniq mka mk0
          refine ⟨la, _, rfl, dqa, u1, u2, u3, ?_⟩
          clear hdd sr keep
          refine ⟨sz (by simp), fun m1 hm1 => ?_⟩
          have nm1 := My.Same.new (o := .lst []) (Same.refl H8) hm1
          have lm1 : upd H8 m1 (.lst []) m1 = some (.lst []) := upd_same
          generalize upd H8 m1 (.lst []) = J1 at *
          refine fun m2 hm2 => ?_
          have nm2 := My.Same.new (o := .dK []) (Same.refl J1) hm2
          have lm2 : upd J1 m2 (.dK []) m2 = some (.dK []) := upd_same
          generalize upd J1 m2 (.dK []) = J2 at *
          have lm1 := nm2 _ _ lm1
          refine ⟨sz (by simp), fun m3 hm3 => ?_⟩
          have nm3 := My.Same.new (o := .lst []) (Same.refl J2) hm3
          have lm3 : upd J2 m3 (.lst []) m3 = some (.lst []) := upd_same
          generalize upd J2 m3 (.lst []) = J3 at *
          have lm1 := nm3 _ _ lm1
          have lm2 := nm3 _ _ lm2
          refine fun m4 hm4 => ?_
          have nm4 := My.Same.new (o := .dK []) (Same.refl J3) hm4
          have lm4 : upd J3 m4 (.dK []) m4 = some (.dK []) := upd_same
          generalize upd J3 m4 (.dK []) = J4 at *
          have lm1 := nm4 _ _ lm1
          have lm2 := nm4 _ _ lm2
          have lm3 := nm4 _ _ lm3
          refine ⟨sz (by simp), fun m5 hm5 => ?_⟩
          have nm5 := My.Same.new (o := .lst []) (Same.refl J4) hm5
          have lm5 : upd J4 m5 (.lst []) m5 = some (.lst []) := upd_same
          generalize upd J4 m5 (.lst []) = J5 at *
          have lm1 := nm5 _ _ lm1
          have lm2 := nm5 _ _ lm2
          have lm3 := nm5 _ _ lm3
          have lm4 := nm5 _ _ lm4
          refine ⟨sz (by simp), fun m6 hm6 => ?_⟩
          have nm6 := My.Same.new (o := .lst []) (Same.refl J5) hm6
          have lm6 : upd J5 m6 (.lst []) m6 = some (.lst []) := upd_same
          generalize upd J5 m6 (.lst []) = J6 at *
          have lm1 := nm6 _ _ lm1
          have lm2 := nm6 _ _ lm2
          have lm3 := nm6 _ _ lm3
          have lm4 := nm6 _ _ lm4
          have lm5 := nm6 _ _ lm5
          refine ⟨sz (by simp), fun m7 hm7 => ?_⟩
          have nm7 := My.Same.new (o := .lst []) (Same.refl J6) hm7
          have lm7 : upd J6 m7 (.lst []) m7 = some (.lst []) := upd_same
          generalize upd J6 m7 (.lst []) = J7 at *
          have lm1 := nm7 _ _ lm1
          have lm2 := nm7 _ _ lm2
          have lm3 := nm7 _ _ lm3
          have lm4 := nm7 _ _ lm4
          have lm5 := nm7 _ _ lm5
          have lm6 := nm7 _ _ lm6
          refine ⟨sz (by simp), fun m8 hm8 => ?_⟩
          have nm8 := My.Same.new (o := .lst []) (Same.refl J7) hm8
          have lm8 : upd J7 m8 (.lst []) m8 = some (.lst []) := upd_same
          generalize upd J7 m8 (.lst []) = J8 at *
          have lm1 := nm8 _ _ lm1
          have lm2 := nm8 _ _ lm2
          have lm3 := nm8 _ _ lm3
          have lm4 := nm8 _ _ lm4
          have lm5 := nm8 _ _ lm5
          have lm6 := nm8 _ _ lm6
          have lm7 := nm8 _ _ lm7
          refine ⟨sz (by simp), fun mm hmm => ?_⟩
          have nmm := My.Same.new (o := .lst [.str "a", .bl false, .ref m1, .str "any", .ref m2, .ref m3, .ref m4, .ref m5, .bl true, .ref m6, .ref m7, .str "stay", .ref m8]) (Same.refl J8) hmm
          have lmm : upd J8 mm (.lst [.str "a", .bl false, .ref m1, .str "any", .ref m2, .ref m3, .ref m4, .ref m5, .bl true, .ref m6, .ref m7, .str "stay", .ref m8]) mm = some (.lst [.str "a", .bl false, .ref m1, .str "any", .ref m2, .ref m3, .ref m4, .ref m5, .bl true, .ref m6, .ref m7, .str "stay", .ref m8]) := upd_same
          generalize upd J8 mm (.lst [.str "a", .bl false, .ref m1, .str "any", .ref m2, .ref m3, .ref m4, .ref m5, .bl true, .ref m6, .ref m7, .str "stay", .ref m8]) = J9 at *
          have lm1 := nmm _ _ lm1
          have lm2 := nmm _ _ lm2
          have lm3 := nmm _ _ lm3
          have lm4 := nmm _ _ lm4
          have lm5 := nmm _ _ lm5
          have lm6 := nmm _ _ lm6
          have lm7 := nmm _ _ lm7
          have lm8 := nmm _ _ lm8
          have s9 := ((((((((nm1.trans nm2).trans nm3).trans nm4).trans nm5).trans nm6).trans nm7).trans nm8).trans nmm)
          refine ⟨mm, toldD d0 [], rfl, .lst (SqL.of lmm) (.cons (.str _) (.cons (.bl _) (.cons (dq_txL (ws := []) lm1) (.cons (.str _) (.cons (dq_cnD (ks := []) lm2) (.cons (dq_txL (ws := []) lm3) (.cons (dq_cnD (ks := []) lm4) (.cons (dq_txL (ws := []) lm5) (.cons (.bl _) (.cons (dq_txL (ws := []) lm6) (.cons (dq_stL (ps := []) (sts := []) lm7 .nil) (.cons (.str _) (.cons (dq_txL (ws := []) lm8) .nil))))))))))))), u1, u2, u3, rfl, _, rfl, ?_⟩
          refine Eq.mpr (if_neg (by simp)) ?_
          try unfold tNext
          dsimp only
          have s59 := (s57.trans s8).trans s9
          clear s9 nm1 nm2 nm3 nm4 nm5 nm6 nm7 nm8 nmm lm1 lm2 lm3 lm4 lm5 lm6 lm7 lm8 lmm
          refine step_asg ?_
          refine ⟨sz (by simp), fun T hT => ?_⟩
          have nT := My.Same.new (o := .tup [.str "a"]) (Same.refl J9) hT
          have lT : upd J9 T (.tup [.str "a"]) T = some (.tup [.str "a"]) := upd_same
          generalize upd J9 T (.tup [.str "a"]) = I1 at *
          refine ⟨sz (by simp), fun L hL => ?_⟩
          have nL := My.Same.new (o := .lst [.str "a"]) (Same.refl I1) hL
          have lL : upd I1 L (.lst [.str "a"]) L = some (.lst [.str "a"]) := upd_same
          have lT := nL _ _ lT
          generalize upd I1 L (.lst [.str "a"]) = I2 at *
          refine ⟨sz (by simp), fun M hM => ?_⟩
          have nM := My.Same.new (o := .lst (menu13 T L)) (Same.refl I2) hM
          have lM : upd I2 M (.lst (menu13 T L)) M = some (.lst (menu13 T L)) := upd_same
          have lT := nM _ _ lT
          have lL := nM _ _ lL
          show tIfS _ _ _ _ _ (upd I2 M (.lst (menu13 T L)))
          generalize upd I2 M (.lst (menu13 T L)) = I3 at *
          refine step_if ?_
          refine ⟨_, rfl, M, rfl, ⟨_, SqL.of lM⟩, fun D hD => ?_⟩
          refine lc_map (j := 15) (walk_list (xs := menu13 T L)) (fun H' s => SqL.of (s _ _ lM)) (by simp [menu13]) (fun v => .bl (isWord v)) (fun _ => rfl) (fun v H' R hv sv r => ?_) hD fun I4 s4 lD => ?_
          · refine ⟨_, rfl, v, rfl, ?_, ?_, fun I5 s5 => r I5 s5⟩
            · simp only [menu13, List.mem_cons, List.not_mem_nil, or_false] at hv
              rcases hv with rfl | rfl | rfl | rfl | rfl | rfl | rfl | rfl | rfl | rfl | rfl | rfl | rfl <;> first | rfl | (show (tyO (H' T)).isSome = true; rw [sv _ _ lT]; rfl) | (show (tyO (H' L)).isSome = true; rw [sv _ _ lL]; rfl)
            · intro y ey
              subst ey
              simp only [menu13, List.mem_cons, List.not_mem_nil, or_false, V.str.injEq, reduceCtorEq, false_or] at hv
              rcases hv with rfl | rfl | rfl | rfl | rfl | rfl | rfl | rfl <;> decide +kernel
          · have eD : (menu13 T L).map (fun v => V.bl (isWord v)) = (List.replicate 3 true ++ List.replicate 10 false).map V.bl := by
              have z : (["a", "abcdefgh", "goal", "", "abcdefghi", "A", "a1", "a b"] : List Str).map (fun x => isWord (.str x)) = [true, true, true, false, false, false, false, false] := by decide +kernel
              simp only [List.map_cons, List.map_nil, List.cons.injEq, and_true] at z
              obtain ⟨q1, q2, q3, q4, q5, q6, q7, q8⟩ := z
              simp only [menu13, List.map_cons, List.map_nil, q1, q2, q3, q4, q5, q6, q7, q8]
              rfl
            rw [eD] at lD
            have s5D := ((s59.trans nT).trans nL).trans (Same.trans nM s4)
            refine ⟨sz (by simp), fun a1 ha1 => ⟨a1, 3, [.bl true], rfl, rfl, upd_same, by decide, by decide, sz (by exact (by decide : 3 ≤ 100000)), fun a2 ha2 => ?_⟩⟩
            have sa1 := My.Same.new (o := .lst [.bl true]) (Same.refl I4) ha1
            have sa2 := My.Same.new' (o := .lst (List.replicate (3 : Int).toNat [V.bl true]).flatten) sa1 ha2
            have la2 : upd (upd I4 a1 (.lst [.bl true])) a2 (.lst (List.replicate (3 : Int).toNat [V.bl true]).flatten) a2 = some (.lst (List.replicate 3 (V.bl true))) := upd_same
            generalize upd (upd I4 a1 (.lst [.bl true])) a2 (.lst (List.replicate (3 : Int).toNat [V.bl true]).flatten) = I5 at *
            refine ⟨sz (by simp), fun a3 ha3 => ⟨a3, 10, [.bl false], rfl, rfl, upd_same, by decide, by decide, sz (by exact (by decide : 10 ≤ 100000)), fun a4 ha4 => ?_⟩⟩
            have sa3 := My.Same.new (o := .lst [.bl false]) (Same.refl I5) ha3
            have sa4 := My.Same.new' (o := .lst (List.replicate (10 : Int).toNat [V.bl false]).flatten) sa3 ha4
            have la4 : upd (upd I5 a3 (.lst [.bl false])) a4 (.lst (List.replicate (10 : Int).toNat [V.bl false]).flatten) a4 = some (.lst (List.replicate 10 (V.bl false))) := upd_same
            have la2 := sa4 _ _ la2
            generalize upd (upd I5 a3 (.lst [.bl false])) a4 (.lst (List.replicate (10 : Int).toNat [V.bl false]).flatten) = I6 at *
            refine ⟨a2, a4, _, _, rfl, rfl, la2, la4, sz (by simp), fun a5 ha5 => ?_⟩
            have sa5 := My.Same.new (o := .lst (List.replicate 3 (V.bl true) ++ List.replicate 10 (V.bl false))) (Same.refl I6) ha5
            have la5 : upd I6 a5 (.lst (List.replicate 3 (V.bl true) ++ List.replicate 10 (V.bl false))) a5 = some (.lst ((List.replicate 3 true ++ List.replicate 10 false).map V.bl)) := upd_same
            generalize upd I6 a5 (.lst (List.replicate 3 (V.bl true) ++ List.replicate 10 (V.bl false))) = I7 at *
            have s47 := (sa2.trans sa4).trans sa5
            refine ⟨_, _, dp_bls (s47 _ _ lD), dp_bls la5, sh_bls _, sh_bls _, _, rfl, ?_⟩
            rw [eqv_bls]
            refine iteF ⟨_, _, _, _, _, _, _, _, _, _, _, _, _, _, _, rfl, ?_⟩
            have s02 : Same H0 H2 := fun b o h => b2 b o (ne_of_none h hp) (s1 b o h)
            have s04 : Same H0 H4 := fun b o h => B1 b o (ne_of_none h hp) (s02 b o h)
            exact ((sm.trans s04).trans (Same.trans s5 s5D)).trans s47
    · rintro _ H' ⟨_, _, _, _, _, _, _, _, _, _, _, _, _, _, _, rfl, _⟩
      exact q H'
end
end My

set_option Elab.async false
set_option linter.all false
set_option maxRecDepth 100000
set_option maxHeartbeats 4000000
namespace My
open PySem PySem.Spec PyProof.Rows L2

theorem kit_of {K : PySem.W.Frag} {t : Value} {A : Addr} {b : Bool} (h1 : PySem.W.isClsIn K A = true) (h2 : PySem.W.typeIn K (.ref A) = some (.type "type")) (h3 : PySem.W.subIn K t (.ref A) = some b) : PySem.W.kitCls K t (.ref A) = some b := by
  have e1 : (PySem.W.clsIn K A).isSome = true := h1
  unfold PySem.W.kitCls
  simp only [e1, h2, Bool.true_and]
  exact h3
def strB : List DictEntry → Bool
  | [] => true
  | e :: r => (match e.key with
    | .str _ _ => true
    | _ => false) && strB r
theorem strB_ok {l : List DictEntry} (h : strB l = true) : StrKeys l.toArray := by
  induction l with
  | nil => intro e he; simp at he
  | cons a r ih =>
    intro e he
    obtain ⟨h1, h2⟩ := Bool.and_eq_true_iff.mp (show ((match a.key with
      | .str _ _ => true
      | _ => false) && strB r) = true from h)
    rcases List.mem_cons.mp (show e ∈ a :: r by simpa using he) with rfl | hm
    · cases q : e.key <;> rw [q] at h1 <;> first | exact ⟨_, _, rfl⟩ | cases h1
    · exact ih h2 e (by simpa using hm)
abbrev kw8 (T0 T1 T2 : Addr) : List (Str × V) := [("opens", .bl false), ("answers", .ref T0), ("whose", .str "any"), ("asks", .non), ("pays", .non), ("card", .bl true), ("goals", .ref T1), ("steps", .ref T2)]
abbrev FunDI (K : PySem.W.Frag) (T0 T1 T2 f : Addr) (fd : FuncData) : Prop := FunD K "__init__" "Deed.__init__" (defArgs sDI) (defBody sDI) (defScope sDI) [] (kw8 T0 T1 T2) f fd
section
variable {K : PySem.W.Frag} {T0 T1 T2 f : Addr} {fd : FuncData}
theorem b2D (F : FunDI K T0 T1 T2 f fd) : KBn K fd psDI 2 ["opens", "answers", "whose", "asks", "pays", "card", "goals", "steps"] (fun us ws => us ++ ws) (fun vs zs => vs ++ zs) := by
  obtain ⟨mv, h⟩ := FunD.kbinds0 (ps := psDI) F 2 ["opens", "answers", "whose", "asks", "pays", "card", "goals", "steps"] [] (fun us _ ws => us ++ ws) (by simp) (by simp) (fun a _ c => a.append c) (fun D doc pm an cdv ct us mv ws l1 l2 l3 => by
    match us, l1, ws, l3 with
    | [_, _], _, [_, _, _, _, _, _, _, _], _ => rfl)
  exact h
theorem b0D (F : FunDI K T0 T1 T2 f fd) : ∃ ds, Vals [.bl false, .ref T0, .str "any", .non, .non, .bl true, .ref T1, .ref T2] ds ∧ L2.Binds K fd psDI ds := by
  refine FunD.binds0 (ps := psDI) F 2 (by simp) rfl (fun D doc pm an cdv ct us ks l1 l2 => ?_)
  match us, l1, ks, l2 with
  | [_, _], _, [_, _, _, _, _, _, _, _], _ => exact ⟨_, _, _, _, _, _, rfl, rfl, _, _, _, _, _, _, rfl, rfl, _, _, _, _, _, _, rfl, rfl, _, _, _, _, _, _, rfl, rfl, _, _, _, _, _, _, rfl, rfl, _, _, _, _, _, _, rfl, rfl, _, _, _, _, _, _, rfl, rfl, _, _, _, _, _, _, rfl, rfl, rfl⟩
end
/-- the facts of the module behind its top, and the law's promise from them -/
theorem all_mk {P : Program} {w : World} {K : PySem.W.Frag} {h : Heap} {mg : Str → Option Value} {fa : Addr} (X : K.In h) (G : h.Ns mainGlobals mg) (hfa : mg "law" = some (.ref fa))
    {C CB A0 Dk T0 T1 T2 bN wN f_num f_opn f_drw f_pck f_mks f_ddn f_dgm f_mko f_tol f_due f_iso f_spo f_blt f_oth f_mdd f_nmb f_row f_one f_wrd f_mrk f_wds f_cnt f_stp f_sts f_law f_bd f_di f_de f_am f_an f_as f_py f_go f_st f_ac p_an p_as p_py p_go p_st p_ac : Addr} {tkL tkM t1 t2 t3 tkW : Tok} {oc_num kV_num dc_num pm_num cd_num ct_num oc_opn kV_opn dc_opn pm_opn cd_opn ct_opn oc_drw kV_drw dc_drw pm_drw cd_drw ct_drw oc_pck kV_pck dc_pck pm_pck cd_pck ct_pck oc_mks kV_mks dc_mks pm_mks cd_mks ct_mks oc_ddn kV_ddn dc_ddn pm_ddn cd_ddn ct_ddn oc_dgm kV_dgm dc_dgm pm_dgm cd_dgm ct_dgm oc_mko kV_mko dc_mko pm_mko cd_mko ct_mko oc_tol kV_tol dc_tol pm_tol cd_tol ct_tol oc_due kV_due dc_due pm_due cd_due ct_due oc_iso kV_iso dc_iso pm_iso cd_iso ct_iso oc_spo kV_spo dc_spo pm_spo cd_spo ct_spo oc_blt kV_blt dc_blt pm_blt cd_blt ct_blt oc_oth kV_oth dc_oth pm_oth cd_oth ct_oth oc_mdd kV_mdd dc_mdd pm_mdd cd_mdd ct_mdd oc_nmb kV_nmb dc_nmb pm_nmb cd_nmb ct_nmb oc_row kV_row dc_row pm_row cd_row ct_row oc_one kV_one dc_one pm_one cd_one ct_one oc_wrd kV_wrd dc_wrd pm_wrd cd_wrd ct_wrd oc_mrk kV_mrk dc_mrk pm_mrk cd_mrk ct_mrk oc_wds kV_wds dc_wds pm_wds cd_wds ct_wds oc_cnt kV_cnt dc_cnt pm_cnt cd_cnt ct_cnt oc_stp kV_stp dc_stp pm_stp cd_stp ct_stp oc_sts kV_sts dc_sts pm_sts cd_sts ct_sts oc_law kV_law dc_law pm_law cd_law ct_law oc_bd kV_bd dc_bd pm_bd cd_bd ct_bd oc_di dc_di pm_di cd_di ct_di kV_de dc_de pm_de cd_de ct_de oc_am kV_am dc_am pm_am cd_am ct_am oc_an kV_an dc_an pm_an cd_an ct_an oc_as kV_as dc_as pm_as cd_as ct_as oc_py kV_py dc_py pm_py cd_py ct_py oc_go kV_go dc_go pm_go cd_go ct_go oc_st kV_st dc_st pm_st cd_st ct_st oc_ac kV_ac dc_ac pm_ac cd_ac ct_ac : Value} {od_num an_num od_opn an_opn od_drw an_drw od_pck an_pck od_mks an_mks od_ddn an_ddn od_dgm an_dgm od_mko an_mko od_tol an_tol od_due an_due od_iso an_iso od_spo an_spo od_blt an_blt od_oth an_oth od_mdd an_mdd od_nmb an_nmb od_row an_row od_one an_one od_wrd an_wrd od_mrk an_mrk od_wds an_wds od_cnt an_cnt od_stp an_stp od_sts an_sts od_law an_law od_bd an_bd od_di an_di od_de an_de od_am an_am od_an an_an od_as an_as od_py an_py od_go an_go od_st an_st od_ac an_ac dA dT0 dT1 dT2 : Option Addr} {nA nT0 nT1 nT2 : Nat} {sl_num sl_opn sl_drw sl_pck sl_mks sl_ddn sl_dgm sl_mko sl_tol sl_due sl_iso sl_spo sl_blt sl_oth sl_mdd sl_nmb sl_row sl_one sl_wrd sl_mrk sl_wds sl_cnt sl_stp sl_sts sl_law sl_bd sl_di sl_de sl_am sl_an sl_as sl_py sl_go sl_st sl_ac sA sT0 sT1 sT2 : Array (Option Value)} {rest_an rest_as rest_py rest_go rest_st rest_ac : List Value} {bnm bq : Str} {bbs bbm : List Value} {bsn : List Str} {bsub : List Value} {bab : Bool} {bcol : Option Bool} {bdd : Option Addr} {bk0 bk1 bk2 bk3 bk5 : Option Value} {wnm wq : Str} {wbs : List Value} {whd : Bool} {wsn : List Str} {wsub : List Value} {wab : Bool} {wcol : Option Bool} {wdd : Option Addr} {wk0 wk1 wk2 wk3 wk5 : Option Value} {wid : String} {woN : Value} {wdN : Option Addr} {wes : Array DictEntry} {wep : Nat} {wsN : Array (Option Value)}
    (aD : PySem.W.nsIn K mainGlobals "Deed" = some (some (.ref C)))
    (aB : PySem.W.nsIn K mainGlobals "BadDeed" = some (some (.ref CB)))
    (aL : PySem.W.nsIn K mainGlobals "LETTERS" = some (some (.str letters tkL)))
    (aM : PySem.W.nsIn K mainGlobals "MOST_MARKS" = some (some (.int 3 tkM)))
    (aA : PySem.W.nsIn K mainGlobals "ACTS" = some (some (.ref A0)))
    (lA : K.lookup A0 = some ⟨.type "tuple", dA, .seq #[.str "strike" t1, .str "again" t2, .str "turn" t3] nA, sA⟩)
    (a_num : PySem.W.nsIn K mainGlobals "_law_numbers" = some (some (.ref f_num)))
    (l_num : K.lookup f_num = some ⟨oc_num, od_num, .func (PySem.W.fnOf "_law_numbers" "_law_numbers" (defArgs sNum) (defBody sNum) (defScope sNum) .none kV_num dc_num pm_num an_num cd_num ct_num), sl_num⟩)
    (c_num : PySem.W.codeIn K cd_num "_law_numbers" = true)
    (k_num : PySem.W.keepIn K (.ref f_num) = true)
    (a_opn : PySem.W.nsIn K mainGlobals "_law_opened" = some (some (.ref f_opn)))
    (l_opn : K.lookup f_opn = some ⟨oc_opn, od_opn, .func (PySem.W.fnOf "_law_opened" "_law_opened" (defArgs sOpn) (defBody sOpn) (defScope sOpn) .none kV_opn dc_opn pm_opn an_opn cd_opn ct_opn), sl_opn⟩)
    (c_opn : PySem.W.codeIn K cd_opn "_law_opened" = true)
    (k_opn : PySem.W.keepIn K (.ref f_opn) = true)
    (a_drw : PySem.W.nsIn K mainGlobals "_law_draw" = some (some (.ref f_drw)))
    (l_drw : K.lookup f_drw = some ⟨oc_drw, od_drw, .func (PySem.W.fnOf "_law_draw" "_law_draw" (defArgs sDrw) (defBody sDrw) (defScope sDrw) .none kV_drw dc_drw pm_drw an_drw cd_drw ct_drw), sl_drw⟩)
    (c_drw : PySem.W.codeIn K cd_drw "_law_draw" = true)
    (k_drw : PySem.W.keepIn K (.ref f_drw) = true)
    (a_pck : PySem.W.nsIn K mainGlobals "_law_pick" = some (some (.ref f_pck)))
    (l_pck : K.lookup f_pck = some ⟨oc_pck, od_pck, .func (PySem.W.fnOf "_law_pick" "_law_pick" (defArgs sPck) (defBody sPck) (defScope sPck) .none kV_pck dc_pck pm_pck an_pck cd_pck ct_pck), sl_pck⟩)
    (c_pck : PySem.W.codeIn K cd_pck "_law_pick" = true)
    (k_pck : PySem.W.keepIn K (.ref f_pck) = true)
    (a_mks : PySem.W.nsIn K mainGlobals "_law_marks" = some (some (.ref f_mks)))
    (l_mks : K.lookup f_mks = some ⟨oc_mks, od_mks, .func (PySem.W.fnOf "_law_marks" "_law_marks" (defArgs sMks) (defBody sMks) (defScope sMks) .none kV_mks dc_mks pm_mks an_mks cd_mks ct_mks), sl_mks⟩)
    (c_mks : PySem.W.codeIn K cd_mks "_law_marks" = true)
    (k_mks : PySem.W.keepIn K (.ref f_mks) = true)
    (a_ddn : PySem.W.nsIn K mainGlobals "_law_drawn_deed" = some (some (.ref f_ddn)))
    (l_ddn : K.lookup f_ddn = some ⟨oc_ddn, od_ddn, .func (PySem.W.fnOf "_law_drawn_deed" "_law_drawn_deed" (defArgs sDdn) (defBody sDdn) (defScope sDdn) .none kV_ddn dc_ddn pm_ddn an_ddn cd_ddn ct_ddn), sl_ddn⟩)
    (c_ddn : PySem.W.codeIn K cd_ddn "_law_drawn_deed" = true)
    (k_ddn : PySem.W.keepIn K (.ref f_ddn) = true)
    (a_dgm : PySem.W.nsIn K mainGlobals "_law_drawn_game" = some (some (.ref f_dgm)))
    (l_dgm : K.lookup f_dgm = some ⟨oc_dgm, od_dgm, .func (PySem.W.fnOf "_law_drawn_game" "_law_drawn_game" (defArgs sDgm) (defBody sDgm) (defScope sDgm) .none kV_dgm dc_dgm pm_dgm an_dgm cd_dgm ct_dgm), sl_dgm⟩)
    (c_dgm : PySem.W.codeIn K cd_dgm "_law_drawn_game" = true)
    (k_dgm : PySem.W.keepIn K (.ref f_dgm) = true)
    (a_mko : PySem.W.nsIn K mainGlobals "_law_marks_of" = some (some (.ref f_mko)))
    (l_mko : K.lookup f_mko = some ⟨oc_mko, od_mko, .func (PySem.W.fnOf "_law_marks_of" "_law_marks_of" (defArgs sMko) (defBody sMko) (defScope sMko) .none kV_mko dc_mko pm_mko an_mko cd_mko ct_mko), sl_mko⟩)
    (c_mko : PySem.W.codeIn K cd_mko "_law_marks_of" = true)
    (k_mko : PySem.W.keepIn K (.ref f_mko) = true)
    (a_tol : PySem.W.nsIn K mainGlobals "_law_told" = some (some (.ref f_tol)))
    (l_tol : K.lookup f_tol = some ⟨oc_tol, od_tol, .func (PySem.W.fnOf "_law_told" "_law_told" (defArgs sTol) (defBody sTol) (defScope sTol) .none kV_tol dc_tol pm_tol an_tol cd_tol ct_tol), sl_tol⟩)
    (c_tol : PySem.W.codeIn K cd_tol "_law_told" = true)
    (k_tol : PySem.W.keepIn K (.ref f_tol) = true)
    (a_due : PySem.W.nsIn K mainGlobals "_law_due" = some (some (.ref f_due)))
    (l_due : K.lookup f_due = some ⟨oc_due, od_due, .func (PySem.W.fnOf "_law_due" "_law_due" (defArgs sDue) (defBody sDue) (defScope sDue) .none kV_due dc_due pm_due an_due cd_due ct_due), sl_due⟩)
    (c_due : PySem.W.codeIn K cd_due "_law_due" = true)
    (k_due : PySem.W.keepIn K (.ref f_due) = true)
    (a_iso : PySem.W.nsIn K mainGlobals "_law_in_some_order" = some (some (.ref f_iso)))
    (l_iso : K.lookup f_iso = some ⟨oc_iso, od_iso, .func (PySem.W.fnOf "_law_in_some_order" "_law_in_some_order" (defArgs sIso) (defBody sIso) (defScope sIso) .none kV_iso dc_iso pm_iso an_iso cd_iso ct_iso), sl_iso⟩)
    (c_iso : PySem.W.codeIn K cd_iso "_law_in_some_order" = true)
    (k_iso : PySem.W.keepIn K (.ref f_iso) = true)
    (a_spo : PySem.W.nsIn K mainGlobals "_law_all_spoilt" = some (some (.ref f_spo)))
    (l_spo : K.lookup f_spo = some ⟨oc_spo, od_spo, .func (PySem.W.fnOf "_law_all_spoilt" "_law_all_spoilt" (defArgs sSpo) (defBody sSpo) (defScope sSpo) .none kV_spo dc_spo pm_spo an_spo cd_spo ct_spo), sl_spo⟩)
    (c_spo : PySem.W.codeIn K cd_spo "_law_all_spoilt" = true)
    (k_spo : PySem.W.keepIn K (.ref f_spo) = true)
    (a_blt : PySem.W.nsIn K mainGlobals "_law_built" = some (some (.ref f_blt)))
    (l_blt : K.lookup f_blt = some ⟨oc_blt, od_blt, .func (PySem.W.fnOf "_law_built" "_law_built" (defArgs sBlt) (defBody sBlt) (defScope sBlt) .none kV_blt dc_blt pm_blt an_blt cd_blt ct_blt), sl_blt⟩)
    (c_blt : PySem.W.codeIn K cd_blt "_law_built" = true)
    (k_blt : PySem.W.keepIn K (.ref f_blt) = true)
    (a_oth : PySem.W.nsIn K mainGlobals "_law_otherwise" = some (some (.ref f_oth)))
    (l_oth : K.lookup f_oth = some ⟨oc_oth, od_oth, .func (PySem.W.fnOf "_law_otherwise" "_law_otherwise" (defArgs sOth) (defBody sOth) (defScope sOth) .none kV_oth dc_oth pm_oth an_oth cd_oth ct_oth), sl_oth⟩)
    (c_oth : PySem.W.codeIn K cd_oth "_law_otherwise" = true)
    (k_oth : PySem.W.keepIn K (.ref f_oth) = true)
    (a_mdd : PySem.W.nsIn K mainGlobals "_law_made_deed" = some (some (.ref f_mdd)))
    (l_mdd : K.lookup f_mdd = some ⟨oc_mdd, od_mdd, .func (PySem.W.fnOf "_law_made_deed" "_law_made_deed" (defArgs sMdd) (defBody sMdd) (defScope sMdd) .none kV_mdd dc_mdd pm_mdd an_mdd cd_mdd ct_mdd), sl_mdd⟩)
    (c_mdd : PySem.W.codeIn K cd_mdd "_law_made_deed" = true)
    (k_mdd : PySem.W.keepIn K (.ref f_mdd) = true)
    (a_nmb : PySem.W.nsIn K mainGlobals "is_number" = some (some (.ref f_nmb)))
    (l_nmb : K.lookup f_nmb = some ⟨oc_nmb, od_nmb, .func (PySem.W.fnOf "is_number" "is_number" (defArgs sNmb) (defBody sNmb) (defScope sNmb) .none kV_nmb dc_nmb pm_nmb an_nmb cd_nmb ct_nmb), sl_nmb⟩)
    (c_nmb : PySem.W.codeIn K cd_nmb "is_number" = true)
    (k_nmb : PySem.W.keepIn K (.ref f_nmb) = true)
    (a_row : PySem.W.nsIn K mainGlobals "is_row" = some (some (.ref f_row)))
    (l_row : K.lookup f_row = some ⟨oc_row, od_row, .func (PySem.W.fnOf "is_row" "is_row" (defArgs sRow) (defBody sRow) (defScope sRow) .none kV_row dc_row pm_row an_row cd_row ct_row), sl_row⟩)
    (c_row : PySem.W.codeIn K cd_row "is_row" = true)
    (k_row : PySem.W.keepIn K (.ref f_row) = true)
    (a_one : PySem.W.nsIn K mainGlobals "is_one_of" = some (some (.ref f_one)))
    (l_one : K.lookup f_one = some ⟨oc_one, od_one, .func (PySem.W.fnOf "is_one_of" "is_one_of" (defArgs sOne) (defBody sOne) (defScope sOne) .none kV_one dc_one pm_one an_one cd_one ct_one), sl_one⟩)
    (c_one : PySem.W.codeIn K cd_one "is_one_of" = true)
    (k_one : PySem.W.keepIn K (.ref f_one) = true)
    (a_wrd : PySem.W.nsIn K mainGlobals "is_word" = some (some (.ref f_wrd)))
    (l_wrd : K.lookup f_wrd = some ⟨oc_wrd, od_wrd, .func (PySem.W.fnOf "is_word" "is_word" (defArgs sWrd) (defBody sWrd) (defScope sWrd) .none kV_wrd dc_wrd pm_wrd an_wrd cd_wrd ct_wrd), sl_wrd⟩)
    (c_wrd : PySem.W.codeIn K cd_wrd "is_word" = true)
    (k_wrd : PySem.W.keepIn K (.ref f_wrd) = true)
    (a_mrk : PySem.W.nsIn K mainGlobals "is_mark" = some (some (.ref f_mrk)))
    (l_mrk : K.lookup f_mrk = some ⟨oc_mrk, od_mrk, .func (PySem.W.fnOf "is_mark" "is_mark" (defArgs sMrk) (defBody sMrk) (defScope sMrk) .none kV_mrk dc_mrk pm_mrk an_mrk cd_mrk ct_mrk), sl_mrk⟩)
    (c_mrk : PySem.W.codeIn K cd_mrk "is_mark" = true)
    (k_mrk : PySem.W.keepIn K (.ref f_mrk) = true)
    (a_wds : PySem.W.nsIn K mainGlobals "are_words" = some (some (.ref f_wds)))
    (l_wds : K.lookup f_wds = some ⟨oc_wds, od_wds, .func (PySem.W.fnOf "are_words" "are_words" (defArgs sWds) (defBody sWds) (defScope sWds) .none kV_wds dc_wds pm_wds an_wds cd_wds ct_wds), sl_wds⟩)
    (c_wds : PySem.W.codeIn K cd_wds "are_words" = true)
    (k_wds : PySem.W.keepIn K (.ref f_wds) = true)
    (a_cnt : PySem.W.nsIn K mainGlobals "are_counts" = some (some (.ref f_cnt)))
    (l_cnt : K.lookup f_cnt = some ⟨oc_cnt, od_cnt, .func (PySem.W.fnOf "are_counts" "are_counts" (defArgs sCnt) (defBody sCnt) (defScope sCnt) .none kV_cnt dc_cnt pm_cnt an_cnt cd_cnt ct_cnt), sl_cnt⟩)
    (c_cnt : PySem.W.codeIn K cd_cnt "are_counts" = true)
    (k_cnt : PySem.W.keepIn K (.ref f_cnt) = true)
    (a_stp : PySem.W.nsIn K mainGlobals "is_step" = some (some (.ref f_stp)))
    (l_stp : K.lookup f_stp = some ⟨oc_stp, od_stp, .func (PySem.W.fnOf "is_step" "is_step" (defArgs sStp) (defBody sStp) (defScope sStp) .none kV_stp dc_stp pm_stp an_stp cd_stp ct_stp), sl_stp⟩)
    (c_stp : PySem.W.codeIn K cd_stp "is_step" = true)
    (k_stp : PySem.W.keepIn K (.ref f_stp) = true)
    (a_sts : PySem.W.nsIn K mainGlobals "are_steps" = some (some (.ref f_sts)))
    (l_sts : K.lookup f_sts = some ⟨oc_sts, od_sts, .func (PySem.W.fnOf "are_steps" "are_steps" (defArgs sSts) (defBody sSts) (defScope sSts) .none kV_sts dc_sts pm_sts an_sts cd_sts ct_sts), sl_sts⟩)
    (c_sts : PySem.W.codeIn K cd_sts "are_steps" = true)
    (k_sts : PySem.W.keepIn K (.ref f_sts) = true)
    (a_law : PySem.W.nsIn K mainGlobals "law" = some (some (.ref f_law)))
    (l_law : K.lookup f_law = some ⟨oc_law, od_law, .func (PySem.W.fnOf "law" "law" (defArgs sLaw) (defBody sLaw) (defScope sLaw) .none kV_law dc_law pm_law an_law cd_law ct_law), sl_law⟩)
    (c_law : PySem.W.codeIn K cd_law "law" = true)
    (k_law : PySem.W.keepIn K (.ref f_law) = true)
    (b_i : PySem.W.findIn K (.ref CB) "__init__" = some (some (.ref f_bd)))
    (b_t : PySem.W.typeIn K (.ref f_bd) = some (.type "function"))
    (l_bd : K.lookup f_bd = some ⟨oc_bd, od_bd, .func (PySem.W.fnOf "__init__" "BadDeed.__init__" (defArgs sBD) (defBody sBD) (defScope sBD) .none kV_bd dc_bd pm_bd an_bd cd_bd ct_bd), sl_bd⟩)
    (c_bd : PySem.W.codeIn K cd_bd "BadDeed.__init__" = true)
    (k_bd : PySem.W.keepIn K (.ref f_bd) = true)
    (b_x : K.lookup CB = some (excClassObj bnm bq CB bN bbs bbm true bsn bsub bab bcol bdd bk0 bk1 bk2 bk3 bk5 "ValueError.__new__"))
    (b_r : PySem.HandSPX.refsVE bbm = true)
    (b_sa : PySem.W.findIn K (.ref CB) "__setattr__" = some (some (.builtin "object.__setattr__")))
    (b_ex : PySem.W.subIn K (.ref CB) (.type "BaseException") = some true)
    (b_ty : PySem.W.typeIn K (.ref CB) = some (.type "type"))
    (b_k : PySem.W.keepIn K (.ref CB) = true)
    (b_no : PySem.W.findIn K (.ref CB) "part" = some none)
    (b_ga : PySem.W.findIn K (.ref CB) "__getattribute__" = some (some (.builtin "BaseException.__getattribute__")))
    (b_gg : PySem.W.findIn K (.ref CB) "__getattr__" = some none)
    (b_hd : PySem.W.hasDictIn K CB = true)
    (w_mk : PySem.W.makesIn K C = true)
    (w_i : PySem.W.findIn K (.ref C) "__init__" = some (some (.ref f_di)))
    (w_if : PySem.W.isFn K (.ref f_di) = true)
    (w_k : PySem.W.keepIn K (.ref C) = true)
    (l_di : K.lookup f_di = some ⟨oc_di, od_di, .func (PySem.W.fnOf "__init__" "Deed.__init__" (defArgs sDI) (defBody sDI) (defScope sDI) .none (.ref Dk) dc_di pm_di an_di cd_di ct_di), sl_di⟩)
    (c_di : PySem.W.codeIn K cd_di "Deed.__init__" = true)
    (k_di : PySem.W.keepIn K (.ref f_di) = true)
    (d_op : PySem.W.nsIn K Dk "opens" = some (some (.bool false)))
    (d_an : PySem.W.nsIn K Dk "answers" = some (some (.ref T0)))
    (d_wh : PySem.W.nsIn K Dk "whose" = some (some (.str "any" tkW)))
    (d_as : PySem.W.nsIn K Dk "asks" = some (some .none))
    (d_py : PySem.W.nsIn K Dk "pays" = some (some .none))
    (d_ca : PySem.W.nsIn K Dk "card" = some (some (.bool true)))
    (d_go : PySem.W.nsIn K Dk "goals" = some (some (.ref T1)))
    (d_st : PySem.W.nsIn K Dk "steps" = some (some (.ref T2)))
    (lT0 : K.lookup T0 = some ⟨.type "tuple", dT0, .seq #[] nT0, sT0⟩)
    (lT1 : K.lookup T1 = some ⟨.type "tuple", dT1, .seq #[] nT1, sT1⟩)
    (lT2 : K.lookup T2 = some ⟨.type "tuple", dT2, .seq #[] nT2, sT2⟩)
    (w_e : PySem.W.findIn K (.ref C) "__eq__" = some (some (.ref f_de)))
    (w_ef : PySem.W.isFn K (.ref f_de) = true)
    (l_de : K.lookup f_de = some ⟨.type "function", od_de, .func (PySem.W.fnOf "__eq__" "Deed.__eq__" (defArgs sDE) (defBody sDE) (defScope sDE) .none kV_de dc_de pm_de an_de cd_de ct_de), sl_de⟩)
    (c_de : PySem.W.codeIn K cd_de "Deed.__eq__" = true)
    (k_de : PySem.W.keepIn K (.ref f_de) = true)
    (w_pg : PySem.W.plainGet K C Str.empty = true)
    (w_hd : PySem.W.hasDictIn K C = true)
    (w_po : PySem.W.plainOver K C = true)
    (w_sa : PySem.W.findIn K (.ref C) "__setattr__" = some (some (.builtin "object.__setattr__")))
    (n_word : PySem.W.findIn K (.ref C) "word" = some none)
    (n_opens : PySem.W.findIn K (.ref C) "opens" = some none)
    (n_whose : PySem.W.findIn K (.ref C) "whose" = some none)
    (n_card : PySem.W.findIn K (.ref C) "card" = some none)
    (n_answers_ : PySem.W.findIn K (.ref C) "_answers" = some none)
    (n_asks_ : PySem.W.findIn K (.ref C) "_asks" = some none)
    (n_pays_ : PySem.W.findIn K (.ref C) "_pays" = some none)
    (n_goals_ : PySem.W.findIn K (.ref C) "_goals" = some none)
    (n_steps_ : PySem.W.findIn K (.ref C) "_steps" = some none)
    (i_a : PySem.W.findIn K (.ref C) "__class__" = some (some (.builtin "object.__class__")))
    (i_n : PySem.W.specialIn K (.builtin "object.__class__") "__get__" = some (some (.builtin "getset_descriptor.__get__")))
    (i_t : PySem.W.takesIn K (.builtin "object.__class__") = some true)
    (i_m : PySem.W.mroIn K C (.type "object") = some true)
    (w_ic : PySem.W.isClsIn K C = true)
    (w_ty : PySem.W.typeIn K (.ref C) = some (.type "type"))
    (i_s : PySem.W.subIn K (.type "str") (.ref C) = some false)
    (i_i : PySem.W.subIn K (.type "int") (.ref C) = some false)
    (w_nf : PySem.W.notFirst K C (.type "str") = true)
    (w_ni : PySem.W.notFirst K C (.type "int") = true)
    (w_x : K.lookup C = some (excClassObj wnm wq C wN wbs [.type "object"] whd wsn wsub wab wcol wdd wk0 wk1 wk2 wk3 wk5 wid))
    (w_ns : K.lookup wN = some ⟨woN, wdN, .dict wes wep, wsN⟩)
    (w_sk : StrKeys wes)
    (w_ne : nsFind wes "__ne__" = none)
    (w_nq : nsFind wes "__eq__" = some (.ref f_de))
    (p1_an : PySem.W.findIn K (.ref C) "answers" = some (some (.ref p_an)))
    (p2_an : PySem.W.specialIn K (.ref p_an) "__get__" = some (some (.builtin "property.__get__")))
    (p3_an : PySem.W.takesIn K (.ref p_an) = some true)
    (p4_an : PySem.W.recIn K p_an "property" = some (.ref f_an :: rest_an))
    (l_an : K.lookup f_an = some ⟨oc_an, od_an, .func (PySem.W.fnOf "answers" "Deed.answers" (defArgs sPAn) (defBody sPAn) (defScope sPAn) .none kV_an dc_an pm_an an_an cd_an ct_an), sl_an⟩)
    (c_an : PySem.W.codeIn K cd_an "Deed.answers" = true)
    (k_an : PySem.W.keepIn K (.ref f_an) = true)
    (p1_as : PySem.W.findIn K (.ref C) "asks" = some (some (.ref p_as)))
    (p2_as : PySem.W.specialIn K (.ref p_as) "__get__" = some (some (.builtin "property.__get__")))
    (p3_as : PySem.W.takesIn K (.ref p_as) = some true)
    (p4_as : PySem.W.recIn K p_as "property" = some (.ref f_as :: rest_as))
    (l_as : K.lookup f_as = some ⟨oc_as, od_as, .func (PySem.W.fnOf "asks" "Deed.asks" (defArgs sPAs) (defBody sPAs) (defScope sPAs) .none kV_as dc_as pm_as an_as cd_as ct_as), sl_as⟩)
    (c_as : PySem.W.codeIn K cd_as "Deed.asks" = true)
    (k_as : PySem.W.keepIn K (.ref f_as) = true)
    (p1_py : PySem.W.findIn K (.ref C) "pays" = some (some (.ref p_py)))
    (p2_py : PySem.W.specialIn K (.ref p_py) "__get__" = some (some (.builtin "property.__get__")))
    (p3_py : PySem.W.takesIn K (.ref p_py) = some true)
    (p4_py : PySem.W.recIn K p_py "property" = some (.ref f_py :: rest_py))
    (l_py : K.lookup f_py = some ⟨oc_py, od_py, .func (PySem.W.fnOf "pays" "Deed.pays" (defArgs sPPy) (defBody sPPy) (defScope sPPy) .none kV_py dc_py pm_py an_py cd_py ct_py), sl_py⟩)
    (c_py : PySem.W.codeIn K cd_py "Deed.pays" = true)
    (k_py : PySem.W.keepIn K (.ref f_py) = true)
    (p1_go : PySem.W.findIn K (.ref C) "goals" = some (some (.ref p_go)))
    (p2_go : PySem.W.specialIn K (.ref p_go) "__get__" = some (some (.builtin "property.__get__")))
    (p3_go : PySem.W.takesIn K (.ref p_go) = some true)
    (p4_go : PySem.W.recIn K p_go "property" = some (.ref f_go :: rest_go))
    (l_go : K.lookup f_go = some ⟨oc_go, od_go, .func (PySem.W.fnOf "goals" "Deed.goals" (defArgs sPGo) (defBody sPGo) (defScope sPGo) .none kV_go dc_go pm_go an_go cd_go ct_go), sl_go⟩)
    (c_go : PySem.W.codeIn K cd_go "Deed.goals" = true)
    (k_go : PySem.W.keepIn K (.ref f_go) = true)
    (p1_st : PySem.W.findIn K (.ref C) "steps" = some (some (.ref p_st)))
    (p2_st : PySem.W.specialIn K (.ref p_st) "__get__" = some (some (.builtin "property.__get__")))
    (p3_st : PySem.W.takesIn K (.ref p_st) = some true)
    (p4_st : PySem.W.recIn K p_st "property" = some (.ref f_st :: rest_st))
    (l_st : K.lookup f_st = some ⟨oc_st, od_st, .func (PySem.W.fnOf "steps" "Deed.steps" (defArgs sPSt) (defBody sPSt) (defScope sPSt) .none kV_st dc_st pm_st an_st cd_st ct_st), sl_st⟩)
    (c_st : PySem.W.codeIn K cd_st "Deed.steps" = true)
    (k_st : PySem.W.keepIn K (.ref f_st) = true)
    (p1_ac : PySem.W.findIn K (.ref C) "act" = some (some (.ref p_ac)))
    (p2_ac : PySem.W.specialIn K (.ref p_ac) "__get__" = some (some (.builtin "property.__get__")))
    (p3_ac : PySem.W.takesIn K (.ref p_ac) = some true)
    (p4_ac : PySem.W.recIn K p_ac "property" = some (.ref f_ac :: rest_ac))
    (l_ac : K.lookup f_ac = some ⟨oc_ac, od_ac, .func (PySem.W.fnOf "act" "Deed.act" (defArgs sPa) (defBody sPa) (defScope sPa) .none kV_ac dc_ac pm_ac an_ac cd_ac ct_ac), sl_ac⟩)
    (c_ac : PySem.W.codeIn K cd_ac "Deed.act" = true)
    (k_ac : PySem.W.keepIn K (.ref f_ac) = true)
    (m_at : PySem.W.findIn K (.ref C) "all_marks" = some (some (.ref f_am)))
    (m_fn : PySem.W.isFn K (.ref f_am) = true)
    (l_am : K.lookup f_am = some ⟨oc_am, od_am, .func (PySem.W.fnOf "all_marks" "Deed.all_marks" (defArgs sAm) (defBody sAm) (defScope sAm) .none kV_am dc_am pm_am an_am cd_am ct_am), sl_am⟩)
    (c_am : PySem.W.codeIn K cd_am "Deed.all_marks" = true)
    (k_am : PySem.W.keepIn K (.ref f_am) = true)
    (z_max : PySem.W.nsIn K mainGlobals "max" = some none)
    (z_min : PySem.W.nsIn K mainGlobals "min" = some none)
    (z_int : PySem.W.nsIn K mainGlobals "int" = some none)
    (z_str : PySem.W.nsIn K mainGlobals "str" = some none)
    (z_bool : PySem.W.nsIn K mainGlobals "bool" = some none)
    (z_len : PySem.W.nsIn K mainGlobals "len" = some none)
    (z_all : PySem.W.nsIn K mainGlobals "all" = some none)
    (z_range : PySem.W.nsIn K mainGlobals "range" = some none)
    (z_dict : PySem.W.nsIn K mainGlobals "dict" = some none)
    (z_enumerate : PySem.W.nsIn K mainGlobals "enumerate" = some none)
    (z_isinstance : PySem.W.nsIn K mainGlobals "isinstance" = some none)
    (z_repr : PySem.W.nsIn K mainGlobals "repr" = some none)
    (z_list : PySem.W.nsIn K mainGlobals "list" = some none)
    (z_tuple : PySem.W.nsIn K mainGlobals "tuple" = some none)
    (z_set : PySem.W.nsIn K mainGlobals "set" = some none)
    (z_sorted : PySem.W.nsIn K mainGlobals "sorted" = some none) :
    ∃ fd : FuncData, (∀ (s : Shared) (u : Value), BindsTo s fd ⟨[u], []⟩ [("script", u)]) ∧ ∀ base : Heap, K.In base → base.Ns mainGlobals mg → AtTop P w K mg base fa fd ["script"] (spLaw K) := by
  have ee := hfa.symm.trans (PySem.W.mg_of X G a_law)
  cases ee
  have B : Bn mg := ⟨PySem.W.mg_none_of X G z_max, PySem.W.mg_none_of X G z_min, PySem.W.mg_none_of X G z_int, PySem.W.mg_none_of X G z_str, PySem.W.mg_none_of X G z_bool, PySem.W.mg_none_of X G z_len, PySem.W.mg_none_of X G z_all, PySem.W.mg_none_of X G z_range, PySem.W.mg_none_of X G z_dict, PySem.W.mg_none_of X G z_enumerate, PySem.W.mg_none_of X G z_isinstance, PySem.W.mg_none_of X G z_repr, PySem.W.mg_none_of X G z_list, PySem.W.mg_none_of X G z_tuple, PySem.W.mg_none_of X G z_set, PySem.W.mg_none_of X G z_sorted⟩
  have gm := fun {n : Str} {v : Value} (e : PySem.W.nsIn K mainGlobals n = some (some v)) => PySem.W.mg_of X G e
  let D_num : Df K mg "_law_numbers" sNum ["cell", "salt", "many"] := ⟨f_num, _, fun_mk (st := sNum) l_num c_num k_num, gm a_num, Fun.binds (ps := ["cell", "salt", "many"]) (fun_mk (st := sNum) l_num c_num k_num) (fun _ _ _ _ _ _ us hl => match us, hl with | [_, _, _], _ => rfl)⟩
  let D_opn : Df K mg "_law_opened" sOpn ["script", "k", "many"] := ⟨f_opn, _, fun_mk (st := sOpn) l_opn c_opn k_opn, gm a_opn, Fun.binds (ps := ["script", "k", "many"]) (fun_mk (st := sOpn) l_opn c_opn k_opn) (fun _ _ _ _ _ _ us hl => match us, hl with | [_, _, _], _ => rfl)⟩
  let D_drw : Df K mg "_law_draw" sDrw ["pool", "many"] := ⟨f_drw, _, fun_mk (st := sDrw) l_drw c_drw k_drw, gm a_drw, Fun.binds (ps := ["pool", "many"]) (fun_mk (st := sDrw) l_drw c_drw k_drw) (fun _ _ _ _ _ _ us hl => match us, hl with | [_, _], _ => rfl)⟩
  let D_pck : Df K mg "_law_pick" sPck ["pool", "some"] := ⟨f_pck, _, fun_mk (st := sPck) l_pck c_pck k_pck, gm a_pck, Fun.binds (ps := ["pool", "some"]) (fun_mk (st := sPck) l_pck c_pck k_pck) (fun _ _ _ _ _ _ us hl => match us, hl with | [_, _], _ => rfl)⟩
  let D_mks : Df K mg "_law_marks" sMks ["pool"] := ⟨f_mks, _, fun_mk (st := sMks) l_mks c_mks k_mks, gm a_mks, Fun.binds (ps := ["pool"]) (fun_mk (st := sMks) l_mks c_mks k_mks) (fun _ _ _ _ _ _ us hl => match us, hl with | [_], _ => rfl)⟩
  let D_ddn : Df K mg "_law_drawn_deed" sDdn ["pool", "word", "words", "marks", "rarely"] := ⟨f_ddn, _, fun_mk (st := sDdn) l_ddn c_ddn k_ddn, gm a_ddn, Fun.binds (ps := ["pool", "word", "words", "marks", "rarely"]) (fun_mk (st := sDdn) l_ddn c_ddn k_ddn) (fun _ _ _ _ _ _ us hl => match us, hl with | [_, _, _, _, _], _ => rfl)⟩
  let D_dgm : Df K mg "_law_drawn_game" sDgm ["pool", "deeds", "wakings", "rarely"] := ⟨f_dgm, _, fun_mk (st := sDgm) l_dgm c_dgm k_dgm, gm a_dgm, Fun.binds (ps := ["pool", "deeds", "wakings", "rarely"]) (fun_mk (st := sDgm) l_dgm c_dgm k_dgm) (fun _ _ _ _ _ _ us hl => match us, hl with | [_, _, _, _], _ => rfl)⟩
  let D_mko : Df K mg "_law_marks_of" sMko ["deed"] := ⟨f_mko, _, fun_mk (st := sMko) l_mko c_mko k_mko, gm a_mko, Fun.binds (ps := ["deed"]) (fun_mk (st := sMko) l_mko c_mko k_mko) (fun _ _ _ _ _ _ us hl => match us, hl with | [_], _ => rfl)⟩
  let D_tol : Df K mg "_law_told" sTol ["one"] := ⟨f_tol, _, fun_mk (st := sTol) l_tol c_tol k_tol, gm a_tol, Fun.binds (ps := ["one"]) (fun_mk (st := sTol) l_tol c_tol k_tol) (fun _ _ _ _ _ _ us hl => match us, hl with | [_], _ => rfl)⟩
  let D_due : Df K mg "_law_due" sDue ["deed"] := ⟨f_due, _, fun_mk (st := sDue) l_due c_due k_due, gm a_due, Fun.binds (ps := ["deed"]) (fun_mk (st := sDue) l_due c_due k_due) (fun _ _ _ _ _ _ us hl => match us, hl with | [_], _ => rfl)⟩
  let D_iso : Df K mg "_law_in_some_order" sIso ["pool", "rows"] := ⟨f_iso, _, fun_mk (st := sIso) l_iso c_iso k_iso, gm a_iso, Fun.binds (ps := ["pool", "rows"]) (fun_mk (st := sIso) l_iso c_iso k_iso) (fun _ _ _ _ _ _ us hl => match us, hl with | [_, _], _ => rfl)⟩
  let D_spo : Df K mg "_law_all_spoilt" sSpo ["one"] := ⟨f_spo, _, fun_mk (st := sSpo) l_spo c_spo k_spo, gm a_spo, Fun.binds (ps := ["one"]) (fun_mk (st := sSpo) l_spo c_spo k_spo) (fun _ _ _ _ _ _ us hl => match us, hl with | [_], _ => rfl)⟩
  let D_blt : Df K mg "_law_built" sBlt ["deed", "likes", "aims", "rows"] := ⟨f_blt, _, fun_mk (st := sBlt) l_blt c_blt k_blt, gm a_blt, Fun.binds (ps := ["deed", "likes", "aims", "rows"]) (fun_mk (st := sBlt) l_blt c_blt k_blt) (fun _ _ _ _ _ _ us hl => match us, hl with | [_, _, _, _], _ => rfl)⟩
  let D_oth : Df K mg "_law_otherwise" sOth ["pool", "deed"] := ⟨f_oth, _, fun_mk (st := sOth) l_oth c_oth k_oth, gm a_oth, Fun.binds (ps := ["pool", "deed"]) (fun_mk (st := sOth) l_oth c_oth k_oth) (fun _ _ _ _ _ _ us hl => match us, hl with | [_, _], _ => rfl)⟩
  let D_mdd : Df K mg "_law_made_deed" sMdd ["deed"] := ⟨f_mdd, _, fun_mk (st := sMdd) l_mdd c_mdd k_mdd, gm a_mdd, Fun.binds (ps := ["deed"]) (fun_mk (st := sMdd) l_mdd c_mdd k_mdd) (fun _ _ _ _ _ _ us hl => match us, hl with | [_], _ => rfl)⟩
  let D_nmb : Df K mg "is_number" sNmb ["value", "least", "most"] := ⟨f_nmb, _, fun_mk (st := sNmb) l_nmb c_nmb k_nmb, gm a_nmb, Fun.binds (ps := ["value", "least", "most"]) (fun_mk (st := sNmb) l_nmb c_nmb k_nmb) (fun _ _ _ _ _ _ us hl => match us, hl with | [_, _, _], _ => rfl)⟩
  let D_row : Df K mg "is_row" sRow ["value"] := ⟨f_row, _, fun_mk (st := sRow) l_row c_row k_row, gm a_row, Fun.binds (ps := ["value"]) (fun_mk (st := sRow) l_row c_row k_row) (fun _ _ _ _ _ _ us hl => match us, hl with | [_], _ => rfl)⟩
  let D_one : Df K mg "is_one_of" sOne ["value", "words"] := ⟨f_one, _, fun_mk (st := sOne) l_one c_one k_one, gm a_one, Fun.binds (ps := ["value", "words"]) (fun_mk (st := sOne) l_one c_one k_one) (fun _ _ _ _ _ _ us hl => match us, hl with | [_, _], _ => rfl)⟩
  let D_wrd : Df K mg "is_word" sWrd ["value"] := ⟨f_wrd, _, fun_mk (st := sWrd) l_wrd c_wrd k_wrd, gm a_wrd, Fun.binds (ps := ["value"]) (fun_mk (st := sWrd) l_wrd c_wrd k_wrd) (fun _ _ _ _ _ _ us hl => match us, hl with | [_], _ => rfl)⟩
  let D_mrk : Df K mg "is_mark" sMrk ["value"] := ⟨f_mrk, _, fun_mk (st := sMrk) l_mrk c_mrk k_mrk, gm a_mrk, Fun.binds (ps := ["value"]) (fun_mk (st := sMrk) l_mrk c_mrk k_mrk) (fun _ _ _ _ _ _ us hl => match us, hl with | [_], _ => rfl)⟩
  let D_wds : Df K mg "are_words" sWds ["value", "most"] := ⟨f_wds, _, fun_mk (st := sWds) l_wds c_wds k_wds, gm a_wds, Fun.binds (ps := ["value", "most"]) (fun_mk (st := sWds) l_wds c_wds k_wds) (fun _ _ _ _ _ _ us hl => match us, hl with | [_, _], _ => rfl)⟩
  let D_cnt : Df K mg "are_counts" sCnt ["value"] := ⟨f_cnt, _, fun_mk (st := sCnt) l_cnt c_cnt k_cnt, gm a_cnt, Fun.binds (ps := ["value"]) (fun_mk (st := sCnt) l_cnt c_cnt k_cnt) (fun _ _ _ _ _ _ us hl => match us, hl with | [_], _ => rfl)⟩
  let D_stp : Df K mg "is_step" sStp ["value", "is_last", "has_goals"] := ⟨f_stp, _, fun_mk (st := sStp) l_stp c_stp k_stp, gm a_stp, Fun.binds (ps := ["value", "is_last", "has_goals"]) (fun_mk (st := sStp) l_stp c_stp k_stp) (fun _ _ _ _ _ _ us hl => match us, hl with | [_, _, _], _ => rfl)⟩
  let D_sts : Df K mg "are_steps" sSts ["value", "has_goals"] := ⟨f_sts, _, fun_mk (st := sSts) l_sts c_sts k_sts, gm a_sts, Fun.binds (ps := ["value", "has_goals"]) (fun_mk (st := sSts) l_sts c_sts k_sts) (fun _ _ _ _ _ _ us hl => match us, hl with | [_, _], _ => rfl)⟩
  let TB : Xc K mg "BadDeed" "part" "BadDeed.__init__" sBD := { C := CB, fI := f_bd, fd := _, oex := ⟨⟨_, _, _, _, _, _, _, _, _, _, _, _, _, _, _, b_x, b_r⟩, b_sa, b_ex, b_ty, b_k⟩, iC := b_i, tI := b_t, F := fun_mk (st := sBD) l_bd c_bd k_bd, b := Fun.binds (ps := ["self", "part"]) (fun_mk (st := sBD) l_bd c_bd k_bd) (fun _ _ _ _ _ _ us hl => match us, hl with | [_, _], _ => rfl), g := gm aB, no := b_no, xf := ⟨b_ga, b_gg, b_ex, b_hd⟩ }
  have FI : FunDI K T0 T1 T2 f_di _ := ⟨⟨oc_di, od_di, .none, .ref Dk, dc_di, pm_di, an_di, cd_di, ct_di, sl_di, rfl, l_di, c_di, .inl ⟨rfl, rfl⟩, .inr ⟨Dk, rfl, fun q hq => by
    rcases List.mem_cons.mp hq with rfl | hq
    · exact ⟨_, d_op, rfl⟩
    rcases List.mem_cons.mp hq with rfl | hq
    · exact ⟨_, d_an, rfl⟩
    rcases List.mem_cons.mp hq with rfl | hq
    · exact ⟨_, d_wh, ⟨_, rfl⟩⟩
    rcases List.mem_cons.mp hq with rfl | hq
    · exact ⟨_, d_as, rfl⟩
    rcases List.mem_cons.mp hq with rfl | hq
    · exact ⟨_, d_py, rfl⟩
    rcases List.mem_cons.mp hq with rfl | hq
    · exact ⟨_, d_ca, rfl⟩
    rcases List.mem_cons.mp hq with rfl | hq
    · exact ⟨_, d_go, rfl⟩
    rcases List.mem_cons.mp hq with rfl | hq
    · exact ⟨_, d_st, rfl⟩
    cases hq⟩⟩, k_di⟩
  have TD : DdT K C := ⟨⟨w_pg, w_hd, w_po, w_sa⟩, fun f hf => by
    simp only [List.mem_cons, List.not_mem_nil, or_false] at hf
    rcases hf with rfl | rfl | rfl | rfl | rfl | rfl | rfl | rfl | rfl
    · exact n_word
    · exact n_opens
    · exact n_whose
    · exact n_card
    · exact n_answers_
    · exact n_asks_
    · exact n_pays_
    · exact n_goals_
    · exact n_steps_⟩
  have kCC : PySem.W.kitOne K (.ref C) (.ref C) = some true := by
    unfold PySem.W.kitOne
    rw [if_pos (by simp)]
  have kSC : PySem.W.kitOne K (.type "str") (.ref C) = some false := by
    unfold PySem.W.kitOne
    rw [if_neg (by simp)]
    exact kit_of w_ic w_ty i_s
  have kIC : PySem.W.kitOne K (.type "int") (.ref C) = some false := by
    unfold PySem.W.kitOne
    rw [if_neg (by simp)]
    exact kit_of w_ic w_ty i_i
  have TI : DdI K C := ⟨i_a, i_n, i_t, i_m, kSC, kIC, kCC⟩
  have hA : ∀ H : Hp, SqT K H A0 (acts.map V.str) := fun H => .inr ⟨_, _, _, lA, rfl, rfl, by show 3 ≤ sizeLine; decide, .cons ⟨_, rfl⟩ (.cons ⟨_, rfl⟩ (.cons ⟨_, rfl⟩ .nil))⟩
  have kt0 : KT K T0 [] := ⟨_, _, _, lT0, rfl, rfl, Nat.zero_le _, .nil⟩
  have kt1 : KT K T1 [] := ⟨_, _, _, lT1, rfl, rfl, Nat.zero_le _, .nil⟩
  have kt2 : KT K T2 [] := ⟨_, _, _, lT2, rfl, rfl, Nat.zero_le _, .nil⟩
  have FE := fun_mk (st := sDE) l_de c_de k_de
  have bE : L2.Binds K _ ["self", "other"] [] := FE.binds (ps := ["self", "other"]) (fun _ _ _ _ _ _ us hl => match us, hl with | [_, _], _ => rfl)
  obtain ⟨ds, v0, b0⟩ := b0D FI
  refine ⟨PySem.W.fnOf "law" "law" (defArgs sLaw) (defBody sLaw) (defScope sLaw) .none kV_law dc_law pm_law an_law cd_law ct_law, fun s v => .of_eq rfl, fun base _ _ => ?_⟩
  have G_num := ok_num (P := P) (w := w) (mg := mg) (base := base) D_num.F B
  have G_opn := ok_opn (P := P) (w := w) (base := base) D_opn.F B D_num G_num
  have G_drw0 := ok_drw (P := P) (w := w) (mg := mg) (base := base) D_drw.F B
  have G_pck := (ok_pck (P := P) (w := w) (base := base) D_pck.F B D_drw G_drw0).imp pckB_imp
  have G_drw := G_drw0.imp drwB_imp
  have G_mks := ok_mks (P := P) (w := w) (base := base) D_mks.F B D_pck G_pck
  have G_ddn := ok_ddn (P := P) (w := w) (base := base) D_ddn.F B D_drw G_drw D_pck G_pck
  have G_dgm := ok_dgm0 (P := P) (w := w) (base := base) D_dgm.F B D_drw G_drw D_pck G_pck D_mks G_mks D_ddn G_ddn
  have G_nmb := ok_nmb (P := P) (w := w) (mg := mg) (base := base) D_nmb.F B
  have G_row := ok_row (P := P) (w := w) (mg := mg) (base := base) D_row.F B
  have G_one := ok_one (P := P) (w := w) (mg := mg) (base := base) D_one.F B
  have G_wrd := ok_wrd (P := P) (w := w) (mg := mg) (base := base) D_wrd.F B (gm aL)
  have G_mrk := ok_mrk (P := P) (w := w) (base := base) D_mrk.F B D_wrd G_wrd
  have G_wds := ok_wds (P := P) (w := w) (base := base) D_wds.F B D_wrd G_wrd D_row G_row
  have G_cnt := ok_cnt (P := P) (w := w) (base := base) D_cnt.F B (gm aM) D_mrk G_mrk D_nmb G_nmb
  have G_stp := ok_stp (P := P) (w := w) (base := base) D_stp.F B (gm aA) hA D_one G_one D_mrk G_mrk
  have G_sts := ok_sts (P := P) (w := w) (base := base) D_sts.F B D_row G_row D_stp G_stp
  have G_di := ok_di (P := P) (w := w) (base := base) TD FI B TB D_wrd G_wrd D_one G_one D_wds G_wds D_cnt G_cnt D_sts G_sts
  let MD : DdM P w K mg base C := ⟨f_di, _, G_di, ⟨w_mk, w_i, w_if, w_k⟩, gm aD, _, b2D FI⟩
  have G_de := ok_de (P := P) (w := w) (base := base) FE B TD TI (gm aD)
  let DE : DdE P w K mg base C := ⟨f_de, _, G_de, bE, w_e, w_ef, w_nf, w_ni, ⟨_, _, _, _, _, _, _, _, _, _, _, _, _, _, _, _, _, _, _, _, _, _, _, _, _, w_x, w_ns, w_sk, w_nq, w_ne, l_de, rfl⟩⟩
  have G_an := ok_pAn (P := P) (w := w) (mg := mg) (base := base) (fun_mk (st := sPAn) l_an c_an k_an) B TD
  have G_as := ok_pAs (P := P) (w := w) (mg := mg) (base := base) (fun_mk (st := sPAs) l_as c_as k_as) B TD
  have G_py := ok_pPy (P := P) (w := w) (mg := mg) (base := base) (fun_mk (st := sPPy) l_py c_py k_py) B TD
  have G_go := ok_pGo (P := P) (w := w) (mg := mg) (base := base) (fun_mk (st := sPGo) l_go c_go k_go) B TD
  have G_st := ok_pSt (P := P) (w := w) (mg := mg) (base := base) (fun_mk (st := sPSt) l_st c_st k_st) B TD
  have G_ac := ok_pa (P := P) (w := w) (mg := mg) (base := base) (fun_mk (st := sPa) l_ac c_ac k_ac) B TD
  have G_am := ok_am (P := P) (w := w) (mg := mg) (base := base) (fun_mk (st := sAm) l_am c_am k_am) B TD
  let DR : DdR P w K mg base C := ⟨TD, ⟨p_an, f_an, _, ⟨p1_an, p2_an, p3_an, ⟨_, p4_an⟩⟩, G_an, Fun.binds (ps := ["self"]) (fun_mk (st := sPAn) l_an c_an k_an) (fun _ _ _ _ _ _ us hl => match us, hl with | [_], _ => rfl)⟩, ⟨p_as, f_as, _, ⟨p1_as, p2_as, p3_as, ⟨_, p4_as⟩⟩, G_as, Fun.binds (ps := ["self"]) (fun_mk (st := sPAs) l_as c_as k_as) (fun _ _ _ _ _ _ us hl => match us, hl with | [_], _ => rfl)⟩, ⟨p_py, f_py, _, ⟨p1_py, p2_py, p3_py, ⟨_, p4_py⟩⟩, G_py, Fun.binds (ps := ["self"]) (fun_mk (st := sPPy) l_py c_py k_py) (fun _ _ _ _ _ _ us hl => match us, hl with | [_], _ => rfl)⟩, ⟨p_go, f_go, _, ⟨p1_go, p2_go, p3_go, ⟨_, p4_go⟩⟩, G_go, Fun.binds (ps := ["self"]) (fun_mk (st := sPGo) l_go c_go k_go) (fun _ _ _ _ _ _ us hl => match us, hl with | [_], _ => rfl)⟩, ⟨p_st, f_st, _, ⟨p1_st, p2_st, p3_st, ⟨_, p4_st⟩⟩, G_st, Fun.binds (ps := ["self"]) (fun_mk (st := sPSt) l_st c_st k_st) (fun _ _ _ _ _ _ us hl => match us, hl with | [_], _ => rfl)⟩, ⟨p_ac, f_ac, _, ⟨p1_ac, p2_ac, p3_ac, ⟨_, p4_ac⟩⟩, G_ac, Fun.binds (ps := ["self"]) (fun_mk (st := sPa) l_ac c_ac k_ac) (fun _ _ _ _ _ _ us hl => match us, hl with | [_], _ => rfl)⟩, ⟨f_am, _, ⟨m_at, m_fn, k_am⟩, G_am, Fun.binds (ps := ["self"]) (fun_mk (st := sAm) l_am c_am k_am) (fun _ _ _ _ _ _ us hl => match us, hl with | [_], _ => rfl)⟩⟩
  have G_mko := ok_mko (P := P) (w := w) (mg := mg) (base := base) D_mko.F B
  have G_tol := ok_tol (P := P) (w := w) (base := base) D_tol.F B DR
  have G_due := ok_due (P := P) (w := w) (base := base) D_due.F B D_mko G_mko
  have G_iso := ok_iso (P := P) (w := w) (base := base) D_iso.F B D_drw G_drw
  have G_spo := ok_spo (P := P) (w := w) (base := base) D_spo.F B DR
  have G_blt := ok_blt (P := P) (w := w) (base := base) D_blt.F B MD
  have G_mdd := ok_mdd (P := P) (w := w) (base := base) D_mdd.F B MD
  have G_oth := ok_oth (P := P) (w := w) (base := base) D_oth.F B D_pck G_pck
  exact ok_law (fun_mk (st := sLaw) l_law c_law k_law) ⟨B, D_opn, G_opn, D_dgm, G_dgm, D_iso, G_iso, D_blt, G_blt, D_spo, G_spo, D_tol, G_tol, D_due, G_due, D_mdd, G_mdd, D_oth, G_oth, D_wrd, G_wrd, MD, DE, T0, T1, T2, kt0, kt1, kt2, ds, v0, b0⟩
end My

set_option Elab.async false
set_option linter.all false
open PySem PySem.W PyProof.Rows
set_option maxRecDepth 100000 in
set_option maxHeartbeats 0 in
theorem PySem.Challenge.cw_answerpiles_k02_deeds_told_holds : PySem.Challenge.rw_answerpiles_k02_deeds_told.Holds := by
  w_on; o_law; k_head; (case hw => w_witness2)
  k_fill
  refine My.top_walk (l := PySem.Challenge.rw_answerpiles_k02_deeds_told) (n := 63) (par := "script") (sp := My.spLaw) rfl (by decide) rfl (fun w h Y => PySem.W.kIn_of Y) ?F (fun K H a ns hl hS => ⟨a, ns, rfl, hS, hl, fun _ => rfl⟩)
  case F =>
    intro w mg fa h KX G hmg
    refine' My.all_mk KX G hmg ?aD ?aB ?aL ?aM ?aA ?lA ?a_num ?l_num ?c_num ?k_num ?a_opn ?l_opn ?c_opn ?k_opn ?a_drw ?l_drw ?c_drw ?k_drw ?a_pck ?l_pck ?c_pck ?k_pck ?a_mks ?l_mks ?c_mks ?k_mks ?a_ddn ?l_ddn ?c_ddn ?k_ddn ?a_dgm ?l_dgm ?c_dgm ?k_dgm ?a_mko ?l_mko ?c_mko ?k_mko ?a_tol ?l_tol ?c_tol ?k_tol ?a_due ?l_due ?c_due ?k_due ?a_iso ?l_iso ?c_iso ?k_iso ?a_spo ?l_spo ?c_spo ?k_spo ?a_blt ?l_blt ?c_blt ?k_blt ?a_oth ?l_oth ?c_oth ?k_oth ?a_mdd ?l_mdd ?c_mdd ?k_mdd ?a_nmb ?l_nmb ?c_nmb ?k_nmb ?a_row ?l_row ?c_row ?k_row ?a_one ?l_one ?c_one ?k_one ?a_wrd ?l_wrd ?c_wrd ?k_wrd ?a_mrk ?l_mrk ?c_mrk ?k_mrk ?a_wds ?l_wds ?c_wds ?k_wds ?a_cnt ?l_cnt ?c_cnt ?k_cnt ?a_stp ?l_stp ?c_stp ?k_stp ?a_sts ?l_sts ?c_sts ?k_sts ?a_law ?l_law ?c_law ?k_law ?b_i ?b_t ?l_bd ?c_bd ?k_bd ?b_x ?b_r ?b_sa ?b_ex ?b_ty ?b_k ?b_no ?b_ga ?b_gg ?b_hd ?w_mk ?w_i ?w_if ?w_k ?l_di ?c_di ?k_di ?d_op ?d_an ?d_wh ?d_as ?d_py ?d_ca ?d_go ?d_st ?lT0 ?lT1 ?lT2 ?w_e ?w_ef ?l_de ?c_de ?k_de ?w_pg ?w_hd ?w_po ?w_sa ?n_word ?n_opens ?n_whose ?n_card ?n_answers_ ?n_asks_ ?n_pays_ ?n_goals_ ?n_steps_ ?i_a ?i_n ?i_t ?i_m ?w_ic ?w_ty ?i_s ?i_i ?w_nf ?w_ni ?w_x ?w_ns ?w_sk ?w_ne ?w_nq ?p1_an ?p2_an ?p3_an ?p4_an ?l_an ?c_an ?k_an ?p1_as ?p2_as ?p3_as ?p4_as ?l_as ?c_as ?k_as ?p1_py ?p2_py ?p3_py ?p4_py ?l_py ?c_py ?k_py ?p1_go ?p2_go ?p3_go ?p4_go ?l_go ?c_go ?k_go ?p1_st ?p2_st ?p3_st ?p4_st ?l_st ?c_st ?k_st ?p1_ac ?p2_ac ?p3_ac ?p4_ac ?l_ac ?c_ac ?k_ac ?m_at ?m_fn ?l_am ?c_am ?k_am ?z_max ?z_min ?z_int ?z_str ?z_bool ?z_len ?z_all ?z_range ?z_dict ?z_enumerate ?z_isinstance ?z_repr ?z_list ?z_tuple ?z_set ?z_sorted
    (case aD => k_is)
    (case aB => k_is)
    (case aL => k_is)
    (case aM => k_is)
    (case aA => k_is)
    (case lA => k_is)
    (case a_num => k_is)
    (case l_num => k_is)
    (case c_num => k_is)
    (case k_num => k_is)
    (case a_opn => k_is)
    (case l_opn => k_is)
    (case c_opn => k_is)
    (case k_opn => k_is)
    (case a_drw => k_is)
    (case l_drw => k_is)
    (case c_drw => k_is)
    (case k_drw => k_is)
    (case a_pck => k_is)
    (case l_pck => k_is)
    (case c_pck => k_is)
    (case k_pck => k_is)
    (case a_mks => k_is)
    (case l_mks => k_is)
    (case c_mks => k_is)
    (case k_mks => k_is)
    (case a_ddn => k_is)
    (case l_ddn => k_is)
    (case c_ddn => k_is)
    (case k_ddn => k_is)
    (case a_dgm => k_is)
    (case l_dgm => k_is)
    (case c_dgm => k_is)
    (case k_dgm => k_is)
    (case a_mko => k_is)
    (case l_mko => k_is)
    (case c_mko => k_is)
    (case k_mko => k_is)
    (case a_tol => k_is)
    (case l_tol => k_is)
    (case c_tol => k_is)
    (case k_tol => k_is)
    (case a_due => k_is)
    (case l_due => k_is)
    (case c_due => k_is)
    (case k_due => k_is)
    (case a_iso => k_is)
    (case l_iso => k_is)
    (case c_iso => k_is)
    (case k_iso => k_is)
    (case a_spo => k_is)
    (case l_spo => k_is)
    (case c_spo => k_is)
    (case k_spo => k_is)
    (case a_blt => k_is)
    (case l_blt => k_is)
    (case c_blt => k_is)
    (case k_blt => k_is)
    (case a_oth => k_is)
    (case l_oth => k_is)
    (case c_oth => k_is)
    (case k_oth => k_is)
    (case a_mdd => k_is)
    (case l_mdd => k_is)
    (case c_mdd => k_is)
    (case k_mdd => k_is)
    (case a_nmb => k_is)
    (case l_nmb => k_is)
    (case c_nmb => k_is)
    (case k_nmb => k_is)
    (case a_row => k_is)
    (case l_row => k_is)
    (case c_row => k_is)
    (case k_row => k_is)
    (case a_one => k_is)
    (case l_one => k_is)
    (case c_one => k_is)
    (case k_one => k_is)
    (case a_wrd => k_is)
    (case l_wrd => k_is)
    (case c_wrd => k_is)
    (case k_wrd => k_is)
    (case a_mrk => k_is)
    (case l_mrk => k_is)
    (case c_mrk => k_is)
    (case k_mrk => k_is)
    (case a_wds => k_is)
    (case l_wds => k_is)
    (case c_wds => k_is)
    (case k_wds => k_is)
    (case a_cnt => k_is)
    (case l_cnt => k_is)
    (case c_cnt => k_is)
    (case k_cnt => k_is)
    (case a_stp => k_is)
    (case l_stp => k_is)
    (case c_stp => k_is)
    (case k_stp => k_is)
    (case a_sts => k_is)
    (case l_sts => k_is)
    (case c_sts => k_is)
    (case k_sts => k_is)
    (case a_law => k_is)
    (case l_law => k_is)
    (case c_law => k_is)
    (case k_law => k_is)
    (case b_i => k_is)
    (case b_t => k_is)
    (case l_bd => k_is)
    (case c_bd => k_is)
    (case k_bd => k_is)
    (case b_x => k_is)
    (case b_r => first | decide +kernel | rfl | k_is)
    (case b_sa => k_is)
    (case b_ex => k_is)
    (case b_ty => k_is)
    (case b_k => k_is)
    (case b_no => k_is)
    (case b_ga => k_is)
    (case b_gg => k_is)
    (case b_hd => k_is)
    (case w_mk => k_is)
    (case w_i => k_is)
    (case w_if => k_is)
    (case w_k => k_is)
    (case l_di => k_is)
    (case c_di => k_is)
    (case k_di => k_is)
    (case d_op => k_is)
    (case d_an => k_is)
    (case d_wh => k_is)
    (case d_as => k_is)
    (case d_py => k_is)
    (case d_ca => k_is)
    (case d_go => k_is)
    (case d_st => k_is)
    (case lT0 => k_is)
    (case lT1 => k_is)
    (case lT2 => k_is)
    (case w_e => k_is)
    (case w_ef => k_is)
    (case l_de => k_is)
    (case c_de => k_is)
    (case k_de => k_is)
    (case w_pg => k_is)
    (case w_hd => k_is)
    (case w_po => k_is)
    (case w_sa => k_is)
    (case n_word => k_is)
    (case n_opens => k_is)
    (case n_whose => k_is)
    (case n_card => k_is)
    (case n_answers_ => k_is)
    (case n_asks_ => k_is)
    (case n_pays_ => k_is)
    (case n_goals_ => k_is)
    (case n_steps_ => k_is)
    (case i_a => k_is)
    (case i_n => k_is)
    (case i_t => k_is)
    (case i_m => k_is)
    (case w_ic => k_is)
    (case w_ty => k_is)
    (case i_s => k_is)
    (case i_i => k_is)
    (case w_nf => k_is)
    (case w_ni => k_is)
    (case w_x => k_is)
    (case w_ns => k_is)
    (case w_sk => exact My.strB_ok (by rfl))
    (case w_ne => first | rfl | decide +kernel)
    (case w_nq => first | rfl | decide +kernel)
    (case p1_an => k_is)
    (case p2_an => k_is)
    (case p3_an => k_is)
    (case p4_an => first | k_is | rfl)
    (case l_an => k_is)
    (case c_an => k_is)
    (case k_an => k_is)
    (case p1_as => k_is)
    (case p2_as => k_is)
    (case p3_as => k_is)
    (case p4_as => first | k_is | rfl)
    (case l_as => k_is)
    (case c_as => k_is)
    (case k_as => k_is)
    (case p1_py => k_is)
    (case p2_py => k_is)
    (case p3_py => k_is)
    (case p4_py => first | k_is | rfl)
    (case l_py => k_is)
    (case c_py => k_is)
    (case k_py => k_is)
    (case p1_go => k_is)
    (case p2_go => k_is)
    (case p3_go => k_is)
    (case p4_go => first | k_is | rfl)
    (case l_go => k_is)
    (case c_go => k_is)
    (case k_go => k_is)
    (case p1_st => k_is)
    (case p2_st => k_is)
    (case p3_st => k_is)
    (case p4_st => first | k_is | rfl)
    (case l_st => k_is)
    (case c_st => k_is)
    (case k_st => k_is)
    (case p1_ac => k_is)
    (case p2_ac => k_is)
    (case p3_ac => k_is)
    (case p4_ac => first | k_is | rfl)
    (case l_ac => k_is)
    (case c_ac => k_is)
    (case k_ac => k_is)
    (case m_at => k_is)
    (case m_fn => k_is)
    (case l_am => k_is)
    (case c_am => k_is)
    (case k_am => k_is)
    (case z_max => k_is)
    (case z_min => k_is)
    (case z_int => k_is)
    (case z_str => k_is)
    (case z_bool => k_is)
    (case z_len => k_is)
    (case z_all => k_is)
    (case z_range => k_is)
    (case z_dict => k_is)
    (case z_enumerate => k_is)
    (case z_isinstance => k_is)
    (case z_repr => k_is)
    (case z_list => k_is)
    (case z_tuple => k_is)
    (case z_set => k_is)
    (case z_sorted => k_is)
