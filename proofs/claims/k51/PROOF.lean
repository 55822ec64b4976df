import PyProof.Rows.All
import HandS.Base
import HandS.Head0
import HandS.Head1
import HandS.Head2
import HandS.HeadHook1
import HandS.Words
import KE.RegKTryMore
import KE.RegKIsAll
import Wide.All
import OpenK.AllK
import Wide.FinOn
import HandS.ForMost
import HandS.Exc
import HandS.WordsExc
import HandS.Deep
import HandS.Lambda
import HandS.TupAny
import HandS.SortInts
import HandS.IsInst
import HandS.RaiseMore
import HandS.Zip
import HandS.Wide
import HandS.Style
import HandS.TupMul
import HandS.TupLe
import HandS.SetFor
import PyProof.P3In
import HandS.SlotsOwn
import PyProof.ReprRoads
import HandS.Conv
import PyProof.EqAt
import HandS.OwnEq
import PyProof.SeqRoads2
import HandS.Dict
import HandS.FStr
import HandS.ClsMeth
import KE.KCallOwn
import PyProof.TypeOfCall
import KE.KTypeOf
import HandS.TryOnly
import HandS.SetKeys
import HandS.Strs
import HandS.ExcField
import HandS.ExcIs
import HandS.ExcValue
import KE.KExcIs
import HandS.ExcInit
import KE.KNest
import HandS.EndTab
import HandS.SortKw
import KE.DataMinMax
import HandS.List
import KE.GoesMore
import KE.KDictZip
import HandS.OwnIter
import PyProof.Rows.FinIter
import PyProof.Rows.RegFStrParts
import PyProof.NeKinds
import KE.KDflt
import PyProof.Rows.SetFrom
import HandS.SortRule
import KE.KDictKeyed
import KE.KDictCopyH
import HandS.TupSets
import KE.DataFind
import PyProof.CallFns
import HandS.Star
import PyProof.Rows.Range3
import HandS.Sort
import OpenK.KTop
import HandS.Iter
import HandS.DictComp
import KE.KDictWalk
import KE.KDictSum
import KE.KDictDisplayH
import HandS.SetBool
import PySem.Challenge.RW_kindtells_k51_leads_closed_one_behind_an
set_option Elab.async false
set_option linter.all false
set_option maxRecDepth 100000
set_option maxHeartbeats 2100000
namespace Pg
open PySem
open PySem.Spec PyProof.Rows L2
/-- a def: where it stands, as the text has it -/
structure FnX where
  at_ : PySem.W.Frag → Addr
  name : Str
  qual : Str
  params : Arguments
  body : List Stmt
  scope : Scope
def FnX.val (d : FnX) : He.FnV := some (d.name, d.qual, d.params,
  .stmts d.body, d.scope, mainGlobals, [], .none, builtinsNs)
def fnObsX (K : PySem.W.Frag) (a : Addr) : He.FnV := match K.lookup a with
  | some ⟨_, _, .func z, _⟩ => some (z.name, z.qualname, z.params, z.body, z.scope,
      z.globals, z.closure, z.defaults, z.builtins)
  | _ => none
def codeOkX (K : PySem.W.Frag) (a : Addr) (q : Str) : Bool := match K.lookup a with
  | some ⟨_, _, .func z, _⟩ => PySem.W.codeIn K z.code q
  | _ => false
theorem fnX_ok {K : PySem.W.Frag} {d : FnX} (e : fnObsX K (d.at_ K) = d.val) (c : codeOkX K (d.at_ K) d.qual = true) :
    ∃ oc od osl kV doc pm an cdv ct, K.lookup (d.at_ K) = some ⟨oc, od, .func (PySem.W.fnOf d.name d.qual d.params d.body d.scope .none kV doc pm an cdv ct), osl⟩ ∧ PySem.W.codeIn K cdv d.qual = true := by
  unfold fnObsX at e; unfold codeOkX at c
  cases q : K.lookup
        (d.at_ K) with
  | none => rw [q] at c; cases c
  | some o =>
    obtain ⟨oc, od, dt, osl⟩ := o
    rw [q] at c e
    cases dt with
    | func z =>
      obtain ⟨n1, n2, n3, n4, n5, n6, n7, n8, n9, n10, n11, n12, n13, n14, n15⟩ := z
      have e2 : (some (n1, n2, n3, n4, n5, n6, n7, n8, n15) : He.FnV) = d.val := e
      unfold FnX.val at e2
      simp only [Option.some.injEq, Prod.mk.injEq] at e2; obtain ⟨h1, h2, h3, h4, h5, h6, h7, h8, h9⟩ := e2
      subst h1; subst h2; subst h3; subst h4; subst h5; subst h6; subst h7; subst h8; subst h9
      exact ⟨oc, od, osl, n9, n10, n11, n12, n13, n14, rfl, c⟩
    | _ => cases c
/-- a dict of the module whose keys are written texts -/
structure DcX where
  at_ : PySem.W.Frag → Addr
  keys : List Str
abbrev DcV : Type := Option (List (Option Str × Int))
def keyOf (v : Value) : Option Str := match v with
  | .str x _ => some x
  | _ => none
def dcObs (K : PySem.W.Frag) (a : Addr) : DcV := match K.lookup a with
  | some ⟨.type c, none, .dict es _, sl⟩ => if c = "dict" ∧ sl.toList.length = 0 then some (es.toList.map fun e => (keyOf e.key, e.hash)) else none
  | _ => none
def DcX.val (d : DcX) (w : World) : DcV := some (d.keys.map fun x => (some x, PyData.keyHash w.params x))
theorem keys_ok {w : World} : ∀ {es : List DictEntry} {ks : List Str}, es.map (fun e => (keyOf e.key, e.hash)) = ks.map (fun x => (some x, PyData.keyHash w.params x)) → PySem.W.KeysLit w.params es
  | [], _, _ => trivial
  | e :: es, [], h => by cases h
  | e :: es, k :: ks, h => by
    simp only [List.map_cons, List.cons.injEq, Prod.mk.injEq] at h
    obtain ⟨⟨h1, h2⟩, h3⟩ := h
    refine ⟨?_, keys_ok h3⟩
    unfold keyOf at h1
    split at h1
    · rename_i x t hx
      cases h1
      exact ⟨_, _, hx, h2⟩
    · cases h1
theorem dcX_ok {K : PySem.W.Frag} {w : World} {d : DcX} (e : dcObs K (d.at_ K) = d.val w) : ∃ es n, K.lookup (d.at_ K) = some ⟨.type "dict", none, .dict es n, #[]⟩ ∧ PySem.W.KeysLit w.params es.toList := by
  unfold dcObs at e
  cases q : K.lookup
        (d.at_ K) with
  | none =>
        rw [q] at e; cases e
  | some o =>
    obtain ⟨oc, od, dt, osl⟩ := o
    rw [q] at e
    cases oc with
    | type c =>
      cases od with
      | some a => cases e
      | none =>
        cases dt with
        | dict es n =>
          dsimp only at e
          split at e
          · rename_i h
            obtain ⟨rfl, h2⟩ := h
            unfold DcX.val at e
            have : osl = #[] := by
              have := List.eq_nil_of_length_eq_zero h2
              exact Array.toList_eq_nil_iff.mp this
            subst this
            exact ⟨es, n, rfl, keys_ok (Option.some.inj e)⟩
          · cases e
        | _ => cases e
    | _ => cases od <;> cases dt <;> cases e
abbrev AlX : Type := Bool × List He.FnV × List DcV
def obsX (fa : PySem.W.Frag → Bool) (fn : List FnX) (dc : List DcX) (K : PySem.W.Frag) : AlX :=
  (fa K && fn.all fun d => codeOkX K (d.at_ K) d.qual, fn.map fun d => fnObsX K (d.at_ K), dc.map fun d => dcObs K (d.at_ K))
def valX (fn : List FnX) (dc : List DcX) (w : World) : AlX := (true, fn.map FnX.val, dc.map fun d => d.val w)
def SaysX (fa : PySem.W.Frag → Bool) (fn : List FnX) (dc : List DcX) (w : World) (K : PySem.W.Frag) : Prop := obsX fa fn dc K = valX fn dc w
def hookX (as : List Addr) (fa : PySem.W.Frag → Bool) (fn : List FnX) (dc : List DcX) : PySem.W.Hook where
  α := AlX
  obs := fun s => obsX fa fn dc (He.frG s.heap.get? as)
  val := valX fn dc
  says := fun w h => ∃ K : PySem.W.Frag, K.In h ∧ SaysX fa fn dc w K
  of := fun _ _ e => ⟨_, He.frG_in, e⟩
  keeps := fun _ _ _ ⟨K, hK, c⟩ k =>
        ⟨K, PySem.W.Frag.In.keeps hK k, c⟩
section
variable {fa : PySem.W.Frag → Bool} {fn : List FnX} {dc : List DcX} {w : World} {K : PySem.W.Frag}
theorem SaysX.facts (c : SaysX fa fn dc w K) : fa K = true := (Bool.and_eq_true_iff.mp (congrArg (fun z : AlX => z.1) c)).1
theorem SaysX.func (c : SaysX fa fn dc w K) (i : Nat) {d : FnX} (h : fn[i]? = some d) :
    ∃ oc od osl kV doc pm an cdv ct, K.lookup (d.at_ K) = some ⟨oc, od, .func (PySem.W.fnOf d.name d.qual d.params d.body d.scope .none kV doc pm an cdv ct), osl⟩ ∧ PySem.W.codeIn K cdv d.qual = true := by
  have c2 := (Bool.and_eq_true_iff.mp (congrArg (fun z : AlX => z.1) c)).2
  have e : fn.map (fun d => fnObsX K (d.at_ K)) = fn.map FnX.val := congrArg (fun z : AlX => z.2.1) c
  have e2 : (fn.map fun d => fnObsX K (d.at_ K))[i]? = (fn.map FnX.val)[i]? := by rw [e]
  rw [List.getElem?_map, List.getElem?_map, h] at e2; exact fnX_ok (Option.some.inj e2) (List.all_eq_true.mp c2 d (List.mem_of_getElem? h))
theorem SaysX.dict (c : SaysX fa fn dc w K) (i : Nat) {d : DcX} (h : dc[i]? = some d) : ∃ es n, K.lookup (d.at_ K) = some ⟨.type "dict", none, .dict es n, #[]⟩ ∧ PySem.W.KeysLit w.params es.toList := by
  have e : dc.map (fun d => dcObs K (d.at_ K)) = dc.map (fun d => d.val w) := congrArg (fun z : AlX => z.2.2) c
  have e2 : (dc.map fun d => dcObs K (d.at_ K))[i]? = (dc.map fun d => d.val w)[i]? := by rw [e]
  rw [List.getElem?_map, List.getElem?_map, h] at e2; exact dcX_ok (Option.some.inj e2)
end
def tkOf (K : PySem.W.Frag) (a : Addr) (x : Str) : Tok := match PySem.W.nsIn K a x with
  | some (some (.int _ t)) => t
  | _ => default
def cdOf (K : PySem.W.Frag) (f : Addr) : Addr := match K.lookup f with
  | some ⟨_, _, .func z, _⟩ => (match z.code with
    | .ref a => a
    | _ => 0)
  | _ => 0
def cdRef (K : PySem.W.Frag) (f : Addr) : Bool := match K.lookup f with
  | some ⟨_, _, .func z, _⟩ => (match z.code with
    | .ref _ => true
    | _ => false)
  | _ => false
theorem cdRef_ok {K : PySem.W.Frag} {f : Addr} {oc : Value} {od : Option Addr} {z : FuncData} {sl : Array (Option Value)} (h : cdRef K f = true) (q : K.lookup f = some ⟨oc, od, .func z, sl⟩) : z.code = .ref (cdOf K f) := by
  unfold cdRef at h
  unfold cdOf
  rw [q] at h ⊢
  dsimp only at h ⊢
  cases hc : z.code with
  | ref a => rfl
  | _ => rw [hc] at h; cases h
open PySem.W PySem.Calls in
theorem head_y {r : OpenRow} {q : Program} (as : List Addr) (fa : Frag → Bool) (fn : List FnX) (dc : List DcX) {M : Nat} {loose : List PySem.Str} {d : DefRec} {kwd : List (PySem.Str × PySem.Expr)}
    (e1 : opening r.prog = plainProg r.prog.main.scope.names) (f : ∀ s, fenceModules? r.prog s = some s) (run : ∀ w, HandSHeadRun.RunEq r q (hookX as fa fn dc) (fun s => obsX fa fn dc (He.frG (HandSHeadRun.getT s) as)) M loose w)
    (hdef : defOf q r.name = some (d, kwd)) (hp : r.prog.theDef r.name = some (d.params,
          d.body, d.scope)) (hk : kwWritten? d.params.kwonlyargs d.params.kw_defaults = some kwd)
    (hwr : (!r.writes || r.records.isEmpty) = true) (k1 : r.wellSaid = true) (ok : (chainsOk q && opensWell
          r.prog && (frees r.toRowW && r.within.isEmpty)) = true) (hb : r.prog.bare) (hw : r.toRowW.promised)
    (call : WalkO q loose (XL q []) (hookX as fa fn dc).says r.toRowW d kwd fun f vs => PySem.call f vs) : r.Holds := by
  refine HandSHeadRun.head_any (H := hookX as fa fn dc) (ob := fun s => obsX fa fn dc (He.frG (HandSHeadRun.getT s) as)) (fun s => ?_) e1 f run hdef hp hk hwr k1 ok hb hw call
  show obsX fa fn dc (He.frG (HandSHeadRun.getT s) as) = obsX fa fn dc (He.frG s.abs.heap.get? as)
  rw [show HandSHeadRun.getT s = s.abs.heap.get? from funext (HandSHeadRun.getT_eq s)]
end Pg
set_option Elab.async false
set_option linter.all false
set_option maxRecDepth 100000
set_option maxHeartbeats 2100000
namespace Pg
open PySem
open PySem.Spec PyProof.Rows L2
def tabPOf (K : PySem.W.Frag) (cd : Addr) : Addr := match K.lookup cd with
  | some ⟨_, _, .fields vs, _⟩ =>
        (match (vs[11]? : Option Value) with
    | some (.ref p) => p
    | _ => 0)
  | _ => 0
def tabB (K : PySem.W.Frag) (cd P : Addr) : Bool := match K.lookup cd with
  | some ⟨_, _, .fields vs, _⟩ => decide ((vs[11]? : Option Value) = some (.ref P)) && (K.lookup P).isNone
  | _ => false
theorem tabB_ok {K : PySem.W.Frag} {cd P : Addr} (h : tabB K cd P = true) : ∃ oc od vs sl, K.lookup cd = some ⟨oc, od, .fields vs, sl⟩ ∧ (vs[11]? : Option Value) = some (.ref P) ∧ K.lookup P = none := by
  unfold tabB at h
  cases q : K.lookup cd with
  | none => rw [q] at h; cases h
  | some o =>
    obtain ⟨oc, od, dt, osl⟩ := o
    rw [q] at h
    cases dt with
    | fields vs =>
      obtain ⟨h1, h2⟩ := Bool.and_eq_true_iff.mp h
      exact ⟨oc, od, vs, osl, rfl, of_decide_eq_true h1, Option.isNone_iff_eq_none.mp h2⟩
    | _ => cases h
end Pg
namespace Pg
open PySem
open PySem.Spec PyProof.Rows L2
def refsB : List Value → Bool
  | .ref _ :: r => refsB r
  | l => decide (l = [.type "ValueError", .type "Exception", .type "BaseException", .type "object"])
/-- a class of errors below ValueError, as it stands -/
def excB (K : PySem.W.Frag) (C : Addr) : Bool := match K.lookup C with
  | some ⟨.type t, _, .cls cd, sl⟩ => decide (t = "type") && (cd.hasDict && (!cd.hasDel && ((match cd.mro with
      | .ref c :: bm => decide (c = C) && refsB bm
      | _ => false) && (match sl.toList with
      | [_, _, _, _, some (.builtin n), _] => decide (n = "ValueError.__new__")
      | _ => false))))
  | _ => false
end Pg
set_option Elab.async false
set_option linter.all false
set_option maxRecDepth 100000
set_option maxHeartbeats 2100000
namespace Pg
open PySem
open PySem.Spec PyProof.Rows L2
def numsB : List Value → List Int → Bool
  | [], [] => true
  | .int x _ :: vs, y :: ys => decide (x = y) && numsB vs ys
  | _, _ => false
def tupsIB (K : PySem.W.Frag) (a : Addr) (ys : List Int) : Bool := match K.lookup a with
  | some ⟨.type c, _, .seq its _, _⟩ => decide (c = "tuple") && numsB its.toList ys
  | _ => false
end Pg
set_option Elab.async false
set_option linter.all false
set_option maxRecDepth 100000
set_option maxHeartbeats 4100000
namespace HX
open PySem PySem.W PyProof.Rows L2 Pg
def tS (i : Nat) : Stmt := PySem.Challenge.pw_kindtells_k51_leads_closed_one_behind_an.main.body.getD i (.Pass ⟨0, 0, 0, 0⟩)
def C_Lead (K : Frag) : Addr := He.ga K "Lead"
def C_Items (K : Frag) : Addr := He.ga K "Items"
def C_BadLead (K : Frag) : Addr := He.ga K "BadLead"
def C_Misfit (K : Frag) : Addr := He.ga K "Misfit"
def f_law (K : Frag) : Addr := He.ga K "law"
def f_is_integer (K : Frag) : Addr := He.ga K "is_integer"
def f_are_numbers (K : Frag) : Addr := He.ga K "are_numbers"
def f_is_within (K : Frag) : Addr := He.ga K "is_within"
def f_demand_number (K : Frag) : Addr := He.ga K "demand_number"
def f_demand_world (K : Frag) : Addr := He.ga K "demand_world"
def f_demand_numbers (K : Frag) : Addr := He.ga K "demand_numbers"
def f_demand_things (K : Frag) : Addr := He.ga K "demand_things"
def f_Lead___init__ (K : Frag) : Addr := He.ma K (C_Lead K) "__init__"
def f_demand_leads (K : Frag) : Addr := He.ga K "demand_leads"
def f_demand_one_world (K : Frag) : Addr := He.ga K "demand_one_world"
def f_demand_told_manner (K : Frag) : Addr := He.ga K "demand_told_manner"
def f_leads_by (K : Frag) : Addr := He.ga K "leads_by"
def f_law_behind (K : Frag) : Addr := He.ga K "_law_behind"
def f_closed_rows (K : Frag) : Addr := He.ga K "closed_rows"
def f_unlike_rows (K : Frag) : Addr := He.ga K "unlike_rows"
def f_closed (K : Frag) : Addr := He.ga K "closed"
def f_law_pen (K : Frag) : Addr := He.ga K "_law_pen"
def f_law_draw (K : Frag) : Addr := He.ga K "_law_draw"
def f_law_pick (K : Frag) : Addr := He.ga K "_law_pick"
def f_law_row (K : Frag) : Addr := He.ga K "_law_row"
def f_law_closed (K : Frag) : Addr := He.ga K "_law_closed"
def f_law_heard (K : Frag) : Addr := He.ga K "_law_heard"
def f_Lead___eq__ (K : Frag) : Addr := He.ma K (C_Lead K) "__eq__"
def f_idle (K : Frag) : Addr := He.ga K "idle"
def f_law_closed_right (K : Frag) : Addr := He.ga K "_law_closed_right"
def f_BadLead___init__ (K : Frag) : Addr := He.ma K (C_BadLead K) "__init__"
def f_Misfit___init__ (K : Frag) : Addr := He.ma K (C_Misfit K) "__init__"
def t_MOST_THINGS (K : Frag) : Tok := Pg.tkOf K mainGlobals "MOST_THINGS"
def Pt_law (K : Frag) : Addr := Pg.tabPOf K (Pg.cdOf K (f_law K))
def a_TW (K : Frag) : Addr := He.ga K "TOLD_WORLDS"
def fac0 (K : Frag) : Prop :=
  (PySem.W.nsIn K mainGlobals "Lead" = some (some (.ref (HX.C_Lead K)))) ∧
  (PySem.W.plainGet K (HX.C_Lead K) Str.empty = true) ∧
  (PySem.W.hasDictIn K (HX.C_Lead K) = true) ∧
  (PySem.W.plainOver K (HX.C_Lead K) = true) ∧
  (PySem.W.findIn K (.ref (HX.C_Lead K)) "__setattr__" = some (some (.builtin "object.__setattr__"))) ∧
  (PySem.W.mroIn K (HX.C_Lead K) (.type "object") = some true) ∧
  (PySem.W.findIn K (.ref (HX.C_Lead K)) "__ne__" = some (some (.builtin "object.__ne__"))) ∧
  (PySem.W.makesIn K (HX.C_Lead K) = true) ∧
  (PySem.W.keepIn K (.ref (HX.C_Lead K)) = true) ∧
  (PySem.W.findIn K (.ref (HX.C_Lead K)) "begin" = some none) ∧
  (PySem.W.findIn K (.ref (HX.C_Lead K)) "into" = some none) ∧
  (PySem.W.findIn K (.ref (HX.C_Lead K)) "row" = some none) ∧
  (PySem.W.nsIn K mainGlobals "Items" = some (some (.ref (HX.C_Items K)))) ∧
  (PySem.W.plainGet K (HX.C_Items K) Str.empty = true) ∧
  (PySem.W.hasDictIn K (HX.C_Items K) = true) ∧
  (PySem.W.plainOver K (HX.C_Items K) = true) ∧
  (PySem.W.findIn K (.ref (HX.C_Items K)) "__setattr__" = some (some (.builtin "object.__setattr__"))) ∧
  (PySem.W.makesIn K (HX.C_Items K) = true) ∧
  (PySem.W.keepIn K (.ref (HX.C_Items K)) = true) ∧
  (PySem.W.findIn K (.ref (HX.C_Items K)) "words" = some none) ∧
  (PySem.W.findIn K (.ref (HX.C_Items K)) "taken" = some none) ∧
  (PySem.W.nsIn K mainGlobals "law" = some (some (.ref (HX.f_law K)))) ∧
  (PySem.W.keepIn K (.ref (HX.f_law K)) = true) ∧
  (PySem.W.nsIn K mainGlobals "is_integer" = some (some (.ref (HX.f_is_integer K)))) ∧
  (PySem.W.keepIn K (.ref (HX.f_is_integer K)) = true)
instance (K : Frag) : Decidable (fac0 K) := by unfold fac0; infer_instance
def fac1 (K : Frag) : Prop :=
  (PySem.W.nsIn K mainGlobals "are_numbers" = some (some (.ref (HX.f_are_numbers K)))) ∧
  (PySem.W.keepIn K (.ref (HX.f_are_numbers K)) = true) ∧
  (PySem.W.nsIn K mainGlobals "is_within" = some (some (.ref (HX.f_is_within K)))) ∧
  (PySem.W.keepIn K (.ref (HX.f_is_within K)) = true) ∧
  (PySem.W.nsIn K mainGlobals "demand_number" = some (some (.ref (HX.f_demand_number K)))) ∧
  (PySem.W.keepIn K (.ref (HX.f_demand_number K)) = true) ∧
  (PySem.W.nsIn K mainGlobals "demand_world" = some (some (.ref (HX.f_demand_world K)))) ∧
  (PySem.W.keepIn K (.ref (HX.f_demand_world K)) = true) ∧
  (PySem.W.nsIn K mainGlobals "demand_numbers" = some (some (.ref (HX.f_demand_numbers K)))) ∧
  (PySem.W.keepIn K (.ref (HX.f_demand_numbers K)) = true) ∧
  (PySem.W.nsIn K mainGlobals "demand_things" = some (some (.ref (HX.f_demand_things K)))) ∧
  (PySem.W.keepIn K (.ref (HX.f_demand_things K)) = true) ∧
  (PySem.W.findIn K (.ref (HX.C_Lead K)) "__init__" = some (some (.ref (HX.f_Lead___init__ K)))) ∧
  (PySem.W.isFn K (.ref (HX.f_Lead___init__ K)) = true) ∧
  (PySem.W.keepIn K (.ref (HX.f_Lead___init__ K)) = true) ∧
  (PySem.W.nsIn K mainGlobals "demand_leads" = some (some (.ref (HX.f_demand_leads K)))) ∧
  (PySem.W.keepIn K (.ref (HX.f_demand_leads K)) = true) ∧
  (PySem.W.nsIn K mainGlobals "demand_one_world" = some (some (.ref (HX.f_demand_one_world K)))) ∧
  (PySem.W.keepIn K (.ref (HX.f_demand_one_world K)) = true) ∧
  (PySem.W.nsIn K mainGlobals "demand_told_manner" = some (some (.ref (HX.f_demand_told_manner K)))) ∧
  (PySem.W.keepIn K (.ref (HX.f_demand_told_manner K)) = true) ∧
  (PySem.W.nsIn K mainGlobals "leads_by" = some (some (.ref (HX.f_leads_by K)))) ∧
  (PySem.W.keepIn K (.ref (HX.f_leads_by K)) = true) ∧
  (PySem.W.nsIn K mainGlobals "_law_behind" = some (some (.ref (HX.f_law_behind K)))) ∧
  (PySem.W.keepIn K (.ref (HX.f_law_behind K)) = true)
instance (K : Frag) : Decidable (fac1 K) := by unfold fac1; infer_instance
def fac2 (K : Frag) : Prop :=
  (PySem.W.nsIn K mainGlobals "closed_rows" = some (some (.ref (HX.f_closed_rows K)))) ∧
  (PySem.W.keepIn K (.ref (HX.f_closed_rows K)) = true) ∧
  (PySem.W.nsIn K mainGlobals "unlike_rows" = some (some (.ref (HX.f_unlike_rows K)))) ∧
  (PySem.W.keepIn K (.ref (HX.f_unlike_rows K)) = true) ∧
  (PySem.W.nsIn K mainGlobals "closed" = some (some (.ref (HX.f_closed K)))) ∧
  (PySem.W.keepIn K (.ref (HX.f_closed K)) = true) ∧
  (PySem.W.nsIn K mainGlobals "_law_pen" = some (some (.ref (HX.f_law_pen K)))) ∧
  (PySem.W.keepIn K (.ref (HX.f_law_pen K)) = true) ∧
  (PySem.W.nsIn K mainGlobals "_law_draw" = some (some (.ref (HX.f_law_draw K)))) ∧
  (PySem.W.keepIn K (.ref (HX.f_law_draw K)) = true) ∧
  (PySem.W.nsIn K mainGlobals "_law_pick" = some (some (.ref (HX.f_law_pick K)))) ∧
  (PySem.W.keepIn K (.ref (HX.f_law_pick K)) = true) ∧
  (PySem.W.nsIn K mainGlobals "_law_row" = some (some (.ref (HX.f_law_row K)))) ∧
  (PySem.W.keepIn K (.ref (HX.f_law_row K)) = true) ∧
  (PySem.W.nsIn K mainGlobals "_law_closed" = some (some (.ref (HX.f_law_closed K)))) ∧
  (PySem.W.keepIn K (.ref (HX.f_law_closed K)) = true) ∧
  (PySem.W.nsIn K mainGlobals "_law_heard" = some (some (.ref (HX.f_law_heard K)))) ∧
  (PySem.W.keepIn K (.ref (HX.f_law_heard K)) = true) ∧
  (PySem.W.findIn K (.ref (HX.C_Lead K)) "__eq__" = some (some (.ref (HX.f_Lead___eq__ K)))) ∧
  (PySem.W.isFn K (.ref (HX.f_Lead___eq__ K)) = true) ∧
  (PySem.W.keepIn K (.ref (HX.f_Lead___eq__ K)) = true) ∧
  (PySem.W.nsIn K mainGlobals "idle" = some (some (.ref (HX.f_idle K)))) ∧
  (PySem.W.keepIn K (.ref (HX.f_idle K)) = true) ∧
  (PySem.W.nsIn K mainGlobals "_law_closed_right" = some (some (.ref (HX.f_law_closed_right K)))) ∧
  (PySem.W.keepIn K (.ref (HX.f_law_closed_right K)) = true)
instance (K : Frag) : Decidable (fac2 K) := by unfold fac2; infer_instance
def fac3 (K : Frag) : Prop :=
  (PySem.W.findIn K (.ref (HX.C_BadLead K)) "__init__" = some (some (.ref (HX.f_BadLead___init__ K)))) ∧
  (PySem.W.isFn K (.ref (HX.f_BadLead___init__ K)) = true) ∧
  (PySem.W.keepIn K (.ref (HX.f_BadLead___init__ K)) = true) ∧
  (PySem.W.findIn K (.ref (HX.C_Misfit K)) "__init__" = some (some (.ref (HX.f_Misfit___init__ K)))) ∧
  (PySem.W.isFn K (.ref (HX.f_Misfit___init__ K)) = true) ∧
  (PySem.W.keepIn K (.ref (HX.f_Misfit___init__ K)) = true) ∧
  (PySem.W.nsIn K mainGlobals "MOST_THINGS" = some (some (.int 5 (HX.t_MOST_THINGS K)))) ∧
  (PySem.W.nsIn K mainGlobals "len" = some none) ∧
  (PySem.W.nsIn K mainGlobals "all" = some none) ∧
  (PySem.W.nsIn K mainGlobals "any" = some none) ∧
  (PySem.W.nsIn K mainGlobals "isinstance" = some none) ∧
  (PySem.W.nsIn K mainGlobals "int" = some none) ∧
  (PySem.W.nsIn K mainGlobals "bool" = some none) ∧
  (PySem.W.nsIn K mainGlobals "list" = some none) ∧
  (PySem.W.nsIn K mainGlobals "tuple" = some none) ∧
  (PySem.W.nsIn K mainGlobals "str" = some none) ∧
  (PySem.W.nsIn K mainGlobals "range" = some none) ∧
  (PySem.W.nsIn K mainGlobals "zip" = some none) ∧
  (PySem.W.nsIn K mainGlobals "sorted" = some none) ∧
  (PySem.W.nsIn K mainGlobals "type" = some none) ∧
  (PySem.W.nsIn K mainGlobals "max" = some none) ∧
  (PySem.W.nsIn K mainGlobals "min" = some none) ∧
  (PySem.W.nsIn K mainGlobals "abs" = some none) ∧
  (PySem.W.nsIn K mainGlobals "repr" = some none) ∧
  (PySem.W.nsIn K mainGlobals "set" = some none)
instance (K : Frag) : Decidable (fac3 K) := by unfold fac3; infer_instance
def fac4 (K : Frag) : Prop :=
  (PySem.W.nsIn K mainGlobals "enumerate" = some none) ∧
  (PySem.W.nsIn K mainGlobals "dict" = some none) ∧
  (PySem.W.nsIn K mainGlobals "sum" = some none) ∧
  (PySem.W.nsIn K mainGlobals "TOLD_WORLDS" = some (some (.ref (HX.a_TW K)))) ∧
  (Pg.tupsIB K (HX.a_TW K) [2, 3] = true) ∧
  (PySem.W.specialIn K (.builtin "object.__class__") "__get__" = some (some (.builtin "getset_descriptor.__get__"))) ∧
  (PySem.W.takesIn K (.builtin "object.__class__") = some true) ∧
  (PySem.W.findIn K (.ref (HX.C_Lead K)) "__class__" = some (some (.builtin "object.__class__"))) ∧
  (PySem.W.mroIn K (HX.C_Lead K) (.type "object") = some true) ∧
  (PySem.W.kitAny K (.ref (HX.C_Lead K)) [.type "list", .type "tuple"] = some false) ∧
  (PySem.W.kitOne K (.ref (HX.C_Lead K)) (.ref (HX.C_Lead K)) = some true) ∧
  (PySem.W.nsIn K mainGlobals "BadLead" = some (some (.ref (HX.C_BadLead K)))) ∧
  (PySem.W.nsIn K mainGlobals "Misfit" = some (some (.ref (HX.C_Misfit K)))) ∧
  (Pg.excB K (HX.C_BadLead K) = true) ∧
  (PySem.W.findIn K (.ref (HX.C_BadLead K)) "__setattr__" = some (some (.builtin "object.__setattr__"))) ∧
  (PySem.W.subIn K (.ref (HX.C_BadLead K)) (.type "BaseException") = some true) ∧
  (PySem.W.typeIn K (.ref (HX.C_BadLead K)) = some (.type "type")) ∧
  (PySem.W.keepIn K (.ref (HX.C_BadLead K)) = true) ∧
  (PySem.W.findIn K (.ref (HX.C_BadLead K)) "part" = some none) ∧
  (PySem.W.hasDictIn K (HX.C_BadLead K) = true) ∧
  ((PySem.W.clsIn K (HX.C_BadLead K)).isSome = true) ∧
  (PySem.W.findIn K (.ref (HX.C_BadLead K)) "__getattribute__" = some (some (.builtin "BaseException.__getattribute__"))) ∧
  (PySem.W.findIn K (.ref (HX.C_BadLead K)) "__getattr__" = some none) ∧
  (PySem.W.findIn K (.ref (HX.C_BadLead K)) "__class__" = some (some (.builtin "object.__class__"))) ∧
  (PySem.W.mroIn K (HX.C_BadLead K) (.type "object") = some true)
instance (K : Frag) : Decidable (fac4 K) := by unfold fac4; infer_instance
def fac5 (K : Frag) : Prop :=
  (PySem.W.typeIn K (.ref (HX.f_BadLead___init__ K)) = some (.type "function")) ∧
  (Pg.excB K (HX.C_Misfit K) = true) ∧
  (PySem.W.findIn K (.ref (HX.C_Misfit K)) "__setattr__" = some (some (.builtin "object.__setattr__"))) ∧
  (PySem.W.subIn K (.ref (HX.C_Misfit K)) (.type "BaseException") = some true) ∧
  (PySem.W.typeIn K (.ref (HX.C_Misfit K)) = some (.type "type")) ∧
  (PySem.W.keepIn K (.ref (HX.C_Misfit K)) = true) ∧
  (PySem.W.findIn K (.ref (HX.C_Misfit K)) "part" = some none) ∧
  (PySem.W.hasDictIn K (HX.C_Misfit K) = true) ∧
  ((PySem.W.clsIn K (HX.C_Misfit K)).isSome = true) ∧
  (PySem.W.findIn K (.ref (HX.C_Misfit K)) "__getattribute__" = some (some (.builtin "BaseException.__getattribute__"))) ∧
  (PySem.W.findIn K (.ref (HX.C_Misfit K)) "__getattr__" = some none) ∧
  (PySem.W.findIn K (.ref (HX.C_Misfit K)) "__class__" = some (some (.builtin "object.__class__"))) ∧
  (PySem.W.mroIn K (HX.C_Misfit K) (.type "object") = some true) ∧
  (PySem.W.typeIn K (.ref (HX.f_Misfit___init__ K)) = some (.type "function")) ∧
  (PySem.W.exmOne K (.ref (HX.C_BadLead K)) (.ref (HX.C_BadLead K)) = some true) ∧
  (PySem.W.exmOne K (.ref (HX.C_Misfit K)) (.ref (HX.C_BadLead K)) = some false) ∧
  (PySem.W.exmOne K (.ref (HX.C_Misfit K)) (.ref (HX.C_Misfit K)) = some true) ∧
  (Pg.tabB K (Pg.cdOf K (HX.f_law K)) (HX.Pt_law K) = true) ∧
  (Pg.cdRef K (HX.f_law K) = true)
instance (K : Frag) : Decidable (fac5 K) := by unfold fac5; infer_instance
def fa (K : Frag) : Bool := decide (fac0 K) && (decide (fac1 K) && (decide (fac2 K) && (decide (fac3 K) && (decide (fac4 K) && (decide (fac5 K) && (true))))))
def fn0 : List Pg.FnX := [⟨HX.f_law, "law", "law", defArgs (HX.tS 43), defBody (HX.tS 43), defScope (HX.tS 43)⟩,
  ⟨HX.f_is_integer, "is_integer", "is_integer", defArgs (HX.tS 10), defBody (HX.tS 10), defScope (HX.tS 10)⟩,
  ⟨HX.f_are_numbers, "are_numbers", "are_numbers", defArgs (HX.tS 12), defBody (HX.tS 12), defScope (HX.tS 12)⟩,
  ⟨HX.f_is_within, "is_within", "is_within", defArgs (HX.tS 11), defBody (HX.tS 11), defScope (HX.tS 11)⟩,
  ⟨HX.f_demand_number, "demand_number", "demand_number", defArgs (HX.tS 15), defBody (HX.tS 15), defScope (HX.tS 15)⟩,
  ⟨HX.f_demand_world, "demand_world", "demand_world", defArgs (HX.tS 16), defBody (HX.tS 16), defScope (HX.tS 16)⟩,
  ⟨HX.f_demand_numbers, "demand_numbers", "demand_numbers", defArgs (HX.tS 17), defBody (HX.tS 17), defScope (HX.tS 17)⟩,
  ⟨HX.f_demand_things, "demand_things", "demand_things", defArgs (HX.tS 18), defBody (HX.tS 18), defScope (HX.tS 18)⟩,
  ⟨HX.f_Lead___init__, "__init__", "Lead.__init__", defArgs (inClass (HX.tS 23) 0), defBody (inClass (HX.tS 23) 0), defScope (inClass (HX.tS 23) 0)⟩,
  ⟨HX.f_demand_leads, "demand_leads", "demand_leads", defArgs (HX.tS 27), defBody (HX.tS 27), defScope (HX.tS 27)⟩,
  ⟨HX.f_demand_one_world, "demand_one_world", "demand_one_world", defArgs (HX.tS 28), defBody (HX.tS 28), defScope (HX.tS 28)⟩,
  ⟨HX.f_demand_told_manner, "demand_told_manner", "demand_told_manner", defArgs (HX.tS 29), defBody (HX.tS 29), defScope (HX.tS 29)⟩,
  ⟨HX.f_leads_by, "leads_by", "leads_by", defArgs (HX.tS 31), defBody (HX.tS 31), defScope (HX.tS 31)⟩,
  ⟨HX.f_law_behind, "_law_behind", "_law_behind", defArgs (HX.tS 39), defBody (HX.tS 39), defScope (HX.tS 39)⟩,
  ⟨HX.f_closed_rows, "closed_rows", "closed_rows", defArgs (HX.tS 32), defBody (HX.tS 32), defScope (HX.tS 32)⟩,
  ⟨HX.f_unlike_rows, "unlike_rows", "unlike_rows", defArgs (HX.tS 30), defBody (HX.tS 30), defScope (HX.tS 30)⟩,
  ⟨HX.f_closed, "closed", "closed", defArgs (HX.tS 33), defBody (HX.tS 33), defScope (HX.tS 33)⟩,
  ⟨HX.f_law_pen, "_law_pen", "_law_pen", defArgs (HX.tS 35), defBody (HX.tS 35), defScope (HX.tS 35)⟩,
  ⟨HX.f_law_draw, "_law_draw", "_law_draw", defArgs (HX.tS 36), defBody (HX.tS 36), defScope (HX.tS 36)⟩,
  ⟨HX.f_law_pick, "_law_pick", "_law_pick", defArgs (HX.tS 37), defBody (HX.tS 37), defScope (HX.tS 37)⟩,
  ⟨HX.f_law_row, "_law_row", "_law_row", defArgs (HX.tS 38), defBody (HX.tS 38), defScope (HX.tS 38)⟩,
  ⟨HX.f_law_closed, "_law_closed", "_law_closed", defArgs (HX.tS 40), defBody (HX.tS 40), defScope (HX.tS 40)⟩,
  ⟨HX.f_law_heard, "_law_heard", "_law_heard", defArgs (HX.tS 41), defBody (HX.tS 41), defScope (HX.tS 41)⟩,
  ⟨HX.f_Lead___eq__, "__eq__", "Lead.__eq__", defArgs (inClass (HX.tS 23) 1), defBody (inClass (HX.tS 23) 1), defScope (inClass (HX.tS 23) 1)⟩,
  ⟨HX.f_idle, "idle", "idle", defArgs (HX.tS 24), defBody (HX.tS 24), defScope (HX.tS 24)⟩]
def fn1 : List Pg.FnX := [⟨HX.f_law_closed_right, "_law_closed_right", "_law_closed_right", defArgs (HX.tS 42), defBody (HX.tS 42), defScope (HX.tS 42)⟩,
  ⟨HX.f_BadLead___init__, "__init__", "BadLead.__init__", defArgs (inClass (HX.tS 4) 0), defBody (inClass (HX.tS 4) 0), defScope (inClass (HX.tS 4) 0)⟩,
  ⟨HX.f_Misfit___init__, "__init__", "Misfit.__init__", defArgs (inClass (HX.tS 5) 0), defBody (inClass (HX.tS 5) 0), defScope (inClass (HX.tS 5) 0)⟩]
def fn : List Pg.FnX := fn0 ++ (fn1)
def dc : List Pg.DcX := []
def nm0 : List PySem.Str := ["_wall", "TellsError", "BadNumber", "BadLead", "Misfit", "Missing", "NoThing", "BadText", "is_integer", "is_within", "are_numbers", "MOST_THINGS", "demand_number", "demand_world", "demand_numbers", "demand_things", "spaced", "Items", "Lead", "idle", "TOLD_WORLDS", "demand_leads", "demand_one_world", "demand_told_manner", "unlike_rows", "leads_by", "closed_rows", "closed", "_law_pen", "_law_draw"]
def nm1 : List PySem.Str := ["_law_pick", "_law_row", "_law_behind", "_law_closed", "_law_heard", "_law_closed_right"]
def names : List PySem.Str := nm0 ++ nm1
def as0 : List Addr := [2, 3, 15, 17, 18, 20, 21, 22, 29, 30, 31, 32, 35, 42, 44, 45, 47, 48, 49, 50, 51, 54, 61, 63, 64, 66, 67, 68, 69, 70, 73, 80, 82, 83, 85, 86, 87, 88, 89, 92]
def as1 : List Addr := [99, 101, 102, 104, 105, 106, 107, 108, 111, 118, 120, 121, 123, 124, 125, 126, 127, 130, 137, 139, 140, 142, 143, 144, 145, 146, 149, 151, 152, 154, 155, 156, 158, 159, 161, 162, 163, 166, 167, 168]
def as2 : List Addr := [170, 171, 173, 174, 175, 177, 178, 180, 181, 182, 184, 185, 187, 188, 189, 191, 192, 194, 195, 196, 199, 200, 208, 210, 211, 213, 214, 215, 217, 218, 220, 221, 222, 224, 225, 227, 228, 229, 231, 232]
def as3 : List Addr := [234, 235, 236, 238, 239, 241, 242, 243, 244, 245, 246, 247, 257, 259, 260, 262, 263, 264, 266, 267, 269, 270, 271, 273, 274, 276, 277, 278, 280, 281, 283, 284, 285, 286, 287, 288, 291, 292, 293, 295]
def as4 : List Addr := [296, 298, 299, 300, 301, 302, 303, 304, 307, 309, 310, 312, 313, 314, 315, 318, 319, 320, 323, 324, 325, 327, 328, 330, 331, 332, 335, 336, 337, 340, 341, 342, 345, 346, 347, 349, 350, 352, 353, 354]
def as5 : List Addr := [357, 358, 359, 361, 362, 364, 365, 366, 368, 369, 371, 372, 373, 376, 377, 378, 381, 382, 383, 386, 387, 388, 390, 391, 393, 394, 395, 398, 399, 400, 402, 403, 405, 406]
def asL : List Addr := as0 ++ (as1 ++ (as2 ++ (as3 ++ (as4 ++ (as5)))))
theorem runfalse (w : World) : HandSHeadRun.RunEq (OpenLaw.row PySem.Challenge.rw_kindtells_k51_leads_closed_one_behind_an) (view (OpenLaw.row PySem.Challenge.rw_kindtells_k51_leads_closed_one_behind_an).prog [43]) (hookX asL fa fn dc) (fun s => obsX fa fn dc (He.frG (HandSHeadRun.getT s) asL)) 12000 names (w.withFollow "special-get-raises" false) := by
  intro os
  kernel_rfl
theorem runtrue (w : World) : HandSHeadRun.RunEq (OpenLaw.row PySem.Challenge.rw_kindtells_k51_leads_closed_one_behind_an) (view (OpenLaw.row PySem.Challenge.rw_kindtells_k51_leads_closed_one_behind_an).prog [43]) (hookX asL fa fn dc) (fun s => obsX fa fn dc (He.frG (HandSHeadRun.getT s) asL)) 12000 names (w.withFollow "special-get-raises" true) := by
  intro os
  kernel_rfl
end HX
set_option Elab.async false
set_option linter.all false
set_option maxRecDepth 100000
set_option maxHeartbeats 2100000
namespace Kn
open PySem L2
/-- a value with all that it holds -/
inductive D where
  | non | bl (b : Bool) | int (i : Int) | str (x : Str)
  | lst (ds : List D) | tup (ds : List D)
  | ins (c : Nat) (ds : List D)
  | opq (v : V)
  | urn
  | at_ (a : Addr) (ds : List D)
  | dct (ks : List Str) (ds : List D)
  | tupn (ds : List D)
  | exc (c : Nat) (ds : List D)
  | dic (ks : List Key) (ds : List D)
  | dcT (ks : List (List Int)) (ds : List D)
  | dcf (ks : List Str) (ds : List D)
/-- what may change: the urn's two addresses, the tables of code objects with the name that they tell -/
abbrev Ur := (Addr × Addr) × List (Addr × Str)
/-- what is known of the program: its written part, its classes by number, the fields of each, in order -/
structure Gd where
  K : PySem.W.Frag
  cl : Nat → Addr
  fl : Nat → List Str
  u : Option Ur
/-- the urn's addresses; each table's, twice -/
def Pr (u : Option Ur) (p : Addr × Addr) : Prop := ∃ r, u = some r ∧ (p = r.1 ∨ ∃ t ∈ r.2, p = (t.1, t.1))
theorem Pr.none {p : Addr × Addr} (h : Pr none p) : False := by
  obtain ⟨_, e, _⟩ := h; cases e
/-- none that may change stands at b -/
def NU (u : Option Ur) (b : Addr) : Prop := ∀ p, Pr u p → p.1 ≠ b
theorem NU.none {b : Addr} : NU none b := fun _ h => h.none.elim
theorem NU.of {u : Option Ur} {B : Addr → Prop} {b : Addr} (hu : ∀ p, Pr u p → B p.1) (n : ¬ B b) : NU u b := fun p e z => n (z ▸ hu p e)
theorem NU.em {u : Option Ur} {b : Addr} : NU u b ∨ ∃ p, Pr u p ∧ p.1 = b := by
  by_cases h : NU u b
  · exact .inl h
  · refine .inr (Classical.byContradiction fun z => h fun p e q => z ⟨p, e, q⟩)
/-- an error of one's own: the number of its class, its fields -/
structure Exc where
  c : Nat
  ds : List D
/-- an exception of the class cls, with the dict d, that stands at a -/
def ExK (cls : Value) (d : Option Addr) (a : Addr) : HO := .ext fun h => ∃ (oe : Obj) (vs : Array Value), h.get? a = some oe ∧ Zc cls d oe ∧ oe.data = .fields vs
/-- a tuple of the module -/
def KTup (K : PySem.W.Frag) (a : Addr) (xs : List V) : Prop :=
  ∃ (o : Obj) (its : Array Value) (n : Nat), K.lookup a = some o ∧ o.cls =
    .type "tuple" ∧ o.data = .seq its n ∧ its.size ≤ sizeLine ∧ Vals xs its.toList
/-- an entry of a dict whose keys are rows of ints: the row, where it stands, the value -/
def dent (x : List Int × Addr × Value) : DictEntry := ⟨reduceHash (Builtin.Tuple.tupleHashOf (x.1.map hashInt)), .ref x.2.1, x.2.2⟩
/-- a dict whose keys are rows of ints stands at a -/
structure DicAt (h : Heap) (a : Addr) (L : List (List Int × Addr × V)) : Prop where
  low : (a == sysModules) = false
  few : L.length ≤ sizeLine
  nd : (L.map (·.1)).Nodup
  ex : ∃ (xs : List (List Int × Addr × Value)) (o : Obj) (es : Array DictEntry) (ep : Nat), Paired (fun (p : List Int × Addr × V) (q : List Int × Addr × Value) => p.1 = q.1 ∧ p.2.1 = q.2.1 ∧ RelV p.2.2 q.2.2) L xs ∧
    h.get? a = some o ∧ o.ExactDict ∧ o.data = .dict es ep ∧ es.toList = xs.map dent
def DicO (a : Addr) (L : List (List Int × Addr × V)) : HO := .ext fun h => DicAt h a L
/-- where the keys of such a dict stand -/
def KeysOk (K : PySem.W.Frag) (B : Addr → Prop) (H : Hp) (L : List (List Int × Addr × V)) : Prop :=
  ∀ p ∈ L, (¬ B p.2.1 ∨ KTup K p.2.1 (p.1.map V.int)) ∧ SqT K H p.2.1 (p.1.map V.int) ∧ p.1.length ≤ sizeLine
theorem KeysOk.keep {K : PySem.W.Frag} {B B' : Addr → Prop} {H H' : Hp} {L : List (List Int × Addr × V)} (k : ∀ b o, ¬ B b → H b = some o → H' b = some o) (s : ∀ b, B' b → B b ∨ H b = none) (h : KeysOk K B H L) : KeysOk K B' H' L := fun p hp => by
  obtain ⟨nb, hs, hl⟩ := h p hp
  rcases nb with nb | nb
  · rcases hs with (e | ⟨o, e⟩) | e
    · refine ⟨.inl fun hb => ?_, .inl (.inl (k _ _ nb e)), hl⟩
      rcases s _ hb with z | z
      · exact nb z
      · rw [z] at e; cases e
    · refine ⟨.inl fun hb => ?_, .inl (.inr ⟨o, k _ _ nb e⟩), hl⟩
      rcases s _ hb with z | z
      · exact nb z
      · rw [z] at e; cases e
    · exact ⟨.inr e, .inr e, hl⟩
  · exact ⟨.inr nb, .inr nb, hl⟩
section
variable (G : Gd) (B : Addr → Prop) (H : Hp)
mutual
def Den : D → V → Prop
  | .non, v => v = .non
  | .bl b, v => v = .bl b
  | .int i, v => v = .int i
  | .str x, v => v = .str x
  | .lst ds, v => ∃ a xs, v = .ref a ∧ ¬ B a ∧ H a = some (.lst xs) ∧ xs.length ≤ sizeLine ∧ DenL ds xs
  | .tup ds, v => ∃ a xs, v = .ref a ∧ (¬ B a ∨ KTup G.K a xs) ∧ SqT G.K H a xs ∧ xs.length ≤ sizeLine ∧ DenL ds xs
  | .ins c ds, v => ∃ a dx xs, v = .ref a ∧ ¬ B a ∧ H a = some (.ins (G.cl c) dx ((G.fl c).zip xs)) ∧ xs.length = (G.fl c).length ∧ DenL ds xs
  | .opq w, v => v = w
  | .urn, v => ∃ p, G.u = some p ∧ v = .ref p.1.1
  | .at_ a ds, v => ∃ xs, v = .ref a ∧ ¬ B a ∧ H a = some (.lst xs) ∧ xs.length ≤ sizeLine ∧ DenL ds xs
  | .tupn ds, v => ∃ a xs o, v = .ref a ∧ ¬ B a ∧ H a = some (.frz o (.tup xs)) ∧ o.cls = .type "tuple" ∧ o.dict = none ∧ xs.length ≤ sizeLine ∧ DenL ds xs
  | .exc c ds, v => ∃ a dd xs, v = .ref a ∧ ¬ B a ∧ ¬ B dd ∧ H a = some (ExK (.ref (G.cl c)) (some dd) a) ∧ H dd = some (.xd ((G.fl c).zip xs)) ∧ xs.length = (G.fl c).length ∧ DenL ds xs
  | .dic ks ds, v => ∃ (a : Addr) (kvs : List (Key × V)), v = .ref a ∧ ¬ B a ∧ H a = some (.dK kvs) ∧ kvs.map (·.1) = ks ∧ DenL ds (kvs.map (·.2))
  | .dct ks ds, v => ∃ (a : Addr) (kvs : List (Key × V)), v = .ref a ∧ ¬ B a ∧ H a = some (.dK kvs) ∧ kvs.map (·.1) = ks.map Sum.inr ∧ DenL ds (kvs.map (·.2))
  | .dcT ks ds, v => ∃ (a : Addr) (L : List (List Int × Addr × V)), v = .ref a ∧ ¬ B a ∧ H a = some (DicO a L) ∧ L.map (·.1) = ks ∧ KeysOk G.K B H L ∧ DenL ds (L.map (·.2.2))
  | .dcf ks ds, v => ∃ (a : Addr) (o : Obj) (kvs : List (Key × V)), v = .ref a ∧ ¬ B a ∧ H a = some (.frz o (.dK kvs)) ∧ kvs.map (·.1) = ks.map Sum.inr ∧ DenL ds (kvs.map (·.2))
def DenL : List D → List V → Prop
  | [], xs => xs = []
  | d :: ds, xs => ∃ x r, xs = x :: r ∧ Den d x ∧ DenL ds r
end
end
/-- what was tracked stands, but at u -/
def Ext (u : Option Ur) (H H' : Hp) : Prop := ∀ b o, H b = some o → NU u b → H' b = some o
theorem Ext.refl (u : Option Ur) (H : Hp) : Ext u H H := fun _ _ h _ => h
theorem Ext.trans {u : Option Ur} {H H1 H2 : Hp} (a : Ext u H H1) (b : Ext u H1 H2) : Ext u H H2 := fun c o h n => b c o (a c o h n) n
theorem Ext.weak {u : Option Ur} {H H1 : Hp} (a : Ext none H H1) : Ext u H H1 := fun c o h _ => a c o h NU.none
theorem Ext.new {u : Option Ur} {H : Hp} {p : Addr} {o : HO} (h : H p = none) : Ext u H (upd H p o) := fun a x e _ => by
  rw [upd_ne (ne_of_none e h)]; exact e
theorem Ext.rd {u : Option Ur} {H H' : Hp} {a : Addr} {o : HO} (e : Ext u H H') (n : NU u a) (h : Rd H a o) : Rd H' a o := by
  rcases h with h | ⟨q, h⟩
  · exact .inl (e _ _ h n)
  · exact .inr ⟨q, e _ _ h n⟩
theorem Ext.sqL {K : PySem.W.Frag} {u : Option Ur} {H H' : Hp} {a : Addr} {xs : List V} (e : Ext u H H') (n : NU u a) (h : SqL K H a xs) : SqL K H' a xs := by
  rcases h with h | h
  · exact .inl (e.rd n h)
  · exact .inr h
section
variable {G : Gd} {B B' : Addr → Prop} {H H' : Hp} {u : Option Ur}
mutual
/-- what stands at addresses out of B stays as it is -/
theorem Den.keep (k : ∀ b o, ¬ B b → H b = some o → H' b = some o) (s : ∀ b, B' b → B b ∨ H b = none) : ∀ (d : D) (v : V), Den G B H d v → Den G B' H' d v
  | .non, _, h => h
  | .bl _, _, h => h
  | .int _, _, h => h
  | .str _, _, h => h
  | .opq _, _, h => h
  | .urn, _, h => h
  | .at_ a ds, v, ⟨xs, e, nb, hs, hl, hd⟩ => by
    refine ⟨xs, e, fun hb => ?_, k _ _ nb hs, hl, DenL.keep k s ds xs hd⟩
    rcases s a hb with z | z
    · exact nb z
    · rw [z] at hs; cases hs
  | .lst ds, v, ⟨a, xs, e, nb, hs, hl, hd⟩ => by
    refine ⟨a, xs, e, fun hb => ?_, k _ _ nb hs, hl, DenL.keep k s ds xs hd⟩
    rcases s a hb with z | z
    · exact nb z
    · rw [z] at hs; cases hs
  | .tup ds, v, ⟨a, xs, e, nb, hs, hl, hd⟩ => by
    rcases nb with nb | nb
    · rcases hs with (h | ⟨o, h⟩) | h
      · refine ⟨a, xs, e, .inl fun hb => ?_, .inl (.inl (k _ _ nb h)), hl, DenL.keep k s ds xs hd⟩
        rcases s a hb with z | z
        · exact nb z
        · rw [z] at h; cases h
      · refine ⟨a, xs, e, .inl fun hb => ?_, .inl (.inr ⟨o, k _ _ nb h⟩), hl, DenL.keep k s ds xs hd⟩
        rcases s a hb with z | z
        · exact nb z
        · rw [z] at h; cases h
      · exact ⟨a, xs, e, .inr h, .inr h, hl, DenL.keep k s ds xs hd⟩
    · exact ⟨a, xs, e, .inr nb, .inr nb, hl, DenL.keep k s ds xs hd⟩
  | .tupn ds, v, ⟨a, xs, o, e, nb, hs, hc, hdn, hl, hd⟩ => by
    refine ⟨a, xs, o, e, fun hb => ?_, k _ _ nb hs, hc, hdn, hl, DenL.keep k s ds xs hd⟩
    rcases s a hb with z | z
    · exact nb z
    · rw [z] at hs; cases hs
  | .exc c ds, v, ⟨a, dd, xs, e, nb, nd, hs, hx, hl, hd⟩ => by
    refine ⟨a, dd, xs, e, fun hb => ?_, fun hb => ?_, k _ _ nb hs, k _ _ nd hx, hl, DenL.keep k s ds xs hd⟩
    · rcases s a hb with z | z
      · exact nb z
      · rw [z] at hs; cases hs
    · rcases s dd hb with z | z
      · exact nd z
      · rw [z] at hx; cases hx
  | .dic ks ds, v, ⟨a, kvs, e, nb, hs, hk, hd⟩ => by
    refine ⟨a, kvs, e, fun hb => ?_, k _ _ nb hs, hk, DenL.keep k s ds _ hd⟩
    rcases s a hb with z | z
    · exact nb z
    · rw [z] at hs; cases hs
  | .dct ks ds, v, ⟨a, kvs, e, nb, hs, hk, hd⟩ => by
    refine ⟨a, kvs, e, fun hb => ?_, k _ _ nb hs, hk, DenL.keep k s ds _ hd⟩
    rcases s a hb with z | z
    · exact nb z
    · rw [z] at hs; cases hs
  | .dcf ks ds, v, ⟨a, o, kvs, e, nb, hs, hk, hd⟩ => by
    refine ⟨a, o, kvs, e, fun hb => ?_, k _ _ nb hs, hk, DenL.keep k s ds _ hd⟩
    rcases s a hb with z | z
    · exact nb z
    · rw [z] at hs; cases hs
  | .dcT ks ds, v, ⟨a, L, e, nb, hs, hk, hx, hd⟩ => by
    refine ⟨a, L, e, fun hb => ?_, k _ _ nb hs, hk, hx.keep k s, DenL.keep k s ds _ hd⟩
    rcases s a hb with z | z
    · exact nb z
    · rw [z] at hs; cases hs
  | .ins c ds, v, ⟨a, dx, xs, e, nb, hs, hl, hd⟩ => by
    refine ⟨a, dx, xs, e, fun hb => ?_, k _ _ nb hs, hl, DenL.keep k s ds xs hd⟩
    rcases s a hb with z | z
    · exact nb z
    · rw [z] at hs; cases hs
theorem DenL.keep (k : ∀ b o, ¬ B b → H b = some o → H' b = some o) (s : ∀ b, B' b → B b ∨ H b = none) : ∀ (ds : List D) (xs : List V), DenL G B H ds xs → DenL G B' H' ds xs
  | [], _, h => h
  | d :: ds, xs, ⟨x, r, e, h1, h2⟩ => ⟨x, r, e, Den.keep k s d x h1, DenL.keep k s ds r h2⟩
end
theorem Den.ext (e : Ext u H H') (hu : ∀ p, Pr u p → B p.1) {d : D} {v : V} (h : Den G B H d v) : Den G B H' d v :=
  Den.keep (fun b o nb hb => e b o hb (NU.of hu nb)) (fun b h => .inl h) d v h
theorem DenL.ext (e : Ext u H H') (hu : ∀ p, Pr u p → B p.1) {ds : List D} {xs : List V} (h : DenL G B H ds xs) : DenL G B H' ds xs :=
  DenL.keep (fun b o nb hb => e b o hb (NU.of hu nb)) (fun b h => .inl h) ds xs h
theorem DenL.length : ∀ {ds : List D} {xs : List V}, DenL G B H ds xs → ds.length = xs.length
  | [], _, h => by cases h; rfl
  | _ :: ds, _, ⟨x, r, e, _, h2⟩ => by subst e; simp [DenL.length h2]
theorem DenL.get : ∀ {ds : List D} {xs : List V} {i : Nat} {d : D}, DenL G B H ds xs → ds[i]? = some d → ∃ x, xs[i]? = some x ∧ Den G B H d x
  | [], _, _, _, _, e => by simp at e
  | _ :: ds, _, 0, d, ⟨x, r, e, h1, _⟩, ed => by simp at ed; subst e; subst ed; exact ⟨x, rfl, h1⟩
  | _ :: ds, _, i + 1, d, ⟨x, r, e, _, h2⟩, ed => by subst e; simpa using DenL.get (i := i) h2 (by simpa using ed)
theorem DenL.getV : ∀ {ds : List D} {xs : List V} {i : Nat} {x : V}, DenL G B H ds xs → xs[i]? = some x → ∃ d, ds[i]? = some d ∧ Den G B H d x
  | [], _, _, _, h, e => by cases h; simp at e
  | d :: ds, _, 0, x, ⟨y, r, e, h1, _⟩, ed => by subst e; simp at ed; subst ed; exact ⟨d, rfl, h1⟩
  | _ :: ds, _, i + 1, x, ⟨y, r, e, _, h2⟩, ed => by subst e; simpa using DenL.getV (i := i) h2 (by simpa using ed)
theorem DenL.append : ∀ {ds es : List D} {xs ys : List V}, DenL G B H ds xs → DenL G B H es ys → DenL G B H (ds ++ es) (xs ++ ys)
  | [], _, _, _, h, h' => by cases h; exact h'
  | _ :: ds, _, _, _, ⟨x, r, e, h1, h2⟩, h' => by subst e; exact ⟨x, r ++ _, rfl, h1, DenL.append h2 h'⟩
theorem DenL.take : ∀ (n : Nat) {ds : List D} {xs : List V}, DenL G B H ds xs → DenL G B H (ds.take n) (xs.take n)
  | 0, _, _, _ => rfl
  | _ + 1, [], _, h => by cases h; rfl
  | n + 1, _ :: ds, _, ⟨x, r, e, h1, h2⟩ => by subst e; exact ⟨x, r.take n, rfl, h1, DenL.take n h2⟩
theorem DenL.drop : ∀ (n : Nat) {ds : List D} {xs : List V}, DenL G B H ds xs → DenL G B H (ds.drop n) (xs.drop n)
  | 0, _, _, h => h
  | _ + 1, [], _, h => by cases h; rfl
  | n + 1, _ :: ds, _, ⟨x, r, e, h1, h2⟩ => by subst e; exact DenL.drop n h2
theorem DenL.set : ∀ (i : Nat) {ds : List D} {xs : List V} {d : D} {x : V}, DenL G B H ds xs → Den G B H d x → DenL G B H (ds.set i d) (xs.set i x)
  | _, [], _, _, _, h, _ => by cases h; rfl
  | 0, _ :: ds, _, d, x, ⟨y, r, e, h1, h2⟩, h => by subst e; exact ⟨x, r, rfl, h, h2⟩
  | i + 1, _ :: ds, _, d, x, ⟨y, r, e, h1, h2⟩, h => by subst e; exact ⟨y, r.set i x, rfl, h1, DenL.set i h2 h⟩
theorem DenL.ints : ∀ {is : List Int} {xs : List V}, DenL G B H (is.map D.int) xs → xs = is.map V.int
  | [], _, h => h
  | i :: is, _, ⟨x, r, e, h1, h2⟩ => by subst e; rw [show x = V.int i from h1, DenL.ints h2]; rfl
theorem DenL.of_ints : ∀ {is : List Int}, DenL G B H (is.map D.int) (is.map V.int)
  | [] => rfl
  | i :: is => ⟨_, _, rfl, rfl, DenL.of_ints⟩
end
/-- a key as a tuple of ints, and back -/
theorem KeysOk.den {G : Gd} {B : Addr → Prop} {H : Hp} {L : List (List Int × Addr × V)} (h : KeysOk G.K B H L) {p : List Int × Addr × V} (hp : p ∈ L) : Den G B H (.tup (p.1.map D.int)) (.ref p.2.1) :=
  let ⟨h1, h2, h3⟩ := h p hp
  ⟨_, _, rfl, h1, h2, by rw [List.length_map]; exact h3, DenL.of_ints⟩
theorem KeysOk.of_den {G : Gd} {B : Addr → Prop} {H : Hp} {L : List (List Int × Addr × V)} (h : ∀ p ∈ L, Den G B H (.tup (p.1.map D.int)) (.ref p.2.1)) : KeysOk G.K B H L := fun p hp => by
  obtain ⟨a, xs, e, nb, hs, hl, hd⟩ := h p hp
  cases e
  have ex := hd.ints
  subst ex
  rw [List.length_map] at hl
  exact ⟨nb, hs, hl⟩
theorem KeysOk.by {G : Gd} {B B' : Addr → Prop} {H H' : Hp} {L : List (List Int × Addr × V)} (k : ∀ {d : D} {v : V}, Den G B H d v → Den G B' H' d v) (h : KeysOk G.K B H L) : KeysOk G.K B' H' L :=
  KeysOk.of_den fun p hp => k (h.den hp)
theorem KeysOk.ext {K : PySem.W.Frag} {B : Addr → Prop} {H H' : Hp} {u : Option Ur} {L : List (List Int × Addr × V)} (e : Ext u H H') (hu : ∀ p, Pr u p → B p.1) (h : KeysOk K B H L) : KeysOk K B H' L :=
  h.keep (fun b o nb hb => e b o hb (NU.of hu nb)) fun b h => .inl h
theorem dicO_ne_code {a : Addr} {L : List (List Int × Addr × V)} (q : Str) : DicO a L ≠ LamX.CodeO a q := fun z => by
  unfold DicO LamX.CodeO at z
  injection z with z
  let o : Obj := { cls := .none, data := .fields #[.none, .str q default] }
  let h : Heap := { objs := Array.replicate (a + 1) o }
  have hg : h.get? a = some o := by
    show (match (Array.replicate (a + 1) o)[a]? with | some ⟨_, _, .freed, _⟩ => none | o => o) = some o
    rw [Array.getElem?_replicate, if_pos (Nat.lt_succ_self a)]
  have e := congrFun z h
  have c : DicAt h a L := by
    rw [e]
    exact ⟨o, _, default, hg, rfl, rfl⟩
  obtain ⟨xs, o', es, ep, _, h1, _, h2, _⟩ := c.ex
  rw [hg] at h1
  cases h1
  cases h2
def atLine : Int := 2 ^ 4096
def Good : Option Ur → Hp → Nat → Prop
  | none, _, _ => True
  | some ((a, b), T), H, n => (∃ (cells : List Int) (k r : Int), H a = some (.lst [.ref b, .int k, .int r]) ∧ H b = some (.lst (cells.map V.int)) ∧ cells.length ≤ 63 ∧ a ≠ b ∧ 0 ≤ r ∧ 0 ≤ k ∧ k + n ≤ atLine) ∧ LamX.Tabs T H
theorem Good.less {u : Option Ur} {H : Hp} {n m : Nat} (h : Good u H n) (hm : m ≤ n) : Good u H m := by
  cases u with
  | none => trivial
  | some p =>
    obtain ⟨⟨a, b⟩, T⟩ := p
    obtain ⟨⟨cells, k, r, h1, h2, h3, h4, h5, h6, h7⟩, t⟩ := h
    exact ⟨⟨cells, k, r, h1, h2, h3, h4, h5, h6, by omega⟩, t⟩
theorem Good.ext {u : Option Ur} {H H' : Hp} {n : Nat} (h : Good u H n) (e : Ext none H H') : Good u H' n := by
  cases u with
  | none => trivial
  | some p =>
    obtain ⟨⟨a, b⟩, T⟩ := p
    obtain ⟨⟨cells, k, r, h1, h2, h⟩, t⟩ := h
    exact ⟨⟨cells, k, r, e _ _ h1 NU.none, e _ _ h2 NU.none, h⟩, t.ext fun b o q => e b o q NU.none⟩
/-- what may change is there -/
theorem Good.there {u : Option Ur} {H : Hp} {n : Nat} (h : Good u H n) {p : Addr × Addr} (e : Pr u p) : (∃ o, H p.1 = some o) ∧ ∃ o, H p.2 = some o := by
  obtain ⟨r, rfl, q⟩ := e
  obtain ⟨⟨a, b⟩, T⟩ := r
  obtain ⟨⟨_, _, _, h1, h2, _⟩, t⟩ := h
  rcases q with rfl | ⟨t', ht, rfl⟩
  · exact ⟨⟨_, h1⟩, ⟨_, h2⟩⟩
  · obtain ⟨ps, z, _⟩ := t t' ht
    exact ⟨⟨_, z⟩, ⟨_, z⟩⟩
inductive Sl where
  | emp | val (d : D) | own (a : Addr) (ds : List D) | slf (a dx : Addr) (c : Nat) (ds : List D)
  | obj (a : Addr) (o : HO)
  | dic (a : Addr) (ks : List (List Int)) (ds : List D)
/-- what this frame alone may change -/
def Sl.mine : Sl → Bool
  | .own _ _ => true
  | .slf _ _ _ _ => true
  | .obj _ _ => true
  | .dic _ _ _ => true
  | _ => false
section
variable (G : Gd) (X0 : Hp) (B : Addr → Prop) (H : Hp)
def SlOk : Sl → Option V → Prop
  | .emp, _ => True
  | .val d, v => ∃ x, v = some x ∧ Den G B H d x
  | .own a ds, v => ∃ xs, v = some (.ref a) ∧ X0 a = none ∧ H a = some (.lst xs) ∧ xs.length ≤ sizeLine ∧ DenL G B H ds xs
  | .slf a dx c ds, v => ∃ xs, v = some (.ref a) ∧ X0 a = none ∧ H a = some (.ins (G.cl c) dx ((G.fl c).zip xs)) ∧ xs.length ≤ (G.fl c).length ∧ DenL G B H ds xs
  | .obj a o, v => v = some (.ref a) ∧ X0 a = none ∧ H a = some o ∧ ∀ q, o ≠ LamX.CodeO a q
  | .dic a ks ds, v => ∃ L, v = some (.ref a) ∧ X0 a = none ∧ H a = some (DicO a L) ∧ L.map (·.1) = ks ∧ KeysOk G.K B H L ∧ DenL G B H ds (L.map (·.2.2))
end
/-- B, and the addresses of the frame's own lists -/
def XBof (B : Addr → Prop) (env : List Sl) (σ : List (Option V)) : Addr → Prop := fun a => B a ∨ ∃ (i : Nat) (s : Sl), env[i]? = some s ∧ s.mine = true ∧ σ[i]? = some (some (V.ref a))
/-- an error as it lies: its class, its own dict -/
def ExcIs (G : Gd) (B : Addr → Prop) (H : Hp) (x : Exc) (C : Value) (d : Option Addr) : Prop :=
  C = .ref (G.cl x.c) ∧ ∃ dd xs, d = some dd ∧ ¬ B dd ∧ H dd = some (.xd ((G.fl x.c).zip xs)) ∧ xs.length = (G.fl x.c).length ∧ DenL G B H x.ds xs
/-- the state of a body: what is known of its slots, of the heap, what is wanted of errors -/
structure Wd (G : Gd) (E : XK) (σ : List (Option V)) (H : Hp) where
  u : Option Ur
  n : Nat
  m : Nat
  B : Addr → Prop
  H0 : Hp
  env : List Sl
  ex : Exc → Prop
  ug : u = G.u
  hu : ∀ p, Pr u p → B p.1 ∧ B p.2
  hB : ∀ a, B a → H0 a ≠ none
  fr : Ext u H0 H
  good : Good u H n
  len : env.length = σ.length
  sl : ∀ (i : Nat) (s : Sl), env[i]? = some s → SlOk G H0 (XBof B env σ) H s (σ[i]?.join)
  nd : ∀ (i j : Nat) (a : Addr) (s t : Sl), env[i]? = some s → env[j]? = some t → s.mine = true → t.mine = true → σ[i]? = some (some (V.ref a)) → σ[j]? = some (some (V.ref a)) → i = j
  exc : ∀ x C d H', Ext u H0 H' → Good u H' m → ExcIs G B H' x C d → ex x → E C d H'
section
variable {G : Gd} {E : XK} {σ : List (Option V)} {H H' : Hp}
abbrev Wd.XB (W : Wd G E σ H) : Addr → Prop := XBof W.B W.env σ
structure Step (W : Wd G E σ H) (c : Nat) (H' : Hp) : Prop where
  ext : Ext W.u H H'
  good : Good W.u H' (W.n - c)
theorem Wd.huX (W : Wd G E σ H) : ∀ p, Pr W.u p → W.XB p.1 := fun p e => .inl (W.hu p e).1
theorem Wd.den (W : Wd G E σ H) {c : Nat} (st : Step W c H') {d : D} {v : V} (h : Den G W.XB H d v) : Den G W.XB H' d v := h.ext st.ext W.huX
/-- the frame's own address is none of the urn's -/
theorem Wd.own_ne (W : Wd G E σ H) {a : Addr} (h : W.H0 a = none) : ¬ W.B a := fun z => W.hB a z h
theorem Wd.nu (W : Wd G E σ H) {a : Addr} (h : W.H0 a = none) : NU W.u a := NU.of (fun p e => (W.hu p e).1) (W.own_ne h)
theorem Wd.nuX (W : Wd G E σ H) {a : Addr} (h : ¬ W.XB a) : NU W.u a := NU.of W.huX h
theorem SlOk.step (W : Wd G E σ H) {c : Nat} (st : Step W c H') {s : Sl} {v : Option V} (h : SlOk G W.H0 W.XB H s v) : SlOk G W.H0 W.XB H' s v := by
  cases s with
  | emp => trivial
  | val d => obtain ⟨x, e, h⟩ := h; exact ⟨x, e, W.den st h⟩
  | own a ds =>
    obtain ⟨xs, e, h0, h1, hl, h2⟩ := h
    refine ⟨xs, e, h0, st.ext a _ h1 (W.nu h0), hl, h2.ext st.ext W.huX⟩
  | slf a dx c ds =>
    obtain ⟨xs, e, h0, h1, hl, h2⟩ := h
    refine ⟨xs, e, h0, st.ext a _ h1 (W.nu h0), hl, h2.ext st.ext W.huX⟩
  | obj a o =>
    obtain ⟨e, h0, h1, h2⟩ := h
    exact ⟨e, h0, st.ext a _ h1 (W.nu h0), h2⟩
  | dic a ks ds =>
    obtain ⟨L, e, h0, h1, hk, hx, h2⟩ := h
    exact ⟨L, e, h0, st.ext a _ h1 (W.nu h0), hk, hx.ext st.ext W.huX, h2.ext st.ext W.huX⟩
/-- where a thing of the frame's own stands -/
theorem Wd.mine_at (W : Wd G E σ H) {i : Nat} {s : Sl} {a : Addr} (e : W.env[i]? = some s) (hm : s.mine = true) (es : σ[i]? = some (some (.ref a))) : W.H0 a = none ∧ ∃ o, H a = some o := by
  have z := W.sl i _ e
  rw [es] at z
  cases s with
  | emp => cases hm
  | val d => cases hm
  | own b ds => obtain ⟨xs, ea, h0, h1, _⟩ := z; cases ea; exact ⟨h0, _, h1⟩
  | slf b dx c ds => obtain ⟨xs, ea, h0, h1, _⟩ := z; cases ea; exact ⟨h0, _, h1⟩
  | obj b o => obtain ⟨ea, h0, h1, h2⟩ := z; cases ea; exact ⟨h0, _, h1⟩
  | dic b ks ds => obtain ⟨L, ea, h0, h1, _⟩ := z; cases ea; exact ⟨h0, _, h1⟩
/-- .. it is no code object -/
theorem Wd.mine_nc (W : Wd G E σ H) {i : Nat} {s : Sl} {a : Addr} (e : W.env[i]? = some s) (hm : s.mine = true) (es : σ[i]? = some (some (.ref a))) : ∀ q, H a ≠ some (LamX.CodeO a q) := fun q y => by
  have z := W.sl i _ e
  rw [es] at z
  cases s with
  | emp => cases hm
  | val d => cases hm
  | own b ds => obtain ⟨xs, ea, h0, h1, _⟩ := z; cases ea; rw [h1] at y; cases y
  | slf b dx c ds => obtain ⟨xs, ea, h0, h1, _⟩ := z; cases ea; rw [h1] at y; cases y
  | obj b o => obtain ⟨ea, h0, h1, h2⟩ := z; cases ea; rw [h1] at y; exact h2 q (Option.some.inj y)
  | dic b ks ds => obtain ⟨L, ea, h0, h1, _⟩ := z; cases ea; rw [h1] at y; exact dicO_ne_code q (Option.some.inj y)
def Wd.next (W : Wd G E σ H) {c : Nat} (st : Step W c H') : Wd G E σ H' where
  u := W.u
  n := W.n - c
  m := W.m
  B := W.B
  H0 := W.H0
  env := W.env
  ex := W.ex
  ug := W.ug
  hu := W.hu
  hB := W.hB
  fr := W.fr.trans st.ext
  good := st.good
  len := W.len
  sl := fun i s e => (W.sl i s e).step W st
  nd := W.nd
  exc := W.exc
theorem Step.refl (W : Wd G E σ H) : Step W 0 H := ⟨Ext.refl _ _, W.good⟩
theorem Step.trans {W : Wd G E σ H} {c c' : Nat} {H2 : Hp} (a : Step W c H') (b : Step (W.next a) c' H2) : Step W (c + c') H2 :=
  ⟨a.ext.trans b.ext, by have := b.good; show Good W.u H2 (W.n - (c + c')); rw [Nat.sub_add_eq]; exact this⟩
theorem Step.pure {W : Wd G E σ H} {c : Nat} (a : Step W c H') {H2 : Hp} (e : Ext none H' H2) : Step W c H2 := ⟨a.ext.trans e.weak, a.good.ext e⟩
theorem Step.new {W : Wd G E σ H} {c : Nat} (a : Step W c H') {p : Addr} {o : HO} (h : H' p = none) : Step W c (upd H' p o) := a.pure (Ext.new h)
theorem Step.less {W : Wd G E σ H} {c c' : Nat} (a : Step W c H') (h : c ≤ c') : Step W c' H' := ⟨a.ext, a.good.less (by omega)⟩
/-- a new address is out of XB -/
theorem Wd.fresh (W : Wd G E σ H) {p : Addr} (h : H p = none) : ¬ W.XB p := fun z => by
  rcases z with z | ⟨i, sl, e, hm, es⟩
  · cases q : W.H0 p with
    | none => exact W.hB p z q
    | some o =>
      rcases NU.em (u := W.u) (b := p) with n | ⟨r, hr, rfl⟩
      · rw [W.fr p o q n] at h; cases h
      · obtain ⟨⟨o, h1⟩, _⟩ := W.good.there hr
        rw [h1] at h; cases h
  · obtain ⟨_, o, h1⟩ := W.mine_at e hm es
    rw [h1] at h; cases h
end
abbrev DT := (Exc → Prop) → List Sl → (D → Prop) → Prop
def lift (G : Gd) (E : XK) (c : Nat) (t : DT) : TE := fun σ H Q' => ∃ W : Wd G E σ H, W.m + c ≤ W.n ∧ ∃ Q, t W.ex W.env Q ∧ ∀ v H' d, Step W c H' → Den G W.XB H' d v → Q d → Q' v H'
abbrev DA := (Exc → Prop) → List Sl → (List D → Prop) → Prop
def liftA (G : Gd) (E : XK) (c : Nat) (t : DA) : TA := fun σ H Q' => ∃ W : Wd G E σ H, W.m + c ≤ W.n ∧ ∃ Q, t W.ex W.env Q ∧ ∀ vs H' ds, Step W c H' → DenL G W.XB H' ds vs → Q ds → Q' vs H'
abbrev DB := (Exc → Prop) → List Sl → (Bool → Prop) → Prop
def liftB (G : Gd) (E : XK) (c : Nat) (t : DB) : TT := fun σ H Q' => ∃ W : Wd G E σ H, W.m + c ≤ W.n ∧ ∃ Q, t W.ex W.env Q ∧ ∀ b H', Step W c H' → Q b → Q' b H'
/-- e is t, at most c draws -/
abbrev DE (G : Gd) (E : XK) (X : Cx) (c : Nat) (e : Expr) (t : DT) : Prop := PE X e (lift G E c t)
abbrev DEs (G : Gd) (E : XK) (X : Cx) (c : Nat) (es : List Expr) (t : DA) : Prop := PA X es (liftA G E c t)
abbrev DPt (G : Gd) (E : XK) (X : Cx) (c : Nat) (e : Expr) (t : DB) : Prop := PT X e (liftB G E c t)
theorem imp {X : Cx} {e : Expr} {t t' : TE} (h : PE X e t) (i : ∀ σ H Q, t' σ H Q → t σ H Q) : PE X e t' := ⟨fun pins s σ H Q I q => h.run pins s σ H Q I (i σ H Q q)⟩
theorem impT {X : Cx} {e : Expr} {t t' : TT} (h : PT X e t) (i : ∀ σ H Q, t' σ H Q → t σ H Q) : PT X e t' := ⟨fun pins s σ H Q I q => h.run pins s σ H Q I (i σ H Q q)⟩
theorem impA {X : Cx} {e : List Expr} {t t' : TA} (h : PA X e t) (i : ∀ σ H Q, t' σ H Q → t σ H Q) : PA X e t' := ⟨fun pos pins s σ H Q I q => h.run pos pins s σ H Q I (i σ H Q q)⟩
end Kn
set_option Elab.async false
set_option linter.all false
set_option maxRecDepth 100000
set_option maxHeartbeats 2100000
namespace Kn
open PySem L2
section
variable {G : Gd} {E : XK} {X : Cx}
def dVar (i : Nat) : DT := fun _ env Q => ∃ d, env[i]? = some (.val d) ∧ Q d
def dC (d : D) : DT := fun _ _ Q => Q d
theorem lift_var {i : Nat} {σ : List (Option V)} {H : Hp} {Q' : VK} (h : lift G E 0 (dVar i) σ H Q') : tVar i σ H Q' := by
  obtain ⟨W, _, Q, ⟨d, he, hq⟩, k⟩ := h
  obtain ⟨x, hx, hd⟩ := W.sl i _ he
  cases hs : σ[i]? with
  | none => rw [hs] at hx; cases hx
  | some o =>
    rw [hs] at hx
    have hx' : o = some x := hx
    exact ⟨x, by rw [hs, hx'], k x H d (Step.refl W) hd hq⟩
theorem dv (i : Nat) {x : Str} {pos : Pos} (hN : X.N[i]? = some x := by rfl) (hv : Vis X.env.scope x := by first | exact Or.inl rfl | exact Or.inr (Or.inl rfl) | exact Or.inr (Or.inr rfl)) (hd : (x == ("__debug__" : Str)) = false := by decide)
    (hcd : (x == ("__classdict__" : Str)) = false := by decide) : DE G E X 0 (.Name x pos) (dVar i) := imp (pe_var hN hv hd hcd) fun _ _ _ h => lift_var h
theorem den_int {B : Addr → Prop} {H : Hp} (i : Int) : Den G B H (.int i) (.int i) := rfl
theorem den_bl {B : Addr → Prop} {H : Hp} (b : Bool) : Den G B H (.bl b) (.bl b) := rfl
theorem den_str {B : Addr → Prop} {H : Hp} (x : Str) : Den G B H (.str x) (.str x) := rfl
theorem den_non {B : Addr → Prop} {H : Hp} : Den G B H .non .non := rfl
theorem lift_c {d : D} {v : V} (hd : ∀ B H, Den G B H d v) {σ : List (Option V)} {H : Hp} {Q' : VK} (h : lift G E 0 (dC d) σ H Q') : tC v σ H Q' := by
  obtain ⟨W, _, Q, hq, k⟩ := h
  exact k v H d (Step.refl W) (hd _ _) hq
theorem de_int {i j pos} : DE G E X 0 (.Constant (.int i) j pos) (dC (.int i)) := imp pe_int fun _ _ _ h => lift_c (fun _ _ => den_int i) h
theorem de_bl {b j pos} : DE G E X 0 (.Constant (.bool b) j pos) (dC (.bl b)) := imp pe_bl fun _ _ _ h => lift_c (fun _ _ => den_bl b) h
theorem de_non {j pos} : DE G E X 0 (.Constant .none j pos) (dC .non) := imp pe_non fun _ _ _ h => lift_c (fun _ _ => den_non) h
theorem de_str {x j pos} : DE G E X 0 (.Constant (.str x) j pos) (dC (.str x)) := imp pe_str fun _ _ _ h => lift_c (fun _ _ => den_str x) h
abbrev G2 := D → D → (D → Prop) → Prop
def rD (G : Gd) (g : G2) : R2 := fun x y H Q' => ∃ B d e Q, Den G B H d x ∧ Den G B H e y ∧ (∀ p, H p = none → ¬ B p) ∧ g d e Q ∧ ∀ r H' rd, Ext none H H' → Den G B H' rd r → Q rd → Q' r H'
def dOp (g : G2) (ta tb : DT) : DT := fun ex env Q => ta ex env fun x => tb ex env fun y => g x y Q
theorem lift_op {g : G2} {ca cb : Nat} {ta tb : DT} {σ : List (Option V)} {H : Hp} {Q' : VK} (h : lift G E (ca + cb) (dOp g ta tb) σ H Q') : tOp (rD G g) (lift G E ca ta) (lift G E cb tb) σ H Q' := by
  obtain ⟨W, hc, Q, ht, k⟩ := h
  refine ⟨W, by omega, _, ht, fun v H1 d st hd hq => ?_⟩
  refine ⟨W.next st, by show W.m + cb ≤ W.n - ca; omega, _, hq, fun v2 H2 e st2 he hg => ?_⟩
  refine ⟨W.XB, d, e, Q, (W.next st).den st2 hd, he, fun p hp => ((W.next st).next st2).fresh hp, hg, fun r H' rd ex hr q => ?_⟩
  exact k r H' rd ((st.trans st2).pure ex) hr q
theorem de_op {a b : Expr} {op : Operator} {pos : Pos} {g : G2} {ca cb : Nat} {ta tb : DT} (ho : OpR X (binaryOp op) (rD G g)) (ha : DE G E X ca a ta) (hb : DE G E X cb b tb) : DE G E X (ca + cb) (.BinOp a op b pos) (dOp g ta tb) :=
  imp (pe_op ho ha hb) fun _ _ _ h => lift_op h
theorem de_cmp {a b : Expr} {op : CmpOp} {pos : Pos} {g : G2} {ca cb : Nat} {ta tb : DT} (ho : OpR X (compareOp op) (rD G g)) (ha : DE G E X ca a ta) (hb : DE G E X cb b tb) (hm : behindInMarks op b = false) : DE G E X (ca + cb) (.Compare a [op] [b] pos) (dOp g ta tb) :=
  imp (pe_cmpR ho ha hb hm) fun _ _ _ h => lift_op h
theorem den_upd {B : Addr → Prop} {H : Hp} {p : Addr} {o : HO} {d : D} {v : V} (hp : H p = none) (h : Den G B H d v) : Den G B (upd H p o) d v := h.ext (u := none) (Ext.new hp) (fun _ z => z.none.elim)
theorem denL_upd {B : Addr → Prop} {H : Hp} {p : Addr} {o : HO} {ds : List D} {xs : List V} (hp : H p = none) (h : DenL G B H ds xs) : DenL G B (upd H p o) ds xs := h.ext (u := none) (Ext.new hp) (fun _ z => z.none.elim)
/-- a new list | tuple of known items -/
theorem den_lst {B : Addr → Prop} {H : Hp} {p : Addr} {ds : List D} {xs : List V} (hp : H p = none) (nb : ¬ B p) (hl : xs.length ≤ sizeLine) (h : DenL G B H ds xs) : Den G B (upd H p (.lst xs)) (.lst ds) (.ref p) :=
  ⟨p, xs, rfl, nb, upd_same, hl, denL_upd hp h⟩
theorem den_tup {B : Addr → Prop} {H : Hp} {p : Addr} {ds : List D} {xs : List V} (hp : H p = none) (nb : ¬ B p) (hl : xs.length ≤ sizeLine) (h : DenL G B H ds xs) : Den G B (upd H p (.tup xs)) (.tup ds) (.ref p) :=
  ⟨p, xs, rfl, .inl nb, SqT.of upd_same, hl, denL_upd hp h⟩
def gI (C : Int → Int → Prop) (f : Int → Int → D) : G2 := fun d e Q => match d, e with
  | .int i, .int j => C i j ∧ Q (f i j)
  | _, _ => False
theorem rD_I {g : Int → Int → V} {f : Int → Int → D} {C : Int → Int → Prop} (hf : ∀ i j B H, Den G B H (f i j) (g i j)) {x y : V} {H : Hp} {Q' : VK} (h : rD G (gI C f) x y H Q') : rI C g x y H Q' := by
  obtain ⟨B, d, e, Q, hd, he, _, hg, k⟩ := h
  cases d <;> cases e <;> try exact hg.elim
  rename_i i j
  exact ⟨i, j, hd, he, hg.1, k _ H _ (Ext.refl _ _) (hf i j B H) hg.2⟩
theorem opr_imp {f : Value → Value → Sem Value} {r r' : R2} (h : OpR X f r) (i : ∀ x y H Q, r' x y H Q → r x y H Q) : OpR X f r' := fun pins s σ H x y v u Q I rx ry q => h pins s σ H x y v u Q I rx ry (i x y H Q q)
theorem rI_of0 {g : Int → Int → V} {x y : V} {H : Hp} {Q : VK} (h : rI (fun _ _ => True) g x y H Q) : rI0 g x y H Q := by
  obtain ⟨i, j, h1, h2, _, q⟩ := h
  exact ⟨i, j, h1, h2, q⟩
def gAdd : G2 := fun d e Q => match d, e with
  | .int i, .int j => Q (.int (i + j))
  | .lst xs, .lst ys => xs.length + ys.length ≤ sizeLine ∧ Q (.lst (xs ++ ys))
  | .tup xs, .tup ys => xs.length + ys.length ≤ sizeLine ∧ Q (.tup (xs ++ ys))
  | .str x, .str y => x.length + y.length ≤ sizeLine ∧ Q (.str (x ++ y))
  | _, _ => False
theorem o_add (hK : X.K = G.K) : OpR X (binaryOp .Add) (rD G gAdd) := by
  intro pins s σ H x y v u Q' I rx ry h
  obtain ⟨B, d, e, Q, hd, he, hf, hg, k⟩ := h
  cases d <;> cases e <;> try exact hg.elim
  · rename_i i j
    exact op_add pins s σ H x y v u Q' I rx ry ⟨i, j, hd, he, k _ H (.int (i + j)) (Ext.refl _ _) rfl hg⟩
  · rename_i a b
    exact op_add_str pins s σ H x y v u Q' I rx ry ⟨a, b, hd, he, hg.1, k _ H (.str (a ++ b)) (Ext.refl _ _) rfl hg.2⟩
  · rename_i ds es
    obtain ⟨a, xs, rfl, na, ha, la, da⟩ := hd
    obtain ⟨b, ys, rfl, nb, hb, lb, db⟩ := he
    have e1 := da.length
    have e2 := db.length
    have hz : ds.length + es.length ≤ sizeLine := hg.1
    refine op_cat pins s σ H _ _ v u Q' I rx ry ⟨a, b, xs, ys, rfl, rfl, ha, hb, by omega, fun p hp => ?_⟩
    exact k _ _ (.lst (ds ++ es)) (Ext.new hp) (den_lst hp (hf p hp) (by rw [List.length_append]; omega) (da.append db)) hg.2
  · rename_i ds es
    obtain ⟨a, xs, rfl, na, ha, la, da⟩ := hd
    obtain ⟨b, ys, rfl, nb, hb, lb, db⟩ := he
    have e1 := da.length
    have e2 := db.length
    have hz : ds.length + es.length ≤ sizeLine := hg.1
    refine op_catA pins s σ H _ _ v u Q' I rx ry ⟨a, b, xs, ys, rfl, rfl, by rw [hK]; exact ha, by rw [hK]; exact hb, by omega, fun h => ?_, fun _ h => ?_, fun _ _ p hp => ?_⟩
    · subst h
      have : ds = [] := List.eq_nil_of_length_eq_zero (by simpa using e1)
      subst this
      exact k _ H (.tup ([] ++ es)) (Ext.refl _ _) ⟨b, ys, rfl, nb, hb, lb, db⟩ hg.2
    · subst h
      have : es = [] := List.eq_nil_of_length_eq_zero (by simpa using e2)
      subst this
      exact k _ H (.tup (ds ++ [])) (Ext.refl _ _) (by rw [List.append_nil]; exact ⟨a, xs, rfl, na, ha, la, da⟩) hg.2
    · exact k _ _ (.tup (ds ++ es)) (Ext.new hp) (den_tup hp (hf p hp) (by rw [List.length_append]; omega) (da.append db)) hg.2
def gSub : G2 := gI (fun _ _ => True) fun i j => .int (i - j)
theorem o_sub : OpR X (binaryOp .Sub) (rD G gSub) := opr_imp op_sub fun _ _ _ _ h => rI_of0 (rD_I (fun _ _ _ _ => den_int _) h)
def gMul : G2 := gI CMul fun i j => .int (i * j)
theorem o_mul : OpR X (binaryOp .Mult) (rD G gMul) := opr_imp op_mul fun _ _ _ _ h => rD_I (fun _ _ _ _ => den_int _) h
def gMod : G2 := gI (fun _ j => 0 < j) fun i j => .int (i % j)
theorem o_mod : OpR X (binaryOp .Mod) (rD G gMod) := opr_imp op_mod fun _ _ _ _ h => rD_I (fun _ _ _ _ => den_int _) h
def gDiv : G2 := gI CDiv fun i j => .int (i / j)
theorem o_div : OpR X (binaryOp .FloorDiv) (rD G gDiv) := opr_imp op_fdiv fun _ _ _ _ h => rD_I (fun _ _ _ _ => den_int _) h
def gLt : G2 := gI (fun _ _ => True) fun i j => .bl (decide (i < j))
theorem o_lt : OpR X (compareOp .Lt) (rD G gLt) := opr_imp op_lt fun _ _ _ _ h => rI_of0 (rD_I (fun _ _ _ _ => den_bl _) h)
def gLe : G2 := gI (fun _ _ => True) fun i j => .bl (decide (i ≤ j))
theorem o_le : OpR X (compareOp .LtE) (rD G gLe) := opr_imp op_le fun _ _ _ _ h => rI_of0 (rD_I (fun _ _ _ _ => den_bl _) h)
def gGt : G2 := gI (fun _ _ => True) fun i j => .bl (decide (j < i))
theorem o_gt : OpR X (compareOp .Gt) (rD G gGt) := opr_imp op_gt fun _ _ _ _ h => rI_of0 (rD_I (fun _ _ _ _ => den_bl _) h)
def gGe : G2 := gI (fun _ _ => True) fun i j => .bl (decide (j ≤ i))
theorem o_ge : OpR X (compareOp .GtE) (rD G gGe) := opr_imp op_ge fun _ _ _ _ h => rI_of0 (rD_I (fun _ _ _ _ => den_bl _) h)
mutual
def pd : D → Option PyData
  | .non => some .none
  | .bl b => some (.bool b)
  | .int i => some (.int i)
  | .str x => some (.str x)
  | .lst ds => (pdL ds).map .list
  | .tup ds => (pdL ds).map .tuple
  | .ins _ _ => none
  | .opq _ => none
  | .urn => none
  | .at_ _ _ => none
  | .dct _ _ => none
  | .tupn _ => none
  | .exc _ _ => none
  | .dic _ _ => none
  | .dcT _ _ => none
  | .dcf _ _ => none
def pdL : List D → Option (List PyData)
  | [] => some []
  | d :: ds => match pd d, pdL ds with
    | some p, some ps => some (p :: ps)
    | _, _ => none
end
mutual
theorem Den.dp {B : Addr → Prop} {H : Hp} : ∀ (d : D) (v : V) (p : PyData), Den G B H d v → pd d = some p → Dp G.K H v p
  | .non, _, _, h, e => by cases h; cases e; exact .non
  | .bl b, _, _, h, e => by cases h; cases e; exact .bl b
  | .int i, _, _, h, e => by cases h; cases e; exact .int i
  | .str x, _, _, h, e => by cases h; cases e; exact .str x
  | .lst ds, v, p, ⟨a, xs, e1, _, hs, _, hd⟩, e => by
    cases hp : pdL ds with
    | none => simp [pd, hp] at e
    | some ps =>
      simp [pd, hp] at e
      subst e; subst e1
      exact .lst (SqL.of hs) (DenL.dp ds xs ps hd hp)
  | .tup ds, v, p, ⟨a, xs, e1, _, hs, _, hd⟩, e => by
    cases hp : pdL ds with
    | none => simp [pd, hp] at e
    | some ps =>
      simp [pd, hp] at e
      subst e; subst e1
      exact .tup hs (DenL.dp ds xs ps hd hp)
  | .ins _ _, _, _, _, e => by simp [pd] at e
  | .opq _, _, _, _, e => by simp [pd] at e
  | .urn, _, _, _, e => by simp [pd] at e
  | .at_ _ _, _, _, _, e => by simp [pd] at e
  | .dct _ _, _, _, _, e => by simp [pd] at e
  | .tupn _, _, _, _, e => by simp [pd] at e
  | .exc _ _, _, _, _, e => by simp [pd] at e
  | .dic _ _, _, _, _, e => by simp [pd] at e
  | .dcT _ _, _, _, _, e => by simp [pd] at e
  | .dcf _ _, _, _, _, e => by simp [pd] at e
theorem DenL.dp {B : Addr → Prop} {H : Hp} : ∀ (ds : List D) (xs : List V) (ps : List PyData), DenL G B H ds xs → pdL ds = some ps → DpAll G.K H xs ps
  | [], _, _, h, e => by cases h; cases e; exact .nil
  | d :: ds, xs, ps, ⟨x, r, e1, h1, h2⟩, e => by
    subst e1
    cases hp : pd d with
    | none => simp [pdL, hp] at e
    | some p =>
      cases hq : pdL ds with
      | none => simp [pdL, hp, hq] at e
      | some qs =>
        simp [pdL, hp, hq] at e
        subst e
        exact .cons (Den.dp d x p h1 hp) (DenL.dp ds r qs h2 hq)
end
def gEq : G2 := fun d e Q => ∃ p q, pd d = some p ∧ pd e = some q ∧ SeqAt.shaped p = true ∧ SeqAt.shaped q = true ∧ Q (.bl (PyData.eqv p q))
def gNe : G2 := fun d e Q => ∃ p q, pd d = some p ∧ pd e = some q ∧ SeqAt.shaped p = true ∧ SeqAt.shaped q = true ∧ Q (.bl (!PyData.eqv p q))
theorem o_eq (hK : X.K = G.K) (hu : X.A.units + 64 < cLine) : OpR X (compareOp .Eq) (rD G gEq) := opr_imp (op_eqD hu) fun x y H Q' h => by
  obtain ⟨B, d, e, Q, hd, he, _, ⟨p, q, e1, e2, s1, s2, hq⟩, k⟩ := h
  exact ⟨p, q, by rw [hK]; exact hd.dp _ _ _ e1, by rw [hK]; exact he.dp _ _ _ e2, s1, s2, k _ H (.bl _) (Ext.refl _ _) (den_bl _) hq⟩
theorem o_ne (hK : X.K = G.K) (hu : X.A.units + 64 < cLine) : OpR X (compareOp .NotEq) (rD G gNe) := opr_imp (op_neD hu) fun x y H Q' h => by
  obtain ⟨B, d, e, Q, hd, he, _, ⟨p, q, e1, e2, s1, s2, hq⟩, k⟩ := h
  exact ⟨p, q, by rw [hK]; exact hd.dp _ _ _ e1, by rw [hK]; exact he.dp _ _ _ e2, s1, s2, k _ H (.bl _) (Ext.refl _ _) (den_bl _) hq⟩
def gNi : G2 := fun d e Q => ∃ p qs es, e = .lst es ∧ pd d = some p ∧ pdL es = some qs ∧ SeqAt.shaped p = true ∧ SeqAt.shaped (.list qs) = true ∧ Q (.bl (!qs.any fun z => PyData.eqv z p))
theorem o_ni (hK : X.K = G.K) (hu : X.A.units + 65 < cLine) : OpR X (compareOp .NotIn) (rD G gNi) := opr_imp (op_notInD hu) fun x y H Q' h => by
  obtain ⟨B, d, e, Q, hd, he, _, ⟨p, qs, es, e0, e1, e2, s1, s2, hq⟩, k⟩ := h
  subst e0
  exact ⟨p, qs, by rw [hK]; exact hd.dp _ _ _ e1, by rw [hK]; exact he.dp _ _ _ (by simp [pd, e2]), s1, s2, k _ H (.bl _) (Ext.refl _ _) (den_bl _) hq⟩
def D.isN : D → Bool
  | .non => true
  | _ => false
/-- is None -/
def gIs : G2 := fun d e Q => e = .non ∧ (∀ v, d ≠ .opq v) ∧ Q (.bl d.isN)
theorem Den.isN {B : Addr → Prop} {H : Hp} {d : D} {v : V} (h : Den G B H d v) (n : ∀ v, d ≠ .opq v) : decide (v = .non) = d.isN := by
  cases d with
  | non => cases h; rfl
  | bl b => cases h; rfl
  | int b => cases h; rfl
  | str b => cases h; rfl
  | lst ds => obtain ⟨a, _, rfl, _⟩ := h; rfl
  | tup ds => obtain ⟨a, _, rfl, _⟩ := h; rfl
  | ins c ds => obtain ⟨a, _, _, rfl, _⟩ := h; rfl
  | opq w => exact absurd rfl (n w)
  | urn => obtain ⟨p, _, rfl⟩ := h; rfl
  | at_ a ds => obtain ⟨xs, rfl, _⟩ := h; rfl
  | dct ks ds => obtain ⟨a, _, rfl, _⟩ := h; rfl
  | tupn ds => obtain ⟨a, _, _, rfl, _⟩ := h; rfl
  | exc c ds => obtain ⟨a, _, _, rfl, _⟩ := h; rfl
  | dic c ds => obtain ⟨a, _, rfl, _⟩ := h; rfl
  | dcT c ds => obtain ⟨a, _, rfl, _⟩ := h; rfl
  | dcf c ds => obtain ⟨a, _, _, rfl, _⟩ := h; rfl
theorem o_is : OpR X (compareOp .Is) (rD G gIs) := opr_imp op_isN fun x y H Q' h => by
  obtain ⟨B, d, e, Q, hd, he, _, ⟨e0, n, hq⟩, k⟩ := h
  subst e0
  cases he
  exact ⟨rfl, k _ H (.bl d.isN) (Ext.refl _ _) (by rw [hd.isN n]; rfl) hq⟩
def dAnd (ta tb : DT) : DT := fun ex env Q => ta ex env fun x => ∃ c, x = .bl c ∧ if c = true then tb ex env Q else Q (.bl false)
def dOr (ta tb : DT) : DT := fun ex env Q => ta ex env fun x => ∃ c, x = .bl c ∧ if c = true then Q (.bl true) else tb ex env Q
def dNot (ta : DT) : DT := fun ex env Q => ta ex env fun x => ∃ c, x = .bl c ∧ Q (.bl (!c))
theorem de_and {a b : Expr} {rest : List Expr} {pos : Pos} {ca cb : Nat} {ta tb : DT} (ha : DE G E X ca a ta) (hb : DE G E X cb (.BoolOp .And (b :: rest) pos) tb) : DE G E X (ca + cb) (.BoolOp .And (a :: b :: rest) pos) (dAnd ta tb) :=
  imp (pe_and ha hb) fun σ H Q' h => by
    obtain ⟨W, hc, Q, ht, k⟩ := h
    refine ⟨W, by omega, _, ht, fun v H1 d st hd ⟨c, e, hq⟩ => ⟨c, by subst e; exact hd, ?_⟩⟩
    cases c with
    | true => exact ⟨W.next st, by show W.m + cb ≤ W.n - ca; omega, Q, hq, fun r H2 rd st2 hr q => k r H2 rd (st.trans st2) hr q⟩
    | false => exact k _ H1 (.bl false) (st.less (by omega)) rfl hq
theorem de_or {a b : Expr} {rest : List Expr} {pos : Pos} {ca cb : Nat} {ta tb : DT} (ha : DE G E X ca a ta) (hb : DE G E X cb (.BoolOp .Or (b :: rest) pos) tb) : DE G E X (ca + cb) (.BoolOp .Or (a :: b :: rest) pos) (dOr ta tb) :=
  imp (pe_or ha hb) fun σ H Q' h => by
    obtain ⟨W, hc, Q, ht, k⟩ := h
    refine ⟨W, by omega, _, ht, fun v H1 d st hd ⟨c, e, hq⟩ => ⟨c, by subst e; exact hd, ?_⟩⟩
    cases c with
    | false => exact ⟨W.next st, by show W.m + cb ≤ W.n - ca; omega, Q, hq, fun r H2 rd st2 hr q => k r H2 rd (st.trans st2) hr q⟩
    | true => exact k _ H1 (.bl true) (st.less (by omega)) rfl hq
theorem de_not {a : Expr} {pos : Pos} {ca : Nat} {ta : DT} (ha : DE G E X ca a ta) : DE G E X ca (.UnaryOp .Not a pos) (dNot ta) :=
  imp (pe_not ha) fun σ H Q' h => by
    obtain ⟨W, hc, Q, ht, k⟩ := h
    exact ⟨W, hc, _, ht, fun v H1 d st hd ⟨c, e, hq⟩ => ⟨c, by subst e; exact hd, k _ H1 (.bl (!c)) st rfl hq⟩⟩
end
end Kn
set_option Elab.async false
set_option linter.all false
set_option maxRecDepth 100000
set_option maxHeartbeats 2100000
namespace Kn
open PySem L2
open PyProof.Rows (envOfC)
structure DEnds where
  nx : List Sl → Prop
  rt : D → List Sl → Prop
  bk : List Sl → Prop := fun _ => False
  ct : List Sl → Prop := fun _ => False
abbrev DS := (Exc → Prop) → DEnds → List Sl → Prop
section
variable {G : Gd} {E : XK}
/-- the same body, later -/
structure Later {σ σ' : List (Option V)} {H H' : Hp} (W : Wd G E σ H) (c : Nat) (W' : Wd G E σ' H') : Prop where
  u : W'.u = W.u
  B : W'.B = W.B
  H0 : W'.H0 = W.H0
  ex : W'.ex = W.ex
  m : W'.m = W.m
  n : W.n ≤ W'.n + c
  keep : ∀ b o, ¬ W.XB b → H b = some o → H' b = some o
  xb : ∀ b, W'.XB b → W.XB b ∨ H b = none
theorem Later.trans {σ σ' τ : List (Option V)} {H H' L : Hp} {W : Wd G E σ H} {c d : Nat} {W' : Wd G E σ' H'} {W2 : Wd G E τ L} (a : Later W c W') (b : Later W' d W2) : Later W (c + d) W2 :=
  ⟨b.u.trans a.u, b.B.trans a.B, b.H0.trans a.H0, b.ex.trans a.ex, b.m.trans a.m, by have := a.n; have := b.n; omega,
    fun p o n e => b.keep p o (fun z => (a.xb p z).elim n (fun q => by rw [e] at q; cases q)) (a.keep p o n e), fun p z => (b.xb p z).elim (a.xb p) fun q => by
      by_cases hx : W.XB p
      · exact .inl hx
      · cases hp : H p with
        | none => exact .inr rfl
        | some o => rw [a.keep p o hx hp] at q; cases q⟩
theorem Later.more {σ σ' : List (Option V)} {H H' : Hp} {W : Wd G E σ H} {c d : Nat} {W' : Wd G E σ' H'} (a : Later W c W') (h : c ≤ d) : Later W d W' :=
  ⟨a.u, a.B, a.H0, a.ex, a.m, by have := a.n; omega, a.keep, a.xb⟩
theorem Later.refl {σ : List (Option V)} {H : Hp} (W : Wd G E σ H) : Later W 0 W := ⟨rfl, rfl, rfl, rfl, rfl, by omega, fun _ _ _ h => h, fun _ h => .inl h⟩
theorem Step.keep {σ : List (Option V)} {H H' : Hp} {W : Wd G E σ H} {c : Nat} (st : Step W c H') {b : Addr} {o : HO} (n : ¬ W.XB b) (h : H b = some o) : H' b = some o := st.ext b o h (W.nuX n)
theorem Later.next {σ : List (Option V)} {H H' : Hp} {W : Wd G E σ H} {c : Nat} (st : Step W c H') : Later W c (W.next st) := ⟨rfl, rfl, rfl, rfl, rfl, by show W.n ≤ W.n - c + c; omega, fun b o n h => st.keep n h, fun b h => .inl h⟩
/-- what holds of a value beside the frame's own lists holds of it behind the frame -/
theorem Den.out {σ : List (Option V)} {H H' : Hp} (W : Wd G E σ H) {d : D} {v : V} (h : Den G W.XB H' d v) : Den G W.B H' d v :=
  Den.keep (fun _ _ _ h => h) (fun _ h => .inl (.inl h)) d v h
end
def liftS (G : Gd) (E : XK) (c : Nat) (ts : DS) : TS := fun Dn σ H => ∃ W : Wd G E σ H, W.m + c ≤ W.n ∧ ∃ de : DEnds, ts W.ex de W.env ∧
  (∀ σ' H' (W' : Wd G E σ' H'), Later W c W' → de.nx W'.env → Dn.nx σ' H') ∧
  (∀ v σ' H' (W' : Wd G E σ' H') d, Later W c W' → Den G W.B H' d v → de.rt d W'.env → Dn.rt v H') ∧
  (∀ σ' H' (W' : Wd G E σ' H'), Later W c W' → de.bk W'.env → Dn.bk σ' H') ∧
  (∀ σ' H' (W' : Wd G E σ' H'), Later W c W' → de.ct W'.env → Dn.ct σ' H')
abbrev DSt (G : Gd) (E : XK) (X : Cx) (c : Nat) (st : Stmt) (t : DS) : Prop := PS X st (liftS G E c t)
abbrev DSs (G : Gd) (E : XK) (X : Cx) (c : Nat) (sts : List Stmt) (t : DS) : Prop := PSs X sts (liftS G E c t)
theorem impS {X : Cx} {st : Stmt} {t t' : TS} (h : PS X st t) (i : ∀ D σ H, t' D σ H → t D σ H) : PS X st t' := ⟨fun pins s σ H D I q => h.run pins s σ H D I (i D σ H q)⟩
theorem impSs {X : Cx} {st : List Stmt} {t t' : TS} (h : PSs X st t) (i : ∀ D σ H, t' D σ H → t D σ H) : PSs X st t' := ⟨fun pins s σ H D I q => h.run pins s σ H D I (i D σ H q)⟩
abbrev FSpec := List D → (D → Prop) → (Exc → Prop) → Prop
def liftF (G : Gd) (c : Nat) (S : FSpec) : Sp := fun vs H Q E => ∃ (u : Option Ur) (n : Nat) (B : Addr → Prop) (ds : List D) (R : D → Prop) (ex : Exc → Prop),
  u = G.u ∧ c ≤ n ∧ (∀ p, Pr u p → B p.1 ∧ B p.2) ∧ (∀ a, B a → H a ≠ none) ∧ Good u H n ∧ DenL G B H ds vs ∧ S ds R ex ∧
  (∀ v H' d, Ext u H H' → Good u H' (n - c) → Den G B H' d v → R d → Q v H') ∧ (∀ x C d H', Ext u H H' → Good u H' (n - c) → ExcIs G B H' x C d → ex x → E C d H')
/-- the def at f keeps S, by at most c draws and k calls deep, where no repr is under way -/
structure FnD (G : Gd) (P : Program) (w : World) (mg : Str → Option Value) (base : Heap) (k : Nat) (f : Addr) (fd : FuncData) (ps : List Str) (c : Nat) (S : FSpec) : Prop where
  run : ∀ (A : Around) (outer : List Env) (s : Shared) (H : Hp) (args : Args) (us : List Value) (vs : List V) (Q : VK) (E : XK), Room k A → A.guards = some [] → Env0 P w G.K mg base A outer s H →
    BindsTo s fd args (ps.zip us) → Vals vs us → vs.length = ps.length → liftF G c S vs H Q E → codeAny (model P w) A (.call (.ref f) args) (CR (L2.CX P w) outer P w H s Q E) s
/-- the slots at the entry -/
def env0 (N : List Str) (ds : List D) : List Sl := ds.map Sl.val ++ List.replicate (N.length - ds.length) Sl.emp
section
variable {G : Gd} {P : Program} {w : World} {mg : Str → Option Value} {base : Heap}
theorem FnD.mono {j k : Nat} {f : Addr} {fd : FuncData} {ps : List Str} {c : Nat} {S : FSpec} (F : FnD G P w mg base j f fd ps c S) (h : j ≤ k) : FnD G P w mg base k f fd ps c S :=
  ⟨fun A outer s H args us vs Q E hr => F.run A outer s H args us vs Q E (hr.mono h)⟩
theorem env0_get {N : List Str} {ds : List D} {i : Nat} {s : Sl} (h : (env0 N ds)[i]? = some s) : (∃ d, ds[i]? = some d ∧ s = .val d) ∨ s = .emp := by
  unfold env0 at h
  by_cases hi : i < ds.length
  · rw [List.getElem?_append_left (by simpa using hi), List.getElem?_map, List.getElem?_eq_getElem hi] at h
    exact .inl ⟨ds[i], List.getElem?_eq_getElem hi, (Option.some.inj h).symm⟩
  · rw [List.getElem?_append_right (by simpa using hi), List.getElem?_replicate] at h
    split at h
    · exact .inr (Option.some.inj h).symm
    · cases h
theorem start_get {N : List Str} {vs : List V} {i : Nat} {v : V} (h : vs[i]? = some v) : (L2.start N vs)[i]? = some (some v) := by
  have hi : i < vs.length := (List.getElem?_eq_some_iff.mp h).1
  unfold L2.start
  rw [List.getElem?_append_left (by simpa using hi), List.getElem?_map, h]
  rfl
/-- the state at a body's entry -/
theorem wd_start {N : List Str} {vs : List V} {H : Hp} {E : XK} {u : Option Ur} {n c : Nat} {B : Addr → Prop} {ds : List D} {ex : Exc → Prop} (hN : vs.length ≤ N.length) (hug : u = G.u) (hc : c ≤ n)
    (hu : ∀ p, Pr u p → B p.1 ∧ B p.2) (hB : ∀ a, B a → H a ≠ none) (hg : Good u H n) (hd : DenL G B H ds vs) (hx : ∀ x C d H', Ext u H H' → Good u H' (n - c) → ExcIs G B H' x C d → ex x → E C d H') :
    ∃ W : Wd G E (L2.start N vs) H, W.u = u ∧ W.n = n ∧ W.m = n - c ∧ W.B = B ∧ W.H0 = H ∧ W.env = env0 N ds ∧ W.ex = ex := by
  have hl := hd.length
  refine ⟨{ u := u, n := n, m := n - c, B := B, H0 := H, env := env0 N ds, ex := ex, ug := hug, hu := hu, hB := hB, fr := Ext.refl _ _, good := hg, len := ?_, sl := ?_, nd := ?_, exc := hx }, rfl, rfl, rfl, rfl, rfl, rfl, rfl⟩
  · unfold env0 L2.start
    simp only [List.length_append, List.length_map, List.length_replicate]
    omega
  · intro i s hs
    rcases env0_get hs with ⟨d, hd1, rfl⟩ | rfl
    · obtain ⟨x, hx1, hx2⟩ := hd.get hd1
      refine ⟨x, by rw [start_get hx1]; rfl, ?_⟩
      exact Den.keep (fun _ _ _ h => h) (fun b hb => by
        rcases hb with hb | ⟨i, es, e1, hm, _⟩
        · exact .inl hb
        · rcases env0_get e1 with ⟨_, _, z⟩ | z <;> (subst z; cases hm)) d x hx2
    · trivial
  · intro i j a s t e1 _ hm
    rcases env0_get e1 with ⟨_, _, z⟩ | z <;> (subst z; cases hm)
/-- THE RULE for a def: its body as a term of rules over trees, what the promise asks of that term -/
theorem fnd_at {k : Nat} {f : Addr} {x qual : Str} {st : Stmt} {fd : FuncData} {N ps : List Str} {c : Nat} {S : FSpec} {ts : DS} {cdv : Value}
    (hF : ∃ (oc : Value) (od : Option Addr) (kV doc pm : Value) (an : Option Addr) (ct : Value) (osl : Array (Option Value)), fd = PySem.W.fnOf x qual (defArgs st) (defBody st) (defScope st) .none kV doc pm an cdv ct ∧ G.K.lookup f = some ⟨oc, od, .func fd, osl⟩ ∧ PySem.W.codeIn G.K cdv qual = true) (Sc : FnScope N ps (defScope st))
    (hder : ∀ (A : Around) (outer : List Env) (s : Shared) (H : Hp) (E : XK), Room k (A.deeper (envOfC qual (defScope st) s.heap.objs.size f cdv)) → A.guards = some [] →
      DSs G E (cxOf (L2.CX P w) P w G.K mg base N qual (defScope st) f cdv A outer s H E) c (defBody st) ts)
    (hS : ∀ ds R ex, ds.length = ps.length → S ds R ex → ts ex { nx := fun _ => R .non, rt := fun d _ => R d } (env0 N ds)) : FnD G P w mg base (k + 1) f fd ps c S := by
  refine ⟨fun A outer s H args us vs Q E hr hgd e0 hb rv hlen hsp => ?_⟩
  obtain ⟨u, n, B, ds, R, ex, hug, hc, hu, hB, hg, hd, hs, hq, hx⟩ := hsp
  have hNl : vs.length ≤ N.length := by
    have h1 := congrArg List.length Sc.pre
    rw [List.length_take] at h1
    omega
  obtain ⟨oc, od, kV, doc, pm, an, ct, osl, rfl, lk, hcd⟩ := hF; have KX : G.K.In s.heap := PySem.W.Frag.In.keeps e0.mod.kin (fun b o e => (e0.bs b o e).1)
  have nolim : s.heap.NoLimit := Heap.NoLimit.keeps e0.mod.nolimit (fun b o e => (e0.bs b o e).1)
  have kinds : ∀ y ∈ ps.zip us, (defScope st).names.lookup y.1 = some .local ∨
      ((defScope st).names.lookup y.1 = some .cell ∧ ((cellsFrom (s.heap.objs.size + 1) (defScope st).names []).lookup y.1).isSome = true) := by
    intro y hy
    obtain ⟨n1, v1⟩ := y
    rcases Sc.par n1 (List.of_mem_zip hy).1 with z | z
    · exact .inl z
    · exact .inr ⟨z, PySem.W.cellsFrom_some _ _ _ (.inl z)⟩
  refine codeAny_call_function hr.depth (KX _ _ lk) rfl Sc.co Sc.gen rfl (PySem.W.codeRec_of KX hcd) ?_
  refine hb _ _ _ _ (wpAny_newFunctionEnv_cells Sc.kind kinds ?_)
  intro env he s1 ic
  subst he
  refine ⟨nolim.keeps ic.toInCall.keep, codeAny_func ?_⟩
  have I : Inv (cxOf (L2.CX P w) P w G.K mg base N qual (defScope st) f cdv A outer s H E) [] (L2.start N vs) H s1 := inv_start Sc hr.hd e0 hlen rv ic
  have hds : ds.length = ps.length := by rw [hd.length, hlen]
  obtain ⟨W, w1, w2, w3, w4, w5, w6, w7⟩ := wd_start (N := N) (E := E) hNl hug hc hu hB hg hd hx
  have body := (hder A outer s H E (hr.deeper _) hgd).run [] s1 (L2.start N vs) H { nx := fun _ H' => Q .non H', rt := Q } I (by
    refine ⟨W, by rw [w2, w3]; omega, _, by rw [w6, w7]; exact hS ds R ex hds hs, ?_, ?_, ?_, ?_⟩
    · intro σ' H' W' lt hr'
      have hE : Ext u H H' := by have z := W'.fr; rw [lt.u, lt.H0, w1, w5] at z; exact z
      have hG : Good u H' (n - c) := by have z := W'.good; rw [lt.u, w1] at z; exact z.less (by have := lt.n; rw [w2] at this; omega)
      exact hq .non H' .non hE hG rfl hr'
    · intro v σ' H' W' d lt hd' hr'
      have hE : Ext u H H' := by have z := W'.fr; rw [lt.u, lt.H0, w1, w5] at z; exact z
      have hG : Good u H' (n - c) := by have z := W'.good; rw [lt.u, w1] at z; exact z.less (by have := lt.n; rw [w2] at this; omega)
      rw [w4] at hd'
      exact hq v H' d hE hG hd' hr'
    · intro σ' H' W' lt z; exact z.elim
    · intro σ' H' W' lt z; exact z.elim)
  refine wpAny_mono body ?_ (fun e s' hs => hs)
  intro fl s' hfl
  cases fl with
  | next => obtain ⟨σ', H', J, q⟩ := hfl; exact ⟨.non, H', J.os, J.bare, J.base, J.hok, rfl, q⟩
  | ret v' => obtain ⟨v, σ', H', J, r1, q⟩ := hfl; exact ⟨v, H', J.os, J.bare, J.base, J.hok, r1, q⟩
  | brk => obtain ⟨σ', H', J, q⟩ := hfl; exact q.elim
  | cont => obtain ⟨σ', H', J, q⟩ := hfl; exact q.elim
theorem fnd_of {k : Nat} {f : Addr} {x qual : Str} {st : Stmt} {fd : FuncData} {N ps : List Str} {c : Nat} {S : FSpec} {ts : DS} (F : Fun G.K x qual st f fd) (Sc : FnScope N ps (defScope st))
    (hder : ∀ (cdv : Value) (A : Around) (outer : List Env) (s : Shared) (H : Hp) (E : XK), Room k (A.deeper (envOfC qual (defScope st) s.heap.objs.size f cdv)) → A.guards = some [] →
      DSs G E (cxOf (L2.CX P w) P w G.K mg base N qual (defScope st) f cdv A outer s H E) c (defBody st) ts)
    (hS : ∀ ds R ex, ds.length = ps.length → S ds R ex → ts ex { nx := fun _ => R .non, rt := fun d _ => R d } (env0 N ds)) : FnD G P w mg base (k + 1) f fd ps c S := by
  obtain ⟨oc, od, kV, doc, pm, an, cdv, ct, osl, h1, h2, h3⟩ := F.ex
  exact fnd_at ⟨oc, od, kV, doc, pm, an, ct, osl, h1, h2, h3⟩ Sc (hder cdv) hS
end
end Kn
set_option Elab.async false
set_option linter.all false
set_option maxRecDepth 100000
set_option maxHeartbeats 2100000
namespace Kn
open PySem L2
open PyProof.Rows (envOfC)
section
variable {G : Gd} {E : XK} {X : Cx}
def sNil : DS := fun _ de env => de.nx env
def sSeq (t u : DS) : DS := fun ex de env => t ex { de with nx := fun env' => u ex de env' } env
theorem ds_nil : DSs G E X 0 [] sNil := impSs pss_nil fun Dn σ H h => by
  obtain ⟨W, _, de, ht, k, _⟩ := h
  exact k σ H W (Later.refl W) ht
theorem lift_seq {c d : Nat} {t u : DS} {Dn : Ends} {σ : List (Option V)} {H : Hp} (h : liftS G E (c + d) (sSeq t u) Dn σ H) : tSeq (liftS G E c t) (liftS G E d u) Dn σ H := by
  obtain ⟨W, hc, de, ht, k1, k2, k3, k4⟩ := h
  refine ⟨W, by omega, _, ht, fun σ' H' W' lt hn => ?_, fun v σ' H' W' d' lt hd hr => k2 v σ' H' W' d' (lt.more (by omega)) hd hr, fun σ' H' W' lt hn => k3 σ' H' W' (lt.more (by omega)) hn, fun σ' H' W' lt hn => k4 σ' H' W' (lt.more (by omega)) hn⟩
  refine ⟨W', by have := lt.n; rw [lt.m]; omega, de, by rw [lt.ex]; exact hn, fun σ2 H2 W2 l2 q => k1 σ2 H2 W2 (lt.trans l2) q, fun v σ2 H2 W2 d' l2 hd hr => k2 v σ2 H2 W2 d' (lt.trans l2) (by rw [lt.B] at hd; exact hd) hr,
    fun σ2 H2 W2 l2 q => k3 σ2 H2 W2 (lt.trans l2) q, fun σ2 H2 W2 l2 q => k4 σ2 H2 W2 (lt.trans l2) q⟩
theorem ds_cons {c d : Nat} {st : Stmt} {rest : List Stmt} {t u : DS} (h1 : DSt G E X c st t) (h2 : DSs G E X d rest u) : DSs G E X (c + d) (st :: rest) (sSeq t u) := impSs (pss_cons h1 h2) fun Dn σ H h => lift_seq h
theorem ds_one {c : Nat} {st : Stmt} {t : DS} (h1 : DSt G E X c st t) : DSs G E X c [st] t := pss_one h1
def sNever : DS := fun _ _ _ => False
theorem ds_never {st : Stmt} : DSt G E X 0 st sNever := impS ps_never fun Dn σ H h => by
  obtain ⟨W, _, de, ht, _⟩ := h
  exact ht
def sRet (te : DT) : DS := fun ex de env => te ex env fun d => de.rt d env
theorem ds_ret {c : Nat} {e : Expr} {pos : Pos} {te : DT} (he : DE G E X c e te) : DSt G E X c (.Return (some e) pos) (sRet te) := impS (ps_ret he) fun Dn σ H h => by
  obtain ⟨W, hc, de, ht, k1, k2, k3, k4⟩ := h
  exact ⟨W, hc, _, ht, fun v H' d st hd hr => k2 v _ H' (W.next st) d (Later.next st) (hd.out W) hr⟩
def dTrue (te : DT) : DB := fun ex env Q => te ex env fun x => ∃ b, x = .bl b ∧ Q b
def sIf (tc : DB) (t u : DS) : DS := fun ex de env => tc ex env fun b => if b = true then t ex de env else u ex de env
theorem ds_if {cc ca cb : Nat} {e : Expr} {a b : List Stmt} {pos : Pos} {tc : DB} {t u : DS} (hc : DPt G E X cc e tc) (ha : DSs G E X ca a t) (hb : DSs G E X cb b u) : DSt G E X (cc + (ca + cb)) (.If e a b pos) (sIf tc t u) :=
  impS (ps_if hc ha hb) fun Dn σ H h => by
    obtain ⟨W, hn, de, ht, k1, k2, k3, k4⟩ := h
    refine ⟨W, by omega, _, ht, fun r H' st hr => ?_⟩
    have l := Later.next st
    cases r with
    | true =>
      refine ⟨W.next st, by show W.m + ca ≤ W.n - cc; omega, de, hr, fun σ2 H2 W2 l2 q => k1 σ2 H2 W2 ((l.trans l2).more (by omega)) q, fun v σ2 H2 W2 d' l2 hd hr => k2 v σ2 H2 W2 d' ((l.trans l2).more (by omega)) hd hr,
        fun σ2 H2 W2 l2 q => k3 σ2 H2 W2 ((l.trans l2).more (by omega)) q, fun σ2 H2 W2 l2 q => k4 σ2 H2 W2 ((l.trans l2).more (by omega)) q⟩
    | false =>
      refine ⟨W.next st, by show W.m + cb ≤ W.n - cc; omega, de, hr, fun σ2 H2 W2 l2 q => k1 σ2 H2 W2 ((l.trans l2).more (by omega)) q, fun v σ2 H2 W2 d' l2 hd hr => k2 v σ2 H2 W2 d' ((l.trans l2).more (by omega)) hd hr,
        fun σ2 H2 W2 l2 q => k3 σ2 H2 W2 ((l.trans l2).more (by omega)) q, fun σ2 H2 W2 l2 q => k4 σ2 H2 W2 ((l.trans l2).more (by omega)) q⟩
theorem lift_true {c : Nat} {te : DT} {σ : List (Option V)} {H : Hp} {Q' : Bool → Hp → Prop} (h : liftB G E c (dTrue te) σ H Q') : lift G E c te σ H fun x H' => ∃ b, x = .bl b ∧ Q' b H' := by
  obtain ⟨W, hc, Q, ht, k⟩ := h
  refine ⟨W, hc, _, ht, fun v H' d st hd ⟨b, e, hq⟩ => ⟨b, by subst e; exact hd, k b H' st hq⟩⟩
/-- a test that is a comparison -/
theorem dt_cmp {a b : Expr} {op : CmpOp} {pos : Pos} {g : G2} {ca cb : Nat} {ta tb : DT} (ho : OpR X (compareOp op) (rD G g)) (ha : DE G E X ca a ta) (hb : DE G E X cb b tb) (hm : behindInMarks op b = false) :
    DPt G E X (ca + cb) (.Compare a [op] [b] pos) (dTrue (dOp g ta tb)) := impT (pt_cmpR ho ha hb hm) fun σ H Q' h => by
  have h2 := lift_true h
  exact lift_op h2
/-- a test by its value: a name, a call, an attribute, an item -/
theorem dt_val {e : Expr} {c : Nat} {te : DT} (h : DE G E X c e te) (he : ∀ whole, isTrue e X.env whole = (do let v ← whole; standAt e.pos; holding [v] (truthy v)) := by intro _; rfl) : DPt G E X c e (dTrue te) :=
  impT (pt_val h he) fun σ H Q' h => lift_true h
def bAnd (t u : DB) : DB := fun ex env Q => t ex env fun b => if b = true then u ex env Q else Q false
def bOr (t u : DB) : DB := fun ex env Q => t ex env fun b => if b = true then Q true else u ex env Q
def bNot (t : DB) : DB := fun ex env Q => t ex env fun b => Q (!b)
end
end Kn
set_option Elab.async false
set_option linter.all false
set_option maxRecDepth 100000
set_option maxHeartbeats 2100000
namespace Kn
open PySem L2
open PyProof.Rows (envOfC)
section
variable {G : Gd} {E : XK} {X : Cx}
theorem dw_and {a b : Expr} {rest : List Expr} {pos : Pos} {ca cb : Nat} {t u : DB} (ha : DPt G E X ca a t) (hb : PW X (.BoolOp .And (b :: rest) pos) (liftB G E cb u)) : PW X (.BoolOp .And (a :: b :: rest) pos) (liftB G E (ca + cb) (bAnd t u)) :=
  ⟨fun wh pins s σ H Q I h => (pw_and ha hb).run wh pins s σ H Q I (by
    obtain ⟨W, hn, Q1, ht, k⟩ := h
    refine ⟨W, by omega, _, ht, fun r H' st hr => ?_⟩
    cases r with
    | true => exact ⟨W.next st, by show W.m + cb ≤ W.n - ca; omega, Q1, hr, fun r2 H2 st2 q => k r2 H2 (st.trans st2) q⟩
    | false => exact k false H' (st.less (by omega)) hr)⟩
theorem dw_or {a b : Expr} {rest : List Expr} {pos : Pos} {ca cb : Nat} {t u : DB} (ha : DPt G E X ca a t) (hb : PW X (.BoolOp .Or (b :: rest) pos) (liftB G E cb u)) : PW X (.BoolOp .Or (a :: b :: rest) pos) (liftB G E (ca + cb) (bOr t u)) :=
  ⟨fun wh pins s σ H Q I h => (pw_or ha hb).run wh pins s σ H Q I (by
    obtain ⟨W, hn, Q1, ht, k⟩ := h
    refine ⟨W, by omega, _, ht, fun r H' st hr => ?_⟩
    cases r with
    | true => exact k true H' (st.less (by omega)) hr
    | false => exact ⟨W.next st, by show W.m + cb ≤ W.n - ca; omega, Q1, hr, fun r2 H2 st2 q => k r2 H2 (st.trans st2) q⟩)⟩
theorem dw_and1 {a : Expr} {pos : Pos} {c : Nat} {t : DB} (ha : DPt G E X c a t) : PW X (.BoolOp .And [a] pos) (liftB G E c t) := pw_and1 ha
theorem dw_or1 {a : Expr} {pos : Pos} {c : Nat} {t : DB} (ha : DPt G E X c a t) : PW X (.BoolOp .Or [a] pos) (liftB G E c t) := pw_or1 ha
theorem dt_w {e : Expr} {c : Nat} {t : DB} (h : PW X e (liftB G E c t)) : DPt G E X c e t := h.pt
theorem dt_not {a : Expr} {pos : Pos} {c : Nat} {t : DB} (ha : DPt G E X c a t) : DPt G E X c (.UnaryOp .Not a pos) (bNot t) := impT (pt_not ha) fun σ H Q' h => by
  obtain ⟨W, hn, Q1, ht, k⟩ := h
  exact ⟨W, hn, _, ht, fun r H' st hr => k _ H' st hr⟩
/-- a < b <= c -/
def dChain (g g' : G2) (ta tb tc : DT) : DT := fun ex env Q => ta ex env fun x => tb ex env fun y => g x y fun z => ∃ k, z = .bl k ∧ if k = true then tc ex env fun w' => g' y w' Q else Q (.bl false)
theorem lift_chain {g g' : G2} {ca cb cc : Nat} {ta tb tc : DT} {σ : List (Option V)} {H : Hp} {Q' : VK} (h : lift G E (ca + (cb + cc)) (dChain g g' ta tb tc) σ H Q') :
    tChain (rD G g) (rD G g') (lift G E ca ta) (lift G E cb tb) (lift G E cc tc) σ H Q' := by
  obtain ⟨W, hc, Q, ht, k⟩ := h
  refine ⟨W, by omega, _, ht, fun v H1 d st hd hq => ⟨W.next st, by show W.m + cb ≤ W.n - ca; omega, _, hq, fun v2 H2 e st2 he hg => ?_⟩⟩
  refine ⟨W.XB, d, e, _, (W.next st).den st2 hd, he, fun p hp => ((W.next st).next st2).fresh hp, hg, fun r H' rd ex hr ⟨b, e1, hq2⟩ => ?_⟩
  subst e1
  have s3 : Step W (ca + cb) H' := (st.trans st2).pure ex
  refine ⟨b, hr, ?_⟩
  cases b with
  | false => exact k _ H' (.bl false) (s3.less (by omega)) (den_bl false) hq2
  | true =>
    refine ⟨W.next s3, by show W.m + cc ≤ W.n - (ca + cb); omega, _, hq2, fun v3 H3 f st3 hf hg3 => ?_⟩
    refine ⟨W.XB, e, f, Q, ?_, hf, fun p hp => ((W.next s3).next st3).fresh hp, hg3, fun r2 H4 rd2 ex2 hr2 q => k r2 H4 rd2 (((s3.trans st3).pure ex2).less (by omega)) hr2 q⟩
    exact (W.next s3).den st3 (he.ext (u := none) ex (fun _ z => z.none.elim))
theorem dt_chain {a b c : Expr} {op op' : CmpOp} {pos : Pos} {g g' : G2} {ca cb cc : Nat} {ta tb tc : DT} (ho : OpR X (compareOp op) (rD G g)) (ho' : OpR X (compareOp op') (rD G g')) (ha : DE G E X ca a ta) (hb : DE G E X cb b tb) (hc : DE G E X cc c tc)
    (hm : lastMarks [op, op'] [b, c] = false := by with_unfolding_all rfl) : DPt G E X (ca + (cb + cc)) (.Compare a [op, op'] [b, c] pos) (dTrue (dChain g g' ta tb tc)) := impT (pt_chain ho ho' ha hb hc hm) fun _ _ _ h => by
  have h2 := lift_true h
  exact lift_chain h2
/-- a if t else b -/
def dIf (tc : DB) (ta tb : DT) : DT := fun ex env Q => tc ex env fun b => if b = true then ta ex env Q else tb ex env Q
theorem de_ife {c a b : Expr} {pos : Pos} {cc ca cb : Nat} {tc : DB} {ta tb : DT} (hc : DPt G E X cc c tc) (ha : DE G E X ca a ta) (hb : DE G E X cb b tb) : DE G E X (cc + (ca + cb)) (.IfExp c a b pos) (dIf tc ta tb) :=
  imp (pe_ifExp hc ha hb) fun σ H Q' h => by
    obtain ⟨W, hn, Q, ht, k⟩ := h
    refine ⟨W, by omega, _, ht, fun r H' st hr => ?_⟩
    cases r with
    | true => exact ⟨W.next st, by show W.m + ca ≤ W.n - cc; omega, Q, hr, fun v H2 d st2 hd q => k v H2 d ((st.trans st2).less (by omega)) hd q⟩
    | false => exact ⟨W.next st, by show W.m + cb ≤ W.n - cc; omega, Q, hr, fun v H2 d st2 hd q => k v H2 d ((st.trans st2).less (by omega)) hd q⟩
def aNil : DA := fun _ _ Q => Q []
def aCons (t : DT) (u : DA) : DA := fun ex env Q => t ex env fun x => u ex env fun xs => Q (x :: xs)
theorem da_nil : DEs G E X 0 [] aNil := impA pa_nil fun σ H Q' h => by
  obtain ⟨W, hn, Q, ht, k⟩ := h
  exact k [] H [] (Step.refl W) rfl ht
theorem da_cons {e : Expr} {es : List Expr} {c d : Nat} {t : DT} {u : DA} (he : DE G E X c e t) (hes : DEs G E X d es u) (hs : ∀ env : Env, starEach (e :: es) env = (false, eval e env) :: starEach es env := by intro _; rfl) : DEs G E X (c + d) (e :: es) (aCons t u) :=
  impA (pa_cons he hes (by exact hs X.env)) fun σ H Q' h => by
    obtain ⟨W, hn, Q, ht, k⟩ := h
    refine ⟨W, by omega, _, ht, fun v H1 d1 st hd hq => ⟨W.next st, by show W.m + d ≤ W.n - c; omega, _, hq, fun vs H2 ds st2 hds q => ?_⟩⟩
    exact k (v :: vs) H2 (d1 :: ds) (st.trans st2) ⟨v, vs, rfl, (W.next st).den st2 hd, hds⟩ q
def dTup (u : DA) : DT := fun ex env Q => u ex env fun ds => ds.length ≤ sizeLine ∧ Q (.tup ds)
def dLst (u : DA) : DT := fun ex env Q => u ex env fun ds => ds.length ≤ sizeLine ∧ Q (.lst ds)
theorem de_tup {es : List Expr} {x1 : Nat} {pos : Pos} {c : Nat} {u : DA} (h : DEs G E X c es u) : DE G E X c (.Tuple es x1 pos) (dTup u) := imp (pe_tup h) fun σ H Q' h => by
  obtain ⟨W, hn, Q, ht, k⟩ := h
  refine ⟨W, hn, _, ht, fun vs H1 ds st hd ⟨hl, hq⟩ => ⟨by rw [← hd.length]; exact hl, fun p hp => ?_⟩⟩
  exact k _ _ (.tup ds) (st.new hp) (den_tup hp ((W.next st).fresh hp) (by rw [← hd.length]; exact hl) hd) hq
theorem de_lst {es : List Expr} {pos : Pos} {c : Nat} {u : DA} (h : DEs G E X c es u) : DE G E X c (.List es pos) (dLst u) := imp (pe_lst h) fun σ H Q' h => by
  obtain ⟨W, hn, Q, ht, k⟩ := h
  refine ⟨W, hn, _, ht, fun vs H1 ds st hd ⟨hl, hq⟩ => ⟨by rw [← hd.length]; exact hl, fun p hp => ?_⟩⟩
  exact k _ _ (.lst ds) (st.new hp) (den_lst hp ((W.next st).fresh hp) (by rw [← hd.length]; exact hl) hd) hq
def gIx : G2 := fun d e Q => match d, e with
  | .lst ds, .int i => ∃ x, atI ds i = some x ∧ Q x
  | .tup ds, .int i => ∃ x, atI ds i = some x ∧ Q x
  | _, _ => False
theorem denL_at {B : Addr → Prop} {H : Hp} {ds : List D} {xs : List V} {i : Int} {d : D} (h : DenL G B H ds xs) (e : atI ds i = some d) : ∃ x, atI xs i = some x ∧ Den G B H d x := by
  unfold atI at e ⊢
  rw [h.length] at e
  cases hj : ixN xs.length i with
  | none => rw [hj] at e; cases e
  | some j => rw [hj] at e; exact h.get e
theorem i_ix (hK : X.K = G.K) : IxR X (rD G gIx) := by
  intro value slice pins s σ H x y v u Q' I rx ry h hs
  obtain ⟨B, d, e, Q, hd, he, hf, hg, k⟩ := h
  cases d <;> cases e <;> try exact hg.elim
  · rename_i ds i
    obtain ⟨a, xs, rfl, na, ha, la, da⟩ := hd
    obtain ⟨z, hz, hq⟩ := hg
    obtain ⟨x, hx, dx⟩ := denL_at da hz
    exact ix_list value slice pins s σ H _ _ v u Q' I rx ry ⟨a, xs, i, x, rfl, he, SqL.of ha, hx, k _ H z (Ext.refl _ _) dx hq⟩ hs
  · rename_i ds i
    obtain ⟨a, xs, rfl, na, ha, la, da⟩ := hd
    obtain ⟨z, hz, hq⟩ := hg
    obtain ⟨x, hx, dx⟩ := denL_at da hz
    exact ix_tup value slice pins s σ H _ _ v u Q' I rx ry ⟨a, xs, i, x, rfl, he, by rw [hK]; exact ha, hx, k _ H z (Ext.refl _ _) dx hq⟩ hs
theorem de_ix {a b : Expr} {pos : Pos} {ca cb : Nat} {ta tb : DT} (hK : X.K = G.K) (ha : DE G E X ca a ta) (hb : DE G E X cb b tb) (hs : PlainIx b) : DE G E X (ca + cb) (.Subscript a b pos) (dOp gIx ta tb) :=
  imp (pe_ix (i_ix hK) ha hb hs) fun _ _ _ h => lift_op h
abbrev GL := List D → (D → Prop) → Prop
def rDL (G : Gd) (g : GL) : List V → Hp → VK → Prop := fun xs H Q' => ∃ B ds Q, DenL G B H ds xs ∧ (∀ p, H p = none → ¬ B p) ∧ g ds Q ∧ ∀ r H' rd, Ext none H H' → Den G B H' rd r → Q rd → Q' r H'
def dBi (g : GL) (u : DA) : DT := fun ex env Q => u ex env fun ds => g ds Q
theorem lift_bi {g : GL} {c : Nat} {u : DA} {σ : List (Option V)} {H : Hp} {Q' : VK} (h : lift G E c (dBi g u) σ H Q') : tCB (rDL G g) (liftA G E c u) σ H Q' := by
  obtain ⟨W, hn, Q, ht, k⟩ := h
  refine ⟨W, hn, _, ht, fun vs H1 ds st hd hg => ⟨W.XB, ds, Q, hd, fun p hp => (W.next st).fresh hp, hg, fun r H' rd ex hr q => k r H' rd (st.pure ex) hr q⟩⟩
theorem de_bi {e : Expr} {es : List Expr} {x : Str} {p pos : Pos} {id : String} {g : GL} {c : Nat} {u : DA} (hc : CallR X (.builtin id) (rDL G g)) (hm : X.mg x = none) (ha : DEs G E X c (e :: es) u) (hg : Gl X x := by rfl) (hv : bootBuiltins x = some (.builtin id) := by decide +kernel)
    (hn : x ≠ "__name__" := by decide) (hdb : (x == ("__debug__" : Str)) = false := by decide) (he : starEach (e :: es) X.env = (false, eval e X.env) :: starEach es X.env := by rfl) (hpl : (backTo pos (starEach es X.env)).any (·.1) = false := by rfl) :
    DE G E X c (.Call (.Name x p) (e :: es) [] pos) (dBi g u) := imp (pe_callB hc hg hm hv ha hn hdb he hpl) fun _ _ _ h => lift_bi h
theorem de_ty {e : Expr} {es : List Expr} {x : Str} {p pos : Pos} {T : String} {g : GL} {c : Nat} {u : DA} (hc : CallR X (.type T) (rDL G g)) (hm : X.mg x = none) (ha : DEs G E X c (e :: es) u) (hg : Gl X x := by rfl) (hv : bootBuiltins x = some (.type T) := by decide +kernel)
    (hn : x ≠ "__name__" := by decide) (hdb : (x == ("__debug__" : Str)) = false := by decide) (he : starEach (e :: es) X.env = (false, eval e X.env) :: starEach es X.env := by rfl) (hpl : (backTo pos (starEach es X.env)).any (·.1) = false := by rfl) :
    DE G E X c (.Call (.Name x p) (e :: es) [] pos) (dBi g u) := imp (pe_callTy hc hg hm hv ha hn hdb he hpl) fun _ _ _ h => lift_bi h
theorem callr_imp {f : Value} {r r' : List V → Hp → VK → Prop} (h : CallR X f r) (i : ∀ xs H Q, r' xs H Q → r xs H Q) : CallR X f r' := fun pins s σ H xs us Q I r q => h pins s σ H xs us Q I r (i xs H Q q)
theorem denL1 {B : Addr → Prop} {H : Hp} {d : D} {xs : List V} (h : DenL G B H [d] xs) : ∃ x, xs = [x] ∧ Den G B H d x := by
  obtain ⟨x, r, e, h1, h2⟩ := h
  cases h2
  exact ⟨x, e, h1⟩
theorem denL2 {B : Addr → Prop} {H : Hp} {d e : D} {xs : List V} (h : DenL G B H [d, e] xs) : ∃ x y, xs = [x, y] ∧ Den G B H d x ∧ Den G B H e y := by
  obtain ⟨x, r, e, h1, h2⟩ := h
  obtain ⟨y, rfl, h3⟩ := denL1 h2
  exact ⟨x, y, e, h1, h3⟩
/-- one argument -/
def g1 (g : D → (D → Prop) → Prop) : GL := fun ds Q => match ds with
  | [d] => g d Q
  | _ => False
def g2 (g : G2) : GL := fun ds Q => match ds with
  | [d, e] => g d e Q
  | _ => False
theorem rDL1 {g : D → (D → Prop) → Prop} {xs : List V} {H : Hp} {Q' : VK} (h : rDL G (g1 g) xs H Q') : ∃ B d x Q, xs = [x] ∧ Den G B H d x ∧ (∀ p, H p = none → ¬ B p) ∧ g d Q ∧ ∀ r H' rd, Ext none H H' → Den G B H' rd r → Q rd → Q' r H' := by
  obtain ⟨B, ds, Q, hd, hf, hg, k⟩ := h
  match ds, hd, hg with
  | [d], hd, hg =>
    obtain ⟨x, rfl, hx⟩ := denL1 hd
    exact ⟨B, d, x, Q, rfl, hx, hf, hg, k⟩
theorem rDL2 {g : G2} {xs : List V} {H : Hp} {Q' : VK} (h : rDL G (g2 g) xs H Q') : ∃ B d e x y Q, xs = [x, y] ∧ Den G B H d x ∧ Den G B H e y ∧ (∀ p, H p = none → ¬ B p) ∧ g d e Q ∧ ∀ r H' rd, Ext none H H' → Den G B H' rd r → Q rd → Q' r H' := by
  obtain ⟨B, ds, Q, hd, hf, hg, k⟩ := h
  match ds, hd, hg with
  | [d, e], hd, hg =>
    obtain ⟨x, y, rfl, hx, hy⟩ := denL2 hd
    exact ⟨B, d, e, x, y, Q, rfl, hx, hy, hf, hg, k⟩
def gLen : D → (D → Prop) → Prop := fun d Q => match d with
  | .lst ds => Q (.int ds.length)
  | .tup ds => Q (.int ds.length)
  | .str x => x.length ≤ sizeLine ∧ Q (.int x.length)
  | _ => False
theorem c_len (hK : X.K = G.K) : CallR X (.builtin "len") (rDL G (g1 gLen)) := callr_imp call_len fun xs H Q' h => by
  obtain ⟨B, d, x, Q, rfl, hd, hf, hg, k⟩ := rDL1 h
  cases d <;> try exact hg.elim
  · rename_i z
    cases hd
    exact ⟨_, _, rfl, ⟨hg.1, rfl⟩, k _ H (.int z.length) (Ext.refl _ _) (den_int _) hg.2⟩
  · rename_i ds
    obtain ⟨a, ys, rfl, na, ha, la, da⟩ := hd
    exact ⟨_, _, rfl, .inl ⟨ys, SqL.of ha, rfl⟩, k _ H (.int ds.length) (Ext.refl _ _) (by rw [da.length]; exact den_int _) hg⟩
  · rename_i ds
    obtain ⟨a, ys, rfl, na, ha, la, da⟩ := hd
    exact ⟨_, _, rfl, .inr ⟨ys, by rw [hK]; exact ha, rfl⟩, k _ H (.int ds.length) (Ext.refl _ _) (by rw [da.length]; exact den_int _) hg⟩
def gList : D → (D → Prop) → Prop := fun d Q => match d with
  | .lst ds => Q (.lst ds)
  | .tup ds => Q (.lst ds)
  | _ => False
theorem c_list (hK : X.K = G.K) : CallR X (.type "list") (rDL G (g1 gList)) := callr_imp call_list_of fun xs H Q' h => by
  obtain ⟨B, d, x, Q, rfl, hd, hf, hg, k⟩ := rDL1 h
  cases d <;> try exact hg.elim
  · rename_i ds
    obtain ⟨a, ys, rfl, na, ha, la, da⟩ := hd
    exact ⟨_, ys, rfl, .inl (SqL.of ha), fun p hp => k _ _ (.lst ds) (Ext.new hp) (den_lst hp (hf p hp) la da) hg⟩
  · rename_i ds
    obtain ⟨a, ys, rfl, na, ha, la, da⟩ := hd
    exact ⟨_, ys, rfl, .inr (by rw [hK]; exact ha), fun p hp => k _ _ (.lst ds) (Ext.new hp) (den_lst hp (hf p hp) la da) hg⟩
def gTuple : D → (D → Prop) → Prop := fun d Q => match d with
  | .lst ds => Q (.tup ds)
  | .tup ds => Q (.tup ds)
  | _ => False
theorem c_tuple (hK : X.K = G.K) : CallR X (.type "tuple") (rDL G (g1 gTuple)) := callr_imp call_tuple_of fun xs H Q' h => by
  obtain ⟨B, d, x, Q, rfl, hd, hf, hg, k⟩ := rDL1 h
  cases d <;> try exact hg.elim
  · rename_i ds
    obtain ⟨a, ys, rfl, na, ha, la, da⟩ := hd
    exact ⟨_, ys, rfl, .inl ⟨SqL.of ha, fun p hp => k _ _ (.tup ds) (Ext.new hp) (den_tup hp (hf p hp) la da) hg⟩⟩
  · rename_i ds
    obtain ⟨a, ys, rfl, na, ha, la, da⟩ := hd
    exact ⟨_, ys, rfl, .inr ⟨by rw [hK]; exact ha, k _ H (.tup ds) (Ext.refl _ _) ⟨a, ys, rfl, na, ha, la, da⟩ hg⟩⟩
theorem DenL.bls {B : Addr → Prop} {H : Hp} : ∀ {bs : List Bool} {xs : List V}, DenL G B H (bs.map D.bl) xs → xs = bs.map V.bl
  | [], _, h => h
  | b :: bs, _, ⟨x, r, e, h1, h2⟩ => by subst e; rw [show x = V.bl b from h1, DenL.bls h2]; rfl
/-- all | any of a list of truths -/
def gAll : D → (D → Prop) → Prop := fun d Q => ∃ bs : List Bool, d = .lst (bs.map D.bl) ∧ Q (.bl (bs.all id))
def gAny : D → (D → Prop) → Prop := fun d Q => ∃ bs : List Bool, d = .lst (bs.map D.bl) ∧ Q (.bl (bs.any id))
theorem c_all (hc : X.calm = true) : CallR X (.builtin "all") (rDL G (g1 gAll)) := callr_imp (cr_all hc) fun xs H Q' h => by
  obtain ⟨B, d, x, Q, rfl, hd, hf, ⟨bs, rfl, hq⟩, k⟩ := rDL1 h
  obtain ⟨a, ys, rfl, na, ha, la, da⟩ := hd
  have := da.bls
  subst this
  exact ⟨a, bs, rfl, SqL.of ha, k _ H (.bl _) (Ext.refl _ _) (den_bl _) hq⟩
theorem c_any (hc : X.calm = true) : CallR X (.builtin "any") (rDL G (g1 gAny)) := callr_imp (cr_any hc) fun xs H Q' h => by
  obtain ⟨B, d, x, Q, rfl, hd, hf, ⟨bs, rfl, hq⟩, k⟩ := rDL1 h
  obtain ⟨a, ys, rfl, na, ha, la, da⟩ := hd
  have := da.bls
  subst this
  exact ⟨a, bs, rfl, SqL.of ha, k _ H (.bl _) (Ext.refl _ _) (den_bl _) hq⟩
def gInt : D → (D → Prop) → Prop := fun d Q => match d with
  | .int i => Q (.int i)
  | .bl b => Q (.int (if b then 1 else 0))
  | _ => False
theorem c_int : CallR X (.type "int") (rDL G (g1 gInt)) := callr_imp call_int1 fun xs H Q' h => by
  obtain ⟨B, d, x, Q, rfl, hd, hf, hg, k⟩ := rDL1 h
  cases d <;> try exact hg.elim
  · rename_i b
    cases hd
    exact .inr ⟨b, rfl, k _ H (.int _) (Ext.refl _ _) (den_int _) hg⟩
  · rename_i i
    cases hd
    exact .inl ⟨i, rfl, k _ H (.int i) (Ext.refl _ _) (den_int _) hg⟩
end
end Kn
set_option Elab.async false
set_option linter.all false
set_option maxRecDepth 100000
set_option maxHeartbeats 2100000
namespace Kn
open PySem L2
open PyProof.Rows (envOfC)
section
variable {G : Gd} {E : XK} {X : Cx} {σ : List (Option V)} {H H' : Hp}
theorem getD_set {α : Type} {l : List (Option α)} {i j : Nat} {v : Option α} : (l.set i v)[j]?.join = if i = j ∧ i < l.length then v else l[j]?.join := by
  by_cases h : i = j
  · subst h
    by_cases hi : i < l.length
    · rw [List.getElem?_set_self hi, if_pos ⟨rfl, hi⟩]; rfl
    · rw [List.getElem?_eq_none (by simpa using hi), if_neg (fun z => hi z.2), List.getElem?_eq_none (by simpa using hi)]
  · rw [List.getElem?_set_ne h, if_neg (fun z => h z.1)]
theorem xb_val {B : Addr → Prop} {env : List Sl} {i : Nat} {d : D} {v : Option V} {a : Addr} (hl : env.length = σ.length) (h : XBof B (env.set i (.val d)) (σ.set i v) a) : XBof B env σ a := by
  rcases h with h | ⟨j, s, h1, hm, h2⟩
  · exact .inl h
  · by_cases hj : i = j
    · subst hj
      by_cases hi : i < env.length
      · rw [List.getElem?_set_self hi] at h1; cases h1; cases hm
      · rw [List.getElem?_eq_none (by simpa using hi)] at h1; cases h1
    · rw [List.getElem?_set_ne hj] at h1 h2
      exact .inr ⟨j, s, h1, hm, h2⟩
theorem xb_emp {B : Addr → Prop} {env : List Sl} {i : Nat} {v : Option V} {a : Addr} (h : XBof B (env.set i .emp) (σ.set i v) a) : XBof B env σ a := by
  rcases h with h | ⟨j, s, h1, hm, h2⟩
  · exact .inl h
  · by_cases hj : i = j
    · subst hj
      by_cases hi : i < env.length
      · rw [List.getElem?_set_self hi] at h1; cases h1; cases hm
      · rw [List.getElem?_eq_none (by simpa using hi)] at h1; cases h1
    · rw [List.getElem?_set_ne hj] at h1 h2
      exact .inr ⟨j, s, h1, hm, h2⟩
theorem Den.fewer {B B' : Addr → Prop} {H : Hp} (s : ∀ b, B' b → B b) {d : D} {v : V} (h : Den G B H d v) : Den G B' H d v := Den.keep (fun _ _ _ h => h) (fun b hb => .inl (s b hb)) d v h
theorem DenL.fewer {B B' : Addr → Prop} {H : Hp} (s : ∀ b, B' b → B b) {ds : List D} {xs : List V} (h : DenL G B H ds xs) : DenL G B' H ds xs := DenL.keep (fun _ _ _ h => h) (fun b hb => .inl (s b hb)) ds xs h
theorem SlOk.fewer {H0 : Hp} {B B' : Addr → Prop} {H : Hp} (k : ∀ b, B' b → B b) {s : Sl} {v : Option V} (h : SlOk G H0 B H s v) : SlOk G H0 B' H s v := by
  cases s with
  | emp => trivial
  | val d => obtain ⟨x, e, h⟩ := h; exact ⟨x, e, h.fewer k⟩
  | own a ds => obtain ⟨xs, e, h0, h1, hl, h2⟩ := h; exact ⟨xs, e, h0, h1, hl, h2.fewer k⟩
  | slf a dx c ds => obtain ⟨xs, e, h0, h1, hl, h2⟩ := h; exact ⟨xs, e, h0, h1, hl, h2.fewer k⟩
  | obj a o => exact h
  | dic a ks ds => obtain ⟨L, e, h0, h1, hk, hx, h2⟩ := h; exact ⟨L, e, h0, h1, hk, hx.keep (fun _ _ _ h => h) (fun b hb => .inl (k b hb)), h2.fewer k⟩
/-- slot i holds a value from now on -/
def Wd.put (W : Wd G E σ H) (i : Nat) {d : D} {v : V} (hd : Den G W.XB H d v) : Wd G E (σ.set i (some v)) H where
  u := W.u
  n := W.n
  m := W.m
  B := W.B
  H0 := W.H0
  env := W.env.set i (.val d)
  ex := W.ex
  ug := W.ug
  hu := W.hu
  hB := W.hB
  fr := W.fr
  good := W.good
  len := by rw [List.length_set, List.length_set]; exact W.len
  sl := fun j s e => by
    have sub : ∀ b, XBof W.B (W.env.set i (.val d)) (σ.set i (some v)) b → W.XB b := fun b => xb_val W.len
    by_cases hj : i = j
    · subst hj
      by_cases hi : i < W.env.length
      · rw [List.getElem?_set_self hi] at e
        cases e
        rw [getD_set, if_pos ⟨rfl, by rw [← W.len]; exact hi⟩]
        exact ⟨v, rfl, hd.fewer sub⟩
      · rw [List.getElem?_eq_none (by simpa using hi)] at e; cases e
    · rw [List.getElem?_set_ne hj] at e
      rw [getD_set, if_neg (fun z => hj z.1)]
      exact (W.sl j s e).fewer sub
  nd := fun j k a s t h1 h2 m1 m2 h3 h4 => by
    have nj : i ≠ j := fun z => by
      subst z
      by_cases hi : i < W.env.length
      · rw [List.getElem?_set_self hi] at h1; cases h1; cases m1
      · rw [List.getElem?_eq_none (by simpa using hi)] at h1; cases h1
    have nk : i ≠ k := fun z => by
      subst z
      by_cases hi : i < W.env.length
      · rw [List.getElem?_set_self hi] at h2; cases h2; cases m2
      · rw [List.getElem?_eq_none (by simpa using hi)] at h2; cases h2
    rw [List.getElem?_set_ne nj] at h1 h3
    rw [List.getElem?_set_ne nk] at h2 h4
    exact W.nd j k a s t h1 h2 m1 m2 h3 h4
  exc := W.exc
/-- slot i is forgotten -/
def Wd.drop (W : Wd G E σ H) (i : Nat) (v : Option V) : Wd G E (σ.set i v) H where
  u := W.u
  n := W.n
  m := W.m
  B := W.B
  H0 := W.H0
  env := W.env.set i .emp
  ex := W.ex
  ug := W.ug
  hu := W.hu
  hB := W.hB
  fr := W.fr
  good := W.good
  len := by rw [List.length_set, List.length_set]; exact W.len
  sl := fun j s e => by
    have sub : ∀ b, XBof W.B (W.env.set i .emp) (σ.set i v) b → W.XB b := fun b => xb_emp
    by_cases hj : i = j
    · subst hj
      by_cases hi : i < W.env.length
      · rw [List.getElem?_set_self hi] at e
        cases e
        trivial
      · rw [List.getElem?_eq_none (by simpa using hi)] at e; cases e
    · rw [List.getElem?_set_ne hj] at e
      rw [getD_set, if_neg (fun z => hj z.1)]
      exact (W.sl j s e).fewer sub
  nd := fun j k a s t h1 h2 m1 m2 h3 h4 => by
    have nj : i ≠ j := fun z => by
      subst z
      by_cases hi : i < W.env.length
      · rw [List.getElem?_set_self hi] at h1; cases h1; cases m1
      · rw [List.getElem?_eq_none (by simpa using hi)] at h1; cases h1
    have nk : i ≠ k := fun z => by
      subst z
      by_cases hi : i < W.env.length
      · rw [List.getElem?_set_self hi] at h2; cases h2; cases m2
      · rw [List.getElem?_eq_none (by simpa using hi)] at h2; cases h2
    rw [List.getElem?_set_ne nj] at h1 h3
    rw [List.getElem?_set_ne nk] at h2 h4
    exact W.nd j k a s t h1 h2 m1 m2 h3 h4
  exc := W.exc
theorem Later.put (W : Wd G E σ H) (i : Nat) {d : D} {v : V} (hd : Den G W.XB H d v) : Later W 0 (W.put i hd) := ⟨rfl, rfl, rfl, rfl, rfl, by show W.n ≤ W.n + 0; omega, fun _ _ _ h => h, fun b h => .inl (xb_val W.len h)⟩
theorem Later.drop (W : Wd G E σ H) (i : Nat) (v : Option V) : Later W 0 (W.drop i v) := ⟨rfl, rfl, rfl, rfl, rfl, by show W.n ≤ W.n + 0; omega, fun _ _ _ h => h, fun b h => .inl (xb_emp h)⟩
def sSet (i : Nat) (te : DT) : DS := fun ex de env => te ex env fun d => de.nx (env.set i (.val d))
theorem ds_set {i : Nat} {x : Str} {e : Expr} {pos pos' : Pos} {c : Nat} {te : DT} (hN : X.N.Nodup) (hi : X.N[i]? = some x) (hx : Loc X.env.scope x) (he : DE G E X c e te) (hs : swapsWith e (some (.Name x pos')) pos.line X.env = pure false := by rfl)
    (hf : X.fn x = true ∨ X.env.scope.names.lookup x = some .local := by first | exact .inl rfl | exact .inr rfl) : DSt G E X c (.Assign [.Name x pos'] e pos) (sSet i te) :=
  impS (ps_set hN hi hx he hs hf) fun Dn σ H h => by
    obtain ⟨W, hn, de, ht, k1, k2, k3, k4⟩ := h
    refine ⟨W, hn, _, ht, fun v H' d st hd hq => ?_⟩
    have hd' : Den G (W.next st).XB H' d v := hd
    exact k1 _ H' ((W.next st).put i hd') (((Later.next st).trans (Later.put _ i hd')).more (by omega)) hq
/-- a value dropped -/
def sExpr (te : DT) : DS := fun ex de env => te ex env fun _ => de.nx env
theorem ds_expr {e : Expr} {pos : Pos} {c : Nat} {te : DT} (he : DE G E X c e te) (hs : swapsWith e none pos.line X.env = pure false := by rfl) : DSt G E X c (.Expr e pos) (sExpr te) :=
  impS (ps_expr he hs) fun Dn σ H h => by
    obtain ⟨W, hn, de, ht, k1, k2, k3, k4⟩ := h
    exact ⟨W, hn, _, ht, fun v H' d st hd hq => k1 _ H' (W.next st) (Later.next st) hq⟩
/-- an exception of a callee reaches
  what this body wants of exceptions -/
theorem run_fnd {k : Nat} {f : Addr} {fd : FuncData} {ps : List Str} {cf : Nat} {S : FSpec} {pins : List (Addr × Obj)} {s : Shared} {Q' : VK} {us : List Value} {vs : List V} {hK : X.K = G.K}
    (F : FnD G X.prog X.w X.mg X.base k f fd ps cf S) (hr : Room k X.A) (hgd : X.A.guards = some []) (hx : Passes (L2.CX X.prog X.w) X E) (I : Inv X pins σ H s) (r : Vals vs us) (hl : vs.length = ps.length) (args : Args) (hb : BindsTo s fd args (ps.zip us))
    (h : liftF G cf S vs H Q' E) : codeAny (model X.prog X.w) X.A (.call (.ref f) args) (fun r s' => match r with
      | .ok (.ret v) => EP X pins σ Q' v s'
      | .ok _ => False
      | .error e => X.xe e s') s := by
  have e0 : Env0 X.prog X.w G.K X.mg X.base X.A X.stack s H := by rw [← hK]; exact I.env0
  refine codeAny_mono (F.run X.A X.stack s H args us vs Q' E hr hgd e0 hb r hl h) fun r s' hq => ?_
  cases r with
  | error e =>
    exact hx pins σ H s e s' I hq
  | ok fl =>
    cases fl with
    | ret u => exact I.after hq
    | next => exact hq.elim
    | brk => exact hq.elim
    | cont => exact hq.elim
end
end Kn
set_option Elab.async false
set_option linter.all false
set_option maxRecDepth 100000
set_option maxHeartbeats 2100000
namespace Kn
open PySem L2
open PyProof.Rows (envOfC)
section
variable {G : Gd} {E : XK} {X : Cx} {σ : List (Option V)} {H H' : Hp}
/-- from a body's state: what a callee of the promise S is handed -/
theorem lift_callee {W : Wd G E σ H} {c cf : Nat} {H1 : Hp} (st : Step W c H1) (hn : W.m + (c + cf) ≤ W.n) {S : FSpec} {ds : List D} {vs : List V} {Q : D → Prop} {Q' : VK} (hd : DenL G W.XB H1 ds vs) (hs : S ds Q W.ex)
    (k : ∀ v H' d, Step W (c + cf) H' → Den G W.XB H' d v → Q d → Q' v H') : liftF G cf S vs H1 Q' E := by
  refine ⟨W.u, W.n - c, W.XB, ds, Q, W.ex, W.ug, by omega, fun p e => ⟨.inl (W.hu p e).1, .inl (W.hu p e).2⟩, fun a ha z => (W.next st).fresh z ha, st.good, hd, hs, fun v H' d e g hd' q => ?_, fun x C d H' e g hx q => ?_⟩
  · exact k v H' d ⟨st.ext.trans e, by rw [Nat.sub_add_eq]; exact g⟩ hd' q
  · refine W.exc x C d H' ((W.fr.trans st.ext).trans e) (g.less (by omega)) ?_ q
    obtain ⟨e1, dd, xs, e2, nd, e3, e4, e5⟩ := hx
    exact ⟨e1, dd, xs, e2, fun z => nd (.inl z), e3, e4, e5.fewer fun b z => .inl z⟩
/-- what a def's body knows of where it stands -/
structure Xk (G : Gd) (E : XK) (k : Nat) (X : Cx) : Prop where
  K : X.K = G.K
  room : Room k X.A
  gd : X.A.guards = some []
  pass : Passes (L2.CX X.prog X.w) X E
  calm : X.calm = true
  tk : Takes X (fun cls d _ H => E cls d H)
theorem Xk.u (x : Xk G E k X) {n : Nat} (h : n ≤ 100 := by decide) : X.A.units + n < cLine := by have := x.room.un; omega
theorem Xk.u64 (x : Xk G E k X) : X.A.units + 64 < cLine := by have := x.room.un; omega
theorem Xk.u65 (x : Xk G E k X) : X.A.units + 65 < cLine := by have := x.room.un; omega
/-- the def x of the module, known by its promise -/
structure Fk (G : Gd) (P : Program) (w : World) (mg : Str → Option Value) (base : Heap) (k : Nat) (x : Str) (ps : List Str) (cf : Nat) (S : FSpec) : Prop where
  ex : ∃ (f : Addr) (fd : FuncData), FnD G P w mg base k f fd ps cf S ∧ mg x = some (.ref f) ∧ PySem.W.keepIn G.K (.ref f) = true ∧ Binds G.K fd ps []
def dCall (n : Nat) (S : FSpec) (u : DA) : DT := fun ex env Q => u ex env fun ds => ds.length = n ∧ S ds Q ex
theorem de_call {j k : Nat} {x : Str} {ps : List Str} {c cf : Nat} {S : FSpec} {e : Expr} {es : List Expr} {u : DA} {p pos : Pos} (F : Fk G X.prog X.w X.mg X.base j x ps cf S) (xk : Xk G E k X) (ha : DEs G E X c (e :: es) u) (hj : j ≤ k := by decide) (hg : Gl X x := by rfl) (hdb : (x == ("__debug__" : Str)) = false := by decide)
    (he : starEach (e :: es) X.env = (false, eval e X.env) :: starEach es X.env := by rfl) (hpl : (backTo pos (starEach es X.env)).any (·.1) = false := by rfl) : DE G E X (c + cf) (.Call (.Name x p) (e :: es) [] pos) (dCall ps.length S u) := by
  obtain ⟨f, fd, hF0, hm, hk, hb⟩ := F.ex
  have hF := hF0.mono hj
  rw [← xk.K] at hk hb
  refine ⟨fun pins s σ H Q' I h => ?_⟩
  obtain ⟨W, hn, Q, ht, kk⟩ := h
  have args := ha.run pos pins s σ H (fun vs H1 => vs.length = ps.length ∧ liftF G cf S vs H1 Q' E) I ⟨W, by omega, _, ht, fun vs H1 ds st hd ⟨hl, hs⟩ => ⟨by rw [← hd.length]; exact hl, lift_callee st hn hd hs kk⟩⟩
  refine wpAny_Call_Name_kw (ld_glob I hg hm ?_ hdb); refine PySem.W.callWith_K (h₀ := X.base) I.ok.mod.kin hk (thn args ?_) he hpl
  intro us s1 ⟨vs, H1, I1, r1, hl, q1⟩
  refine ⟨I1.kIn, wpAny_call ?_⟩
  have hb' : BindsTo s1 fd ⟨us, []⟩ (ps.zip us) := by
    have z := hb s1 us I1.kIn (by rw [List.append_nil, ← r1.length]; exact hl)
    rw [List.append_nil] at z
    exact z
  exact run_fnd (hK := xk.K) hF xk.room xk.gd xk.pass I1 r1 hl _ hb' q1
/-- f(e, .., k = v, ..): perm puts the given values in the parameters' order -/
abbrev DK (G : Gd) (E : XK) (X : Cx) (c : Nat) (kws : List Keyword) (t : DA) : Prop := PK X kws (liftA G E c t)
theorem dk_nil : DK G E X 0 [] aNil := ⟨fun pos pins s σ H Q' I h => pk_nil.run pos pins s σ H Q' I (by
  obtain ⟨W, hn, Q, ht, k⟩ := h
  exact k [] H [] (Step.refl W) rfl ht)⟩
theorem dk_cons {e : Expr} {kws : List Keyword} {nm : Option Str} {kpos : Pos} {c d : Nat} {t : DT} {u : DA} (he : DE G E X c e t) (hr : DK G E X d kws u) : DK G E X (c + d) (⟨nm, e, kpos⟩ :: kws) (aCons t u) :=
  ⟨fun pos pins s σ H Q' I h => (pk_cons (nm := nm) he hr).run pos pins s σ H Q' I (by
    obtain ⟨W, hn, Q, ht, k⟩ := h
    refine ⟨W, by omega, _, ht, fun v H1 d1 st hd hq => ⟨W.next st, by show W.m + d ≤ W.n - c; omega, _, hq, fun vs H2 ds st2 hds q => ?_⟩⟩
    exact k (v :: vs) H2 (d1 :: ds) (st.trans st2) ⟨v, vs, rfl, (W.next st).den st2 hd, hds⟩ q)⟩
end
end Kn
set_option Elab.async false
set_option linter.all false
set_option maxRecDepth 100000
set_option maxHeartbeats 2100000
namespace Kn
open PySem L2 RZ
open PyProof.Rows (envOfC)
section
variable {G : Gd} {E : XK} {X : Cx} {σ : List (Option V)} {H H' : Hp} {tg : Expr}
/-- J walks the values ds, whatever is done beside them -/
structure Walks (G : Gd) (B : Addr → Prop) (H1 : Hp) (J : It) (ds : List D) : Prop where
  len : ds.length ≤ sizeLine
  go : ∀ (i : Nat) (H' : Hp) (B' : Addr → Prop), (∀ b o, ¬ B b → H1 b = some o → H' b = some o) → (∀ b, B' b → B b ∨ H1 b = none) → (∀ p, H' p = none → ¬ B' p) → i < ds.length →
    J.go i H' ∧ ∀ x H'', J.yld i H' x H'' → Ext none H' H'' ∧ ∃ d, ds[i]? = some d ∧ Den G B' H'' d x
  stop : ∀ (i : Nat) (H' : Hp), (∀ b o, ¬ B b → H1 b = some o → H' b = some o) → i = ds.length → J.stop i H'
def liftI (G : Gd) (E : XK) (c : Nat) (ti : DA) : TI := fun σ H R => ∃ W : Wd G E σ H, W.m + c ≤ W.n ∧ ∃ Q, ti W.ex W.env Q ∧ ∀ J H1 ds, Step W c H1 → Walks G W.XB H1 J ds → Q ds → R J H1
abbrev DI (G : Gd) (E : XK) (X : Cx) (tg : Expr) (c : Nat) (it : Expr) (ti : DA) : Prop := PI X tg it (liftI G E c ti)
theorem impI {it : Expr} {t t' : TI} (h : PI X tg it t) (i : ∀ σ H R, t' σ H R → t σ H R) : PI X tg it t' := ⟨fun pins s σ H R I q => h.run pins s σ H R I (i σ H R q)⟩
/-- a list or a tuple -/
def iSeq (te : DT) : DA := fun ex env Q => te ex env fun d => match d with
  | .lst ds => Q ds
  | .tup ds => Q ds
  | _ => False
def iSq (K : PySem.W.Frag) (tl : TE) : TI := fun σ H R => tl σ H fun x H1 => ∃ a, x = .ref a ∧ (((∃ xs, SqL K H1 a xs) ∧ R (Itl K a) H1) ∨ ((∃ xs, SqT K H1 a xs) ∧ R (Itt K a) H1))
theorem pi_sq {l : Expr} {tl : TE} (hl : PE X l tl) : PI X tg l (iSq X.K tl) := by
  constructor
  intro pins s σ H R I h
  refine thn (hl.run pins s σ H _ I h) ?_
  rintro v s1 ⟨x, H1, I1, r1, a, rfl, q1⟩
  cases r1
  have fp : ∀ b ∈ [s1.heap.objs.size], FpOk X pins H1 b := by
    intro b hb
    rw [List.mem_singleton.mp hb]; exact I1.fpOk (Nat.le_refl _) (I1.hok.fresh (Nat.le_refl _))
  have kept : ∀ {ob : Obj} {tk : Nat}, L2.Inv X pins σ H1 { s1 with heap := s1.heap.push ob, toks := tk } := fun {ob tk} => I1.kept (t' := tk) fun b o e => Heap.get?_push_of_some _ e
  rcases q1 with ⟨⟨xs, hq⟩, q⟩ | ⟨⟨xs, hq⟩, q⟩
  · obtain ⟨its, rv, p, hz⟩ := I1.list hq
    exact wpAny_pyIter_list p.isList ⟨s1.heap.objs.size, [s1.heap.objs.size], _, Itl X.K a, H1, rfl, kept, turn_list a _, ⟨_, Heap.get?_push_size _ rfl, rfl, rfl⟩, fp, q⟩
  · obtain ⟨its, rv, p, hz⟩ := I1.tuple hq
    have p' : s1.heap.IsTuple a its.toArray := p
    exact wpAny_pyIter_tuple p' ⟨s1.heap.objs.size, [s1.heap.objs.size], _, Itt X.K a, H1, rfl, kept, turn_tuple a _, ⟨_, Heap.get?_push_size _ rfl, rfl, rfl⟩, fp, q⟩
theorem keep_sqT {K : PySem.W.Frag} {B : Addr → Prop} {H1 H' : Hp} {a : Addr} {xs : List V} (k : ∀ b o, ¬ B b → H1 b = some o → H' b = some o) (na : ¬ B a ∨ KTup K a xs) (h : SqT K H1 a xs) : SqT K H' a xs := by
  rcases na with na | na
  case inr => exact .inr na
  rcases h with (h
    | ⟨o, h⟩) | h
  · exact .inl (.inl (k _ _ na h))
  · exact .inl (.inr ⟨o, k _ _ na h⟩)
  · exact .inr h
theorem walks_lst {B : Addr → Prop} {H1 : Hp} {a : Addr} {xs : List V} {ds : List D} (na : ¬ B a) (ha : H1 a = some (.lst xs)) (hl : xs.length ≤ sizeLine) (hd : DenL G B H1 ds xs) : Walks G B H1 (Itl G.K a) ds := by
  have e := hd.length
  refine ⟨by omega, fun i H' B' k s hf hi => ?_, fun i H' k hi => ⟨xs, SqL.of (k _ _ na ha), by omega⟩⟩
  have ha' := k _ _ na ha
  refine ⟨⟨xs, xs[i], SqL.of ha', List.getElem?_eq_getElem (by omega)⟩, fun x H'' y => ?_⟩
  obtain ⟨rfl, y⟩ := y
  obtain ⟨d, h1, h2⟩ := hd.getV (y xs (SqL.of ha'))
  exact ⟨Ext.refl _ _, d, h1, Den.keep k s d x h2⟩
theorem walks_tup {B : Addr → Prop} {H1 : Hp} {a : Addr} {xs : List V} {ds : List D} (na : ¬ B a ∨ KTup G.K a xs) (ha : SqT G.K H1 a xs) (hl : xs.length ≤ sizeLine) (hd : DenL G B H1 ds xs) : Walks G B H1 (Itt G.K a) ds := by
  have e := hd.length
  refine ⟨by omega, fun i H' B' k s hf hi => ?_, fun i H' k hi => ⟨xs, keep_sqT k na ha, by omega⟩⟩
  have ha' := keep_sqT k na ha
  refine ⟨⟨xs, xs[i], ha', List.getElem?_eq_getElem (by omega)⟩, fun x H'' y => ?_⟩
  obtain ⟨rfl, y⟩ := y
  obtain ⟨d, h1, h2⟩ := hd.getV (y xs ha')
  exact ⟨Ext.refl _ _, d, h1, Den.keep k s d x h2⟩
theorem di_seq {l : Expr} {c : Nat} {te : DT} (hK : X.K = G.K) (hl : DE G E X c l te) : DI G E X tg c l (iSeq te) := impI (pi_sq hl) fun σ H R h => by
  obtain ⟨W, hn, Q, ht, k⟩ := h
  refine ⟨W, hn, _, ht, fun v H1 d st hd hq => ?_⟩
  cases d <;> try exact hq.elim
  · rename_i ds
    obtain ⟨a, xs, rfl, na, ha, la, da⟩ := hd
    exact ⟨a, rfl, .inl ⟨⟨xs, SqL.of ha⟩, by rw [hK]; exact k _ H1 ds st (walks_lst na ha la da) hq⟩⟩
  · rename_i ds
    obtain ⟨a, xs, rfl, na, ha, la, da⟩ := hd
    exact ⟨a, rfl, .inr ⟨⟨xs, by rw [hK]; exact ha⟩, by rw [hK]; exact k _ H1 ds st (walks_tup na ha la da) hq⟩⟩
/-- range(n), range(a, b) -/
def rangeD (lo : Int) (n : Nat) : List D := (List.range n).map fun (i : Nat) => D.int (lo + (i : Int))
theorem walks_rng {B : Addr → Prop} {H1 : Hp} {lo : Int} {n : Nat} (hl : n ≤ sizeLine) : Walks G B H1 (Itr lo n) (rangeD lo n) := by
  have e : (rangeD lo n).length = n := by simp [rangeD]
  refine ⟨by omega, fun i H' B' k s hf hi => ⟨by show i < n; omega, fun x H'' y => ?_⟩, fun i H' k hi => by show n ≤ i; omega⟩
  obtain ⟨rfl, rfl⟩ := y
  refine ⟨Ext.refl _ _, .int (lo + i), ?_, den_int _⟩
  rw [e] at hi
  simp [rangeD, hi]
def iRange1 (u : DA) : DA := fun ex env Q => u ex env fun ds => ∃ j : Int, ds = [.int j] ∧ j ≤ 16777216 ∧ -(2 ^ 62) ≤ j ∧ Q (rangeD 0 j.toNat)
theorem di_range1 {a : Expr} {c : Nat} {u : DA} {p pos : Pos} (hm : X.mg "range" = none) (ha : DEs G E X c [a] u) (hg : Gl X "range" := by rfl) (hs : starEach [a] X.env = [(false, eval a X.env)] := by rfl) : DI G E X tg c (.Call (.Name "range" p) [a] [] pos) (iRange1 u) :=
  impI (pi_range1 hg hm ha hs) fun σ H R h => by
    obtain ⟨W, hn, Q, ht, k⟩ := h
    refine ⟨W, hn, _, ht, fun vs H1 ds st hd ⟨j, e, h1, h2, hq⟩ => ?_⟩
    subst e
    obtain ⟨x, rfl, hx⟩ := denL1 hd
    cases hx
    have hs := sizeLine_eq
    exact ⟨j, rfl, h2, by omega, k _ H1 _ st (walks_rng (by omega)) hq⟩
end
end Kn
set_option Elab.async false
set_option linter.all false
set_option maxRecDepth 100000
set_option maxHeartbeats 2100000
namespace Kn
open PySem L2 RZ
open PyProof.Rows (envOfC)
section
variable {G : Gd} {E : XK} {X : Cx} {σ : List (Option V)} {H H' : Hp} {tg : Expr}
abbrev DG := D → List Sl → (List Sl → Prop) → Prop
/-- nothing but slots changes; the state's other parts stay -/
structure Alike {σ σ' : List (Option V)} {H H' : Hp} (W : Wd G E σ H) (W' : Wd G E σ' H') : Prop where
  later : Later W 0 W'
  n : W'.n = W.n
def liftG (G : Gd) (E : XK) (sl : List Nat) (t : DG) : TG := fun v σ H Q' => ∃ (W : Wd G E σ H) (d : D) (Q : List Sl → Prop), Den G W.XB H d v ∧ t d W.env Q ∧ ∀ σ' (W' : Wd G E σ' H), Alike W W' → (∀ i, i ∉ sl → σ'[i]? = σ[i]?) ∧ σ'.length = σ.length → Q W'.env → Q' σ' H
abbrev DTg (G : Gd) (E : XK) (X : Cx) (tg : Expr) (sl : List Nat) (t : DG) : Prop := PG X tg (liftG G E sl t)
theorem impG {t t' : TG} (h : PG X tg t) (i : ∀ v σ H Q, t' v σ H Q → t v σ H Q) : PG X tg t' := ⟨fun pins s σ H v u Q I r q => h.run pins s σ H v u Q I r (i v σ H Q q)⟩
def tgName (i : Nat) : DG := fun d env Q => Q (env.set i (.val d))
theorem dg_name {i : Nat} {x : Str} {pos : Pos} (hN : X.N.Nodup) (hi : X.N[i]? = some x) (hx : Loc X.env.scope x) (hf : X.fn x = true ∨ X.env.scope.names.lookup x = some .local := by first | exact .inl rfl | exact .inr rfl | assumption) : DTg G E X (.Name x pos) [i] (tgName i) :=
  impG (pg_name hN hi hx hf) fun v σ H Q' h => by
    obtain ⟨W, d, Q, hd, ht, k⟩ := h
    exact k _ (W.put i hd) ⟨Later.put W i hd, rfl⟩ ⟨(fun j hj => List.getElem?_set_ne (fun z => hj (by rw [z]; exact List.mem_singleton_self _))), List.length_set⟩ ht
def sForL (ex : Exc → Prop) (tg : DG) (tb : DS) (de : DEnds) : List D → List Sl → Prop
  | [], env => de.nx env
  | d :: ds, env => tg d env fun env2 => tb ex { de with nx := sForL ex tg tb de ds, ct := sForL ex tg tb de ds, bk := de.nx } env2
def sFor (ti : DA) (tg : DG) (tb : DS) : DS := fun ex de env => ti ex env fun ds => sForL ex tg tb de ds env
theorem drop_cons {α : Type} {l : List α} {i : Nat} {d : α} (h : l[i]? = some d) : l.drop i = d :: l.drop (i + 1) := by
  obtain ⟨hi, e⟩ := List.getElem?_eq_some_iff.mp h; rw [List.drop_eq_getElem_cons hi, e]
theorem ds_for {it : Expr} {body : List Stmt} {ci cb : Nat} {ti : DA} {t : DG} {tb : DS} {pos : Pos} (xk : Xk G E k X) (hp : PassesOwn (model X.prog X.w) X.A X.env X.xe) (hi : DI G E X tg ci it ti) {sl : List Nat} (hg : DTg G E X tg sl t) (hb : DSs G E X cb body tb)
    (hs : ∀ x, foldedSetIterable it X.env x = pure x := by intro _; rfl) : DSt G E X (ci + 16777216 * cb) (.For tg it body [] pos) (sFor ti t tb) :=
  impS (ps_for hp xk.calm hi hg hb hs) fun Dn σ H h => by
    obtain ⟨W, hn, de, ht, k1, k2, k3, k4⟩ := h
    refine ⟨W, by omega, _, ht, fun J H1 ds st wk hq => ?_⟩
    have hlen : ds.length ≤ 16777216 := by have := wk.len; rw [sizeLine_eq] at this; exact this
    let W1 := W.next st
    refine ⟨fun i m σ' H' => ∃ W' : Wd G E σ' H', Later W1 (i * cb) W' ∧ i ≤ ds.length ∧ m = ds.length - i ∧ sForL W.ex t tb de (ds.drop i) W'.env, ⟨ds.length, W1, (Later.refl W1).more (by omega), Nat.zero_le _, rfl, hq⟩, ?_⟩
    rintro i m σ' H' ⟨W', lt, hi', rfl, hq'⟩
    have lt0 : Later W (ci + i * cb) W' := (Later.next st).trans lt
    by_cases hlt : i < ds.length
    · obtain ⟨go, yl⟩ := wk.go i H' W'.XB lt.keep lt.xb (fun p hp => W'.fresh hp) hlt
      have hmul : (i + 1) * cb ≤ 16777216 * cb := Nat.mul_le_mul_right cb (by omega)
      have hmul2 : (i + 1) * cb = i * cb + cb := by rw [Nat.add_mul, Nat.one_mul]
      refine .inr ⟨go, fun σ2 H2 => ∃ W2 : Wd G E σ2 H2, Later W1 ((i + 1) * cb) W2 ∧ sForL W.ex t tb de (ds.drop (i + 1)) W2.env, fun σ2 H2 ⟨W2, l2, q2⟩ => ⟨ds.length - (i + 1), by omega, W2, l2, hlt, rfl, q2⟩, fun x H2 hy => ?_⟩
      obtain ⟨ex2, d, hd, hden⟩ := yl x H2 hy
      rw [drop_cons hd] at hq'
      have st2 : Step W' 0 H2 := (Step.refl W').pure ex2
      let W2 := W'.next st2
      refine ⟨W2, d, _, hden, hq', fun σ3 W3 al _ hq3 => ?_⟩
      have l3 : Later W1 (i * cb) W3 := ((lt.trans (Later.next st2)).trans al.later).more (by omega)
      have l03 : Later W (ci + i * cb) W3 := (Later.next st).trans l3
      refine ⟨W3, ?_, { de with nx := sForL W.ex t tb de (ds.drop (i + 1)), ct := sForL W.ex t tb de (ds.drop (i + 1)), bk := de.nx }, ?_, fun σ4 H4 W4 l4 q4 => ?_, fun v σ4 H4 W4 d4 l4 hd4 hr4 => ?_, fun σ4 H4 W4 l4 q4 => ?_, fun σ4 H4 W4 l4 q4 => ?_⟩
      · have := l03.n
        rw [l03.m]
        omega
      · rw [l03.ex]; exact hq3
      · exact ⟨W4, (l3.trans l4).more (by omega), q4⟩
      · refine k2 v σ4 H4 W4 d4 ((l03.trans l4).more (by omega)) (by rw [l03.B] at hd4; exact hd4) hr4
      · exact k1 σ4 H4 W4 ((l03.trans l4).more (by omega)) q4
      · exact ⟨W4, (l3.trans l4).more (by omega), q4⟩
    · have e : i = ds.length := by omega
      have hmul : i * cb ≤ 16777216 * cb := Nat.mul_le_mul_right cb (by omega)
      refine .inl ⟨wk.stop i H' lt.keep (by omega), ?_⟩
      rw [e, List.drop_length] at hq'
      exact k1 σ' H' W' (lt0.more (by omega)) hq'
end
end Kn
set_option Elab.async false
set_option linter.all false
set_option maxRecDepth 100000
set_option maxHeartbeats 2100000
namespace Kn
open PySem L2 RZ
open PyProof.Rows (envOfC)
section
variable {G : Gd} {E : XK} {X : Cx} {σ : List (Option V)} {H H' : Hp} {tg : Expr}
theorem wipe_get : ∀ (vs : List Nat) (i : Nat), (wipe σ vs)[i]? = if i ∈ vs ∧ i < σ.length then some none else σ[i]?
  | [], i => by simp [wipe]
  | v :: vs, i => by
    unfold wipe
    by_cases h : v = i
    · subst h
      by_cases hl : v < σ.length
      · rw [List.getElem?_set_self (by rw [wipe_length]; exact hl), if_pos ⟨List.mem_cons_self, hl⟩]
      · rw [List.getElem?_eq_none (by rw [List.length_set, wipe_length]; omega), if_neg (fun z => hl z.2), List.getElem?_eq_none (by omega)]
    · rw [List.getElem?_set_ne h, wipe_get vs i]
      have e : (i ∈ v :: vs) ↔ i ∈ vs := by simp [Ne.symm h]
      simp only [e]
theorem wipe_same {σ' : List (Option V)} {vs sl : List Nat} (hs : ∀ i ∈ sl, i ∈ vs) (h : ∀ i, i ∉ sl → σ'[i]? = (wipe σ vs)[i]?) (hl : σ'.length = σ.length) : wipe σ' vs = wipe σ vs := by
  apply List.ext_getElem?
  intro i
  rw [wipe_get, wipe_get]
  by_cases hi : i ∈ vs
  · by_cases h2 : i < σ.length
    · rw [if_pos ⟨hi, by omega⟩, if_pos ⟨hi, h2⟩]
    · rw [if_neg (fun z => h2 (by omega)), if_neg (fun z => h2 z.2), List.getElem?_eq_none (by omega), List.getElem?_eq_none (by omega)]
  · rw [if_neg (fun z => hi z.1), if_neg (fun z => hi z.1), h i (fun z => hi (hs i z)), wipe_get, if_neg (fun z => hi z.1)]
def noOwn : Sl → Sl
  | .own _ _ => .emp
  | .slf _ _ _ _ => .emp
  | .obj _ _ => .emp
  | .dic _ _ _ => .emp
  | s => s
def wipeE (env : List Sl) : List Nat → List Sl
  | [] => env
  | v :: vs => (wipeE env vs).set v .emp
def inEnv (env : List Sl) (vs : List Nat) : List Sl := wipeE (env.map noOwn) vs
theorem wipeE_len (env : List Sl) : ∀ vs, (wipeE env vs).length = env.length
  | [] => rfl
  | v :: vs => by unfold wipeE; rw [List.length_set, wipeE_len env vs]
theorem inEnv_get {env : List Sl} {i : Nat} {s : Sl} : ∀ {vs : List Nat}, (wipeE (env.map noOwn) vs)[i]? = some s → s = .emp ∨ (i ∉ vs ∧ ∃ s', env[i]? = some s' ∧ s = noOwn s')
  | [], h => by
    unfold wipeE at h
    rw [List.getElem?_map] at h
    cases e : env[i]? with
    | none =>
      rw [e] at h; cases h
    | some s' => rw [e] at h; exact .inr ⟨by simp, s', rfl, (Option.some.inj h).symm⟩
  | v :: vs, h => by
    unfold wipeE at h
    by_cases hv : v = i
    · subst hv
      by_cases hl : v < (wipeE (env.map noOwn) vs).length
      · rw [List.getElem?_set_self hl] at h; exact .inl (Option.some.inj h).symm
      · rw [List.getElem?_eq_none (by rw [List.length_set]; omega)] at h; cases h
    · rw [List.getElem?_set_ne hv] at h
      rcases inEnv_get h with z | ⟨z, y⟩
      · exact .inl z
      · exact .inr ⟨by simp only [List.mem_cons, not_or]; exact ⟨fun q => hv q.symm, z⟩, y⟩
theorem inEnv_noown {env : List Sl} {vs : List Nat} {i : Nat} {s : Sl} (h : (inEnv env vs)[i]? = some s) (hm : s.mine = true) : False := by
  rcases inEnv_get h with z | ⟨_, s', _, z⟩
  · subst z; cases hm
  · subst z; cases s' <;> cases hm
theorem xb_in {B : Addr → Prop} {env : List Sl} {vs : List Nat} {τ : List (Option V)} {a : Addr} (h : XBof B (inEnv env vs) τ a) : B a := by
  rcases h with h | ⟨i, s, h1, hm, _⟩
  · exact h
  · exact (inEnv_noown h1 hm).elim
/-- the state in which one item of a comprehension's new list at D is made -/
def Wd.inner (W : Wd G E σ H) {c : Nat} {H1 : Hp} (st : Step W c H1) (vs : List Nat) (Dn : Addr) (H2 : Hp) (n2 : Nat) (hD : H1 Dn = none) (hD2 : H2 Dn ≠ none) (k : ∀ b o, H1 b = some o → NU W.u b → H2 b = some o) (hg : Good W.u H2 n2) :
    Wd G E0 (wipe σ vs) H2 where
  u := W.u
  n := n2
  m := W.m
  B := fun a => W.XB a ∨ a = Dn
  H0 := H2
  env := inEnv W.env vs
  ex := fun _ => False
  ug := W.ug
  hu := fun p e => ⟨.inl (.inl (W.hu p e).1), .inl (.inl (W.hu p e).2)⟩
  hB := fun a ha z => by
    rcases ha with ha | rfl
    · cases q : H1 a with
      | none => exact (W.next st).fresh q ha
      | some o =>
        rcases NU.em (u := W.u) (b := a) with hu | ⟨r, hr, rfl⟩
        · rw [k a o q hu] at z; cases z
        · obtain ⟨⟨_, h1⟩, _⟩ := hg.there hr
          rw [h1] at z; cases z
    · exact hD2 z
  fr := Ext.refl _ _
  good := hg
  len := by unfold inEnv; rw [wipeE_len, List.length_map, wipe_length]; exact W.len
  sl := fun i s e => by
    rcases inEnv_get e with z | ⟨hi, s', h1, z⟩
    · subst z; trivial
    · subst z
      have so := (W.next st).sl i s' h1
      have ew : (wipe σ vs)[i]? = σ[i]? := by rw [wipe_get, if_neg (fun z => hi z.1)]
      rw [ew]
      cases s' with
      | emp => trivial
      | own a ds => trivial
      | slf a dx c ds => trivial
      | obj a o => trivial
      | dic a ks ds => trivial
      | val d =>
        obtain ⟨x, e1, e2⟩ := so
        refine ⟨x, e1, ?_⟩
        have e2' : Den G W.XB H1 d x := e2
        refine Den.keep (fun b o nb hb => k b o hb (W.nuX nb)) (fun b hb => ?_) d x e2'
        · rcases xb_in hb with q | rfl
          · exact .inl q
          · exact .inr hD
  nd := fun i j a s t h1 _ hm => (inEnv_noown h1 hm).elim
  exc := fun _ _ _ _ _ _ _ z => z.elim
end
end Kn
set_option Elab.async false
set_option linter.all false
set_option maxRecDepth 100000
set_option maxHeartbeats 2100000
namespace Kn
open PySem L2 RZ
open PyProof.Rows (envOfC)
section
variable {G : Gd} {E : XK} {X : Cx} {σ : List (Option V)} {H H' : Hp} {tg : Expr}
def noX : Exc → Prop := fun _ => False
def compL (tg : DG) (tt : DB) (te : DT) (Q : List D → Prop) (env : List Sl) : List D → List D → Prop
  | [], acc => Q acc
  | d :: ds, acc => tg d env fun env2 => tt noX env2 fun b => if b = true then te noX env2 fun y => compL tg tt te Q env ds (acc ++ [y]) else compL tg tt te Q env ds acc
def dComp (vs : List Nat) (ti : DA) (tg : DG) (tt : DB) (te : DT) : DT := fun ex env Q => ti ex env fun ds => compL tg tt te (fun rs => Q (.lst rs)) (inEnv env vs) ds []
def bYes : DB := fun _ _ Q => Q true
abbrev DTs (G : Gd) (X : Cx) (c : Nat) (ifs : List Expr) (t : DB) : Prop := PTs X ifs (liftB G E0 c t)
theorem dts_nil : DTs G X 0 [] bYes := ⟨fun pins s σ H Q I h => pts_nil.run pins s σ H Q I (by
  obtain ⟨W, hn, Q1, ht, k⟩ := h
  exact k true H (Step.refl W) ht)⟩
theorem dts_one {c : Expr} {n : Nat} {t : DB} (h : DPt G E0 X n c t) : DTs G X n [c] t := pts_one h
/-- what stands at D between two turns -/
structure AccAt (G : Gd) {E : XK} {σ : List (Option V)} {H : Hp} (W : Wd G E σ H) (H1 : Hp) (D0 : Addr) (b : Nat) (H2 : Hp) (acc : List D) : Prop where
  at_ : ∃ xs, H2 D0 = some (.lst xs) ∧ xs.length ≤ sizeLine ∧ DenL G (fun a => W.XB a ∨ a = D0) H2 acc xs
  keep : ∀ b o, H1 b = some o → NU W.u b → H2 b = some o
  good : Good W.u H2 b
theorem Good.upd {u : Option Ur} {H : Hp} {n : Nat} {p : Addr} {o : HO} (h : Good u H n) (hp : ∀ r, Pr u r → p ≠ r.1 ∧ p ≠ r.2) (hc : ∀ q, H p ≠ some (LamX.CodeO p q)) : Good u (L2.upd H p o) n := by
  cases u with
  | none => trivial
  | some r =>
    obtain ⟨⟨a, b⟩, T⟩ := r
    obtain ⟨⟨cells, k, r, h1, h2, h3⟩, t⟩ := h
    obtain ⟨n1, n2⟩ := hp (a, b) ⟨_, rfl, .inl rfl⟩
    refine ⟨⟨cells, k, r, by rw [upd_ne (Ne.symm n1)]; exact h1, by rw [upd_ne (Ne.symm n2)]; exact h2, h3⟩, fun x hx => ?_⟩
    obtain ⟨ps, e1, e2, e3⟩ := t x hx
    have n3 := (hp (x.1, x.1) ⟨_, rfl, .inr ⟨x, hx, rfl⟩⟩).1
    refine ⟨ps, by rw [upd_ne (Ne.symm n3)]; exact e1, e2, fun pos cv hcv => ?_⟩
    obtain ⟨c, e4, e5⟩ := e3 pos cv hcv
    refine ⟨c, e4, ?_⟩
    rw [upd_ne (fun z => hc x.2 (by rw [← z]; exact e5))]
    exact e5
theorem lift_comp {ci ce ct : Nat} {ti : DA} {t : DG} {tt : DB} {te : DT} {vs sl : List Nat} (hsl : ∀ i ∈ sl, i ∈ vs) {Q' : VK} (h : lift G E (ci + 16777216 * (ct + ce)) (dComp vs ti t tt te) σ H Q') :
    tLc (liftI G E ci ti) (liftG G E0 sl t) (liftB G E0 ct tt) (lift G E0 ce te) vs σ H Q' := by
  obtain ⟨W, hn, Q, ht, k⟩ := h
  refine ⟨W, by omega, _, ht, fun J H1 ds st wk hq => ?_⟩
  intro D0 hD
  have hlen : ds.length ≤ 16777216 := by have := wk.len; rw [sizeLine_eq] at this; exact this
  have fr0 : ¬ W.XB D0 := (W.next st).fresh hD
  refine ⟨fun i m H2 => ∃ acc, AccAt G W H1 D0 (W.n - ci - i * (ct + ce)) H2 acc ∧ acc.length ≤ i ∧ i ≤ ds.length ∧ m = ds.length - i ∧ compL t tt te (fun rs => Q (.lst rs)) (inEnv W.env vs) (ds.drop i) acc, ⟨ds.length, [], ⟨⟨[], upd_same, by simp, rfl⟩, fun b o hb _ => by rw [upd_ne (ne_of_none hb hD)]; exact hb, ?_⟩, Nat.le_refl _, Nat.zero_le _, rfl, hq⟩, ?_⟩
  · have g := st.good
    rw [Nat.zero_mul, Nat.sub_zero]
    exact g.ext (Ext.new hD)
  rintro i m H2 ⟨acc, A, hacc, hi, rfl, hq2⟩
  obtain ⟨xs, hxs, hxl, hxd⟩ := A.at_
  have keepX : ∀ b o, ¬ W.XB b → H1 b = some o → H2 b = some o := fun b o nb hb => A.keep b o hb (W.nuX nb)
  by_cases hlt : i < ds.length
  · have hmul : (i + 1) * (ct + ce) ≤ 16777216 * (ct + ce) := Nat.mul_le_mul_right _ (by omega)
    have hmul2 : (i + 1) * (ct + ce) = i * (ct + ce) + (ct + ce) := by rw [Nat.add_mul, Nat.one_mul]
    obtain ⟨go, yl⟩ := wk.go i H2 (fun a => W.XB a ∨ a = D0) keepX (fun b hb => by
      rcases hb with hb | rfl
      · exact .inl hb
      · exact .inr hD) (fun p hp hb => by
      rcases hb with hb | rfl
      · cases q : H1 p with
        | none => exact (W.next st).fresh q hb
        | some o =>
          rcases NU.em (u := W.u) (b := p) with hu | ⟨r, hr, rfl⟩
          · rw [A.keep p o q hu] at hp; cases hp
          · obtain ⟨⟨_, h1⟩, _⟩ := A.good.there hr
            rw [h1] at hp; cases hp
      · rw [hxs] at hp; cases hp) hlt
    refine .inr ⟨go, fun H5 => ∃ acc2, AccAt G W H1 D0 (W.n - ci - (i + 1) * (ct + ce)) H5 acc2 ∧ acc2.length ≤ i + 1 ∧ compL t tt te (fun rs => Q (.lst rs)) (inEnv W.env vs) (ds.drop (i + 1)) acc2,
      fun H5 ⟨acc2, a2, l2, q2⟩ => ⟨ds.length - (i + 1), by omega, acc2, a2, l2, hlt, rfl, q2⟩, fun x H3 hy => ?_⟩
    obtain ⟨ex2, d, hd, hden⟩ := yl x H3 hy
    rw [drop_cons hd] at hq2
    have hD3 : H3 D0 = some (.lst xs) := ex2 _ _ hxs NU.none
    let W3 : Wd G E0 (wipe σ vs) H3 := W.inner st vs D0 H3 (W.n - ci - i * (ct + ce)) hD (by rw [hD3]; simp) (fun b o hb nu => ex2 _ _ (A.keep b o hb nu) NU.none) (A.good.ext ex2)
    have hden3 : Den G W3.XB H3 d x := hden.fewer fun b hb => xb_in hb
    refine ⟨W3, d, _, hden3, hq2, fun σ4 W4 al hsl4 hq4 => ⟨wipe_same hsl hsl4.1 (by rw [hsl4.2, wipe_length]), ?_⟩⟩
    have l4 := al.later
    have n4 : W4.n = W.n - ci - i * (ct + ce) := al.n
    have m4 : W4.m = W.m := l4.m
    have u4 : W4.u = W.u := l4.u
    have b4 : ∀ a, (W.XB a ∨ a = D0) → W4.XB a := fun a ha => .inl (by rw [l4.B]; exact ha)
    have nu0 : NU W.u D0 := W.nuX fr0
    have k3 : ∀ b o, H1 b = some o → NU W.u b → H3 b = some o := fun b o hb nu => ex2 _ _ (A.keep b o hb nu) NU.none
    refine ⟨W4, by rw [n4, m4]; omega, _, by rw [l4.ex]; exact hq4, fun b H5 st5 hb => ?_⟩
    have e5 : Ext W.u H3 H5 := by have z := st5.ext; rw [u4] at z; exact z
    have g5 : Good W.u H5 (W.n - ci - i * (ct + ce) - ct) := by have z := st5.good; rw [u4, n4] at z; exact z
    cases b with
    | false =>
      refine ⟨acc, ⟨⟨xs, e5 _ _ hD3 nu0, hxl, ?_⟩, fun b o hb nu => e5 _ _ (k3 b o hb nu) nu, g5.less (by omega)⟩, by omega, hb⟩
      refine (hxd.ext (u := none) ex2 (fun _ z => z.none.elim)).ext e5 (fun p e => .inl (W.huX p e))
    | true =>
      refine ⟨W4.next st5, by show W4.m + ce ≤ W4.n - ct; rw [n4, m4]; omega, _, by rw [show (W4.next st5).ex = noX from l4.ex]; exact hb, fun y H6 e6 st6 hy6 hq6 => ?_⟩
      have x6 : Ext W.u H5 H6 := by have z := st6.ext; rw [show (W4.next st5).u = W.u from u4] at z; exact z
      have g6 : Good W.u H6 (W.n - ci - i * (ct + ce) - ct - ce) := by have z := st6.good; rw [show (W4.next st5).u = W.u from u4, show (W4.next st5).n = W4.n - ct from rfl, n4] at z; exact z
      have hD6 : H6 D0 = some (.lst xs) := x6 _ _ (e5 _ _ hD3 nu0) nu0
      have hxl2 : xs.length < sizeLine := by have := hxd.length; rw [sizeLine_eq]; omega
      have dacc : DenL G (fun a => W.XB a ∨ a = D0) H6 acc xs := ((hxd.ext (u := none) ex2 (fun _ z => z.none.elim)).ext e5 (fun p e => .inl (W.huX p e))).ext x6 (fun p e => .inl (W.huX p e))
      have dy : Den G (fun a => W.XB a ∨ a = D0) H6 e6 y := hy6.fewer b4
      have kk : ∀ b o, ¬ (W.XB b ∨ b = D0) → H6 b = some o → upd H6 D0 (.lst (xs ++ [y])) b = some o := fun b o nb hb => by rw [upd_ne (fun z => nb (.inr z))]; exact hb
      refine ⟨xs, hD6, hxl2, acc ++ [e6], ⟨⟨xs ++ [y], upd_same, by rw [List.length_append]; exact hxl2, ?_⟩, fun b o hb nu => ?_, ?_⟩, by rw [List.length_append]; simp; omega, hq6⟩
      · exact (DenL.keep kk (fun b hb => .inl hb) _ _ dacc).append ⟨y, [], rfl, Den.keep kk (fun b hb => .inl hb) _ _ dy, rfl⟩
      · rw [upd_ne (ne_of_none hb hD)]
        exact x6 _ _ (e5 _ _ (k3 b o hb nu) nu) nu
      · refine (g6.upd (fun p e => ⟨fun z => fr0 (by rw [show D0 = p.1 from z]; exact W.huX p e), fun z => fr0 (by rw [show D0 = p.2 from z]; exact .inl (W.hu p e).2)⟩) (fun φ z => by rw [hD6] at z; cases z)).less (by omega)
  · have e : i = ds.length := by omega
    have hmul : i * (ct + ce) ≤ 16777216 * (ct + ce) := Nat.mul_le_mul_right _ (by omega)
    rw [e, List.drop_length] at hq2
    refine .inl ⟨wk.stop i H2 keepX (by omega), k _ H2 (.lst acc) ⟨fun b o hb nu => A.keep b o (st.ext b o hb nu) nu, A.good.less (by omega)⟩ ⟨D0, xs, rfl, fr0, hxs, hxl, hxd.fewer fun b z => .inl z⟩ hq2⟩
theorem de_comp {elt iter : Expr} {ifs : List Expr} {scope : Scope} {own : List (Str × Nat)} {pos : Pos} {ci ce ct : Nat} {ti : DA} {t : DG} {tt : DB} {te : DT} {sl : List Nat} {k : Nat} (xk : Xk G E k X) (hN : X.N.Nodup) (hi : DI G E X tg ci iter ti) (ok : BlkOk X.N X.env.scope scope own)
    (hg : ∀ (s : Shared) (H : Hp) (C : Addr) (cl : List (Str × Addr)) (fp : List Addr), DTg G E0 (X.blk s H scope (compEnvC scope cl C X.env) fp) tg sl t) (ht : ∀ (s : Shared) (H : Hp) (C : Addr) (cl : List (Str × Addr)) (fp : List Addr), DTs G (X.blk s H scope (compEnvC scope cl C X.env) fp) ct ifs tt)
    (he : ∀ (s : Shared) (H : Hp) (C : Addr) (cl : List (Str × Addr)) (fp : List Addr), DE G E0 (X.blk s H scope (compEnvC scope cl C X.env) fp) ce elt te) (hsl : ∀ i ∈ sl, i ∈ own.map (·.2)) (hs : ∀ x, foldedSetIterable iter X.env x = pure x := by intro _; rfl) :
    DE G E X (ci + 16777216 * (ct + ce)) (.ListComp elt [⟨tg, iter, ifs, 0⟩] scope pos) (dComp (own.map (·.2)) ti t tt te) :=
  imp (pe_lc xk.calm hN hi ok hg ht he hs) fun _ _ _ h => lift_comp hsl h
/-- x = [..] -/
theorem ds_setComp {i : Nat} {y : Str} {py : Pos} {elt iter : Expr} {ifs : List Expr} {scope : Scope} {own : List (Str × Nat)} {pos spos : Pos} {ci ce ct : Nat} {ti : DA} {t : DG} {tt : DB} {te : DT} {sl : List Nat} {k : Nat} (xk : Xk G E k X) (hN : X.N.Nodup) (hy : X.N[i]? = some y) (hyl : X.env.scope.names.lookup y = some .local)
    (hsw : swapsWith (.ListComp elt [⟨tg, iter, ifs, 0⟩] scope pos) (some (.Name y py)) spos.line X.env = pure true) (hi : DI G E X tg ci iter ti) (ok : BlkOk X.N X.env.scope scope own)
    (hg : ∀ (s : Shared) (H : Hp) (C : Addr) (cl : List (Str × Addr)) (fp : List Addr), DTg G E0 (X.blk s H scope (compEnvC scope cl C X.env) fp) tg sl t) (ht : ∀ (s : Shared) (H : Hp) (C : Addr) (cl : List (Str × Addr)) (fp : List Addr), DTs G (X.blk s H scope (compEnvC scope cl C X.env) fp) ct ifs tt)
    (he : ∀ (s : Shared) (H : Hp) (C : Addr) (cl : List (Str × Addr)) (fp : List Addr), DE G E0 (X.blk s H scope (compEnvC scope cl C X.env) fp) ce elt te) (hsl : ∀ i ∈ sl, i ∈ own.map (·.2)) (hs : ∀ x, foldedSetIterable iter X.env x = pure x := by intro _; rfl) :
    DSt G E X (ci + 16777216 * (ct + ce)) (.Assign [.Name y py] (.ListComp elt [⟨tg, iter, ifs, 0⟩] scope pos) spos) (sSet i (dComp (own.map (·.2)) ti t tt te)) :=
  impS (ps_setLc xk.calm hN hy hyl hsw hi ok hg ht he hs) fun Dn σ H h => by
    obtain ⟨W, hn, de, hq, k1, k2, k3, k4⟩ := h
    refine lift_comp (Q' := fun v H' => gName i v σ H' Dn.nx) hsl ⟨W, hn, _, hq, fun v H' d st hd hr => ?_⟩
    have hd' : Den G (W.next st).XB H' d v := hd
    exact k1 _ H' ((W.next st).put i hd') (((Later.next st).trans (Later.put _ i hd')).more (by omega)) hr
end
end Kn
set_option Elab.async false
set_option linter.all false
set_option maxRecDepth 100000
set_option maxHeartbeats 2100000
namespace Kn
open PySem L2 RZ
open PyProof.Rows (envOfC)
section
variable {G : Gd} {E : XK} {X : Cx} {σ : List (Option V)} {H H' : Hp} {k : Nat}
/-- the field f is that of some class's things alone -/
structure FldOk (G : Gd) (f : Str) : Prop where
  ok : ∀ c, f ∈ G.fl c → Cls G.K (G.cl c) ∧ NoAttr G.K (G.cl c) f
theorem zip_lookup {f : Str} {v : V} : ∀ {ns : List Str} {xs : List V}, xs[ns.idxOf f]? = some v → f ∈ ns → (ns.zip xs).lookup f = some v
  | [], _, _, h => by simp at h
  | n :: ns, [], h, _ => by simp at h
  | n :: ns, x :: xs, h, hf => by
    by_cases e : n = f
    · subst e
      rw [List.idxOf_cons_self] at h
      have : x = v := by simpa using h
      subst this
      simp [List.lookup]
    · have e3 : (n == f) = false := beq_eq_false_iff_ne.mpr e
      rw [List.idxOf_cons, e3] at h
      have hf' : f ∈ ns := by
        rcases List.mem_cons.mp hf with z | z
        · exact absurd z.symm e
        · exact z
      have ih := zip_lookup (ns := ns) (xs := xs) (by simpa using h) hf'
      have e2 : (f == n) = false := beq_eq_false_iff_ne.mpr (Ne.symm e)
      simp only [List.zip_cons_cons, List.lookup, e2]
      exact ih
/-- o.f -/
def dFld (G : Gd) (f : Str) (te : DT) : DT := fun ex env Q => te ex env fun d => ∃ c ds x, d = .ins c ds ∧ f ∈ G.fl c ∧ ds[(G.fl c).idxOf f]? = some x ∧ Q x
theorem de_fld {e : Expr} {f : Str} {pos : Pos} {c : Nat} {te : DT} (hK : X.K = G.K) (fo : FldOk G f) (he : DE G E X c e te) (hb : attributeBase e f X.env (eval e X.env) = eval e X.env := by rfl) : DE G E X c (.Attribute e f pos) (dFld G f te) :=
  imp (pe_fld he hb) fun σ H Q' h => by
    obtain ⟨W, hn, Q, ht, kk⟩ := h
    refine ⟨W, hn, _, ht, fun v H1 d st hd ⟨c, ds, x, e, hf, hx, hq⟩ => ?_⟩
    subst e
    obtain ⟨a, dx, xs, rfl, na, ha, hl, hds⟩ := hd
    obtain ⟨y, hy, hdy⟩ := hds.get hx
    obtain ⟨h1, h2⟩ := fo.ok c hf
    exact ⟨a, G.cl c, dx, _, y, rfl, ha, by rw [hK]; exact h1, by rw [hK]; exact h2, zip_lookup hy hf, kk y H1 x st hdy hq⟩
/-- what its __init__ does: S says what comes of the arguments behind self -/
def liftN (G : Gd) (c cid : Nat) (S : FSpec) : Sp := fun vs H Q E => ∃ (u : Option Ur) (n : Nat) (B : Addr → Prop) (ds : List D) (R : D → Prop) (ex : Exc → Prop) (x dx : Addr) (vs' : List V),
  u = G.u ∧ vs = .ref x :: vs' ∧ H x = some (.ins (G.cl cid) dx []) ∧ x ≠ dx ∧ ¬ B x ∧ ¬ B dx ∧ (∀ p, Pr u p → x ≠ p.1 ∧ x ≠ p.2 ∧ dx ≠ p.1 ∧ dx ≠ p.2) ∧ c ≤ n ∧ (∀ p, Pr u p → B p.1 ∧ B p.2) ∧ (∀ a, B a → H a ≠ none) ∧ Good u H n ∧ DenL G (fun a => B a ∨ a = x ∨ a = dx) H ds vs' ∧ S ds R ex ∧
  (∀ H' xs ds', (∀ b o, H b = some o → b ≠ x → b ≠ dx → NU u b → H' b = some o) → Good u H' (n - c) → H' x = some (.ins (G.cl cid) dx ((G.fl cid).zip xs)) → xs.length = (G.fl cid).length → DenL G B H' ds' xs → R (.ins cid ds') → Q .non H') ∧
  (∀ y C d H', (∀ b o, H b = some o → b ≠ x → b ≠ dx → NU u b → H' b = some o) → Good u H' (n - c) → ExcIs G B H' y C d → ex y → E C d H')
structure InitD (G : Gd) (P : Program) (w : World) (mg : Str → Option Value) (base : Heap) (k : Nat) (f : Addr) (fd : FuncData) (ps : List Str) (c cid : Nat) (S : FSpec) : Prop where
  run : ∀ (A : Around) (outer : List Env) (s : Shared) (H : Hp) (args : Args) (us : List Value) (vs : List V) (Q : VK) (E : XK), Room k A → A.guards = some [] → Env0 P w G.K mg base A outer s H →
    BindsTo s fd args (ps.zip us) → Vals vs us → vs.length = ps.length → liftN G c cid S vs H Q E → codeAny (model P w) A (.call (.ref f) args) (CR (L2.CX P w) outer P w H s Q E) s
/-- the class x of the module, number cid -/
structure Fc (G : Gd) (P : Program) (w : World) (mg : Str → Option Value) (base : Heap) (k : Nat) (x : Str) (cid : Nat) (ps : List Str) (cf : Nat) (S : FSpec) : Prop where
  ex : ∃ (f : Addr) (fd : FuncData), InitD G P w mg base k f fd ps cf cid S ∧ mg x = some (.ref (G.cl cid)) ∧ Mk G.K (G.cl cid) f ∧ Binds G.K fd ps [] ∧ 0 < ps.length
theorem InitD.mono {P : Program} {w : World} {mg : Str → Option Value} {base : Heap} {j k : Nat} {f : Addr} {fd : FuncData} {ps : List Str} {c cid : Nat} {S : FSpec} (F : InitD G P w mg base j f fd ps c cid S) (h : j ≤ k) : InitD G P w mg base k f fd ps c cid S :=
  ⟨fun A outer s H args us vs Q E hr => F.run A outer s H args us vs Q E (hr.mono h)⟩
theorem guards_make {A : Around} {C : Addr} {us : List Value} {kw : List (Str × Value)} : (A.under (.builtin "type.__call__" ⟨.ref C :: us, kw⟩)).guards = A.guards := by
  first | rfl | simp [Around.under, Code.isGuard, guardIds]
theorem de_make {j : Nat} {x : Str} {cid : Nat} {ps : List Str} {c cf : Nat} {S : FSpec} {e : Expr} {es : List Expr} {u : DA} {p pos : Pos} (F : Fc G X.prog X.w X.mg X.base j x cid ps cf S) (xk : Xk G E k X) (ha : DEs G E X c (e :: es) u) (hj : j + 1 ≤ k := by decide) (hg : Gl X x := by rfl) (hdb : (x == ("__debug__" : Str)) = false := by decide)
    (he : starEach (e :: es) X.env = (false, eval e X.env) :: starEach es X.env := by rfl) (hpl : (backTo pos (starEach es X.env)).any (·.1) = false := by rfl) : DE G E X (c + cf) (.Call (.Name x p) (e :: es) [] pos) (dCall (ps.length - 1) S u) := by
  obtain ⟨f, fd, hF, hm, M, hb, hps⟩ := F.ex
  rw [← xk.K] at M hb
  have room1 : Room (j + 1) X.A := xk.room.mono hj
  constructor
  intro pins s σ H Q' I h
  obtain ⟨W, hn, Q, ht, kk⟩ := h
  have args := ha.run pos pins s σ H (fun vs H1 => vs.length = ps.length - 1 ∧ ∃ (st : Step W c H1) (ds : List D), DenL G W.XB H1 ds vs ∧ S ds Q W.ex) I ⟨W, by omega, _, ht, fun vs H1 ds st hd ⟨hl, hs⟩ => ⟨by rw [← hd.length]; exact hl, st, ds, hd, hs⟩⟩
  refine wpAny_Call_Name_kw (ld_glob I hg hm ?_ hdb); refine PySem.W.callWith_K (h₀ := X.base) I.ok.mod.kin M.kp (thn args ?_) he hpl
  rintro us s1 ⟨vs, H1, I1, r1, hl, st, ds, hd, hs⟩
  refine ⟨I1.kIn, ?_⟩
  have f0 : H1 s1.heap.objs.size = none := I1.hok.fresh (Nat.le_refl _)
  have f1 : H1 (s1.heap.objs.size + 1) = none := I1.hok.fresh (Nat.le_succ _)
  have I2 := Inv.made (C := G.cl cid) I1
  have nx : s1.heap.objs.size ≠ s1.heap.objs.size + 1 := Nat.ne_of_lt (Nat.lt_succ_self _)
  have W1 := W.next st
  have bnd : ∀ b o, H1 b = some o → upd (upd H1 s1.heap.objs.size (.own (s1.heap.objs.size + 1))) (s1.heap.objs.size + 1) (.ins (G.cl cid) s1.heap.objs.size []) b = some o := fun b o e => by
    rw [upd_ne (ne_of_none e f1), upd_ne (ne_of_none e f0)]; exact e
  have hs' : liftN G cf cid S (.ref (s1.heap.objs.size + 1) :: vs) (upd (upd H1 s1.heap.objs.size (.own (s1.heap.objs.size + 1))) (s1.heap.objs.size + 1) (.ins (G.cl cid) s1.heap.objs.size [])) (fun v H2 => v = .non ∧ Q' (.ref (s1.heap.objs.size + 1)) H2) E := by
    refine ⟨W.u, W.n - c, W.XB, ds, Q, W.ex, _, s1.heap.objs.size, vs, W.ug, rfl, upd_same, Ne.symm nx, (W.next st).fresh f1, (W.next st).fresh f0, fun p e => ?_, by omega, fun p e => ⟨.inl (W.hu p e).1, .inl (W.hu p e).2⟩, fun a ha z => ?_, ?_, ?_, hs, fun H' xs ds' kp g hx hl2 hd2 hr => ⟨rfl, ?_⟩, fun y C d H' kp g hx hy => ?_⟩
    · have n1 : ¬ W.XB (s1.heap.objs.size + 1) := (W.next st).fresh f1
      have n0 : ¬ W.XB s1.heap.objs.size := (W.next st).fresh f0
      exact ⟨fun z => n1 (by rw [z]; exact .inl (W.hu p e).1), fun z => n1 (by rw [z]; exact .inl (W.hu p e).2), fun z => n0 (by rw [z]; exact .inl (W.hu p e).1), fun z => n0 (by rw [z]; exact .inl (W.hu p e).2)⟩
    · cases q : H1 a with
      | none => exact (W.next st).fresh q ha
      | some o => rw [bnd a o q] at z; cases z
    · refine Good.ext st.good fun b o e _ => bnd b o e
    · refine DenL.keep (fun b o nb e => bnd b o e) (fun b hb => ?_) ds vs hd
      rcases hb with hb | rfl | rfl
      · exact .inl hb
      · exact .inr f1
      · exact .inr f0
    · refine kk _ H' (.ins cid ds') ⟨fun b o e nu => ?_, by rw [Nat.sub_add_eq]; exact g⟩ ⟨_, _, xs, rfl, (W.next st).fresh f1, hx, hl2, hd2⟩ hr
      have e1 := st.ext b o e nu
      exact kp b o (bnd b o e1) (ne_of_none e1 f1) (ne_of_none e1 f0) nu
    · refine W.exc y C d H' (fun b o e nu => ?_) (g.less (by omega)) ?_ hy
      · have e1 := (W.fr.trans st.ext) b o e nu
        exact kp b o (bnd b o e1) (ne_of_none e1 f1) (ne_of_none e1 f0) nu
      · obtain ⟨e1, dd, xs, e2, nd, e3, e4, e5⟩ := hx
        exact ⟨e1, dd, xs, e2, fun z => nd (.inl z), e3, e4, e5.fewer fun b z => .inl z⟩
  have hlen2 : (V.ref (s1.heap.objs.size + 1) :: vs).length = ps.length := by rw [List.length_cons, hl]; omega
  refine wpAny_call (make_map (f := f) I1.kIn M.makes M.init (beq_iff_eq.mp M.fn) (codeAny_mono (hF.run _ X.stack _ _ ⟨.ref (s1.heap.objs.size + 1) :: us, []⟩ (.ref (s1.heap.objs.size + 1) :: us) (.ref (s1.heap.objs.size + 1) :: vs) _ E (room1.make (G.cl cid) us []) (guards_make.trans xk.gd) (by rw [← xk.K]; exact I2.env0.make (G.cl cid) us []) ?_ (.cons rfl r1) hlen2 hs') ?_))
  · have z := hb { s1 with heap := (s1.heap.push PySem.W.emptyDict).push (PySem.W.instObj (G.cl cid) s1.heap.objs.size) } (.ref (s1.heap.objs.size + 1) :: us) I2.kIn (by rw [List.append_nil, List.length_cons, ← r1.length, hl]; omega)
    rw [List.append_nil] at z
    exact z
  · intro r s' hq
    cases r with
    | error e => exact xk.pass pins σ _ _ e s' I2 hq
    | ok fl =>
      cases fl with
      | ret u =>
        obtain ⟨v, H', I3, rv, ev, q3⟩ := I2.after hq
        subst ev
        exact ⟨rv, ⟨V.ref (s1.heap.objs.size + 1), H', I3, rfl, q3⟩⟩
      | next => exact hq.elim
      | brk => exact hq.elim
      | cont => exact hq.elim
end
end Kn
set_option Elab.async false
set_option linter.all false
set_option maxRecDepth 100000
set_option maxHeartbeats 2100000
namespace Kn
open PySem L2 RZ
open PyProof.Rows (envOfC)
section
variable {G : Gd} {E : XK} {X : Cx} {σ : List (Option V)} {H H' : Hp} {k : Nat}
/-- the slots at the entry of an __init__ -/
def envI (N : List Str) (x dx : Addr) (cid : Nat) (ds : List D) : List Sl := Sl.slf x dx cid [] :: (ds.map Sl.val ++ List.replicate (N.length - 1 - ds.length) Sl.emp)
theorem envI_get {N : List Str} {x dx : Addr} {cid : Nat} {ds : List D} {i : Nat} {s : Sl} (h : (envI N x dx cid ds)[i]? = some s) : (i = 0 ∧ s = .slf x dx cid []) ∨ (∃ j d, i = j + 1 ∧ ds[j]? = some d ∧ s = .val d) ∨ s = .emp := by
  unfold envI at h
  cases i with
  | zero => exact .inl ⟨rfl, (Option.some.inj h).symm⟩
  | succ j =>
    rw [List.getElem?_cons_succ] at h
    by_cases hi : j < ds.length
    · rw [List.getElem?_append_left (by simpa using hi), List.getElem?_map, List.getElem?_eq_getElem hi] at h
      exact .inr (.inl ⟨j, ds[j], rfl, List.getElem?_eq_getElem hi, (Option.some.inj h).symm⟩)
    · rw [List.getElem?_append_right (by simpa using hi), List.getElem?_replicate] at h
      split at h
      · exact .inr (.inr (Option.some.inj h).symm)
      · cases h
theorem wd_init {N : List Str} {vs : List V} {E : XK} {u : Option Ur} {n c cid : Nat} {B : Addr → Prop} {ds : List D} {ex : Exc → Prop} {x dx : Addr} (hN : vs.length + 1 ≤ N.length) (hug : u = G.u) (hx : H x = some (.ins (G.cl cid) dx [])) (nx : x ≠ dx) (bx : ¬ B x) (bdx : ¬ B dx)
    (hux : ∀ p, Pr u p → x ≠ p.1 ∧ x ≠ p.2 ∧ dx ≠ p.1 ∧ dx ≠ p.2) (hu : ∀ p, Pr u p → B p.1 ∧ B p.2) (hB : ∀ a, B a → H a ≠ none) (hg : Good u H n) (hd : DenL G (fun a => B a ∨ a = x ∨ a = dx) H ds vs)
    (hex : ∀ y C d H', (∀ b o, H b = some o → b ≠ x → b ≠ dx → NU u b → H' b = some o) → Good u H' (n - c) → ExcIs G B H' y C d → ex y → E C d H') :
    ∃ W : Wd G E (L2.start N (.ref x :: vs)) H, W.u = u ∧ W.n = n ∧ W.m = n - c ∧ W.B = B ∧ W.H0 = (fun b => if b = x ∨ b = dx then none else H b) ∧ W.env = envI N x dx cid ds ∧ W.ex = ex := by
  have hl := hd.length
  have h0 : ∀ b o, (if b = x ∨ b = dx then (none : Option HO) else H b) = some o → H b = some o ∧ b ≠ x ∧ b ≠ dx := fun b o e => by
    by_cases hb : b = x ∨ b = dx
    · rw [if_pos hb] at e; cases e
    · rw [if_neg hb] at e; exact ⟨e, fun z => hb (.inl z), fun z => hb (.inr z)⟩
  have hmine : ∀ {i : Nat} {s : Sl}, (envI N x dx cid ds)[i]? = some s → s.mine = true → i = 0 := fun {i s} e hm => by
    rcases envI_get e with ⟨z, _⟩ | ⟨_, _, _, _, rfl⟩ | rfl
    · exact z
    · cases hm
    · cases hm
  refine ⟨{ u := u, n := n, m := n - c, B := B, H0 := fun b => if b = x ∨ b = dx then none else H b, env := envI N x dx cid ds, ex := ex, ug := hug, hu := hu, hB := fun a ha z => ?_, fr := fun b o e _ => (h0 b o e).1, good := hg, len := ?_, sl := ?_, nd := ?_, exc := fun y C d H' e g hy hq => ?_ }, rfl, rfl, rfl, rfl, rfl, rfl, rfl⟩
  · rw [if_neg (fun q => q.elim (fun q => bx (q ▸ ha)) fun q => bdx (q ▸ ha))] at z
    exact hB a ha z
  · unfold envI L2.start
    simp only [List.length_append, List.length_map, List.length_replicate, List.length_cons]
    omega
  · intro i s e
    have sub : ∀ b, XBof B (envI N x dx cid ds) (L2.start N (.ref x :: vs)) b → B b ∨ b = x ∨ b = dx := fun b hb => by
      rcases hb with hb | ⟨j, t, e1, hm, e2⟩
      · exact .inl hb
      · have := hmine e1 hm
        subst this
        rw [start_get (i := 0) (v := .ref x) rfl] at e2
        cases e2
        exact .inr (.inl rfl)
    rcases envI_get e with ⟨rfl, rfl⟩ | ⟨j, d, rfl, hdj, rfl⟩ | rfl
    · refine ⟨[], by rw [start_get (i := 0) (v := .ref x) rfl]; rfl, if_pos (.inl rfl), by rw [List.zip_nil_right]; exact hx, Nat.zero_le _, rfl⟩
    · obtain ⟨y, hy, hdy⟩ := hd.get hdj
      exact ⟨y, by rw [start_get (i := j + 1) (v := y) (by simpa using hy)]; rfl, hdy.fewer sub⟩
    · trivial
  · intro i j a s t e1 e2 m1 m2 _ _
    rw [hmine e1 m1, hmine e2 m2]
  · exact hex y C d H' (fun b o hb n1 n2 nu => e b o (by show (if b = x ∨ b = dx then none else H b) = some o; rw [if_neg (fun q => q.elim n1 n2)]; exact hb) nu) g hy hq
/-- THE RULE for an __init__ that stores each field once, in order -/
theorem initd_of {P : Program} {w : World} {mg : Str → Option Value} {base : Heap} {f : Addr} {x qual : Str} {st : Stmt} {fd : FuncData} {N ps : List Str} {c cid : Nat} {S : FSpec} {ts : DS} (F : Fun G.K x qual st f fd) (Sc : FnScope N ps (defScope st))
    (hder : ∀ (cdv : Value) (A : Around) (outer : List Env) (s : Shared) (H : Hp) (E : XK), Room k (A.deeper (envOfC qual (defScope st) s.heap.objs.size f cdv)) → A.guards = some [] →
      DSs G E (cxOf (L2.CX P w) P w G.K mg base N qual (defScope st) f cdv A outer s H E) c (defBody st) ts)
    (hS : ∀ a dx ds R ex, ds.length + 1 = ps.length → S ds R ex → ts ex { nx := fun env => ∃ ds', env[0]? = some (.slf a dx cid ds') ∧ ds'.length = (G.fl cid).length ∧ R (.ins cid ds'), rt := fun _ _ => False } (envI N a dx cid ds)) : InitD G P w mg base (k + 1) f fd ps c cid S := by
  constructor
  intro A outer s H args us vs Q E hr hgd e0 hb rv hlen hsp
  obtain ⟨u, n, B, ds, R, ex, a, dx, vs', hug, rfl, hx, nx, bx, bdx, hux, hc, hu, hB, hg, hd, hs, hq, hex⟩ := hsp
  have hNl : vs'.length + 1 ≤ N.length := by
    have h1 := congrArg List.length Sc.pre
    rw [List.length_take] at h1
    rw [List.length_cons] at hlen
    omega
  obtain ⟨oc, od, kV, doc, pm, an, cdv, ct, osl, rfl, lk, hcd⟩ := F.ex; have KX : G.K.In s.heap := PySem.W.Frag.In.keeps e0.mod.kin (fun b o e => (e0.bs b o e).1)
  have nolim : s.heap.NoLimit := Heap.NoLimit.keeps e0.mod.nolimit (fun b o e => (e0.bs b o e).1)
  have kinds : ∀ y ∈ ps.zip us, (defScope st).names.lookup y.1 = some .local ∨
      ((defScope st).names.lookup y.1 = some .cell ∧ ((cellsFrom (s.heap.objs.size + 1) (defScope st).names []).lookup y.1).isSome = true) := by
    intro y hy
    obtain ⟨n1, v1⟩ := y
    rcases Sc.par n1 (List.of_mem_zip hy).1 with z | z
    · exact .inl z
    · exact .inr ⟨z, PySem.W.cellsFrom_some _ _ _ (.inl z)⟩
  refine codeAny_call_function hr.depth (KX _ _ lk) rfl Sc.co Sc.gen rfl (PySem.W.codeRec_of KX hcd) ?_
  refine hb _ _ _ _ (wpAny_newFunctionEnv_cells Sc.kind kinds ?_)
  intro env he s1 ic
  subst he
  refine ⟨nolim.keeps ic.toInCall.keep, codeAny_func ?_⟩
  have I : Inv (cxOf (L2.CX P w) P w G.K mg base N qual (defScope st) f cdv A outer s H E) [] (L2.start N (.ref a :: vs')) H s1 := inv_start Sc hr.hd e0 hlen rv ic
  have hds : ds.length + 1 = ps.length := by rw [hd.length]; simpa using hlen
  obtain ⟨W, w1, w2, w3, w4, w5, w6, w7⟩ := wd_init (N := N) (E := E) (c := c) hNl hug hx nx bx bdx hux hu hB hg hd hex
  have body := (hder cdv A outer s H E (hr.deeper _) hgd).run [] s1 (L2.start N (.ref a :: vs')) H { nx := fun _ H' => Q .non H', rt := Q } I (by
    refine ⟨W, by rw [w2, w3]; omega, _, by rw [w6, w7]; exact hS a dx ds R ex hds hs, ?_, ?_, ?_, ?_⟩
    · intro σ' H' W' lt ⟨ds', h1, h2, h3⟩
      obtain ⟨xs, ea, h0, ha, hlx, hdx⟩ := W'.sl 0 _ h1
      have hG : Good u H' (n - c) := by have z := W'.good; rw [lt.u, w1] at z; exact z.less (by have := lt.n; rw [w2] at this; omega)
      refine hq H' xs ds' (fun b o e n1 n2 nu => ?_) hG ha (by rw [← hdx.length]; exact h2) ?_ h3
      · have z := W'.fr b o (by rw [lt.H0, w5]; show (if b = a ∨ b = dx then none else H b) = some o; rw [if_neg (fun q => q.elim n1 n2)]; exact e)
        rw [lt.u, w1] at z
        exact z nu
      · refine hdx.fewer fun b hb => ?_
        exact .inl (by rw [lt.B, w4]; exact hb)
    · intro v σ' H' W' d lt hd' hr'; exact hr'.elim
    · intro σ' H' W' lt z; exact z.elim
    · intro σ' H' W' lt z; exact z.elim)
  refine wpAny_mono body ?_ (fun e s' hs => hs)
  intro fl s' hfl
  cases fl with
  | next => obtain ⟨σ', H', J, q⟩ := hfl; exact ⟨.non, H', J.os, J.bare, J.base, J.hok, rfl, q⟩
  | ret v' => obtain ⟨v, σ', H', J, r1, q⟩ := hfl; exact ⟨v, H', J.os, J.bare, J.base, J.hok, r1, q⟩
  | brk => obtain ⟨σ', H', J, q⟩ := hfl; exact q.elim
  | cont => obtain ⟨σ', H', J, q⟩ := hfl; exact q.elim
theorem put_zip {f : Str} {v : V} : ∀ {ns : List Str} {xs : List V}, ns.Nodup → ns[xs.length]? = some f → putF f v (ns.zip xs) = ns.zip (xs ++ [v])
  | [], xs, _, h => by simp at h
  | n :: ns, [], _, h => by
    have e : n = f := by simpa using h
    subst e
    cases ns <;> rfl
  | n :: ns, x :: xs, nd, h => by
    have h' : ns[xs.length]? = some f := by simpa using h
    have hne : n ≠ f := fun z => (List.nodup_cons.mp nd).1 (by rw [z]; exact List.mem_of_getElem? h')
    show (if n = f then (n, v) :: ns.zip xs else (n, x) :: putF f v (ns.zip xs)) = _
    rw [if_neg hne, put_zip (List.nodup_cons.mp nd).2 h']
    rfl
def sFld (G : Gd) (i : Nat) (f : Str) (te : DT) : DS := fun ex de env => te ex env fun d => ∃ a dx c ds, env[i]? = some (.slf a dx c ds) ∧ (G.fl c)[ds.length]? = some f ∧ de.nx (env.set i (.slf a dx c (ds ++ [d])))
theorem join_some {α : Type} {l : List (Option α)} {i : Nat} {a : α} (h : l[i]?.join = some a) : l[i]? = some (some a) := by
  cases q : l[i]? with
  | none => rw [q] at h; cases h
  | some o => rw [q] at h; rw [show o = some a from h]
/-- the frame's own thing in slot i, at a, changes -/
theorem wd_mut (W : Wd G E σ H) {i : Nat} {a : Addr} {s0 s1 : Sl} {o1 : HO} (he : W.env[i]? = some s0) (hm : s0.mine = true) (hsi : σ[i]? = some (some (.ref a))) (hm1 : s1.mine = true) (ok : SlOk G W.H0 W.XB (L2.upd H a o1) s1 (some (.ref a))) :
    ∃ W' : Wd G E σ (L2.upd H a o1), Later W 0 W' ∧ W'.env = W.env.set i s1 ∧ W'.n = W.n := by
  have hil : i < W.env.length := (List.getElem?_eq_some_iff.mp he).1
  have xa : W.XB a := .inr ⟨i, _, he, hm, hsi⟩
  obtain ⟨h0, oa, hoa⟩ := W.mine_at he hm hsi
  have nB : ¬ W.B a := W.own_ne h0
  have xb : ∀ b, XBof W.B (W.env.set i s1) σ b → W.XB b := fun b hb => by
    rcases hb with hb | ⟨j, s, e1, m1, e2⟩
    · exact .inl hb
    · by_cases hj : i = j
      · subst hj
        exact .inr ⟨i, _, he, hm, e2⟩
      · rw [List.getElem?_set_ne hj] at e1
        exact .inr ⟨j, s, e1, m1, e2⟩
  have kd : ∀ b o, ¬ W.XB b → H b = some o → L2.upd H a o1 b = some o := fun b o nb e => by rw [upd_ne (show b ≠ a from fun z => nb (by rw [z]; exact xa))]; exact e
  have dk : ∀ {d : D} {v : V}, Den G W.XB H d v → Den G (XBof W.B (W.env.set i s1) σ) (L2.upd H a o1) d v := fun {d v} h => (Den.keep kd (fun b hb => .inl hb) d v h).fewer xb
  have dkl : ∀ {ds : List D} {xs : List V}, DenL G W.XB H ds xs → DenL G (XBof W.B (W.env.set i s1) σ) (L2.upd H a o1) ds xs := fun {ds xs} h => (DenL.keep kd (fun b hb => .inl hb) ds xs h).fewer xb
  refine ⟨{ u := W.u, n := W.n, m := W.m, B := W.B, H0 := W.H0, env := W.env.set i s1, ex := W.ex, ug := W.ug, hu := W.hu, hB := W.hB, fr := fun b o e nu => ?_, good := ?_, len := by rw [List.length_set]; exact W.len, sl := fun j s e => ?_, nd := fun j l b s t e1 e2 m1 m2 e3 e4 => ?_, exc := W.exc }, ⟨rfl, rfl, rfl, rfl, rfl, by show W.n ≤ W.n + 0; omega, kd, fun b hb => .inl (xb b hb)⟩, rfl, rfl⟩
  · rw [upd_ne (fun z => by rw [z, h0] at e; cases e)]
    exact W.fr b o e nu
  · exact W.good.upd (fun r e => ⟨fun z => nB (by rw [z]; exact (W.hu r e).1), fun z => nB (by rw [z]; exact (W.hu r e).2)⟩) (W.mine_nc he hm hsi)
  · by_cases hj : i = j
    · subst hj
      rw [List.getElem?_set_self hil] at e
      cases e
      rw [hsi]
      exact ok.fewer xb
    · rw [List.getElem?_set_ne hj] at e
      have z := W.sl j s e
      have ne : ∀ b, s.mine = true → σ[j]? = some (some (.ref b)) → b ≠ a := fun b ms hb q => by
        subst q
        exact hj (W.nd i j b s0 s he e hm ms hsi hb)
      cases s with
      | emp => trivial
      | val d => obtain ⟨x, e1, e2⟩ := z; exact ⟨x, e1, dk e2⟩
      | own b ds => obtain ⟨xs, e1, e2, e3, e4, e5⟩ := z; exact ⟨xs, e1, e2, by rw [upd_ne (ne b rfl (join_some e1))]; exact e3, e4, dkl e5⟩
      | slf b dx c ds => obtain ⟨xs, e1, e2, e3, e4, e5⟩ := z; exact ⟨xs, e1, e2, by rw [upd_ne (ne b rfl (join_some e1))]; exact e3, e4, dkl e5⟩
      | obj b o => obtain ⟨e1, e2, e3, e4⟩ := z; exact ⟨e1, e2, by rw [upd_ne (ne b rfl (join_some e1))]; exact e3, e4⟩
      | dic b ks es => obtain ⟨L, e1, e2, e3, e4, e5, e6⟩ := z; exact ⟨L, e1, e2, (by rw [upd_ne (ne b rfl (join_some e1))]; exact e3), e4, e5.by dk, dkl e6⟩
  · have old : ∀ {j : Nat} {s : Sl}, (W.env.set i s1)[j]? = some s → s.mine = true → ∃ s', W.env[j]? = some s' ∧ s'.mine = true := fun {j s} e ms => by
      by_cases hj : i = j
      · subst hj; exact ⟨s0, he, hm⟩
      · rw [List.getElem?_set_ne hj] at e; exact ⟨s, e, ms⟩
    obtain ⟨s', f1, f2⟩ := old e1 m1
    obtain ⟨t', f3, f4⟩ := old e2 m2
    exact W.nd j l b s' t' f1 f3 f2 f4 e3 e4
/-- what is not the frame's own stays when the frame's own thing at a changes -/
theorem mut_keep (W : Wd G E σ H) {i : Nat} {a : Addr} {s0 : Sl} {o1 : HO} (he : W.env[i]? = some s0) (hm : s0.mine = true) (hsi : σ[i]? = some (some (.ref a))) : ∀ b o, ¬ W.XB b → H b = some o → L2.upd H a o1 b = some o :=
  fun b o nb e => by rw [upd_ne (show b ≠ a from fun z => nb (by rw [z]; exact .inr ⟨i, _, he, hm, hsi⟩))]; exact e
theorem lift_slf {i : Nat} {W : Wd G E σ H} {a dx : Addr} {c : Nat} {ds : List D} (he : W.env[i]? = some (.slf a dx c ds)) : ∃ xs, σ[i]? = some (some (.ref a)) ∧ H a = some (.ins (G.cl c) dx ((G.fl c).zip xs)) ∧ xs.length ≤ (G.fl c).length ∧ DenL G W.XB H ds xs := by
  obtain ⟨xs, e1, e2, e3, e4, e5⟩ := W.sl i _ he
  exact ⟨xs, join_some e1, e3, e4, e5⟩
theorem ds_fld {i : Nat} {x f : Str} {e : Expr} {pos pos' p : Pos} {c : Nat} {te : DT} (hK : X.K = G.K) (fo : FldOk G f) (nd : ∀ c, (G.fl c).Nodup) (sm : ∀ c, (G.fl c).length ≤ 100) (hN : X.N[i]? = some x) (he : DE G E X c e te) (hv : Vis X.env.scope x := by first | exact Or.inl rfl | exact Or.inr (Or.inl rfl) | exact Or.inr (Or.inr rfl))
    (hs : swapsWith e (some (.Attribute (.Name x p) f pos')) pos.line X.env = pure false := by rfl) (hd : (x == ("__debug__" : Str)) = false := by decide) (hcd : (x == ("__classdict__" : Str)) = false := by decide) : DSt G E X c (.Assign [.Attribute (.Name x p) f pos'] e pos) (sFld G i f te) :=
  impS (ps_fld (pe_var (i := i) hN hv hd hcd) he hs) fun Dn σ H h => by
    obtain ⟨W, hn, de, ht, k1, k2, k3, k4⟩ := h
    refine ⟨W, hn, _, ht, fun v H' d st hd' ⟨a, dx, cc, ds, hei, hf, hq⟩ => ?_⟩
    obtain ⟨xs, hsi, ha, hl, hxs⟩ := lift_slf (W := W.next st) hei
    have hfm : f ∈ G.fl cc := List.mem_of_getElem? hf
    obtain ⟨o1, o2⟩ := fo.ok cc hfm
    have el := hxs.length
    have hlt : xs.length < (G.fl cc).length := by rw [← el]; exact (List.getElem?_eq_some_iff.mp hf).1
    refine ⟨.ref a, hsi, a, G.cl cc, dx, _, rfl, ha, by rw [hK]; exact o1, by rw [hK]; exact o2, by rw [List.length_zip]; have := sm cc; omega, ?_⟩
    have hpz : putF f v ((G.fl cc).zip xs) = (G.fl cc).zip (xs ++ [v]) := put_zip (nd cc) (by rw [← el]; exact hf)
    rw [hpz]
    have kp := mut_keep (o1 := .ins (G.cl cc) dx ((G.fl cc).zip (xs ++ [v]))) (W.next st) hei rfl hsi
    obtain ⟨W', l1, l2, l3⟩ := wd_mut (o1 := .ins (G.cl cc) dx ((G.fl cc).zip (xs ++ [v]))) (s1 := .slf a dx cc (ds ++ [d])) (W.next st) hei rfl hsi rfl
      ⟨xs ++ [v], rfl, ((W.next st).mine_at hei rfl hsi).1, upd_same, by rw [List.length_append]; exact hlt, (DenL.keep kp (fun b hb => .inl hb) _ _ hxs).append ⟨v, [], rfl, Den.keep kp (fun b hb => .inl hb) _ _ hd', rfl⟩⟩
    exact k1 σ _ W' (((Later.next st).trans l1).more (by omega)) (by rw [l2]; exact hq)
end
end Kn
set_option Elab.async false
set_option linter.all false
set_option maxRecDepth 100000
set_option maxHeartbeats 2100000
namespace Kn
open PySem L2 RZ
open PyProof.Rows (envOfC)
section
variable {G : Gd} {E : XK} {X : Cx} {σ : List (Option V)} {H H' : Hp} {k : Nat}
/-- slot i holds a new list that nothing else holds -/
theorem wd_own (W : Wd G E σ H) {c : Nat} {H2 : Hp} (st : Step W c H2) {i : Nat} {p : Addr} {xs : List V} {ds : List D} (hp : H p = none) (h2 : H2 p = some (.lst xs)) (hl : xs.length ≤ sizeLine) (hd : DenL G (fun a => W.XB a ∨ a = p) H2 ds xs) :
    ∃ W' : Wd G E (σ.set i (some (.ref p))) H2, Later W c W' ∧ W'.env = W.env.set i (.own p ds) := by
  have fr0 : ¬ W.XB p := W.fresh hp
  have h0 : W.H0 p = none := by
    cases q : W.H0 p with
    | none => rfl
    | some o =>
      exfalso
      rw [W.fr p o q (W.nuX fr0)] at hp; cases hp
  let W1 := W.next st
  have npo : ∀ {j : Nat} {s : Sl} {b : Addr}, W.env[j]? = some s → s.mine = true → σ[j]? = some (some (.ref b)) → b ≠ p := fun {j s b} e hm es z => by
    obtain ⟨_, o, ho⟩ := W.mine_at e hm es
    rw [z, hp] at ho; cases ho
  have xb : ∀ b, XBof W.B (W.env.set i (.own p ds)) (σ.set i (some (.ref p))) b → W.XB b ∨ b = p := fun b hb => by
    rcases hb with hb | ⟨j, s, e1, m1, e2⟩
    · exact .inl (.inl hb)
    · by_cases hj : i = j
      · subst hj
        by_cases hi : i < σ.length
        · rw [List.getElem?_set_self hi] at e2; cases e2; exact .inr rfl
        · rw [List.getElem?_eq_none (by rw [List.length_set]; omega)] at e2; cases e2
      · rw [List.getElem?_set_ne hj] at e1 e2
        exact .inl (.inr ⟨j, s, e1, m1, e2⟩)
  have dk : ∀ {d : D} {v : V}, Den G W.XB H d v → Den G (XBof W.B (W.env.set i (.own p ds)) (σ.set i (some (.ref p)))) H2 d v := fun {d v} h =>
    Den.keep (fun b o nb e => st.keep nb e) (fun b hb => (xb b hb).imp id fun z => by rw [z]; exact hp) d v h
  have dkl : ∀ {es : List D} {ys : List V}, DenL G W.XB H es ys → DenL G (XBof W.B (W.env.set i (.own p ds)) (σ.set i (some (.ref p)))) H2 es ys := fun {es ys} h =>
    DenL.keep (fun b o nb e => st.keep nb e) (fun b hb => (xb b hb).imp id fun z => by rw [z]; exact hp) es ys h
  have own_st : ∀ {j : Nat} {s : Sl} {b : Addr} {o : HO}, W.env[j]? = some s → s.mine = true → σ[j]? = some (some (.ref b)) → H b = some o → H2 b = some o := fun {j s b o} e hm es ho => st.ext b o ho (W.nu (W.mine_at e hm es).1)
  refine ⟨{ u := W.u, n := W.n - c, m := W.m, B := W.B, H0 := W.H0, env := W.env.set i (.own p ds), ex := W.ex, ug := W.ug, hu := W.hu, hB := W.hB, fr := W.fr.trans st.ext, good := st.good, len := by rw [List.length_set, List.length_set]; exact W.len, sl := fun j s e => ?_, nd := fun j l b s t e1 e2 m1 m2 e3 e4 => ?_, exc := W.exc },
    ⟨rfl, rfl, rfl, rfl, rfl, by show W.n ≤ W.n - c + c; omega, fun b o nb e => st.keep nb e, fun b hb => (xb b hb).imp id fun z => by rw [z]; exact hp⟩, rfl⟩
  · by_cases hj : i = j
    · subst hj
      by_cases hi : i < W.env.length
      · rw [List.getElem?_set_self hi] at e
        cases e
        rw [getD_set, if_pos ⟨rfl, by rw [← W.len]; exact hi⟩]
        exact ⟨xs, rfl, h0, h2, hl, hd.fewer xb⟩
      · rw [List.getElem?_eq_none (by simpa using hi)] at e; cases e
    · rw [List.getElem?_set_ne hj] at e
      rw [getD_set, if_neg (fun z => hj z.1)]
      have z := W.sl j s e
      cases s with
      | emp => trivial
      | val d => obtain ⟨x, e1, e2⟩ := z; exact ⟨x, e1, dk e2⟩
      | own b es => obtain ⟨ys, e1, e2, e3, e4, e5⟩ := z; exact ⟨ys, e1, e2, own_st e rfl (join_some e1) e3, e4, dkl e5⟩
      | slf b dx cc es => obtain ⟨ys, e1, e2, e3, e4, e5⟩ := z; exact ⟨ys, e1, e2, own_st e rfl (join_some e1) e3, e4, dkl e5⟩
      | obj b o => obtain ⟨e1, e2, e3, e4⟩ := z; exact ⟨e1, e2, own_st e rfl (join_some e1) e3, e4⟩
      | dic b ks es => obtain ⟨L, e1, e2, e3, e4, e5, e6⟩ := z; exact ⟨L, e1, e2, own_st e rfl (join_some e1) e3, e4, e5.by dk, dkl e6⟩
  · by_cases hj : i = j
    · by_cases hlk : i = l
      · exact hj.symm.trans hlk
      · subst hj
        exfalso
        rw [List.getElem?_set_ne hlk] at e2 e4
        have hi : i < σ.length := by
          by_cases q : i < σ.length
          · exact q
          · rw [List.getElem?_eq_none (by rw [List.length_set]; omega)] at e3; cases e3
        rw [List.getElem?_set_self hi] at e3
        cases e3
        exact npo e2 m2 e4 rfl
    · rw [List.getElem?_set_ne hj] at e1 e3
      by_cases hlk : i = l
      · subst hlk
        exfalso
        have hi : i < σ.length := by
          by_cases q : i < σ.length
          · exact q
          · rw [List.getElem?_eq_none (by rw [List.length_set]; omega)] at e4; cases e4
        rw [List.getElem?_set_self hi] at e4
        cases e4
        exact npo e1 m1 e3 rfl
      · rw [List.getElem?_set_ne hlk] at e2 e4
        exact W.nd j l b s t e1 e2 m1 m2 e3 e4
/-- an expression that makes a new list -/
def liftFr (G : Gd) (E : XK) (c : Nat) (t : DA) : TE := fun σ H Q' => ∃ W : Wd G E σ H, W.m + c ≤ W.n ∧ ∃ Q, t W.ex W.env Q ∧
  ∀ p H' ds xs, Step W c H' → H p = none → H' p = some (.lst xs) → xs.length ≤ sizeLine → DenL G (fun a => W.XB a ∨ a = p) H' ds xs → Q ds → Q' (.ref p) H'
abbrev DF (G : Gd) (E : XK) (X : Cx) (c : Nat) (e : Expr) (t : DA) : Prop := PE X e (liftFr G E c t)
def fLst (u : DA) : DA := fun ex env Q => u ex env fun ds => ds.length ≤ sizeLine ∧ Q ds
theorem df_lst {es : List Expr} {pos : Pos} {c : Nat} {u : DA} (h : DEs G E X c es u) : DF G E X c (.List es pos) (fLst u) := imp (pe_lst h) fun σ H Q' h => by
  obtain ⟨W, hn, Q, ht, kk⟩ := h
  refine ⟨W, hn, _, ht, fun vs H1 ds st hd ⟨hl, hq⟩ => ⟨by rw [← hd.length]; exact hl, fun p hp => ?_⟩⟩
  have hp0 : H p = none := by
    cases q : H p with
    | none => rfl
    | some o =>
      exfalso
      rw [st.ext p o q (W.nuX ((W.next st).fresh hp))] at hp; cases hp
  refine kk p _ ds vs (st.new hp) hp0 upd_same (by rw [← hd.length]; exact hl) ?_ hq
  exact DenL.keep (fun b o nb e => by rw [upd_ne (ne_of_none e hp)]; exact e) (fun b hb => hb.imp id fun z => by rw [z]; exact hp) ds vs hd
def sOwn (i : Nat) (t : DA) : DS := fun ex de env => t ex env fun ds => ∀ a, de.nx (env.set i (.own a ds))
theorem ds_own {i : Nat} {x : Str} {e : Expr} {pos pos' : Pos} {c : Nat} {t : DA} (hN : X.N.Nodup) (hi : X.N[i]? = some x) (hx : Loc X.env.scope x) (he : DF G E X c e t) (hs : swapsWith e (some (.Name x pos')) pos.line X.env = pure false := by rfl)
    (hf : X.fn x = true ∨ X.env.scope.names.lookup x = some .local := by first | exact .inl rfl | exact .inr rfl) : DSt G E X c (.Assign [.Name x pos'] e pos) (sOwn i t) :=
  impS (ps_set hN hi hx he hs hf) fun Dn σ H h => by
    obtain ⟨W, hn, de, ht, k1, k2, k3, k4⟩ := h
    refine ⟨W, hn, _, ht, fun p H' ds xs st hp h2 hl hd hq => ?_⟩
    obtain ⟨W', l1, l2⟩ := wd_own W st (i := i) hp h2 hl hd
    exact k1 _ H' W' l1 (by rw [l2]; exact hq p)
/-- from here on the list in slot i stays as it is -/
def sFreeze (i : Nat) (t : DS) : DS := fun ex de env => ∃ a ds, env[i]? = some (.own a ds) ∧ t ex de (env.set i (.val (.lst ds)))
theorem ds_freeze {i : Nat} {sts : List Stmt} {c : Nat} {t : DS} (h : DSs G E X c sts t) : DSs G E X c sts (sFreeze i t) := impSs h fun Dn σ H h => by
  obtain ⟨W, hn, de, ⟨a, ds, he, ht⟩, k1, k2, k3, k4⟩ := h
  obtain ⟨xs, e1, h0, ha, hl, hd⟩ := W.sl i _ he
  have hsi := join_some e1
  have hil : i < W.env.length := (List.getElem?_eq_some_iff.mp he).1
  have xb : ∀ b, XBof W.B (W.env.set i (.val (.lst ds))) σ b → W.XB b ∧ b ≠ a := fun b hb => by
    rcases hb with hb | ⟨j, s, f1, m1, f2⟩
    · exact ⟨.inl hb, fun z => W.own_ne h0 (by rw [← z]; exact hb)⟩
    · by_cases hj : i = j
      · subst hj
        rw [List.getElem?_set_self hil] at f1; cases f1; cases m1
      · rw [List.getElem?_set_ne hj] at f1
        exact ⟨.inr ⟨j, s, f1, m1, f2⟩, fun z => hj (W.nd i j a _ s he f1 rfl m1 hsi (by rw [← z]; exact f2))⟩
  have key : ∃ W' : Wd G E σ H, Later W 0 W' ∧ W'.env = W.env.set i (.val (.lst ds)) ∧ W'.n = W.n := by
    refine ⟨{ u := W.u, n := W.n, m := W.m, B := W.B, H0 := W.H0, env := W.env.set i (.val (.lst ds)), ex := W.ex, ug := W.ug, hu := W.hu, hB := W.hB, fr := W.fr, good := W.good, len := by rw [List.length_set]; exact W.len, sl := fun j s e => ?_, nd := fun j l b s t f1 f2 m1 m2 f3 f4 => ?_, exc := W.exc },
      ⟨rfl, rfl, rfl, rfl, rfl, by show W.n ≤ W.n + 0; omega, fun _ _ _ h => h, fun b hb => .inl (xb b hb).1⟩, rfl, rfl⟩
    · by_cases hj : i = j
      · subst hj
        rw [List.getElem?_set_self hil] at e
        cases e
        exact ⟨.ref a, e1, a, xs, rfl, fun z => (xb a z).2 rfl, ha, hl, hd.fewer fun b hb => (xb b hb).1⟩
      · rw [List.getElem?_set_ne hj] at e
        exact (W.sl j s e).fewer fun b hb => (xb b hb).1
    · have old : ∀ {j : Nat} {s : Sl}, (W.env.set i (.val (.lst ds)))[j]? = some s → s.mine = true → W.env[j]? = some s := fun {j s} f m => by
        by_cases hj : i = j
        · subst hj; rw [List.getElem?_set_self hil] at f; cases f; cases m
        · rw [List.getElem?_set_ne hj] at f; exact f
      exact W.nd j l b s t (old f1 m1) (old f2 m2) m1 m2 f3 f4
  obtain ⟨W', lt, we, wn⟩ := key
  refine ⟨W', by rw [lt.m, wn]; exact hn, de, by rw [lt.ex, we]; exact ht, fun σ' H' W2 l2 q => k1 σ' H' W2 ((lt.trans l2).more (by omega)) q, fun v σ2 H' W2 d l2 hd hr => k2 v σ2 H' W2 d ((lt.trans l2).more (by omega)) (by rw [lt.B] at hd; exact hd) hr, fun σ' H' W2 l2 q => k3 σ' H' W2 ((lt.trans l2).more (by omega)) q, fun σ' H' W2 l2 q => k4 σ' H' W2 ((lt.trans l2).more (by omega)) q⟩
theorem lift_own {i : Nat} {W : Wd G E σ H} {ds : List D} {a : Addr} (he : W.env[i]? = some (.own a ds)) : ∃ xs, σ[i]? = some (some (.ref a)) ∧ W.H0 a = none ∧ H a = some (.lst xs) ∧ xs.length ≤ sizeLine ∧ DenL G W.XB H ds xs := by
  obtain ⟨xs, e1, e2, e3, e4, e5⟩ := W.sl i _ he
  exact ⟨xs, join_some e1, e2, e3, e4, e5⟩
theorem own_step {W : Wd G E σ H} {c : Nat} {H1 : Hp} (st : Step W c H1) {i : Nat} {a : Addr} {xs ys : List V} {ds es : List D} (he : W.env[i]? = some (.own a ds)) (hsi : σ[i]? = some (some (.ref a))) (h0 : W.H0 a = none) (hl : ys.length ≤ sizeLine) (hd : DenL G W.XB H1 es ys) :
    ∃ W' : Wd G E σ (L2.upd H1 a (.lst ys)), Later W c W' ∧ W'.env = W.env.set i (.own a es) := by
  have he' : (W.next st).env[i]? = some (.own a ds) := he
  have kp := mut_keep (o1 := .lst ys) (W.next st) he' rfl hsi
  obtain ⟨W', l1, l2, l3⟩ := wd_mut (o1 := .lst ys) (s1 := .own a es) (W.next st) he' rfl hsi rfl ⟨ys, rfl, h0, upd_same, hl, DenL.keep kp (fun b hb => .inl hb) es ys hd⟩
  exact ⟨W', ((Later.next st).trans l1).more (by omega), l2⟩
/-- x.append(e) -/
def sApp (i : Nat) (te : DT) : DS := fun ex de env => ∃ a ds, env[i]? = some (.own a ds) ∧ te ex env fun d => ds.length < sizeLine ∧ de.nx (env.set i (.own a (ds ++ [d])))
theorem ds_app {i : Nat} {x : Str} {e : Expr} {pos p apos cpos : Pos} {c : Nat} {te : DT} (hN : X.N[i]? = some x) (he : DE G E X c e te) (hv : Vis X.env.scope x := by first | exact Or.inl rfl | exact Or.inr (Or.inl rfl) | exact Or.inr (Or.inr rfl)) (hd : (x == ("__debug__" : Str)) = false := by decide) (hcd : (x == ("__classdict__" : Str)) = false := by decide)
    (hbase : attributeBase (.Name x p) "append" X.env (eval (.Name x p) X.env) = eval (.Name x p) X.env := by rfl)
    (hfew : ((backTo cpos (starEach [e] X.env)).all (fun x => !x.1) && (backToKw cpos (keywordEach [] X.env)).all (fun x => x.1.isSome) && decide (([e] : List Expr).length + ([] : List Keyword).length + (if ([] : List Keyword).isEmpty then 0 else 1) < 30)) = true := by rfl)
    (hline : (apos.endLine == cpos.line) = true := by rfl) (hs : starEach [e] X.env = (false, eval e X.env) :: starEach [] X.env := by rfl) (hplain : (backTo cpos (starEach [] X.env)).any (·.1) = false := by rfl)
    (hsw : swapsWith (.Call (.Attribute (.Name x p) "append" apos) [e] [] cpos) none pos.line X.env = pure false := by rfl) : DSt G E X c (.Expr (.Call (.Attribute (.Name x p) "append" apos) [e] [] cpos) pos) (sApp i te) :=
  impS (ps_expr (pe_bm PySem.F.plainAttrs_list PySem.F.slot_list_append PySem.F.type_list_append mt_append (pe_var (i := i) hN hv hd hcd) (pa_cons he pa_nil hs) hbase hfew hline hs hplain) hsw) fun Dn σ H h => by
    obtain ⟨W, hn, de, ⟨a, ds, hei, ht⟩, k1, k2, k3, k4⟩ := h
    obtain ⟨xs, hsi, h0, ha, hl, hds⟩ := lift_own hei
    refine ⟨.ref a, hsi, .inl ⟨rfl, xs, SqL.of ha⟩, W, hn, _, ht, fun v H1 d st hdv ⟨hlt, hq⟩ => ?_⟩
    have el := hds.length
    have ha1 : H1 a = some (.lst xs) := st.ext a _ ha (W.nu h0)
    have hds1 : DenL G W.XB H1 ds xs := hds.ext st.ext W.huX
    obtain ⟨W', l1, l2⟩ := own_step (xs := xs) (ys := xs ++ [v]) (es := ds ++ [d]) st hei hsi h0 (by rw [List.length_append]; show xs.length + 1 ≤ _; omega) (hds1.append ⟨v, [], rfl, hdv, rfl⟩)
    exact ⟨a, xs, v, rfl, rfl, ha1, by omega, k1 σ _ W' l1 (by rw [l2]; exact hq)⟩
end
end Kn
set_option Elab.async false
set_option linter.all false
set_option maxRecDepth 100000
set_option maxHeartbeats 2100000
namespace Kn
open PySem PySem.Spec L2 RZ
open PyProof.Rows (envOfC AllBare IntsAre)
section
variable {P : Program} {w : World} {K : PySem.W.Frag} {mg mb : Str → Option Value} {fa a : Addr} {s₁ : Shared} {vs : List Value} {ns : List Int}
theorem ns_hid {H : Hp} (hdict : ∀ {b : Addr} {o : Obj} {es : Array DictEntry} {ep : Nat}, s₁.heap.get? b = some o → o.data = .dict es ep → H b = none) {b : Addr} {m : Str → Option Value} (h : s₁.heap.Ns b m) : (hidT s₁.heap H).Ns b m := by
  obtain ⟨o, es, ep, e, d, r⟩ := h
  exact ⟨o, es, ep, hidT_get e (hdict e d), d, r⟩
end
end Kn
set_option Elab.async false
set_option linter.all false
set_option maxRecDepth 100000
set_option maxHeartbeats 2100000
namespace Kn
open PySem L2 RZ
open PyProof.Rows (envOfC)
section
variable {G : Gd} {E : XK} {X : Cx} {σ : List (Option V)} {H H' : Hp} {k : Nat}
def gMulW : G2 := gI CMulW fun i j => .int (i * j)
theorem o_mulW : OpR X (binaryOp .Mult) (rD G gMulW) := opr_imp op_mulW fun _ _ _ _ h => rD_I (fun _ _ _ _ => den_int _) h
def PowOk (i j : Int) : Prop := 0 ≤ j ∧ (Builtin.Int.intBits i : Int) * j ≤ 2 ^ 27
theorem op_powW : OpR X (binaryOp .Pow) (rI PowOk fun i j => .int (i ^ j.toNat)) := by
  intro pins s σ H x y v u Q I rx ry h; obtain ⟨i, j, rfl, rfl, hc, q⟩ := h
  obtain ⟨t, rfl⟩ := rx
  obtain ⟨t', rfl⟩ := ry
  exact PyProof.Rows.pow_int hc.1 hc.2 ⟨.int (i ^ j.toNat), H, I.tok _, ⟨_, rfl⟩, q⟩
def gPow : G2 := gI PowOk fun i j => .int (i ^ j.toNat)
theorem o_pow : OpR X (binaryOp .Pow) (rD G gPow) := opr_imp op_powW fun _ _ _ _ h => rD_I (fun _ _ _ _ => den_int _) h
theorem powOk_of {i : Int} {a : Nat} {j : Int} (h : i.natAbs < 2 ^ a) (hj : 0 ≤ j) (hz : (a : Int) * j ≤ 2 ^ 27) : PowOk i j := by
  refine ⟨hj, ?_⟩
  have h1 : Builtin.Int.intBits i ≤ a := PyProof.Rows.intBits_le h
  have h2 : (Builtin.Int.intBits i : Int) ≤ (a : Int) := by exact_mod_cast h1
  exact Int.le_trans (Int.mul_le_mul_of_nonneg_right h2 hj) hz
def gAbs : D → (D → Prop) → Prop := fun d Q => match d with
  | .int i => Q (.int (if i < 0 then -i else i))
  | _ => False
theorem c_abs : CallR X (.builtin "abs") (rDL G (g1 gAbs)) := callr_imp call_abs fun xs H Q' h => by
  obtain ⟨B, d, x, Q, rfl, hd, hf, hg, k⟩ := rDL1 h
  cases d <;> try exact hg.elim
  rename_i i
  cases hd
  exact ⟨i, rfl, k _ H (.int _) (Ext.refl _ _) (den_int _) hg⟩
/-- an item as it is read -/
def D.plain : D → D
  | .at_ _ ds => .lst ds
  | d => d
theorem Den.plain {B : Addr → Prop} {H : Hp} {d : D} {v : V} (h : Den G B H d v) : Den G B H d.plain v := by
  cases d <;> try exact h
  obtain ⟨xs, e, h⟩ := h
  exact ⟨_, xs, e, h⟩
def dOix (i : Nat) (te : DT) : DT := fun ex env Q => ∃ a ds, env[i]? = some (.own a ds) ∧ te ex env fun e => ∃ j d, e = .int j ∧ atI ds j = some d ∧ Q d.plain
theorem de_oix {i : Nat} {x : Str} {b : Expr} {pos p : Pos} {c : Nat} {te : DT} (hN : X.N[i]? = some x) (hb : DE G E X c b te) (hs : PlainIx b) (hv : Vis X.env.scope x := by first | exact Or.inl rfl | exact Or.inr (Or.inl rfl) | exact Or.inr (Or.inr rfl))
    (hd : (x == ("__debug__" : Str)) = false := by decide) (hcd : (x == ("__classdict__" : Str)) = false := by decide) : DE G E X c (.Subscript (.Name x p) b pos) (dOix i te) :=
  imp (pe_ix ix_list (pe_var (i := i) hN hv hd hcd) hb hs) fun σ H Q' h => by
    obtain ⟨W, hn, Q, ⟨a, ds, he, ht⟩, kk⟩ := h
    obtain ⟨xs, hsi, h0, ha, hl, hds⟩ := lift_own he
    refine ⟨.ref a, hsi, W, hn, _, ht, fun v H1 e st hv1 ⟨j, d, e1, hat, hq⟩ => ?_⟩
    subst e1
    have ha1 : H1 a = some (.lst xs) := st.ext a _ ha (W.nu h0)
    obtain ⟨y, hy, hdy⟩ := denL_at (hds.ext st.ext W.huX) hat
    exact ⟨a, xs, j, y, rfl, hv1, SqL.of ha1, hy, kk y H1 d.plain st hdy.plain hq⟩
/-- x[e] = v -/
def sSetIx (i : Nat) (ti te : DT) : DS := fun ex de env => te ex env fun d => ∃ a ds, env[i]? = some (.own a ds) ∧ ti ex env fun e => ∃ j n, e = .int j ∧ ixN ds.length j = some n ∧ de.nx (env.set i (.own a (ds.set n d)))
theorem ds_setIx {i : Nat} {x : Str} {e b : Expr} {pos p p2 : Pos} {c c2 : Nat} {te ti : DT} (hN : X.N[i]? = some x) (he : DE G E X c e te) (hi : DE G E X c2 b ti) (hv : Vis X.env.scope x := by first | exact Or.inl rfl | exact Or.inr (Or.inl rfl) | exact Or.inr (Or.inr rfl))
    (hd : (x == ("__debug__" : Str)) = false := by decide) (hcd
      : (x == ("__classdict__" : Str)) = false := by decide)
    (ha : ∀ v, assign (.Subscript (.Name x p) b p2) X.env v = (do
      let ov ← holding [v] (eval (.Name x p) X.env)
      let iv ← holding [v, ov] (eval b X.env)
      standAt p2
      holding [v, ov, iv]
        (setItem ov iv v)
      release [v, ov, iv] []) := by intro _; rfl)
    (hs : swapsWithSole [.Subscript (.Name x p) b p2] e pos.line X.env = pure false := by rfl) (hw : swappedStores [.Subscript (.Name x p) b p2] e X.env = pure none := by rfl)
    (h1 : (assignEach [.Subscript (.Name x p) b p2] X.env).map (·.2) = [assign (.Subscript (.Name x p) b p2) X.env] := by rfl) : DSt G E X (c + c2) (.Assign [.Subscript (.Name x p) b p2] e pos) (sSetIx i ti te) :=
  impS (ps_asg he (pg_sub (pe_var (i := i) hN hv hd hcd) hi set_list ha) hs hw h1) fun Dn σ H h => by
    obtain ⟨W, hn, de, ht, k1, k2, k3, k4⟩ := h
    refine ⟨W, by omega, _, ht, fun v H1 d st hdv ⟨a, ds, hei, hq⟩ => ?_⟩
    obtain ⟨xs, hsi, h0, ha, hl, hds⟩ := lift_own (W := W.next st) hei
    refine ⟨.ref a, hsi, W.next st, by show W.m + c2 ≤ W.n - c; omega, _, hq, fun v2 H2 e2 st2 hv2 ⟨j, n, e1, hj, hnx⟩ => ?_⟩
    subst e1
    have ha2 : H2 a = some (.lst xs) := st2.ext a _ ha (W.nu h0)
    have el := hds.length
    obtain ⟨W', l1, l2⟩ := own_step (xs := xs) (ys := xs.set n v) (es := ds.set n d) (st.trans st2) (W := W) hei hsi h0 (by rw [List.length_set]; exact hl) ((hds.ext st2.ext (W.next st).huX).set n ((W.next st).den st2 hdv))
    exact ⟨a, xs, j, n, rfl, hv2, ha2, by rw [← el]; exact hj, k1 σ _ W' l1 (by rw [l2]; exact hnx)⟩
/-- what every law's def that draws promises: a number from 0 below many -/
def sDraw : FSpec := fun ds R _ => ∃ many : Int, ds = [.urn, .int many] ∧ 1 ≤ many ∧ many < 1073741824 ∧ ∀ r : Int, 0 ≤ r → r < many → R (.int r)
/-- what the urn's list is to be behind a draw -/
def drawEnds (cells : List Int) (at_ many : Int) (a b : Addr) : DEnds := { nx := fun _ => False, rt := fun d env => ∃ i at2 r2 : Int, d = .int i ∧ 0 ≤ i ∧ i < many ∧ env[0]? = some (.own a [.at_ b (cells.map D.int), .int at2, .int r2]) ∧ 0 ≤ r2 ∧ 0 ≤ at2 ∧ at2 ≤ at_ + 1 }
/-- a def over the urn, by its body over the urn's list as a list of its own -/
theorem draw_of {P : Program} {w : World} {mg : Str → Option Value} {base : Heap} {f : Addr} {x qual : Str} {st : Stmt} {fd : FuncData} {N ps : List Str} {ts : DS} (F : Fun G.K x qual st f fd) (Sc : FnScope N ps (defScope st)) (h2 : ps.length = 2)
    (hder : ∀ (cdv : Value) (A : Around) (outer : List Env) (s : Shared) (H : Hp) (E : XK), Room k (A.deeper (envOfC qual (defScope st) s.heap.objs.size f cdv)) → A.guards = some [] →
      DSs { G with u := none } E (cxOf (L2.CX P w) P w G.K mg base N qual (defScope st) f cdv A outer s H E) 0 (defBody st) ts)
    (hS : ∀ (cells : List Int) (at_ r many : Int) (a b : Addr), cells.length ≤ 63 → 0 ≤ at_ → at_ < atLine → 0 ≤ r → 1 ≤ many → many < 1073741824 →
      ts noX (drawEnds cells at_ many a b)
        (Sl.own a [.at_ b (cells.map D.int), .int at_, .int r] :: Sl.val (.int many) :: List.replicate (N.length - 2) Sl.emp)) : FnD G P w mg base (k + 1) f fd ps 1 sDraw := by
  constructor
  intro A outer s H args us vs Q E hr hgd e0 hb rv hlen hsp
  obtain ⟨u, n, B, ds, R, ex, hug, hc, hu, hB, hg, hd, ⟨many, rfl, hm1, hm2, hR⟩, hq, hx⟩ := hsp
  obtain ⟨xv, yv, rfl, ⟨p, hp, rfl⟩, hy⟩ := denL2 hd
  cases hy
  rw [hug, hp] at hg
  rw [hp] at hug
  subst hug
  obtain ⟨⟨a, b⟩, T⟩ := p
  obtain ⟨⟨cells, at_, r, ha, hbl, hcl, nab, hr0, hat, hatn⟩, hT⟩ := hg
  have hN2 : 2 ≤ N.length := by
    have h1 := congrArg List.length Sc.pre
    rw [List.length_take] at h1
    omega
  obtain ⟨oc, od, kV, doc, pm, an, cdv, ct, osl, rfl, lk, hcd⟩ := F.ex; have KX : G.K.In s.heap := PySem.W.Frag.In.keeps e0.mod.kin (fun b o e => (e0.bs b o e).1)
  have nolim : s.heap.NoLimit := Heap.NoLimit.keeps e0.mod.nolimit (fun b o e => (e0.bs b o e).1)
  have kinds : ∀ y ∈ ps.zip us, (defScope st).names.lookup y.1 = some .local ∨
      ((defScope st).names.lookup y.1 = some .cell ∧ ((cellsFrom (s.heap.objs.size + 1) (defScope st).names []).lookup y.1).isSome = true) := by
    intro y hy
    obtain ⟨n1, v1⟩ := y
    rcases Sc.par n1 (List.of_mem_zip hy).1 with z | z
    · exact .inl z
    · exact .inr ⟨z, PySem.W.cellsFrom_some _ _ _ (.inl z)⟩
  refine codeAny_call_function hr.depth (KX _ _ lk) rfl Sc.co Sc.gen rfl (PySem.W.codeRec_of KX hcd) ?_
  refine hb _ _ _ _ (wpAny_newFunctionEnv_cells Sc.kind kinds ?_)
  intro env he s1 ic
  subst he
  refine ⟨nolim.keeps ic.toInCall.keep, codeAny_func ?_⟩
  have I : Inv (cxOf (L2.CX P w) P w G.K mg base N qual (defScope st) f cdv A outer s H E) [] (L2.start N [.ref a, .int many]) H s1 := inv_start Sc hr.hd e0 hlen rv ic
  let env1 : List Sl := Sl.own a [.at_ b (cells.map D.int), .int at_, .int r] :: Sl.val (.int many) :: List.replicate (N.length - 2) Sl.emp
  have hmine : ∀ {i : Nat} {s : Sl}, env1[i]? = some s → s.mine = true → i = 0 := fun {i s} e hm => by
    match i with
    | 0 => rfl
    | 1 => have e' : some (Sl.val (.int many)) = some s := e; cases e'; cases hm
    | i + 2 =>
      have e' : (List.replicate (N.length - 2) Sl.emp)[i]? = some s := e
      rw [List.getElem?_replicate] at e'
      split at e'
      · cases e'; cases hm
      · cases e'
  have st0 : (L2.start N [.ref a, .int many])[0]? = some (some (.ref a)) := start_get (i := 0) rfl
  have xb : ∀ c, XBof (fun x => B x ∧ x ≠ a ∧ x ≠ b) env1 (L2.start N [.ref a, .int many]) c → (B c ∧ c ≠ a ∧ c ≠ b) ∨ c = a := fun c hc => by
    rcases hc with hc | ⟨j, s, e1, m1, e2⟩
    · exact .inl hc
    · have z := hmine e1 m1
      subst z
      rw [st0] at e2
      cases e2
      exact .inr rfl
  have key : ∃ W : Wd { G with u := none } E (L2.start N [.ref a, .int many]) H, W.m + 0 ≤ W.n ∧ W.u = none ∧ W.B = (fun x => B x ∧ x ≠ a ∧ x ≠ b) ∧ W.H0 = (fun x => if x = a then none else H x) ∧ W.env = env1 ∧ W.ex = noX := by
    refine ⟨{ u := none, n := 0, m := 0, B := fun x => B x ∧ x ≠ a ∧ x ≠ b, H0 := fun x => if x = a then none else H x, env := env1, ex := noX, ug := rfl, hu := fun p e => e.none.elim, hB := fun x hx => ?_, fr := fun x o e _ => ?_, good := trivial, len := ?_, sl := fun i s e => ?_, nd := fun i j c s t e1 e2 m1 m2 _ _ => ?_, exc := fun _ _ _ _ _ _ _ z => z.elim }, Nat.le_refl _, rfl, rfl, rfl, rfl, rfl⟩
    · show (if x = a then none else H x) ≠ none
      rw [if_neg hx.2.1]
      exact hB x hx.1
    · have e : (if x = a then none else H x) = some o := e
      by_cases hxa : x = a
      · rw [if_pos hxa] at e; cases e
      · rw [if_neg hxa] at e; exact e
    · show (List.replicate (N.length - 2) Sl.emp).length + 1 + 1 = _
      unfold L2.start
      simp only [List.length_append, List.length_map, List.length_replicate, List.length_cons, List.length_nil]
      omega
    · match i with
      | 0 =>
        have e' : some (Sl.own a [.at_ b (cells.map D.int), .int at_, .int r]) = some s := e
        cases e'
        refine ⟨_, by rw [st0]; rfl, if_pos rfl, ha, by rw [sizeLine_eq]; show (3 : Nat) ≤ 16777216; omega, ?_⟩
        refine ⟨_, _, rfl, ⟨_, rfl, fun z => ?_, hbl, by rw [List.length_map, sizeLine_eq]; omega, DenL.of_ints⟩, _, _, rfl, rfl, _, _, rfl, rfl, rfl⟩
        rcases xb b z with z | z
        · exact z.2.2 rfl
        · exact nab z.symm
      | 1 =>
        have e' : some (Sl.val (.int many)) = some s := e
        cases e'
        exact ⟨.int many, by rw [start_get (i := 1) (v := .int many) rfl]; rfl, rfl⟩
      | i + 2 =>
        have e' : (List.replicate (N.length - 2) Sl.emp)[i]? = some s := e
        rw [List.getElem?_replicate] at e'
        split at e'
        · cases e'; trivial
        · cases e'
    · rw [hmine e1 m1, hmine e2 m2]
  obtain ⟨W, wn, wu, wB, wH, we, wx⟩ := key
  have body := (hder cdv A outer s H E (hr.deeper _) hgd).run [] s1 (L2.start N [.ref a, .int many]) H { nx := fun _ H' => Q .non H', rt := Q } I (by
    have hts := hS cells at_ r many a b hcl hat (by omega) hr0 hm1 hm2
    refine ⟨W, wn, drawEnds cells at_ many a b, by rw [we, wx]; exact hts, fun σ' H' W' lt z => z.elim, ?_, fun σ' H' W' lt z => z.elim, fun σ' H' W' lt z => z.elim⟩
    rintro v σ' H' W' d lt hd' ⟨i, at2, r2, rfl, hi0, hi1, h0, hr2, ha2, ha3⟩
    cases hd'
    obtain ⟨xs, e1, e2, e3, e4, ⟨x1, y1, rfl, ⟨zs, rfl, nb2, hb2, _, dz⟩, x2, y2, rfl, hx2, x3, y3, rfl, hx3, hy3⟩⟩ := W'.sl 0 _ h0
    cases hx2; cases hx3; cases hy3
    have ez := dz.ints
    subst ez
    have fr : ∀ c o, H c = some o → c ≠ a → H' c = some o := fun c o e nc => by
      have z := W'.fr c o (by rw [lt.H0, wH]; show (if c = a then none else H c) = some o; rw [if_neg nc]; exact e)
      rw [lt.u, wu] at z
      exact z NU.none
    have hb3 := fr b _ hbl (Ne.symm nab)
    refine hq (.int i) H' (.int i) (fun c o e nc => fr c o e (fun z => nc (a, b) ⟨_, rfl, .inl rfl⟩ z.symm)) ?_ rfl (hR i hi0 hi1)
    refine ⟨⟨cells, at2, r2, e3, hb2, hcl, nab, hr2, ha2, by omega⟩, fun t ht => ?_⟩
    obtain ⟨ps', t1, t2, t3⟩ := hT t ht
    refine ⟨ps', fr _ _ t1 (fun z => by rw [z, ha] at t1; cases t1), t2, fun pos cv hcv => ?_⟩
    obtain ⟨c, c1, c2⟩ := t3 pos cv hcv
    exact ⟨c, c1, fr c _ c2 (fun z => by rw [z, ha] at c2; cases c2)⟩)
  refine wpAny_mono body ?_ (fun e s' hs => hs)
  intro fl s' hfl
  cases fl with
  | next => obtain ⟨σ', H', J, q⟩ := hfl; exact ⟨.non, H', J.os, J.bare, J.base, J.hok, rfl, q⟩
  | ret v' => obtain ⟨v, σ', H', J, r1, q⟩ := hfl; exact ⟨v, H', J.os, J.bare, J.base, J.hok, r1, q⟩
  | brk => obtain ⟨σ', H', J, q⟩ := hfl; exact q.elim
  | cont => obtain ⟨σ', H', J, q⟩ := hfl; exact q.elim
end
end Kn
set_option Elab.async false
set_option linter.all false
set_option maxRecDepth 100000
set_option maxHeartbeats 2100000
namespace Kn
open PySem L2 RZ
open PyProof.Rows (envOfC)
section
variable {G : Gd} {E : XK} {X : Cx} {σ : List (Option V)} {H H' : Hp} {j k : Nat}
variable {P : Program} {w : World} {mg : Str → Option Value} {base : Heap}
/-- within a def's own body -/
theorem xk_def {N : List Str} {qual : Str} {scope : Scope} {f : Addr} {cd : Value} {A : Around} {outer : List Env} {s : Shared} {H : Hp} (hr : Room k (A.deeper (envOfC qual scope s.heap.objs.size f cd))) (hg : A.guards = some []) :
    Xk G E k (cxOf (L2.CX P w) P w G.K mg base N qual scope f cd A outer s H E) where
  K := rfl
  room := hr
  gd := hg
  pass := passes_call (W := fun cls d _ H => E cls d H) (takes_of rfl rfl rfl rfl) fun _ _ _ _ h => h
  calm := rfl
  tk := takes_of rfl rfl rfl rfl
/-- within a comprehension -/
theorem Xk.blk (xk : Xk G E k X) (s : Shared) (H : Hp) (scope : Scope) (cenv : Env) (fp : List Addr) : Xk G E0 k (X.blk s H scope cenv fp) where
  K := xk.K
  room := xk.room
  gd := xk.gd
  pass := passL
  calm := xk.calm
  tk := fun _ _ ⟨_, _, _, _, _, _, _, _, _, _, _, _, _, _, _, _, z⟩ => z.elim
theorem po_def {N : List Str} {qual : Str} {scope : Scope} {f : Addr} {cd : Value} {A : Around} {outer : List Env} {s : Shared} {H : Hp} :
    PassesOwn (model (cxOf (L2.CX P w) P w G.K mg base N qual scope f cd A outer s H E).prog (cxOf (L2.CX P w) P w G.K mg base N qual scope f cd A outer s H E).w) (cxOf (L2.CX P w) P w G.K mg base N qual scope f cd A outer s H E).A
      (cxOf (L2.CX P w) P w G.K mg base N qual scope f cd A outer s H E).env (cxOf (L2.CX P w) P w G.K mg base N qual scope f cd A outer s H E).xe := passes_of rfl
theorem FnD.more {f : Addr} {fd : FuncData} {ps : List Str} {c c' : Nat} {S : FSpec} (F : FnD G P w mg base k f fd ps c S) (h : c ≤ c') : FnD G P w mg base k f fd ps c' S := by
  constructor
  intro A outer s H args us vs Q E hr hg e0 hb rv hl hs
  obtain ⟨u, n, B, ds, R, ex, hug, hc, hu, hB, hgd, hd, hs, hq, hx⟩ := hs
  exact F.run A outer s H args us vs Q E hr hg e0 hb rv hl ⟨u, n, B, ds, R, ex, hug, by omega, hu, hB, hgd, hd, hs, fun v H' d e g => hq v H' d e (g.less (by omega)), fun x C d H' e g => hx x C d H' e (g.less (by omega))⟩
theorem InitD.more {f : Addr} {fd : FuncData} {ps : List Str} {c c' cid : Nat} {S : FSpec} (F : InitD G P w mg base k f fd ps c cid S) (h : c ≤ c') : InitD G P w mg base k f fd ps c' cid S := by
  constructor
  intro A outer s H args us vs Q E hr hg e0 hb rv hl hs
  obtain ⟨u, n, B, ds, R, ex, x, dx, vs', hug, h1, h2, h3, h4, h5, h6, hc, hu, hB, hgd, hd, hs, hq, hx⟩ := hs
  exact F.run A outer s H args us vs Q E hr hg e0 hb rv hl ⟨u, n, B, ds, R, ex, x, dx, vs', hug, h1, h2, h3, h4, h5, h6, by omega, hu, hB, hgd, hd, hs, fun H' xs ds' e g => hq H' xs ds' e (g.less (by omega)), fun y C d H' e g => hx y C d H' e (g.less (by omega))⟩
/-- a weaker promise -/
theorem FnD.imp {f : Addr} {fd : FuncData} {ps : List Str} {c : Nat} {S S' : FSpec} (F : FnD G P w mg base k f fd ps c S) (h : ∀ ds R ex, S' ds R ex → S ds R ex) : FnD G P w mg base k f fd ps c S' := by
  constructor
  intro A outer s H args us vs Q E hr hg e0 hb rv hl hs
  obtain ⟨u, n, B, ds, R, ex, hug, hc, hu, hB, hgd, hd, hs, hq, hx⟩ := hs
  exact F.run A outer s H args us vs Q E hr hg e0 hb rv hl ⟨u, n, B, ds, R, ex, hug, hc, hu, hB, hgd, hd, h _ _ _ hs, hq, hx⟩
/-- a def as its callers know it -/
theorem Fk.of {f : Addr} {fd : FuncData} {x : Str} {ps : List Str} {c : Nat} {S : FSpec} (F : FnD G P w mg base k f fd ps c S) (hm : mg x = some (.ref f)) (hk : PySem.W.keepIn G.K (.ref f) = true) (hb : Binds G.K fd ps []) : Fk G P w mg base k x ps c S := ⟨f, fd, F, hm, hk, hb⟩
end
end Kn
set_option Elab.async false
set_option linter.all false
set_option maxRecDepth 100000
set_option maxHeartbeats 2100000
namespace Kn
open PySem L2 RZ
open PyProof.Rows (envOfC)
section
variable {G : Gd} {E : XK} {X : Cx} {σ : List (Option V)} {H H' : Hp} {k : Nat}
theorem de_one {op : BoolOp} {a : Expr} {pos : Pos} {c : Nat} {t : DT} (h : DE G E X c a t) : DE G E X c (.BoolOp op [a] pos) t := pe_one h
/-- a built-in type by its name -/
theorem den_opq {B : Addr → Prop} {H : Hp} (v : V) : Den G B H (.opq v) v := rfl
theorem de_tyn {x : Str} {n : String} {pos : Pos} (hm : X.mg x = none) (hg : Gl X x := by rfl) (hv : bootBuiltins x = some (.type n) := by decide +kernel) (hn : x ≠ "__name__" := by decide) (hd : (x == ("__debug__" : Str)) = false := by decide) : DE G E X 0 (.Name x pos) (dC (.opq (.ty n))) :=
  imp (pe_bltn (v := .ty n) hg hm hv rfl hn hd) fun _ _ _ h => lift_c (fun _ _ => den_opq _) h
/-- a class, a def of the module by its name -/
theorem de_ref {x : Str} {a : Addr} {pos : Pos} (hm : X.mg x = some (.ref a)) (hg : Gl X x := by rfl) (hd : (x == ("__debug__" : Str)) = false := by decide) : DE G E X 0 (.Name x pos) (dC (.opq (.ref a))) :=
  imp (pe_glob (v := .ref a) hg hm rfl hd) fun _ _ _ h => lift_c (fun _ _ => den_opq _) h
/-- an int of the module -/
theorem de_gint {x : Str} {i : Int} {pos : Pos} (hm : ∃ t, X.mg x = some (.int i t)) (hg : Gl X x := by rfl) (hd : (x == ("__debug__" : Str)) = false := by decide) : DE G E X 0 (.Name x pos) (dC (.int i)) := by
  obtain ⟨t, hm⟩ := hm
  exact imp (pe_glob (v := .int i) hg hm ⟨t, rfl⟩ hd) fun _ _ _ h => lift_c (fun _ _ => den_int i) h
def kindS : D → Option String
  | .non => some "NoneType"
  | .bl _ => some "bool"
  | .int _ => some "int"
  | .str _ => some "str"
  | .lst _ => some "list"
  | .tup _ => some "tuple"
  | .dic _ _ => some "dict"
  | _ => none
def isB (d : D) (T : String) : Option Bool := (kindS d).bind fun s => kitB s T
theorem Den.tyx {B : Addr → Prop} {d : D} {v : V} {s : String} (h : Den G B H d v) (e : kindS d = some s) : TyX G.K H v (.type s) := by
  cases d with
  | non => cases e; cases h; exact .base .non
  | bl b => cases e; cases h; exact .base (.bl b)
  | int i => cases e; cases h; exact .base (.int i)
  | str x => cases e; cases h; exact .base (.str x)
  | lst ds => cases e; obtain ⟨a, xs, rfl, _, ha, _⟩ := h; exact .base (.lst ha)
  | tup ds =>
    cases e
    obtain ⟨a, xs, rfl, _, ha, _⟩ := h
    rcases ha with (ha | ⟨o, ha⟩) | ⟨o, _, _, hk, hc, _⟩
    · exact .base (.tup ha)
    · exact .fTuple ha
    · exact .kTuple hk hc
  | ins c ds => cases e
  | opq w => cases e
  | urn => cases e
  | at_ a ds => cases e
  | dct ks ds => cases e
  | tupn ds => cases e
  | exc c ds => cases e
  | dic ks ds => cases e; obtain ⟨a, kvs, rfl, _, ha, _⟩ := h; exact .base (.dK ha)
  | dcT ks ds => cases e
  | dcf _ _ => cases e
/-- isinstance(x, T), T a built-in type -/
def gIsi : G2 := fun d c Q => ∃ T b, c = .opq (.ty T) ∧ isB d T = some b ∧ Q (.bl b)
theorem c_isi (hK : X.K = G.K) : CallR X (.builtin "isinstance") (rDL G (g2 gIsi)) := callr_imp call_isi fun xs H Q' h => by
  obtain ⟨B, d, c, x, y, Q, rfl, hd, hc, hf, ⟨T, b, rfl, hb, hq⟩, kk⟩ := rDL2 h
  cases hc
  unfold isB at hb
  cases hk : kindS d with
  | none => rw [hk] at hb; cases hb
  | some s =>
    rw [hk] at hb
    exact ⟨x, .ty T, .type s, .type T, b, rfl, .ty T, by rw [hK]; exact hd.tyx hk, kit_ty hb, kk _ H (.bl b) (Ext.refl _ _) (den_bl b) hq⟩
/-- isinstance(x, (T1, T2, ..)) -/
def anyB (d : D) : List String → Option Bool
  | [] => some false
  | T :: Ts => match isB d T with
    | some true => some true
    | some false => anyB d Ts
    | none => none
theorem any_kit {d : D} {s : String} {K : PySem.W.Frag} (hs : kindS d = some s) : ∀ {Ts : List String} {b : Bool}, anyB d Ts = some b → PySem.W.kitAny K (.type s) (Ts.map Value.type) = some b
  | [], b, h => h
  | T :: Ts, b, h => by
    have e : isB d T = kitB s T := by unfold isB; rw [hs]; rfl
    unfold anyB at h
    rw [e] at h
    show (match PySem.W.kitOne K (.type s) (.type T) with | some true => some true | some false => PySem.W.kitAny K (.type s) (Ts.map Value.type) | none => none) = some b
    cases hk : kitB s T with
    | none =>
      rw [hk] at h; cases h
    | some r =>
      rw [hk] at h
      rw [kit_ty hk]
      cases r with
      | true => exact h
      | false => exact any_kit hs h
theorem any_kind {d : D} : ∀ {Ts : List String} {b : Bool}, Ts ≠ [] → anyB d Ts = some b → ∃ s, kindS d = some s
  | [], _, h, _ => absurd rfl h
  | T :: Ts, b, _, h => by
    unfold anyB isB at h
    cases hk : kindS d with
    | none =>
      rw [hk] at h; cases h
    | some s => exact ⟨s, rfl⟩
theorem paired_ty : ∀ (Ts : List String), Paired ClsV (Ts.map V.ty) (Ts.map Value.type)
  | [] => .nil
  | T :: Ts => .cons (.ty T) (paired_ty Ts)
/-- a tuple that was made in the call: tracked -/
theorem c_isiT (hK : X.K = G.K) : CallR X (.builtin "isinstance") (fun xs H Q' => ∃ (B : Addr → Prop) (d : D) (x : V) (p : Addr) (Ts : List String) (b : Bool) (Q : D → Prop), xs = [x, .ref p] ∧ Den G B H d x ∧ H p = some (.tup (Ts.map V.ty)) ∧ Ts ≠ [] ∧ anyB d Ts = some b ∧ Q (.bl b) ∧ ∀ r H' rd, Ext none H H' → Den G B H' rd r → Q rd → Q' r H') := callr_imp call_isiT fun xs H Q' h => by
  obtain ⟨B, d, x, p, Ts, b, Q, rfl, hd, hp, hne, hb, hq, kk⟩ := h
  obtain ⟨s, hs⟩ := any_kind hne hb
  exact ⟨x, p, _, .type s, _, b, rfl, hp, paired_ty Ts, by rw [hK]; exact hd.tyx hs, any_kit hs hb, kk _ H (.bl b) (Ext.refl _ _) (den_bl b) hq⟩
def dIsiT (Ts : List String) (te : DT) : DT := fun ex env Q => te ex env fun d => ∃ b, anyB d Ts = some b ∧ Q (.bl b)
/-- isinstance(e, (T, ..)): the tuple's names as es -/
theorem de_isiT {e : Expr} {es : List Expr} {p pos p2 : Pos} {x1 c : Nat} {te : DT} {Ts : List String} (hK : X.K = G.K) (hm : X.mg "isinstance" = none) (he : DE G E X c e te) (hes : PA X es (fun σ H Q => Q (Ts.map V.ty) H)) (hne : Ts ≠ []) (hl : Ts.length ≤ 1000) (hg : Gl X "isinstance" := by rfl) (hv : bootBuiltins "isinstance" = some (.builtin "isinstance") := by decide +kernel)
    (hs : starEach [e, .Tuple es x1 p2] X.env = (false, eval e X.env) :: starEach [.Tuple es x1 p2] X.env := by rfl) (hs2 : starEach [.Tuple es x1 p2] X.env = (false, eval (.Tuple es x1 p2) X.env) :: starEach [] X.env := by rfl) (hpl : (backTo pos (starEach [.Tuple es x1 p2] X.env)).any (·.1) = false := by rfl) :
    DE G E X c (.Call (.Name "isinstance" p) [e, .Tuple es x1 p2] [] pos) (dIsiT Ts te) :=
  imp (pe_callB (c_isiT (G := G) hK) hg hm hv (pa_cons he (pa_cons (pe_tup hes) pa_nil hs2) hs) (by decide) (by decide) hs hpl) fun σ H Q' h => by
    obtain ⟨W, hn, Q, ht, kk⟩ := h
    refine ⟨W, hn, _, ht, fun v H1 d st hd ⟨b, hb, hq⟩ => ⟨by rw [List.length_map, sizeLine_eq]; omega, fun q hq0 => ?_⟩⟩
    refine ⟨W.XB, d, v, q, Ts, b, Q, rfl, den_upd hq0 hd, upd_same, hne, hb, hq, fun r H' rd ex hr hq2 => kk r H' rd ((st.new hq0).pure ex) hr hq2⟩
theorem ps_tyn {x : Str} {n : String} {pos : Pos} (hm : X.mg x = none) (hg : Gl X x := by rfl) (hv : bootBuiltins x = some (.type n) := by decide +kernel) (hn : x ≠ "__name__" := by decide) (hd : (x == ("__debug__" : Str)) = false := by decide) : PE X (.Name x pos) (tC (.ty n)) := pe_bltn hg hm hv rfl hn hd
def cutD (xs : List D) (lo hi : Option Int) : List D := (xs.drop (HT.sIx xs.length 0 lo)).take (HT.sIx xs.length xs.length hi - HT.sIx xs.length 0 lo)
theorem denL_cut {B : Addr → Prop} {ds : List D} {xs : List V} {lo hi : Option Int} (h : DenL G B H ds xs) : DenL G B H (cutD ds lo hi) (cutV xs lo hi) := by
  unfold cutD cutV
  rw [h.length]
  exact (h.drop _).take _
def gSl (lo hi : Option Int) : D → (D → Prop) → Prop := fun d Q => match d with
  | .lst ds => Q (.lst (cutD ds lo hi))
  | .tup ds => Q (.tup (cutD ds lo hi))
  | _ => False
abbrev DO := (Exc → Prop) → List Sl → (Option Int → Prop) → Prop
def oNone : DO := fun _ _ Q => Q none
def oSome (te : DT) : DO := fun ex env Q => te ex env fun d => ∃ i : Int, d = .int i ∧ Q (some i)
def liftO (G : Gd) (E : XK) (c : Nat) (t : DO) : TO := fun σ H Q' => ∃ W : Wd G E σ H, W.m + c ≤ W.n ∧ ∃ Q, t W.ex W.env Q ∧ ∀ o H', Step W c H' → Q o → Q' o H'
theorem do_none : PO X none (liftO G E 0 oNone) := ⟨fun pins s σ H Q' I h => po_none.run pins s σ H Q' I (by
  obtain ⟨W, hn, Q, ht, kk⟩ := h
  exact kk none H (Step.refl W) ht)⟩
theorem do_some {e : Expr} {c : Nat} {te : DT} (he : DE G E X c e te) : PO X (some e) (liftO G E c (oSome te)) := ⟨fun pins s σ H Q' I h => (po_some he).run pins s σ H Q' I (by
  obtain ⟨W, hn, Q, ht, kk⟩ := h
  refine ⟨W, hn, _, ht, fun v H1 d st hd ⟨i, e, hq⟩ => ?_⟩
  subst e
  cases hd
  exact ⟨i, rfl, kk (some i) H1 st hq⟩)⟩
def dSl (te : DT) (lo hi : DO) : DT := fun ex env Q => te ex env fun d => lo ex env fun l => hi ex env fun u => gSl l u d Q
theorem sl_any : SlR X (fun x lo hi H Q => rSlL X.K x lo hi H Q ∨ rSlA X.K x lo hi H Q) := SlR.or sl_list sl_tupA
theorem cutD_all {ds : List D} {n : Nat} {lo hi : Option Int} (hn : ds.length = n) (h1 : HT.sIx n 0 lo = 0) (h2 : HT.sIx n n hi = n) : cutD ds lo hi = ds := by
  unfold cutD
  rw [hn, h1, h2, List.drop_zero, Nat.sub_zero, ← hn, List.take_length]
theorem de_sl {e : Expr} {lo hi : Option Expr} {pos p2 : Pos} {c cl ch : Nat} {te : DT} {tl th : DO} (hK : X.K = G.K) (he : DE G E X c e te) (hl : PO X lo (liftO G E cl tl)) (hh : PO X hi (liftO G E ch th)) : DE G E X (c + (cl + ch)) (.Subscript e (.Slice lo hi none p2) pos) (dSl te tl th) :=
  imp (pe_slice sl_any he hl hh) fun σ H Q' h => by
    obtain ⟨W, hn, Q, ht, kk⟩ := h
    refine ⟨W, by omega, _, ht, fun v H1 d st hd hq => ⟨W.next st, by show W.m + cl ≤ W.n - c; omega, _, hq, fun l H2 st2 hq2 => ⟨(W.next st).next st2, by show W.m + ch ≤ W.n - c - cl; omega, _, hq2, fun u H3 st3 hq3 => ?_⟩⟩⟩
    have st13 : Step W (c + (cl + ch)) H3 := st.trans (st2.trans st3)
    have hd3 : Den G W.XB H3 d v := ((W.next st).next st2).den st3 ((W.next st).den st2 hd)
    cases d <;> try exact hq3.elim
    · rename_i ds
      obtain ⟨a, xs, rfl, na, ha, la, da⟩ := hd3
      refine .inl ⟨a, xs, rfl, SqL.of ha, fun p hp => kk _ _ (.lst (cutD ds l u)) (st13.new hp) (den_lst hp ((W.next st13).fresh hp) (Nat.le_trans (cutV_length xs l u) la) (denL_cut da)) hq3⟩
    · rename_i ds
      obtain ⟨a, xs, rfl, na, ha, la, da⟩ := hd3
      have hq4 : Q (.tup (cutD ds l u)) := hq3
      refine .inr ⟨a, xs, rfl, by rw [hK]; exact ha, fun ⟨h1, h2⟩ => ?_, fun _ p hp => kk _ _ (.tup (cutD ds l u)) (st13.new hp) (den_tup hp ((W.next st13).fresh hp) (Nat.le_trans (cutV_length xs l u) la) (denL_cut da)) hq4⟩
      rw [cutD_all da.length h1 h2] at hq4
      exact kk _ H3 (.tup ds) st13 ⟨a, xs, rfl, na, ha, la, da⟩ hq4
end
end Kn
set_option Elab.async false
set_option linter.all false
set_option maxRecDepth 100000
set_option maxHeartbeats 2100000
namespace Kn
open PySem L2 RZ
/-- without a test -/
theorem compL_map {tg : DG} {te : DT} {Q : List D → Prop} {env : List Sl} (f : D → D) : ∀ {ds acc : List D}, (∀ d ∈ ds, ∀ K : D → Prop, K (f d) → tg d env fun env2 => te noX env2 K) → Q (acc ++ ds.map f) → compL tg bYes te Q env ds acc
  | [], acc, _, hq => by
    unfold compL
    simpa using hq
  | d :: ds, acc, h, hq => by
    unfold compL
    refine h d List.mem_cons_self _ ?_
    exact compL_map f (fun e he => h e (List.mem_cons_of_mem _ he)) (by simpa using hq)
/-- without a test, whatever comes of each item -/
theorem compL_any {tg : DG} {te : DT} {Q : List D → Prop} {env : List Sl} (R : D → D → Prop) : ∀ {ds acc : List D}, (∀ d ∈ ds, ∀ K : D → Prop, (∀ r, R d r → K r) → tg d env fun env2 => te noX env2 K) →
    (∀ rs : List D, rs.length = ds.length → (∀ (i : Nat) (d r : D), ds[i]? = some d → rs[i]? = some r → R d r) → Q (acc ++ rs)) → compL tg bYes te Q env ds acc
  | [], acc, _, hq => by
    unfold compL
    have := hq [] rfl (fun i d r h => by simp at h)
    simpa using this
  | d :: ds, acc, h, hq => by
    unfold compL
    refine h d List.mem_cons_self _ fun r hr => ?_
    refine compL_any R (fun e he => h e (List.mem_cons_of_mem _ he)) fun rs hl hrs => ?_
    have := hq (r :: rs) (by simp [hl]) fun i d' r' h1 h2 => by
      cases i with
      | zero => simp at h1 h2; subst h1; subst h2; exact hr
      | succ i => exact hrs i d' r' (by simpa using h1) (by simpa using h2)
    simpa using this
/-- a for loop by what holds between two turns -/
theorem sForL_inv {ex : Exc → Prop} {tg : DG} {tb : DS} {de : DEnds} (I : Nat → List Sl → Prop) : ∀ {ds : List D} {env : List Sl} (n : Nat), I n env →
    (∀ (i : Nat) (d : D) (env : List Sl), ds[i]? = some d → I (n + i) env → ∀ nx : List Sl → Prop, (∀ env', I (n + i + 1) env' → nx env') → tg d env fun env2 => tb ex { de with nx := nx, ct := nx, bk := de.nx } env2) →
    (∀ env, I (n + ds.length) env → de.nx env) → sForL ex tg tb de ds env
  | [], env, n, h0, _, hd => by
    unfold sForL
    exact hd env (by simpa using h0)
  | d :: ds, env, n, h0, hs, hd => by
    unfold sForL
    refine hs 0 d env rfl h0 _ fun env' h' => ?_
    refine sForL_inv I (n + 1) h' (fun i d' env'' hi hI nx hn => ?_) (fun env'' hI => hd env'' (by rw [List.length_cons, show n + (ds.length + 1) = n + 1 + ds.length by omega]; exact hI))
    refine hs (i + 1) d' env'' (by simpa using hi) (by rw [show n + (i + 1) = n + 1 + i by omega]; exact hI) nx fun e he => hn e (by rw [show n + 1 + i + 1 = n + (i + 1) + 1 by omega]; exact he)
end Kn
set_option Elab.async false
set_option linter.all false
set_option maxRecDepth 100000
set_option maxHeartbeats 2100000
namespace Kn
open PySem L2 RZ
def D.isI : D → Bool
  | .int _ => true
  | _ => false
theorem isB_int : ∀ {d : D}, (kindS d).isSome = true → isB d "int" = some (match d with | .int _ => true | .bl _ => true | _ => false)
  | .non, _ => by decide +kernel
  | .bl b, _ => by show kitB "bool" "int" = some true; decide +kernel
  | .int i, _ => by show kitB "int" "int" = some true; decide +kernel
  | .str x, _ => by show kitB "str" "int" = some false; decide +kernel
  | .lst ds, _ => by show kitB "list" "int" = some false; decide +kernel
  | .tup ds, _ => by show kitB "tuple" "int" = some false; decide +kernel
  | .dic ks ds, _ => by show kitB "dict" "int" = some false; decide +kernel
theorem isB_bool : ∀ {d : D}, (kindS d).isSome = true → isB d "bool" = some (match d with | .bl _ => true | _ => false)
  | .non, _ => by decide +kernel
  | .bl b, _ => by show kitB "bool" "bool" = some true; decide +kernel
  | .int i, _ => by show kitB "int" "bool" = some false; decide +kernel
  | .str x, _ => by show kitB "str" "bool" = some false; decide +kernel
  | .lst ds, _ => by show kitB "list" "bool" = some false; decide +kernel
  | .tup ds, _ => by show kitB "tuple" "bool" = some false; decide +kernel
  | .dic ks ds, _ => by show kitB "dict" "bool" = some false; decide +kernel
theorem isB_list : ∀ {d : D}, (kindS d).isSome = true → isB d "list" = some (match d with | .lst _ => true | _ => false)
  | .non, _ => by decide +kernel
  | .bl b, _ => by show kitB "bool" "list" = some false; decide +kernel
  | .int i, _ => by show kitB "int" "list" = some false; decide +kernel
  | .str x, _ => by show kitB "str" "list" = some false; decide +kernel
  | .lst ds, _ => by show kitB "list" "list" = some true; decide +kernel
  | .tup ds, _ => by show kitB "tuple" "list" = some false; decide +kernel
  | .dic ks ds, _ => by show kitB "dict" "list" = some false; decide +kernel
theorem isB_tuple : ∀ {d : D}, (kindS d).isSome = true → isB d "tuple" = some (match d with | .tup _ => true | _ => false)
  | .non, _ => by decide +kernel
  | .bl b, _ => by show kitB "bool" "tuple" = some false; decide +kernel
  | .int i, _ => by show kitB "int" "tuple" = some false; decide +kernel
  | .str x, _ => by show kitB "str" "tuple" = some false; decide +kernel
  | .lst ds, _ => by show kitB "list" "tuple" = some false; decide +kernel
  | .tup ds, _ => by show kitB "tuple" "tuple" = some true; decide +kernel
  | .dic ks ds, _ => by show kitB "dict" "tuple" = some false; decide +kernel
/-- the items of a list or tuple -/
def D.items? : D → Option (List D)
  | .lst ds => some ds
  | .tup ds => some ds
  | _ => none
theorem any_seq : ∀ {d : D}, (kindS d).isSome = true → anyB d ["list", "tuple"] = some d.items?.isSome := fun {d} h => by
  unfold anyB anyB anyB
  rw [isB_list h, isB_tuple h]
  cases d <;> first | rfl | cases h
end Kn
set_option Elab.async false
set_option linter.all false
set_option maxRecDepth 100000
set_option maxHeartbeats 2100000
namespace Kn
open PySem L2 RZ
open PyProof.Rows (envOfC)
section
variable {G : Gd} {E : XK} {X : Cx} {σ : List (Option V)} {H H' : Hp} {k : Nat}
def rInTu (K : PySem.W.Frag) (f : Bool → Bool) : R2 := fun x y H Q => ∃ d ds, Dp K H x d ∧ Dp K H y (.tuple ds) ∧ SeqAt.shaped d = true ∧ SeqAt.shaped (.tuple ds) = true ∧ Q (.bl (f (ds.any fun z => PyData.eqv z d))) H
theorem op_niTu (hu : X.A.units + 65 < cLine) : OpR X (compareOp .NotIn) (rInTu X.K not) := by
  intro pins s σ H x y v u Q I rx ry h; obtain ⟨d, ds, hd, he, sd, se, q⟩ := h
  obtain ⟨as, r1⟩ := Dp.reads I d x v hd rx; obtain ⟨bs, r2⟩ := Dp.reads I (.tuple ds) y u he ry
  exact SeqAt.notIn_tuple_reads r2 r1 (SeqAt.canLay_of_shaped se) (SeqAt.canLay_of_shaped sd) (PyProof.Rows.room_in_shaped sd hu) ⟨.bl _, H, I, rfl, q⟩
def gNiT : G2 := fun d e Q => ∃ p qs es, e = .tup es ∧ pd d = some p ∧ pdL es = some qs ∧ SeqAt.shaped p = true ∧ SeqAt.shaped (.tuple qs) = true ∧ Q (.bl (!qs.any fun z => PyData.eqv z p))
theorem o_niT (hK : X.K = G.K) (hu : X.A.units + 65 < cLine) : OpR X (compareOp .NotIn) (rD G gNiT) := opr_imp (op_niTu hu) fun x y H Q' h => by
  obtain ⟨B, d, e, Q, hd, he, _, ⟨p, qs, es, e0, e1, e2, s1, s2, hq⟩, k⟩ := h
  subst e0
  exact ⟨p, qs, by rw [hK]; exact hd.dp _ _ _ e1, by rw [hK]; exact he.dp _ _ _ (by simp [pd, e2]), s1, s2, k _ H (.bl _) (Ext.refl _ _) (den_bl _) hq⟩
def dRev (te : DT) : DT := fun ex env Q => te ex env fun d => ∃ ds, d = .lst ds ∧ Q (.lst ds.reverse)
theorem DenL.reverse {B : Addr → Prop} {H : Hp} : ∀ {ds : List D} {xs : List V}, DenL G B H ds xs → DenL G B H ds.reverse xs.reverse
  | [], _, h => by cases h; rfl
  | d :: ds, _, ⟨x, r, e, h1, h2⟩ => by
    subst e
    rw [List.reverse_cons, List.reverse_cons]; exact (DenL.reverse h2).append ⟨x, [], rfl, h1, rfl⟩
theorem de_revL {e : Expr} {c : Nat} {te : DT} {kk : Nat} {p1 p2 p3 pos : Pos} (he : DE G E X c e te) : DE G E X c (.Subscript e (.Slice none none (some (.UnaryOp .USub (.Constant (.int 1) kk p1) p2)) p3) pos) (dRev te) :=
  imp (pe_revL he) fun σ H Q' h => by
    obtain ⟨W, hn, Q, ht, kk⟩ := h
    refine ⟨W, hn, _, ht, fun v H1 d st hd ⟨ds, e, hq⟩ => ?_⟩
    subst e
    obtain ⟨a, xs, rfl, na, ha, la, da⟩ := hd
    refine ⟨a, xs, rfl, SqL.of ha, fun p hp => ?_⟩
    exact kk _ _ (.lst ds.reverse) (st.new hp) (den_lst hp ((W.next st).fresh hp) (by rw [List.length_reverse]; exact la) da.reverse) hq
def sPar (i j : Nat) (u : DA) : DS := fun ex de env => u ex env fun ds => ∃ x y, ds = [x, y] ∧ de.nx ((env.set i (.val x)).set j (.val y))
theorem ds_par {i j : Nat} {x y : Str} {a b : Expr} {u : DA} {c : Nat} {px py pt pos : Pos} {kt k2 pt2} (hc : X.calm = true) (hN : X.N.Nodup) (hi : X.N[i]? = some x) (hj : X.N[j]? = some y) (hij : i ≠ j)
    (hx : X.env.scope.names.lookup x = some .local) (hy : X.env.scope.names.lookup y = some .local) (ha : DEs G E X c [a, b] u)
    (hw : swappedStores [.Tuple [.Name x px, .Name y py] kt
      pt] (.Tuple [a, b] k2 pt2) X.env = pure (some [x, y]))
    (hs : swapsWithSole [.Tuple [.Name x px, .Name y py] kt pt] (.Tuple [a, b] k2 pt2) pos.line X.env = pure false := by rfl) : DSt G E X c (.Assign [.Tuple [.Name x px, .Name y py] kt pt] (.Tuple [a, b] k2 pt2) pos) (sPar i j u) :=
  impS (ps_par hc hN hi hj hij hx hy ha hw hs) fun Dn σ H h => by
    obtain ⟨W, hn, de, ht, k1, k2, k3, k4⟩ := h
    refine ⟨W, hn, _, ht, fun vs H1 ds st hd ⟨x, y, e, hq⟩ => ?_⟩
    subst e
    obtain ⟨v, w, rfl, hv, hw⟩ := denL2 hd
    refine ⟨v, w, rfl, ?_⟩
    have hv' : Den G (W.next st).XB H1 x v := hv
    have hw' : Den G ((W.next st).put i hv').XB H1 y w := hw.fewer fun b hb => xb_val (W.next st).len hb
    exact k1 _ H1 (((W.next st).put i hv').put j hw') ((((Later.next st).trans (Later.put _ i hv')).trans (Later.put _ j hw')).more (by omega)) hq
end
end Kn
set_option Elab.async false
set_option linter.all false
set_option maxRecDepth 100000
set_option maxHeartbeats 2100000
namespace Kn
open PySem L2 RZ
open PyProof.Rows (envOfC)
section
variable {G : Gd} {E : XK} {X : Cx} {σ : List (Option V)} {H H' : Hp} {tg tg1 : Expr} {k : Nat}
theorem ext_nb {u : Option Ur} {B : Addr → Prop} {b : Addr} {o : HO} (e : Ext u H H') (hu : ∀ p, Pr u p → B p.1) (nb : ¬ B b) (h : H b = some o) : H' b = some o := e b o h (NU.of hu nb)
/-- no address that counts is free -/
theorem AccAt.free {W : Wd G E σ H} {c : Nat} {H1 H2 : Hp} {D0 : Addr} {n : Nat} {acc : List D} (st : Step W c H1) (A : AccAt G W H1 D0 n H2 acc) {p : Addr} (hp : H2 p = none) : ¬ (W.XB p ∨ p = D0) := fun hb => by
  rcases hb with hb | rfl
  · cases q : H1 p with
    | none => exact (W.next st).fresh q hb
    | some o =>
      rcases NU.em (u := W.u) (b := p) with hu | ⟨r, hr, rfl⟩
      · rw [A.keep p o q hu] at hp; cases hp
      · obtain ⟨⟨_, h1⟩, _⟩ := A.good.there hr
        rw [h1] at hp; cases hp
  · obtain ⟨xs, hxs, _⟩ := A.at_
    rw [hxs] at hp; cases hp
/-- more done beside the list -/
theorem AccAt.step {W : Wd G E σ H} {H1 H2 H3 : Hp} {D0 : Addr} {n : Nat} {acc : List D} (A : AccAt G W H1 D0 n H2 acc) (nu0 : NU W.u D0) (e : Ext W.u H2 H3) (g : Good W.u H3 n) : AccAt G W H1 D0 n H3 acc := by
  obtain ⟨⟨xs, h1, h2, h3⟩, k, _⟩ := A
  exact ⟨⟨xs, e _ _ h1 nu0, h2, h3.ext e fun p z => .inl (W.huX p z)⟩, fun b o hb nu => e _ _ (k b o hb nu) nu, g⟩
/-- one more item -/
theorem AccAt.push {W : Wd G E σ H} {H1 H2 : Hp} {D0 : Addr} {n : Nat} {acc : List D} {d : D} {y : V} {xs : List V} (A : AccAt G W H1 D0 n H2 acc) (hD : H1 D0 = none) (fr0 : ¬ W.XB D0) (hx : H2 D0 = some (.lst xs)) (hy : Den G (fun a => W.XB a ∨ a = D0) H2 d y) (hl : acc.length < sizeLine) :
    xs.length < sizeLine ∧ AccAt G W H1 D0 n (upd H2 D0 (.lst (xs ++ [y]))) (acc ++ [d]) := by
  obtain ⟨⟨xs', h1, h2, h3⟩, k, g⟩ := A
  rw [hx] at h1
  cases h1
  have el := h3.length
  have kk : ∀ b o, ¬ (W.XB b ∨ b = D0) → H2 b = some o → upd H2 D0 (.lst (xs ++ [y])) b = some o := fun b o nb hb => by rw [upd_ne (fun z => nb (.inr z))]; exact hb
  refine ⟨by omega, ⟨xs ++ [y], upd_same, by rw [List.length_append]; show xs.length + 1 ≤ _; omega, (DenL.keep kk (fun b hb => .inl hb) _ _ h3).append ⟨y, [], rfl, Den.keep kk (fun b hb => .inl hb) _ _ hy, rfl⟩⟩, fun b o hb nu => ?_, ?_⟩
  · rw [upd_ne (ne_of_none hb hD)]
    exact k b o hb nu
  · exact g.upd (fun p e => ⟨fun z => fr0 (by rw [show D0 = p.1 from z]; exact W.huX p e), fun z => fr0 (by rw [show D0 = p.2 from z]; exact .inl (W.hu p e).2)⟩) (fun φ z => by rw [hx] at z; cases z)
end
end Kn
set_option Elab.async false
set_option linter.all false
set_option maxRecDepth 100000
set_option maxHeartbeats 2100000
namespace Kn
open PySem
open PySem.Spec PyProof.Rows L2
section
variable {P : Program} {w : World} {A : Around} {E0 : Value → Shared → Prop} {s : Shared}
theorem gather_tup {t : Addr} {us : List Value} {R : List Value → Shared → Prop} (ht : IsTup s.heap t us.toArray) (hz : us.length ≤ sizeLine)
    (h : R us { s with heap := (s.heap.push (seqObj "list" #[] 0)).update s.heap.objs.size (Obj.mapSeq (· ++ us.toArray)) }) : wpAny (model P w) A (collect (.ref t)) R E0 s := by
  obtain ⟨ob, hob, hcl, n, hdt⟩ := id ht
  unfold collect
  have hob2 : (s.heap.push (seqObj "list" #[] 0)).get? t = some ob := Heap.get?_push_of_some _ hob
  have hty : (Value.type "tuple" == Value.type "tuple") = true := by rfl
  refine wpAny_bind (wpAny_runValue (codeAny_builtin entry_proto_collect' (?_ : wpAny _ _ (do again (.builtin "list.__iadd__" ⟨[← newList [], .ref t], []⟩)) _ _ s)))
  refine wpAny_bind (wpAny_newList (wpAny_pure ⟨Code.quiet_builtin _ (by decide +kernel), codeAny_builtin entry_list_iadd' (?_ : wpAny _ _ (Builtin.List.listExtendWith (.ref s.heap.objs.size) (.ref t) (.ref s.heap.objs.size)) _ _ { s with heap := s.heap.push (seqObj "list" #[] 0) })⟩))
  unfold Builtin.List.listExtendWith; refine wpAny_bind (wpAny_typeOf (T := "tuple") ⟨ob, hob2, hcl⟩ (?_))
  rw [if_pos (by rw [hty]; simp)]
  refine wpAny_bind (listItems_at hob2 hdt (wpAny_bind (listItems_at (xs := #[]) (n := 0) (Heap.get?_push_size _ rfl) rfl (?_))))
  rw [if_neg (by simp)]
  refine wpAny_bind (listUpdate_at (xs := #[]) (n := 0) (Heap.get?_push_size _ rfl) rfl (wpAny_pure (?_)) (Nat.zero_le _) (by show (#[] ++ us.toArray).size ≤ sizeLine + 1; simp only [Array.size_append, List.size_toArray, List.length_nil]; omega))
  show wpAny (model P w) A (do
      let ob ← load s.heap.objs.size
      match ob.data with
      | .seq vs _ => pure vs.toList
      | _ => unsupported "internal:collect") R E0 { s with heap := (s.heap.push (seqObj "list" #[] 0)).update s.heap.objs.size (Obj.mapSeq (· ++ us.toArray)) }
  refine wpAny_bind (wpAny_load (get?_update_seq (Heap.get?_push_size _ rfl) _) (?_))
  show wpAny _ _ (pure ((#[] : Array Value) ++ us.toArray).toList) R E0 _
  rw [show ((#[] : Array Value) ++ us.toArray).toList = us by simp]
  exact wpAny_pure h
theorem sorted_tup {t : Addr} {us : List Value} {ltv : Value → Value → Bool} {R : Value → Shared → Prop} (O : SrtO.Swo ltv) (ht : IsTup s.heap t us.toArray) (hz : us.length ≤ sizeLine)
    (hS : 2 ≤ us.length → ∀ (h₁ : Heap) (a : Addr), h₁.get? a = some (seqObj "list" us.toArray 0) → (∀ b o, s.heap.get? b = some o → b ≠ a ∧ h₁.get? b = some o) → SrtO.SortableO P w A.in1.in1 { s with heap := h₁ } a us ltv)
    (h : ∀ out : List Value, SrtO.Srtd ltv out → SrtO.Stb ltv out us → R (.ref (s.heap.objs.size + 1)) { s with heap := sortedAll s.heap us out.toArray }) : wpAny (model P w) A (call (.builtin "sorted") [.ref t]) R E0 s := by
  refine Calls.call_function_entry kind_sorted plain_sorted entry_sorted (args_sorted1 _) (?_ : wpAny _ _ (Builtin.«sorted» _) _ _ _)
  unfold Builtin.«sorted»
  refine wpAny_bind (m := checkCount "sorted" 1 1 _) (wpAny_pure (wpAny_bind (gather_tup ht hz (wpAny_bind (wpAny_newList (?_) hz)))))
  have e1 : ((s.heap.push (seqObj "list" #[] 0)).update s.heap.objs.size (Obj.mapSeq (· ++ us.toArray))).objs.size = s.heap.objs.size + 1 := by rw [Heap.size_update, size_push']
  have e2 : (((s.heap.push (seqObj "list" #[] 0)).update s.heap.objs.size (Obj.mapSeq (· ++ us.toArray))).push (seqObj "list" us.toArray 0)).get? (s.heap.objs.size + 1) = some (seqObj "list" us.toArray 0) := by rw [← e1]; exact Heap.get?_push_size _ rfl
  have kp : ∀ b o, s.heap.get? b = some o → b ≠ s.heap.objs.size + 1 ∧ (((s.heap.push (seqObj "list" #[] 0)).update s.heap.objs.size (Obj.mapSeq (· ++ us.toArray))).push (seqObj "list" us.toArray 0)).get? b = some o := fun b o q => by
    have lt : b < s.heap.objs.size := Heap.lt_size q
    refine ⟨Nat.ne_of_lt (Nat.lt_succ_of_lt lt), Heap.get?_push_of_some _ ?_⟩
    rw [Heap.get?_update_ne _ _ _ _ (Nat.ne_of_lt lt)]; exact Heap.get?_push_of_some _ q
  show wpAny _ _ _ _ _ { s with heap := ((s.heap.push (seqObj "list" #[] 0)).update s.heap.objs.size (Obj.mapSeq (· ++ us.toArray))).push (seqObj "list" us.toArray 0) }
  rw [e1]
  refine wpAny_bind (wpAny_holding (wpAny_call_entry slot_list_sort ⟨_, e2, rfl⟩ entry_list_sort (SrtO.list_sort_ord O e2 hz (fun h2 => hS h2 _ _ e2 kp) fun out hs hb => ⟨_, rfl, wpAny_pure ⟨_, rfl, h out hs hb⟩⟩) (args_list_sort _)))
end
def rSortTI (K : PySem.W.Frag) : List V → Hp → VK → Prop := fun vs H Q => ∃ (a : Addr) (ns : List Int), vs = [V.ref a] ∧ SqT K H a (ns.map V.int) ∧ ∀ (ns' : List Int) (p : Addr), ns'.Perm ns → ns'.Pairwise (· ≤ ·) → H p = none → Q (.ref p) (upd H p (.lst (ns'.map V.int)))
variable {X : Cx} {G : Gd}
theorem cr_sortTI : CallR X (.builtin "sorted") (rSortTI X.K) := by
  intro pins s σ H vs us Q I r h; obtain ⟨a, ns, rfl, hs, q⟩ := h
  obtain ⟨its, rv, hl, hz⟩ := I.tuple hs
  rw [Vals.ref1 r]
  have hi := rv.ints
  refine sorted_tup SrtO.swo_int hl (by rw [← rv.length]; exact hz) (fun h2 h₁ a' _ _ => SrtO.ints_sortable hi h2) fun out h1 h2 => ?_
  obtain ⟨k1, k2, k3⟩ := SrtO.ints_out hi h1 h2; obtain ⟨ep, he'⟩ := sortedAll_at s.heap its out.toArray
  have hlen : ((out.map SrtO.iv).map V.int).length ≤ sizeLine := by rw [List.length_map, k2.length_eq]; rw [List.length_map] at hz; exact hz
  refine ⟨V.ref (s.heap.objs.size + 1), _, I.laid (t' := s.toks) (o := .lst ((out.map SrtO.iv).map V.int)) (fun _ _ => sortedAll_old) (Nat.le_succ _) ⟨hlen, out, ep, vals_of_ints k1, he'⟩, rfl, q _ _ k2 k3 (I.hok.fresh (Nat.le_succ _))⟩
def gSortA : D → (D → Prop) → Prop := fun d Q => ∃ ns : List Int, (d = .lst (ns.map D.int) ∨ d = .tup (ns.map D.int)) ∧ ∀ ns' : List Int, ns'.Perm ns → ns'.Pairwise (· ≤ ·) → Q (.lst (ns'.map D.int))
theorem c_sortA (hK : X.K = G.K) : CallR X (.builtin "sorted") (rDL G (g1 gSortA)) := by
  intro pins s σ H vs us Q' I r h
  obtain ⟨B, d, x, Q, rfl, hd, hf, ⟨ns, hds, hq⟩, k⟩ := rDL1 h
  have fin : ∀ (ns' : List Int) (p : Addr), ns.length ≤ sizeLine → ns'.Perm ns → ns'.Pairwise (· ≤ ·) → H p = none → Q' (.ref p) (upd H p (.lst (ns'.map V.int))) := fun ns' p hl h1 h2 hp =>
    k _ _ (.lst (ns'.map D.int)) (Ext.new hp) (den_lst hp (hf p hp) (by rw [List.length_map, h1.length_eq]; exact hl) DenL.of_ints) (hq ns' h1 h2)
  rcases hds with rfl | rfl
  · obtain ⟨a, ys, rfl, na, ha, la, da⟩ := hd
    have := da.ints
    subst this
    exact cr_sortedI pins s σ H _ us Q' I r ⟨a, ns, rfl, SqL.of ha, fun ns' p h1 h2 hp => fin ns' p (by simpa using la) h1 h2 hp⟩
  · obtain ⟨a, ys, rfl, na, ha, la, da⟩ := hd
    have := da.ints
    subst this
    exact cr_sortTI pins s σ H _ us Q' I r ⟨a, ns, rfl, by rw [hK]; exact ha, fun ns' p h1 h2 hp => fin ns' p (by simpa using la) h1 h2 hp⟩
end Kn
set_option Elab.async false
set_option linter.all false
set_option maxRecDepth 100000
set_option maxHeartbeats 2100000
namespace Kn
open PySem
open PySem.Spec PyProof.Rows L2
section
variable {G : Gd} {E : XK} {X : Cx} {σ : List (Option V)} {H H' : Hp} {k : Nat}
open RZ
def gType : D → (D → Prop) → Prop := fun d Q => ∃ c ds, d = .ins c ds ∧ Q (.opq (.ref (G.cl c)))
theorem c_type : CallR X (.type "type") (rDL G (g1 (gType (G := G)))) := callr_imp cr_type fun xs H Q' h => by
  obtain ⟨B, d, x, Q, rfl, hd, hf, ⟨c, ds, rfl, hq⟩, kk⟩ := rDL1 h
  obtain ⟨a, dx, ys, rfl, na, ha, la, da⟩ := hd
  exact ⟨a, _, dx, _, rfl, ha, kk _ H (.opq (.ref (G.cl c))) (Ext.refl _ _) (den_opq _) hq⟩
def gIsC : G2 := fun d e Q => ∃ a, d = .opq (.ref a) ∧ e = .opq (.ref a) ∧ Q (.bl true)
theorem o_isC : OpR X (compareOp .Is) (rD G gIsC) := opr_imp op_is_cls fun x y H Q' h => by
  obtain ⟨B, d, e, Q, hd, he, _, ⟨a, rfl, rfl, hq⟩, kk⟩ := h
  exact ⟨a, a, hd, he, .inl rfl, kk _ H (.bl true) (Ext.refl _ _) (by rw [decide_eq_true rfl]; exact den_bl _) hq⟩
/-- the values in the parameters' order: ix tells for each parameter where its value stands -/
structure Kk (K : PySem.W.Frag) (fd : FuncData) (ps ks : List Str) (ix : List Nat) : Prop where
  to : ∀ (s : Shared) (us : List Value), K.In s.heap → us.length = ks.length → BindsTo s fd ⟨[], ks.zip us⟩ (ps.zip (ix.map fun i => us.getD i .none))
  ok : ∀ i ∈ ix, i < ks.length
  len : ix.length = ps.length
theorem Kk.all {K : PySem.W.Frag} {fd : FuncData} {ps ks : List Str} {ix : List Nat} (h : ∀ us : List Value, us.length = ks.length → bindArgs fd ⟨[], ks.zip us⟩ = pure (ps.zip (ix.map fun i => us.getD i .none))) (h2 : ∀ i ∈ ix, i < ks.length) (h3 : ix.length = ps.length) : Kk K fd ps ks ix :=
  ⟨fun s us _ hl => .of_eq (h us hl), h2, h3⟩
theorem vals_perm {xs : List V} {us : List Value} (r : Vals xs us) : ∀ {ix : List Nat}, (∀ i ∈ ix, i < xs.length) → Vals (ix.map fun i => xs.getD i .non) (ix.map fun i => us.getD i .none)
  | [], _ => .nil
  | i :: ix, h => by
    have hi := h i List.mem_cons_self
    have hl := r.length
    refine .cons ?_ (vals_perm r fun j hj => h j (List.mem_cons_of_mem _ hj))
    obtain ⟨u, hu, ru⟩ := r.get (List.getElem?_eq_getElem hi)
    show RelV (xs.getD i .non) (us.getD i .none)
    rw [List.getD_eq_getElem?_getD, List.getD_eq_getElem?_getD, List.getElem?_eq_getElem hi, hu]
    exact ru
theorem denL_perm {B : Addr → Prop} {ds : List D} {xs : List V} (h : DenL G B H ds xs) : ∀ {ix : List Nat}, (∀ i ∈ ix, i < ds.length) → DenL G B H (ix.map fun i => ds.getD i .non) (ix.map fun i => xs.getD i .non)
  | [], _ => rfl
  | i :: ix, hx => by
    have hi := hx i List.mem_cons_self
    obtain ⟨x, e1, e2⟩ := h.get (List.getElem?_eq_getElem hi)
    refine ⟨xs.getD i .non, _, rfl, ?_, denL_perm h fun j hj => hx j (List.mem_cons_of_mem _ hj)⟩
    show Den G B H (ds.getD i .non) (xs.getD i .non)
    rw [List.getD_eq_getElem?_getD, List.getD_eq_getElem?_getD, List.getElem?_eq_getElem hi, e1]
    exact e2
structure FkK (G : Gd) (P : Program) (w : World) (mg : Str → Option Value) (base : Heap) (k : Nat) (x : Str) (ps ks : List Str) (ix : List Nat) (cf : Nat) (S : FSpec) : Prop where
  ex : ∃ (f : Addr) (fd : FuncData), FnD G P w mg base k f fd ps cf S ∧ mg x = some (.ref f) ∧ PySem.W.keepIn G.K (.ref f) = true ∧ Kk G.K fd ps ks ix
def dCallK (n : Nat) (ix : List Nat) (S : FSpec) (u : DA) : DT := fun ex env Q => u ex env fun ds => ds.length = n ∧ S (ix.map fun i => ds.getD i .non) Q ex
theorem de_callk {j : Nat} {x : Str} {ps ks : List Str} {ix : List Nat} {c cf : Nat} {S : FSpec} {kws : List Keyword} {u : DA} {p pos : Pos} (F : FkK G X.prog X.w X.mg X.base j x ps ks ix cf S) (xk : Xk G E k X) (ha : DK G E X c kws u) (hj : j ≤ k := by decide) (hg : Gl X x := by rfl) (hdb : (x == ("__debug__" : Str)) = false := by decide)
    (hall : (backToKw pos (keywordEach kws X.env)).all (·.1.isSome) = true := by rfl) (hks : (backToKw pos (keywordEach kws X.env)).filterMap (·.1) = ks := by rfl)
    (hpl : ((backTo pos (starEach [] X.env)).any (·.1) || (backToKw pos (keywordEach kws X.env)).any (·.1.isNone)) = false := by rfl) : DE G E X (c + cf) (.Call (.Name x p) [] kws pos) (dCallK ks.length ix S u) := by
  obtain ⟨f, fd, hF0, hm, hk, hb⟩ := F.ex
  have hF := hF0.mono hj
  rw [← xk.K] at hk hb
  refine ⟨fun pins s σ H Q' I h => ?_⟩
  obtain ⟨W, hn, Q, ht, kk⟩ := h
  have args := ha.run pos pins s σ H (fun vs H1 => vs.length = ks.length ∧ liftF G cf S (ix.map fun i => vs.getD i .non) H1 Q' E) I ⟨W, by omega, _, ht, fun vs H1 ds st hd ⟨hl, hs⟩ => ⟨by rw [← hd.length]; exact hl, lift_callee st hn (denL_perm hd fun i hi => by rw [hl]; exact hb.ok i hi) hs kk⟩⟩
  refine wpAny_Call_Name_kw (ld_glob I hg hm ?_ hdb); refine PySem.W.callWith_KW0 (h₀ := X.base) I.ok.mod.kin hk hall (thn args fun us s1 ⟨vs, H1, I1, r1, hl, q1⟩ => ⟨I1.kIn, ?_⟩) hpl
  rw [hks]
  refine wpAny_call ?_
  exact run_fnd (hK := xk.K) hF xk.room xk.gd xk.pass I1 (vals_perm r1 fun i hi => by rw [hl]; exact hb.ok i hi) (by rw [List.length_map]; exact hb.len) _ (hb.to s1 us I1.kIn (by rw [← r1.length]; exact hl)) q1
end
end Kn
set_option Elab.async false
set_option linter.all false
set_option maxRecDepth 100000
set_option maxHeartbeats 2100000
namespace Kn
open PySem L2 RZ
open PyProof.Rows (envOfC)
section
variable {G : Gd} {E : XK} {X : Cx} {σ : List (Option V)} {H H' : Hp} {k : Nat}
structure Fq (G : Gd) (P : Program) (w : World) (mg : Str → Option Value) (base : Heap) (k : Nat) (c : Nat) (cf : Nat) (S : FSpec) : Prop where
  ex : ∃ (f : Addr) (fd : FuncData) (ps : List Str), FnD G P w mg base k f fd ps cf S ∧ PySem.W.findIn G.K (.ref (G.cl c)) "__eq__" = some (some (.ref f)) ∧ PySem.W.isFn G.K (.ref f) = true ∧ Binds G.K fd ps [] ∧ ps.length = 2
end
end Kn
set_option Elab.async false
set_option linter.all false
set_option maxRecDepth 100000
set_option maxHeartbeats 2100000
namespace Kn
open PySem L2 RZ
open PyProof.Rows (envOfC)
end Kn
set_option Elab.async false
set_option linter.all false
set_option maxRecDepth 100000
set_option maxHeartbeats 2100000
namespace Kn
open PySem L2 RZ
theorem shaped_int (i : Int) : SeqAt.shaped (.int i) = true := by rfl
theorem eq_int {a b : Int} {Q : D → Prop} (h : Q (.bl (a == b))) : gEq (.int a) (.int b) Q := ⟨_, _, rfl, rfl, shaped_int a, shaped_int b, h⟩
theorem ne_int {a b : Int} {Q : D → Prop} (h : Q (.bl (!(a == b)))) : gNe (.int a) (.int b) Q := ⟨_, _, rfl, rfl, shaped_int a, shaped_int b, h⟩
theorem pdL_int : ∀ is : List Int, pdL (is.map D.int) = some (is.map PyData.int)
  | [] => rfl
  | i :: is => by simp [pdL, pd, pdL_int is]
theorem eqvAll_int : ∀ is js : List Int, PyData.eqvAll (is.map PyData.int) (js.map PyData.int) = (is == js)
  | [], [] => rfl
  | [], _ :: _ => rfl
  | _ :: _, [] => rfl
  | i :: is, j :: js => by
    show ((i == j) && PyData.eqvAll (is.map PyData.int) (js.map PyData.int)) = _
    rw [eqvAll_int is js]
    rfl
theorem lay_int : ∀ is : List Int, PyData.canLayAll0 (is.map PyData.int) = true
  | [] => rfl
  | i :: is => by
    show (true && PyData.canLayAll0 (is.map PyData.int)) = true
    rw [lay_int is]; rfl
theorem depth_int : ∀ is : List Int, PyData.depthAll (is.map PyData.int) ≤ 1
  | [] => by decide
  | i :: is => by
    show max _ (PyData.depthAll (is.map PyData.int)) ≤ 1
    exact Nat.max_le.mpr ⟨Nat.zero_le _, depth_int is⟩
theorem eq_row {is js : List Int} {Q : D → Prop} (hr : ∀ is : List Int, SeqAt.shaped (.tuple (is.map PyData.int)) = true) (h : Q (.bl (is == js))) : gEq (.tup (is.map D.int)) (.tup (js.map D.int)) Q :=
  ⟨_, _, by simp [pd, pdL_int], by simp [pd, pdL_int], hr is, hr js, by rw [show PyData.eqv (.tuple (is.map PyData.int)) (.tuple (js.map PyData.int)) = PyData.eqvAll (is.map PyData.int) (js.map PyData.int) from rfl, eqvAll_int]; exact h⟩
theorem shaped_row (is : List Int) : SeqAt.shaped (.tuple (is.map PyData.int)) = true := by
  unfold SeqAt.shaped
  rw [show PyData.canLay0 (.tuple (is.map PyData.int)) = PyData.canLayAll0 (is.map PyData.int) from rfl, lay_int, Bool.true_and]
  have := depth_int is
  exact decide_eq_true (by show PyData.depthAll (is.map PyData.int) + 1 ≤ 64; omega)
end Kn
set_option Elab.async false
set_option linter.all false
set_option maxRecDepth 100000
set_option maxHeartbeats 2100000
namespace Kn
open PySem L2 RZ
section
variable {G : Gd} {E : XK} {X : Cx} {σ : List (Option V)} {H H' : Hp} {k : Nat}
theorem denL_rg {B : Addr → Prop} {H : Hp} (a : Int) : ∀ n : Nat, DenL G B H ((List.range n).map fun (i : Nat) => D.int (a + (i : Int))) ((List.range n).map fun i => V.int (a + (i : Nat))) := fun n => by
  have h : ∀ l : List Nat, DenL G B H (l.map fun (i : Nat) => D.int (a + (i : Int))) (l.map fun i => V.int (a + (i : Nat))) := fun l => by
    induction l with
    | nil => rfl
    | cons x l ih => exact ⟨_, _, rfl, rfl, ih⟩
  exact h _
/-- list(range(n)) -/
def dListRg (te : DT) : DT := fun ex env Q => te ex env fun d => ∃ n : Int, d = .int n ∧ n ≤ 16777216 ∧ -(2 ^ 62) ≤ n ∧ Q (.lst (rangeD 0 n.toNat))
theorem de_listRange {a : Expr} {c : Nat} {te : DT} {p p2 pos pos2 : Pos} (hc : X.calm = true) (hm : X.mg "list" = none) (hm2 : X.mg "range" = none) (ha : DE G E X c a te) (hg : Gl X "list" := by rfl) (hg2 : Gl X "range" := by rfl)
    (na : starEach [a] X.env = (false, eval a X.env) :: starEach [] X.env := by rfl) (nb : starEach [.Call (.Name "range" p2) [a] [] pos2] X.env = (false, eval (.Call (.Name "range" p2) [a] [] pos2) X.env) :: starEach [] X.env := by rfl) :
    DE G E X c (.Call (.Name "list" p) [.Call (.Name "range" p2) [a] [] pos2] [] pos) (dListRg te) :=
  imp (pe_listRg hc hg hm (prg_1 hg2 hm2 ha na) nb) fun σ H Q' h => by
    obtain ⟨W, hn, Q, ht, kk⟩ := h
    refine ⟨W, hn, _, ht, fun v H1 d st hd ⟨n, e, h1, h2, hq⟩ => ?_⟩
    subst e
    cases hd
    refine ⟨n, rfl, ⟨by omega, by omega, by omega, by omega, by omega⟩, fun q hq0 => ?_⟩
    have e2 : rgV 0 n = (List.range n.toNat).map fun i => V.int (0 + (i : Nat)) := by unfold rgV; rw [Int.sub_zero]
    refine kk _ _ (.lst (rangeD 0 n.toNat)) (st.new hq0) (den_lst hq0 ((W.next st).fresh hq0) (by rw [rgV_length, sizeLine_eq]; omega) ?_) hq
    rw [e2]
    exact denL_rg 0 n.toNat
end
end Kn
set_option Elab.async false
set_option linter.all false
set_option maxRecDepth 100000
set_option maxHeartbeats 2100000
namespace Kn
open PySem L2 RZ
end Kn
set_option Elab.async false
set_option linter.all false
set_option maxRecDepth 100000
set_option maxHeartbeats 2100000
namespace GQ
open PySem PySem.SeqAt PySem.Spec PyProof.Rows
open AutoSeq1
 (wpAny_loadPart')
open MeetsSeq
open MeetsSeq2 MeetsSeq3 SeqRoads2
section
variable {P : Program} {w : World} {A
  : Around} {R : Result → Shared → Prop}
theorem tup_hasG (l : Addr) (its : Array Value) (n : Nat) (dd : Option Addr) (sl : Array (Option Value)) (x : Value) (I : Nat → Shared → Prop)
    (turn : ∀ i (h : i < its.size) s, I i s → wpAny (model P w) A.in1 (eqBool its[i] x) (fun r s' => if r = true then R (.ok (.ret (.bool true))) s' else I (i + 1) s') (fun e s' => R (.error e) s') s)
    (fin : ∀ s, I its.size s → R (.ok (.ret (.bool false))) s) {s : Shared} (hl : s.heap.get? l = some { cls := .type "tuple", dict := dd, data := .seq its n, slots := sl }) (h : I 0 s) :
    wpAny (model P w) A.in1 (Builtin.«tuple.__contains__» ⟨[.ref l, x], []⟩) (FinOf P w A R) (fun e s' => R (.error e) s') s := by
  have h0 := h; obtain ⟨hp, g, d, tk, os⟩ := s
  wp_walk using wpAny_loadPart' hl, wpAny_forIn_array _ (fun rest b s' => b.1 = none ∧ ∃ i, rest = its.toList.drop i ∧ i ≤ its.size ∧ I i s') _
  case turn =>
    rintro y rest b s' ⟨hb', i, hz, hi, hI⟩
    have hlt : i < its.toList.length := by
      rcases Nat.lt_or_ge i its.toList.length with z | z
      · exact z
      · rw [List.drop_of_length_le z] at hz; cases hz
    have h1 : i < its.size := by simpa using hlt
    rw [List.drop_eq_getElem_cons
      hlt] at hz
    injection hz with hy hrest
    have hy' : y = its[i] := by simpa using hy
    subst hy'
    refine wpAny_bind (wpAny_mono (turn i h1 s' hI) (fun r s2 q2 => ?_) fun _ _ z => z)
    cases r with
    | true =>
      rw [if_pos rfl] at q2
      wp_walk
      simpa using q2
    | false =>
      rw [if_neg Bool.false_ne_true] at q2
      wp_walk
      exact ⟨rfl, i +
        1, hrest, h1, q2⟩
  case fin =>
    rintro ⟨b1, b2⟩ s' ⟨hb', i, hz, hi, hI⟩; simp only at hb'
    subst hb'
    have hge : its.size ≤ i := by
      rcases Nat.lt_or_ge i its.toList.length with z | z
      · rw [List.drop_eq_getElem_cons z] at hz; cases hz
      · simpa using z
    have e : i = its.size := by omega
    have hR := fin s' (e ▸ hI)
    wp_walk
    simpa using hR
  case h =>
    exact ⟨rfl, 0, rfl,
      Nat.zero_le _, h0⟩
end
section
variable {P : Program} {w : World} {A : Around}
  {E : Value → Shared → Prop} {s : Shared}
theorem in_tupG {l : Addr} {its : Array Value} {x : Value} {Q : Value → Shared → Prop} (hl : s.heap.IsTuple l its) (I : Nat → Shared → Prop)
    (turn : ∀ i (h : i < its.size) s, I i s → wpAny (model P w) A.in1 (eqBool its[i] x) (fun r s' => if r = true then Q (.bool true) s' else I (i + 1) s') E s)
    (fin : ∀ s, I its.size s → Q (.bool false) s) (h : I 0 s) : wpAny (model P w) A (compareOp .In x (.ref l)) Q E s := by
  obtain ⟨⟨cls, dd, data, sl⟩, ho, hc, n, hd⟩ := id hl; simp only at hc hd
  subst hc hd
  refine (?_ : wpAny _ A (do return .bool (← contains (.ref l) x)) Q E s)
  refine wpAny_bind (wpAny_contains_slot ⟨_, ho, rfl⟩ F.slot_tuple_contains (wpAny_mono (call_here (Q := fun v s' => ∃ b, v = .bool b ∧ Q (.bool b) s') F.slot_tuple_contains ⟨_, ho, rfl⟩ F.entry_tuple_contains (F.args_tuple_contains_2 _ _) ?_) (fun v s' hv => ?_) fun _ _ e => e))
  · exact tup_hasG (R := wants (fun v s' => ∃ b, v = .bool b ∧ Q (.bool b) s') E) l its n dd sl x I (fun i h1 s' q => wpAny_mono (turn i h1 s' q) (fun r s2 q2 => by
      cases r with
      | true => exact ⟨true, rfl, q2⟩
      | false => exact q2) fun _ _ z => z) (fun s' q => ⟨false, rfl, fin s' q⟩) ho h
  · obtain ⟨b, rfl, hq⟩ := hv
    exact wpAny_truthy_bool
      (wpAny_pure hq)
end
end GQ
namespace Kn
open PySem L2 RZ
section
variable {G : Gd} {E : XK} {X : Cx} {σ : List (Option V)} {H H' : Hp} {k : Nat}
/-- x in t: both of things of the class c with the own ==; whether each item is like x is told by its spec -/
def inI (c : Nat) (S : FSpec) (x : D) (Q : D → Prop) (ex : Exc → Prop) : List D → Prop
  | [] => Q (.bl false)
  | d :: ds => ∃ es, d = .ins c es ∧ Q (.bl true) ∧ S [d, x] (fun r => ∃ b, r = .bl b ∧ (b = false → inI c S x Q ex ds)) ex
end
end Kn
set_option Elab.async false
set_option linter.all false
set_option maxRecDepth 100000
set_option maxHeartbeats 2100000
namespace Kn
open PySem L2 RZ
end Kn
set_option Elab.async false
set_option linter.all false
set_option maxRecDepth 100000
set_option maxHeartbeats 2100000
namespace Kn
open PySem L2 RZ
end Kn
set_option Elab.async false
set_option linter.all false
set_option maxRecDepth 100000
set_option maxHeartbeats 2100000
namespace Kn
open PySem L2
end Kn
set_option Elab.async false
set_option linter.all false
set_option maxRecDepth 100000
set_option maxHeartbeats 2100000
namespace Kn
open PySem L2
section
variable {G : Gd} {E : XK} {X : Cx} {σ : List (Option V)} {H H' : Hp}
mutual
def flatD : D → Bool
  | .non => true
  | .bl _ => true
  | .int _ => true
  | .str _ => true
  | .tup ds => flatL ds
  | _ => false
def flatL : List D → Bool
  | [] => true
  | d :: ds => flatD d && flatL ds
end
/-- no tuple stands at b -/
def NoTup (H : Hp) (b : Addr) : Prop := ∃ o, H b = some o ∧ (∀ xs, o ≠ .tup xs) ∧ ∀ q xs, o ≠ .frz q (.tup xs)
mutual
theorem Den.flat {B B' : Addr → Prop} (hb : ∀ b, B' b → B b ∨ NoTup H b) : ∀ (d : D) (v : V), flatD d = true → Den G B H d v → Den G B' H d v
  | .non, _, _, h => h
  | .bl _, _, _, h => h
  | .int _, _, _, h => h
  | .str _, _, _, h => h
  | .tup ds, v, f, ⟨a, xs, e, nb, hs, hl, hd⟩ => by
    rcases nb with nb | nb
    · rcases hs with h | h
      · refine ⟨a, xs, e, .inl fun z => ?_, .inl h, hl, DenL.flat hb ds xs f hd⟩
        rcases hb a z with q | ⟨o, ho, n1, n2⟩
        · exact nb q
        · rcases h with h | ⟨q, h⟩
          · rw [h] at ho; cases ho; exact n1 xs rfl
          · rw [h] at ho; cases ho; exact n2 q xs rfl
      · exact ⟨a, xs, e, .inr h, .inr h, hl, DenL.flat hb ds xs f hd⟩
    · exact ⟨a, xs, e, .inr nb, hs, hl, DenL.flat hb ds xs f hd⟩
  | .lst _, _, f, _ => by simp [flatD] at f
  | .ins _ _, _, f, _ => by simp [flatD] at f
  | .opq _, _, f, _ => by simp [flatD] at f
  | .urn, _, f, _ => by simp [flatD] at f
  | .at_ _ _, _, f, _ => by simp [flatD] at f
  | .dct _ _, _, f, _ => by simp [flatD] at f
  | .tupn _, _, f, _ => by simp [flatD] at f
  | .exc _ _, _, f, _ => by simp [flatD] at f
  | .dic _ _, _, f, _ => by simp [flatD] at f
  | .dcT _ _, _, f, _ => by simp [flatD] at f
  | .dcf _ _, _, f, _ => by simp [flatD] at f
theorem DenL.flat {B B' : Addr → Prop} (hb : ∀ b, B' b → B b ∨ NoTup H b) : ∀ (ds : List D) (xs : List V), flatL ds = true → DenL G B H ds xs → DenL G B' H ds xs
  | [], _, _, h => h
  | d :: ds, xs, f, ⟨x, r, e, h1, h2⟩ => by
    have f' : (flatD d && flatL ds) = true := f
    rw [Bool.and_eq_true] at f'
    exact ⟨x, r, e, Den.flat hb d x f'.1 h1, DenL.flat hb ds r f'.2 h2⟩
end
/-- a slot of the frame's own, taken for a value -/
def LendOk (G : Gd) (s : Sl) (v : D) : Prop := (∃ a ds, s = .own a ds ∧ v = .lst ds) ∨ (∃ a dx c ds, s = .slf a dx c ds ∧ v = .ins c ds ∧ ds.length = (G.fl c).length) ∨ ∃ a ks ds, s = .dic a ks ds ∧ v = .dcT ks ds
theorem LendOk.mine {s : Sl} {v : D} (h : LendOk G s v) : s.mine = true := by
  rcases h with ⟨a, ds, rfl, _⟩ | ⟨a, dx, c, ds, rfl, _⟩ | ⟨a, ks, ds, rfl, _⟩ <;> rfl
/-- the state in which a slot of the frame's own is taken for a value -/
theorem wd_lend (W : Wd G E σ H) {i : Nat} {s : Sl} {v : D} (he : W.env[i]? = some s) (ok : LendOk G s v) :
    ∃ (W' : Wd G E σ H) (a : Addr), W'.env = W.env.set i (.val v) ∧ W'.u = W.u ∧ W'.n = W.n ∧ W'.m = W.m ∧ W'.B = W.B ∧ W'.ex = W.ex ∧ W'.H0 = W.H0 ∧ σ[i]? = some (some (.ref a)) ∧ W.H0 a = none ∧ NoTup H a ∧ (∀ b, W.XB b → W'.XB b ∨ b = a) ∧ (∀ b, W'.XB b → W.XB b ∧ b ≠ a) := by
  have hil : i < W.env.length := (List.getElem?_eq_some_iff.mp he).1
  have hm := ok.mine
  have hsl := W.sl i _ he
  have hat : ∃ a o, σ[i]?.join = some (V.ref a) ∧ W.H0 a = none ∧ H a = some o ∧ (∀ xs, o ≠ .tup xs) ∧ (∀ q xs, o ≠ .frz q (.tup xs)) := by
    rcases ok with ⟨a, ds, rfl, _⟩ | ⟨a, dx, c, ds, rfl, _⟩ | ⟨a, ks, ds, rfl, _⟩
    · obtain ⟨xs, e1, h0, ha, _⟩ := hsl
      exact ⟨a, _, e1, h0, ha, fun _ z => (by cases z), fun _ _ z => (by cases z)⟩
    · obtain ⟨xs, e1, h0, ha, _⟩ := hsl
      exact ⟨a, _, e1, h0, ha, fun _ z => (by cases z), fun _ _ z => (by cases z)⟩
    · obtain ⟨L, e1, h0, ha, _⟩ := hsl
      exact ⟨a, _, e1, h0, ha, fun _ z => (by cases z), fun _ _ z => (by cases z)⟩
  obtain ⟨a, o, e1, h0, ha, n1, n2⟩ := hat
  have hsi := join_some e1
  have xb : ∀ b, XBof W.B (W.env.set i (.val v)) σ b → W.XB b ∧ b ≠ a := fun b hb => by
    rcases hb with hb | ⟨j, t, f1, m1, f2⟩
    · exact ⟨.inl hb, fun z => W.own_ne h0 (by rw [← z]; exact hb)⟩
    · by_cases hj : i = j
      · subst hj
        rw [List.getElem?_set_self hil] at f1; cases f1; cases m1
      · rw [List.getElem?_set_ne hj] at f1
        exact ⟨.inr ⟨j, t, f1, m1, f2⟩, fun z => hj (W.nd i j a _ t he f1 hm m1 hsi (by rw [← z]; exact f2))⟩
  have old : ∀ {j : Nat} {t : Sl}, (W.env.set i (.val v))[j]? = some t → t.mine = true → W.env[j]? = some t := fun {j t} f m => by
    by_cases hj : i = j
    · subst hj; rw [List.getElem?_set_self hil] at f; cases f; cases m
    · rw [List.getElem?_set_ne hj] at f; exact f
  refine ⟨{ u := W.u, n := W.n, m := W.m, B := W.B, H0 := W.H0, env := W.env.set i (.val v), ex := W.ex, ug := W.ug, hu := W.hu, hB := W.hB, fr := W.fr, good := W.good, len := by rw [List.length_set]; exact W.len, sl := fun j t e => ?_, nd := fun j l b t r f1 f2 m1 m2 f3 f4 => W.nd j l b t r (old f1 m1) (old f2 m2) m1 m2 f3 f4, exc := W.exc }, a, rfl, rfl, rfl, rfl, rfl, rfl, rfl, hsi, h0, ⟨o, ha, n1, n2⟩, fun b hb => ?_, xb⟩
  · by_cases hj : i = j
    · subst hj
      rw [List.getElem?_set_self hil] at e
      cases e
      rcases ok with ⟨a', ds, rfl, rfl⟩ | ⟨a', dx, c, ds, rfl, rfl, hcl⟩ | ⟨a', ks, ds, rfl, rfl⟩
      · obtain ⟨xs, e2, _, ha', hl, hd⟩ := hsl
        rw [e1] at e2; cases e2
        exact ⟨.ref a, e1, a, xs, rfl, fun z => (xb a z).2 rfl, ha', hl, hd.fewer fun b hb => (xb b hb).1⟩
      · obtain ⟨xs, e2, _, ha', hl, hd⟩ := hsl
        rw [e1] at e2; cases e2
        exact ⟨.ref a, e1, a, dx, xs, rfl, fun z => (xb a z).2 rfl, ha', by rw [← hd.length]; exact hcl, hd.fewer fun b hb => (xb b hb).1⟩
      · obtain ⟨L, e2, _, ha', hk, hx, hd⟩ := hsl
        rw [e1] at e2; cases e2
        exact ⟨.ref a, e1, a, L, rfl, fun z => (xb a z).2 rfl, ha', hk, hx.keep (fun _ _ _ h => h) (fun b hb => .inl (xb b hb).1), hd.fewer fun b hb => (xb b hb).1⟩
    · rw [List.getElem?_set_ne hj] at e
      exact (W.sl j t e).fewer fun b hb => (xb b hb).1
  · rcases hb with hb | ⟨j, t, f1, m1, f2⟩
    · exact .inl (.inl hb)
    · by_cases hj : i = j
      · subst hj
        rw [hsi] at f2; cases f2
        exact .inr rfl
      · exact .inl (.inr ⟨j, t, by show (W.env.set i (.val v))[j]? = some t; rw [List.getElem?_set_ne hj]; exact f1, m1, f2⟩)
theorem NoTup.ext {u : Option Ur} {b : Addr} (h : NoTup H b) (e : Ext u H H') (n : NU u b) : NoTup H' b := by
  obtain ⟨o, ho, h1⟩ := h
  exact ⟨o, e b o ho n, h1⟩
def dLend (G : Gd) (i : Nat) (te : DT) : DT := fun ex env Q => ∃ s v, env[i]? = some s ∧ LendOk G s v ∧ te ex (env.set i (.val v)) fun d => flatD d = true ∧ Q d
def bLend (G : Gd) (i : Nat) (t : DB) : DB := fun ex env Q => ∃ s v, env[i]? = some s ∧ LendOk G s v ∧ t ex (env.set i (.val v)) Q
theorem lend_un (W : Wd G E σ H) {a : Addr} (h0 : W.H0 a = none) : NU W.u a := W.nu h0
theorem de_lend (i : Nat) {e : Expr} {c : Nat} {te : DT} (h : DE G E X c e te) : DE G E X c e (dLend G i te) := imp h fun σ H Q' hh => by
  obtain ⟨W, hn, Q, ⟨s, v, he, ok, ht⟩, kk⟩ := hh
  obtain ⟨W1, a, w1, w2, w3, w4, w5, w6, w7, hsi, h0, nt, x1, x2⟩ := wd_lend W he ok
  refine ⟨W1, by rw [w3, w4]; exact hn, fun d => flatD d = true ∧ Q d, by rw [w1, w6]; exact ht, fun x H' d st hd ⟨fl, hq⟩ => ?_⟩
  have st' : Step W c H' := ⟨by rw [← w2]; exact st.ext, by rw [← w2, ← w3]; exact st.good⟩
  refine kk x H' d st' (Den.flat (fun b hb => ?_) d x fl hd) hq
  rcases x1 b hb with z | rfl
  · exact .inl z
  · exact .inr (nt.ext st'.ext (lend_un W h0))
theorem dt_lend (i : Nat) {e : Expr} {c : Nat} {t : DB} (h : DPt G E X c e t) : DPt G E X c e (bLend G i t) := impT h fun σ H Q' hh => by
  obtain ⟨W, hn, Q, ⟨s, v, he, ok, ht⟩, kk⟩ := hh
  obtain ⟨W1, a, w1, w2, w3, w4, w5, w6, w7, hsi, h0, nt, x1, x2⟩ := wd_lend W he ok
  refine ⟨W1, by rw [w3, w4]; exact hn, Q, by rw [w1, w6]; exact ht, fun b H' st hq => ?_⟩
  exact kk b H' ⟨by rw [← w2]; exact st.ext, by rw [← w2, ← w3]; exact st.good⟩ hq
end
end Kn
set_option Elab.async false
set_option linter.all false
set_option maxRecDepth 100000
set_option maxHeartbeats 2100000
namespace Kn
open PySem L2 RZ
open PyProof.Rows (envOfC)
section
variable {G : Gd} {E : XK} {X : Cx} {σ : List (Option V)} {H H' : Hp} {k : Nat}
/-- fields, arguments; what holds of the answer and the new fields -/
abbrev MSpec := List D → List D → (D → List D → Prop) → Prop
def liftM (G : Gd) (c cid : Nat) (S : MSpec) : Sp := fun vs H Q _ => ∃ (u : Option Ur) (n : Nat) (B : Addr → Prop) (fs ds : List D) (R : D → List D → Prop) (x dx : Addr) (vs' xs : List V),
  u = G.u ∧ vs = .ref x :: vs' ∧ H x = some (.ins (G.cl cid) dx ((G.fl cid).zip xs)) ∧ xs.length = (G.fl cid).length ∧ ¬ B x ∧ (∀ p, Pr u p → x ≠ p.1 ∧ x ≠ p.2) ∧ c ≤ n ∧ (∀ p, Pr u p → B p.1 ∧ B p.2) ∧ (∀ a, B a → H a ≠ none) ∧ Good u H n ∧
  DenL G (fun a => B a ∨ a = x) H ds vs' ∧ DenL G (fun a => B a ∨ a = x) H fs xs ∧ S fs ds R ∧
  (∀ H' v xs' d fs', (∀ b o, H b = some o → b ≠ x → NU u b → H' b = some o) → Good u H' (n - c) → H' x = some (.ins (G.cl cid) dx ((G.fl cid).zip xs')) → xs'.length = (G.fl cid).length → DenL G (fun a => B a ∨ a = x) H' fs' xs' → Den G (fun a => B a ∨ a = x) H' d v → R d fs' → Q v H')
structure MutD (G : Gd) (P : Program) (w : World) (mg : Str → Option Value) (base : Heap) (k : Nat) (f : Addr) (fd : FuncData) (ps : List Str) (c cid : Nat) (S : MSpec) : Prop where
  run : ∀ (A : Around) (outer : List Env) (s : Shared) (H : Hp) (args : Args) (us : List Value) (vs : List V) (Q : VK) (E : XK), Room k A → A.guards = some [] → Env0 P w G.K mg base A outer s H →
    BindsTo s fd args (ps.zip us) → Vals vs us → vs.length = ps.length → liftM G c cid S vs H Q E → codeAny (model P w) A (.call (.ref f) args) (CR (L2.CX P w) outer P w H s Q E) s
theorem MutD.mono {P : Program} {w : World} {mg : Str → Option Value} {base : Heap} {j k : Nat} {f : Addr} {fd : FuncData} {ps : List Str} {c cid : Nat} {S : MSpec} (F : MutD G P w mg base j f fd ps c cid S) (h : j ≤ k) : MutD G P w mg base k f fd ps c cid S :=
  ⟨fun A outer s H args us vs Q E hr => F.run A outer s H args us vs Q E (hr.mono h)⟩
abbrev DT2 := (Exc → Prop) → List Sl → (D → List Sl → Prop) → Prop
def lift2 (G : Gd) (E : XK) (c : Nat) (t : DT2) : TE := fun σ H Q' => ∃ W : Wd G E σ H, W.m + c ≤ W.n ∧ ∃ Q, t W.ex W.env Q ∧ ∀ v H' d (W' : Wd G E σ H'), Later W c W' → Den G W'.XB H' d v → Q d W'.env → Q' v H'
abbrev DE2 (G : Gd) (E : XK) (X : Cx) (c : Nat) (e : Expr) (t : DT2) : Prop := PE X e (lift2 G E c t)
end
end Kn
set_option Elab.async false
set_option linter.all false
set_option maxRecDepth 100000
set_option maxHeartbeats 2100000
namespace Kn
open PySem L2 RZ
open PyProof.Rows (envOfC)
section
variable {G : Gd} {E : XK} {X : Cx} {σ : List (Option V)} {H H' : Hp} {k : Nat}
def s2Set (i : Nat) (t : DT2) : DS := fun ex de env => t ex env fun d env' => de.nx (env'.set i (.val d))
theorem ds2_set {i : Nat} {x : Str} {e : Expr} {pos pos' : Pos} {c : Nat} {t : DT2} (hN : X.N.Nodup) (hi : X.N[i]? = some x) (hx : Loc X.env.scope x) (he : DE2 G E X c e t) (hs : swapsWith e (some (.Name x pos')) pos.line X.env = pure false := by rfl)
    (hf : X.fn x = true ∨ X.env.scope.names.lookup x = some .local := by first | exact .inl rfl | exact .inr rfl) : DSt G E X c (.Assign [.Name x pos'] e pos) (s2Set i t) :=
  impS (ps_set hN hi hx he hs hf) fun Dn σ H h => by
    obtain ⟨W, hn, de, ht, k1, k2, k3, k4⟩ := h
    exact ⟨W, hn, _, ht, fun v H' d W' lt hd hq => k1 _ H' (W'.put i hd) ((lt.trans (Later.put W' i hd)).more (by omega)) hq⟩
end
end Kn
set_option Elab.async false
set_option linter.all false
set_option maxRecDepth 100000
set_option maxHeartbeats 2100000
namespace Kn
open PySem L2 RZ
end Kn
set_option Elab.async false
set_option linter.all false
set_option maxRecDepth 100000
set_option maxHeartbeats 2100000
namespace Kn
open PySem L2 RZ
open PyProof.Rows (envOfC)
section
variable {G : Gd} {E : XK} {X : Cx} {σ : List (Option V)} {H H' : Hp} {k : Nat}
def sWhile (tc : DB) (tb : DS) : DS := fun ex de env => ∃ I : Nat → List Sl → Prop, (∃ m, m < 16777216 ∧ I m env) ∧ ∀ m env, I m env → tc ex env fun b => if b = true then tb ex { de with nx := fun env' => ∃ m', m' < m ∧ I m' env', ct := fun env' => ∃ m', m' < m ∧ I m' env', bk := de.nx } env else de.nx env
theorem ds_while {ce : Expr} {body : List Stmt} {cc cb : Nat} {tc : DB} {tb : DS} {pos : Pos} (hp : PassesOwn (model X.prog X.w) X.A X.env X.xe) (hc : DPt G E X cc ce tc) (hb : DSs G E X cb body tb) : DSt G E X (16777216 * (cc + cb)) (.While ce body [] pos) (sWhile tc tb) :=
  impS (ps_while hp hc hb) fun Dn σ H h => by
    obtain ⟨W, hn, de, ⟨I, ⟨m0, hm0, hI0⟩, step⟩, k1, k2, k3, k4⟩ := h
    refine ⟨fun m σ' H' => ∃ W' : Wd G E σ' H', Later W ((m0 - m) * (cc + cb)) W' ∧ m ≤ m0 ∧ I m W'.env, ⟨m0, W, (Later.refl W).more (by omega), Nat.le_refl _, hI0⟩, ?_⟩
    rintro m σ' H' ⟨W', lt, hm, hI⟩
    have c1 : (m0 - m) * (cc + cb) + (cc + cb) ≤ 16777216 * (cc + cb) := by
      have : (m0 - m + 1) * (cc + cb) ≤ 16777216 * (cc + cb) := Nat.mul_le_mul_right _ (by omega)
      rw [Nat.add_mul, Nat.one_mul] at this
      exact this
    have hw : W'.m + (cc + cb) ≤ W'.n := by have := lt.n; rw [lt.m]; omega
    refine ⟨W', by omega, _, by rw [lt.ex]; exact step m _ hI, fun b H1 st hq => ?_⟩
    cases b with
    | false => exact k1 _ H1 (W'.next st) ((lt.trans (Later.next st)).more (by omega)) hq
    | true =>
      have l1 := lt.trans (Later.next st)
      refine ⟨fun σ2 H2 => ∃ W2 : Wd G E σ2 H2, ∃ m', m' < m ∧ Later W ((m0 - m') * (cc + cb)) W2 ∧ I m' W2.env, fun σ2 H2 ⟨W2, m', h1, h2, h3⟩ => ⟨m', h1, W2, h2, by omega, h3⟩, ?_⟩
      refine ⟨W'.next st, by show W'.m + cb ≤ W'.n - cc; omega, { de with nx := fun env' => ∃ m', m' < m ∧ I m' env', ct := fun env' => ∃ m', m' < m ∧ I m' env', bk := de.nx }, by show tb W'.ex _ _; rw [lt.ex]; exact hq, fun σ2 H2 W2 l2 ⟨m', g1, g2⟩ => ?_, fun v σ2 H2 W2 d l2 hd hr => ?_, fun σ2 H2 W2 l2 q => ?_, fun σ2 H2 W2 l2 ⟨m', g1, g2⟩ => ?_⟩
      · refine ⟨W2, m', g1, (l1.trans l2).more ?_, g2⟩
        have : (m0 - m + 1) * (cc + cb) ≤ (m0 - m') * (cc + cb) := Nat.mul_le_mul_right _ (by omega)
        rw [Nat.add_mul, Nat.one_mul] at this
        omega
      · refine k2 v σ2 H2 W2 d ((l1.trans l2).more (by omega)) (by rw [show (W'.next st).B = W'.B from rfl, lt.B] at hd; exact hd) hr
      · exact k1 _ H2 W2 ((l1.trans l2).more (by omega)) q
      · refine ⟨W2, m', g1, (l1.trans l2).more ?_, g2⟩
        have : (m0 - m + 1) * (cc + cb) ≤ (m0 - m') * (cc + cb) := Nat.mul_le_mul_right _ (by omega)
        rw [Nat.add_mul, Nat.one_mul] at this
        omega
end
end Kn
set_option Elab.async false
set_option linter.all false
set_option maxRecDepth 100000
set_option maxHeartbeats 2100000
namespace Kn
open PySem L2 RZ
open PyProof.Rows (envOfC)
section
variable {G : Gd} {E : XK} {X : Cx} {σ : List (Option V)} {H H' : Hp} {k : Nat}
structure KkM (K : PySem.W.Frag) (fd : FuncData) (ps ks : List Str) (ix : List Nat) : Prop where
  to : ∀ (s : Shared) (self : Value) (us : List Value), K.In s.heap → us.length = ks.length → BindsTo s fd ⟨[self], ks.zip us⟩ (ps.zip (self :: ix.map fun i => us.getD i .none))
  ok : ∀ i ∈ ix, i < ks.length
  len : ix.length + 1 = ps.length
theorem KkM.all {K : PySem.W.Frag} {fd : FuncData} {ps ks : List Str} {ix : List Nat} (h : ∀ (self : Value) (us : List Value), us.length = ks.length → bindArgs fd ⟨[self], ks.zip us⟩ = pure (ps.zip (self :: ix.map fun i => us.getD i .none))) (h2 : ∀ i ∈ ix, i < ks.length) (h3 : ix.length + 1 = ps.length) : KkM K fd ps ks ix :=
  ⟨fun s self us _ hl => .of_eq (h self us hl), h2, h3⟩
end
end Kn
set_option Elab.async false
set_option linter.all false
set_option maxRecDepth 100000
set_option maxHeartbeats 2100000
set_option Elab.async false
set_option linter.all false
set_option maxRecDepth 100000
set_option maxHeartbeats 2100000
namespace Kn
open PySem L2 RZ
open PyProof.Rows (envOfC)
section
variable {G : Gd} {E : XK} {X : Cx} {σ : List (Option V)} {H H' : Hp} {k : Nat}
/-- what may stand on the right of == and != -/
def tyOk (c : Nat) (e : D) : Prop := (∃ es, e = .ins c es) ∨ (∃ es, e = .tup es) ∨ ∃ x, e = .str x
theorem not_first_tup {K : PySem.W.Frag} {C : Addr} : PySem.W.notFirst K C (.type "tuple") = true := by
  unfold PySem.W.notFirst
  rw [show PySem.W.subIn K (.type "tuple") (.ref C) = some false by unfold PySem.W.subIn; rfl]
  simp
theorem not_first_str {K : PySem.W.Frag} {C : Addr} : PySem.W.notFirst K C (.type "str") = true := by
  unfold PySem.W.notFirst
  rw [show PySem.W.subIn K (.type "str") (.ref C) = some false by unfold PySem.W.subIn; rfl]
  simp
theorem den_type {pins : List (Addr × Obj)} {s : Shared} {B : Addr → Prop} {c : Nat} {e : D} {v : V} {u : Value} (ok : tyOk c e) (I : Inv X pins σ H s) (hK : X.K = G.K) (he : Den G B H e v) (r : L2.RelV v u) :
    ∃ tb, PySem.W.Looks (model X.prog X.w) s.heap (typeOf u) tb ∧ PySem.W.notFirst X.K (G.cl c) tb = true := by
  rcases ok with ⟨es, rfl⟩ | ⟨es, rfl⟩ | ⟨x, rfl⟩
  · obtain ⟨a, dx, xs, rfl, na, ha, la, da⟩ := he
    cases r
    obtain ⟨mA, J, _⟩ := ins_get I.hok ha; obtain ⟨od, J, _⟩ := J.look
    exact ⟨_, J.type, by simp [PySem.W.notFirst]⟩
  · obtain ⟨a, xs, rfl, na, ha, la, da⟩ := he
    cases r
    obtain ⟨its, _, ⟨o, ho, hc, _⟩, _⟩ := I.tuple (by rw [hK]; exact ha)
    exact ⟨.type "tuple", hc ▸ (PySem.W.Looks.ld ho).andThen .now, not_first_tup⟩
  · cases he
    obtain ⟨t, rfl⟩ := r
    exact ⟨.type "str", PySem.W.Looks.of_pure rfl, not_first_str⟩
structure Fqn (G : Gd) (P : Program) (w : World) (mg : Str → Option Value) (base : Heap) (k : Nat) (c : Nat) (cf : Nat) (S : FSpec) : Prop where
  ex : ∃ (f : Addr) (fd : FuncData) (ps : List Str), FnD G P w mg base k f fd ps cf S ∧ PySem.W.findIn G.K (.ref (G.cl c)) "__eq__" = some (some (.ref f)) ∧ PySem.W.isFn G.K (.ref f) = true ∧ Binds G.K fd ps [] ∧ ps.length = 2 ∧
    PySem.W.mroIn G.K (G.cl c) (.type "object") = some true ∧ PySem.W.findIn G.K (.ref (G.cl c)) "__ne__" = some (some (.builtin "object.__ne__"))
theorem run_own {j cf : Nat} {S : FSpec} {pins : List (Addr × Obj)} {s : Shared} {f a : Addr} {fd : FuncData} {ps : List Str} {y : V} {u : Value} {Q : Value → Shared → Prop} {Q' : VK} {A : Around} (hF : FnD G X.prog X.w X.mg X.base j f fd ps cf S) (xk : Xk G E k X) (rm : Room j A) (hfr : A.frames = X.A.frames) (hgd : A.guards = some []) (hbd : Binds X.K fd ps []) (hp2 : ps.length = 2)
    (I : Inv X pins σ H s) (ry : L2.RelV y u) (hl : liftF G cf S [.ref a, y] H Q' E) (hq : ∀ v s', EP X pins σ Q' v s' → Q v s') : wpAny (model X.prog X.w) A (call (.ref f) [.ref a, u]) Q X.xe s := by
  have e0 : Env0 X.prog X.w G.K X.mg X.base A X.stack s H := by
    have e := I.env0
    rw [← xk.K]
    exact ⟨by rw [hfr]; exact e.frames, e.mod, e.bs, e.bsz, e.funs, e.frf, e.hok, e.bare⟩
  have hb : BindsTo s fd ⟨[.ref a, u], []⟩ (ps.zip [.ref a, u]) := by
    have z := hbd s [.ref a, u] I.kIn (by rw [List.append_nil]; exact hp2.symm)
    rw [List.append_nil] at z
    exact z
  refine wpAny_call (codeAny_mono (hF.run A X.stack s H ⟨[.ref a, u], []⟩ [.ref a, u] [.ref a, y] _ E rm hgd e0 hb (.cons rfl (.cons ry .nil)) hp2.symm hl) fun r s' h => ?_)
  cases r with
  | error e => exact xk.pass pins σ H s e s' I h
  | ok fl =>
    cases fl with
    | ret u => exact hq u s' (I.after h)
    | next => exact h.elim
    | brk => exact h.elim
    | cont => exact h.elim
end
end Kn
set_option Elab.async false
set_option linter.all false
set_option maxRecDepth 100000
set_option maxHeartbeats 2100000
namespace Kn
open PySem L2 RZ
open PyProof.Rows (envOfC)
end Kn
set_option Elab.async false
set_option linter.all false
set_option maxRecDepth 100000
set_option maxHeartbeats 2100000
namespace Kn
open PySem L2 RZ
end Kn
set_option Elab.async false
set_option linter.all false
set_option maxRecDepth 100000
set_option maxHeartbeats 2100000
namespace Kn
open PySem L2 RZ
open PyProof.Rows (envOfC)
end Kn
set_option Elab.async false
set_option linter.all false
set_option maxRecDepth 100000
set_option maxHeartbeats 2100000
namespace Kn
open PySem L2 RZ
section
variable {G : Gd} {E : XK} {X : Cx} {σ : List (Option V)} {H H' : Hp} {k : Nat}
mutual
def noLst : D → Bool
  | .non => true
  | .bl _ => true
  | .int _ => true
  | .str _ => true
  | .tup ds => noLstL ds
  | .ins _ ds => noLstL ds
  | _ => false
def noLstL : List D → Bool
  | [] => true
  | d :: ds => noLst d && noLstL ds
end
mutual
theorem Den.offLst {B B' : Addr → Prop} (hb : ∀ b, B' b → B b ∨ ∃ xs, H b = some (.lst xs)) : ∀ (d : D) (v : V), noLst d = true → Den G B H d v → Den G B' H d v
  | .non, _, _, h => h
  | .bl _, _, _, h => h
  | .int _, _, _, h => h
  | .str _, _, _, h => h
  | .tup ds, v, f, ⟨a, xs, e, nb, hs, hl, hd⟩ => by
    rcases nb with nb | nb
    · rcases hs with h | h
      · refine ⟨a, xs, e, .inl fun z => ?_, .inl h, hl, DenL.offLst hb ds xs f hd⟩
        rcases hb a z with q | ⟨ys, ho⟩
        · exact nb q
        · rcases h with h | ⟨q, h⟩
          · rw [h] at ho; cases ho
          · rw [h] at ho; cases ho
      · exact ⟨a, xs, e, .inr h, .inr h, hl, DenL.offLst hb ds xs f hd⟩
    · exact ⟨a, xs, e, .inr nb, hs, hl, DenL.offLst hb ds xs f hd⟩
  | .ins c ds, v, f, ⟨a, dx, xs, e, nb, hs, hl, hd⟩ => by
    refine ⟨a, dx, xs, e, fun z => ?_, hs, hl, DenL.offLst hb ds xs f hd⟩
    rcases hb a z with q | ⟨ys, ho⟩
    · exact nb q
    · rw [hs] at ho; cases ho
  | .lst _, _, f, _ => by simp [noLst] at f
  | .opq _, _, f, _ => by simp [noLst] at f
  | .urn, _, f, _ => by simp [noLst] at f
  | .at_ _ _, _, f, _ => by simp [noLst] at f
  | .dct _ _, _, f, _ => by simp [noLst] at f
  | .tupn _, _, f, _ => by simp [noLst] at f
  | .exc _ _, _, f, _ => by simp [noLst] at f
  | .dic _ _, _, f, _ => by simp [noLst] at f
  | .dcT _ _, _, f, _ => by simp [noLst] at f
  | .dcf _ _, _, f, _ => by simp [noLst] at f
theorem DenL.offLst {B B' : Addr → Prop} (hb : ∀ b, B' b → B b ∨ ∃ xs, H b = some (.lst xs)) : ∀ (ds : List D) (xs : List V), noLstL ds = true → DenL G B H ds xs → DenL G B' H ds xs
  | [], _, _, h => h
  | d :: ds, xs, f, ⟨x, r, e, h1, h2⟩ => by
    have f' : (noLst d && noLstL ds) = true := f
    rw [Bool.and_eq_true] at f'
    exact ⟨x, r, e, Den.offLst hb d x f'.1 h1, DenL.offLst hb ds r f'.2 h2⟩
end
def dTupRg (te : DT) : DT := fun ex env Q => te ex env fun d => ∃ n : Int, d = .int n ∧ n ≤ 16777216 ∧ -(2 ^ 62) ≤ n ∧ Q (.tup (rangeD 0 n.toNat))
theorem de_tupleRange {a : Expr} {c : Nat} {te : DT} {p p2 pos pos2 : Pos} (hc : X.calm = true) (hm : X.mg "tuple" = none) (hm2 : X.mg "range" = none) (ha : DE G E X c a te) (hg : Gl X "tuple" := by rfl) (hg2 : Gl X "range" := by rfl)
    (na : starEach [a] X.env = (false, eval a X.env) :: starEach [] X.env := by rfl) (nb : starEach [.Call (.Name "range" p2) [a] [] pos2] X.env = (false, eval (.Call (.Name "range" p2) [a] [] pos2) X.env) :: starEach [] X.env := by rfl) :
    DE G E X c (.Call (.Name "tuple" p) [.Call (.Name "range" p2) [a] [] pos2] [] pos) (dTupRg te) :=
  imp (pe_tupRg hc hg hm (prg_1 hg2 hm2 ha na) nb) fun σ H Q' h => by
    obtain ⟨W, hn, Q, ht, kk⟩ := h
    refine ⟨W, hn, _, ht, fun v H1 d st hd ⟨n, e, h1, h2, hq⟩ => ?_⟩
    subst e
    cases hd
    refine ⟨n, rfl, ⟨by omega, by omega, by omega, by omega, by omega⟩, fun q hq0 => ?_⟩
    have e2 : rgV 0 n = (List.range n.toNat).map fun i => V.int (0 + (i : Nat)) := by unfold rgV; rw [Int.sub_zero]
    refine kk _ _ (.tup (rangeD 0 n.toNat)) (st.new hq0) (den_tup hq0 ((W.next st).fresh hq0) (by rw [rgV_length, sizeLine_eq]; omega) ?_) hq
    rw [e2]
    exact denL_rg 0 n.toNat
end
end Kn
set_option Elab.async false
set_option linter.all false
set_option maxRecDepth 100000
set_option maxHeartbeats 2100000
namespace Kn
open PySem L2 RZ
section
variable {G : Gd} {E : XK} {X : Cx} {σ : List (Option V)} {H H' : Hp} {k : Nat}
theorem DenL.eraseIdx {B : Addr → Prop} {H : Hp} : ∀ (i : Nat) {ds : List D} {xs : List V}, DenL G B H ds xs → DenL G B H (ds.eraseIdx i) (xs.eraseIdx i)
  | _, [], xs, h => by
    cases (show xs = [] from h)
    exact rfl
  | 0, d :: ds, xs, ⟨x, r, e, h1, h2⟩ => by subst e; exact h2
  | i + 1, d :: ds, xs, ⟨x, r, e, h1, h2⟩ => by subst e; exact ⟨x, _, rfl, h1, h2.eraseIdx i⟩
/-- x.extend(e), a list -/
def sExt (i : Nat) (te : DT) : DS := fun ex de env => ∃ a ds, env[i]? = some (.own a ds) ∧ te ex env fun d => ∃ es, d = .lst es ∧ ds.length + es.length ≤ sizeLine ∧ de.nx (env.set i (.own a (ds ++ es)))
theorem ds_ext {i : Nat} {x : Str} {e : Expr} {pos p apos cpos : Pos} {c : Nat} {te : DT} (hN : X.N[i]? = some x) (he : DE G E X c e te) (hv : Vis X.env.scope x := by first | exact Or.inl rfl | exact Or.inr (Or.inl rfl) | exact Or.inr (Or.inr rfl)) (hd : (x == ("__debug__" : Str)) = false := by decide) (hcd : (x == ("__classdict__" : Str)) = false := by decide)
    (hbase : attributeBase (.Name x p) "extend" X.env (eval (.Name x p) X.env) = eval (.Name x p) X.env := by rfl)
    (hfew : ((backTo cpos (starEach [e] X.env)).all (fun x => !x.1) && (backToKw cpos (keywordEach [] X.env)).all (fun x => x.1.isSome) && decide (([e] : List Expr).length + ([] : List Keyword).length + (if ([] : List Keyword).isEmpty then 0 else 1) < 30)) = true := by rfl)
    (hline : (apos.endLine == cpos.line) = true := by rfl) (hs : starEach [e] X.env = (false, eval e X.env) :: starEach [] X.env := by rfl) (hplain : (backTo cpos (starEach [] X.env)).any (·.1) = false := by rfl)
    (hsw : swapsWith (.Call (.Attribute (.Name x p) "extend" apos) [e] [] cpos) none pos.line X.env = pure false := by rfl) : DSt G E X c (.Expr (.Call (.Attribute (.Name x p) "extend" apos) [e] [] cpos) pos) (sExt i te) :=
  impS (ps_expr (pe_bm PySem.F.plainAttrs_list PySem.F.slot_list_extend PySem.F.type_list_extend mt_extend (pe_var (i := i) hN hv hd hcd) (pa_cons he pa_nil hs) hbase hfew hline hs hplain) hsw) fun Dn σ H h => by
    obtain ⟨W, hn, de, ⟨a, ds, hei, ht⟩, k1, k2, k3, k4⟩ := h
    obtain ⟨xs, hsi, h0, ha, hl, hds⟩ := lift_own hei
    refine ⟨.ref a, hsi, .inl ⟨rfl, xs, SqL.of ha⟩, W, hn, _, ht, fun v H1 d st hdv ⟨es, ed, hlt, hq⟩ => ?_⟩
    subst ed
    obtain ⟨b, zs, rfl, nb, hb, lb, db⟩ := hdv
    have el := hds.length
    have eb := db.length
    have ha1 : H1 a = some (.lst xs) := st.ext a _ ha (lend_un W h0)
    have hds1 : DenL G W.XB H1 ds xs := hds.ext st.ext W.huX
    obtain ⟨W', l1, l2⟩ := own_step (xs := xs) (ys := xs ++ zs) (es := ds ++ es) st hei hsi h0 (by rw [List.length_append]; omega) (hds1.append db)
    exact ⟨a, b, xs, zs, rfl, rfl, ha1, hb, by omega, k1 σ _ W' l1 (by rw [l2]; exact hq)⟩
/-- x.pop(e) -/
def d2Pop (i : Nat) (te : DT) : DT2 := fun ex env Q => ∃ a ds, env[i]? = some (.own a ds) ∧ te ex env fun d => ∃ (j : Nat) (y : D), d = .int j ∧ ds[j]? = some y ∧ Q y (env.set i (.own a (ds.eraseIdx j)))
theorem seq_at {j n : Nat} (h : j < n) : seqIndex? (j : Int) n = some j := by
  have h1 : ixN n (j : Int) = some j := by
    unfold ixN
    rw [if_pos (by omega), if_pos (by omega), Int.toNat_natCast]
  exact (ixN_seq h1).1
theorem pop_xb {W0 : Wd G E σ H} (W' : Wd G E σ H') {i : Nat} {a : Addr} {ds es : List D} (e : W'.env = W0.env.set i (.own a es)) (he : W0.env[i]? = some (.own a ds)) (hsi : σ[i]? = some (some (.ref a))) (hb : W'.B = W0.B) (b : Addr) (h : W'.XB b) : W0.XB b := by
  rcases h with h | ⟨j, s, e1, m1, e2⟩
  · exact .inl (by rw [← hb]; exact h)
  · by_cases hj : i = j
    · subst hj
      exact .inr ⟨i, _, he, rfl, e2⟩
    · rw [e, List.getElem?_set_ne hj] at e1
      exact .inr ⟨j, s, e1, m1, e2⟩
theorem d2_pop {i : Nat} {x : Str} {e : Expr} {p apos cpos : Pos} {c : Nat} {te : DT} (hN : X.N[i]? = some x) (he : DE G E X c e te) (hv : Vis X.env.scope x := by first | exact Or.inl rfl | exact Or.inr (Or.inl rfl) | exact Or.inr (Or.inr rfl)) (hd : (x == ("__debug__" : Str)) = false := by decide) (hcd : (x == ("__classdict__" : Str)) = false := by decide)
    (hbase : attributeBase (.Name x p) "pop" X.env (eval (.Name x p) X.env) = eval (.Name x p) X.env := by rfl)
    (hfew : ((backTo cpos (starEach [e] X.env)).all (fun x => !x.1) && (backToKw cpos (keywordEach [] X.env)).all (fun x => x.1.isSome) && decide (([e] : List Expr).length + ([] : List Keyword).length + (if ([] : List Keyword).isEmpty then 0 else 1) < 30)) = true := by rfl)
    (hline : (apos.endLine == cpos.line) = true := by rfl) (hs : starEach [e] X.env = (false, eval e X.env) ::
          starEach [] X.env := by rfl) (hplain : (backTo cpos (starEach [] X.env)).any (·.1) = false := by rfl) :
    DE2 G E X c (.Call (.Attribute (.Name x p) "pop" apos) [e] [] cpos) (d2Pop i te) :=
  imp (pe_bm PySem.F.plainAttrs_list PySem.F.slot_list_pop PySem.F.type_list_pop mt_popAt (pe_var (i := i) hN hv hd hcd) (pa_cons he pa_nil hs) hbase hfew hline hs hplain) fun σ H Q' h => by
    obtain ⟨W, hn, Q, ⟨a, ds, hei, ht⟩, kk⟩ := h
    obtain ⟨xs, hsi, h0, ha, hl, hds⟩ := lift_own hei
    refine ⟨.ref a, hsi, .inl ⟨rfl, xs, SqL.of ha⟩, W, hn, _, ht, fun v H1 d st hdv ⟨j, y, ed, hy, hq⟩ => ?_⟩
    subst ed
    cases hdv
    have ha1 : H1 a = some (.lst xs) := st.ext a _ ha (lend_un W h0)
    have hds1 : DenL G W.XB H1 ds xs := hds.ext st.ext W.huX
    obtain ⟨v, hv1, hdv⟩ := hds1.get hy
    have hj : j < xs.length := (List.getElem?_eq_some_iff.mp hv1).1
    have hle : (xs.eraseIdx j).length ≤ sizeLine := by rw [List.length_eraseIdx]; split <;> omega
    have hei1 : (W.next st).env[i]? = some (.own a ds) := hei
    have kp := mut_keep (o1 := .lst (xs.eraseIdx j)) (W.next st) hei1 rfl hsi
    obtain ⟨W', l1, l2, l3⟩ := wd_mut (o1 := .lst (xs.eraseIdx j)) (s1 := .own a (ds.eraseIdx j)) (W.next st) hei1 rfl hsi rfl ⟨_, rfl, h0, upd_same, hle, DenL.keep kp (fun b hb => .inl hb) _ _ (hds1.eraseIdx j)⟩
    refine ⟨a, xs, (j : Int), j, v, rfl, rfl, ha1, by omega, by rw [sizeLine_eq] at hl; omega, seq_at hj, hv1, ?_⟩
    exact kk v _ y W' (((Later.next st).trans l1).more (by omega)) (Den.keep kp (fun b hb => .inl (pop_xb W' l2 hei1 hsi l1.B b hb)) y v hdv) (by rw [l2]; exact hq)
end
end Kn
set_option Elab.async false
set_option linter.all false
set_option maxRecDepth 100000
set_option maxHeartbeats 2100000
namespace Kn
open PySem L2 RZ
open PyProof.Rows (envOfC)
end Kn
set_option Elab.async false
set_option linter.all false
set_option maxRecDepth 100000
set_option maxHeartbeats 2100000
namespace Kn
open PySem L2 RZ
end Kn
set_option Elab.async false
set_option linter.all false
set_option maxRecDepth 100000
set_option maxHeartbeats 2100000
namespace Kn
open PySem L2 RZ
end Kn
set_option Elab.async false
set_option linter.all false
set_option maxRecDepth 100000
set_option maxHeartbeats 2100000
namespace Kn
open PySem L2 RZ PyProof.Rows
end Kn
set_option Elab.async false
set_option linter.all false
set_option maxRecDepth 100000
set_option maxHeartbeats 2100000
namespace Kn
open PySem L2 RZ PyProof.Rows
end Kn
set_option Elab.async false
set_option linter.all false
set_option maxRecDepth 100000
set_option maxHeartbeats 2100000
namespace Kn
open PySem PySem.Spec L2 RZ
open PyProof.Rows
section
variable {X : Cx} {pins : List (Addr × Obj)} {σ : List (Option V)} {H : Hp} {s : Shared}
/-- out of the suite, what the suite holds still pinned -/
theorem inv_held {a : Addr} {q : Addr × Obj} {pn' : List (Addr × Obj)} (I : Inv (X.suite a (q :: (X.pn ++ pins))) pn' σ H s) (ok : X.Ok) : Inv X (q :: pins) σ H s :=
  { ok := ok, os := I.os, bare := I.bare, base := I.base, loc := I.loc, cell := I.cell, free := I.free, freeC := I.freeC, hok := I.hok, len := I.len,
    pin := fun p hp => I.pin p (List.mem_append_left _ (by
      rcases List.mem_append.mp
            hp with z | z
      · exact List.mem_cons_of_mem _ (List.mem_append_left _ z)
      · rcases List.mem_cons.mp
            z with z | z
        · rw [z]; exact List.mem_cons_self
        · exact List.mem_cons_of_mem _ (List.mem_append_right _ z))) }
end
end Kn
set_option Elab.async false
set_option linter.all false
set_option maxRecDepth 100000
set_option maxHeartbeats 2100000
namespace Kn
open PySem L2 RZ
section
variable {G : Gd} {E : XK} {X : Cx} {σ : List (Option V)} {H H' : Hp} {k : Nat}
theorem DenL.snoc {B : Addr → Prop} : ∀ {ds : List D} {xs : List V}, DenL G B H ds xs → DenL G B H ds.reverse xs.reverse
  | [], _, h => by cases h; rfl
  | d :: ds, _, ⟨x, r, e, h1, h2⟩ => by
    subst e
    rw [List.reverse_cons, List.reverse_cons]; exact (DenL.snoc h2).append ⟨x, [], rfl, h1, rfl⟩
/-- the __init__ of an exception class: the arguments become its fields, the last one first -/
def spX (C : Addr) (fl : List Str) : Sp := fun vs H Q _ => ∃ (a : Addr) (ws : List V), vs = .ref a :: ws ∧ ws.length = fl.length ∧ H a = some (exo a C none) ∧
  ∀ (H' : Hp) (dx : Addr), (∀ b o, H b = some o → b ≠ a → H' b = some o) → H dx = none → dx ≠ a → H' a = some (exo a C (some dx)) → H' dx = some (exd dx (fl.zip ws.reverse)) → Q .non H'
/-- the exception class x of the module, of the number cid, with n arguments -/
structure Fx (G : Gd) (P : Program) (w : World) (mg : Str → Option Value) (base : Heap) (k : Nat) (x : Str) (cid n : Nat) : Prop where
  ex : ∃ (fI : Addr) (fd : FuncData) (ps : List Str), FnOk P w G.K mg base (L2.CX P w) k fI fd ps (spX (G.cl cid) (G.fl cid)) ∧ OexC G.K (G.cl cid) ∧ PySem.W.findIn G.K (.ref (G.cl cid)) "__init__" = some (some (.ref fI)) ∧ PySem.W.typeIn G.K (.ref fI) = some (.type "function") ∧
    Binds G.K fd ps [] ∧ mg x = some (.ref (G.cl cid)) ∧ (G.fl cid).length = n
def sRaise (cid n : Nat) (u : DA) : DS := fun ex de env => u ex env fun ds => ds.length = n ∧ ex ⟨cid, ds.reverse⟩
theorem ds_raise {j c cid n : Nat} {x : Str} {e : Expr} {es : List Expr} {u : DA} {p pos pos' : Pos} (F : Fx G X.prog X.w X.mg X.base j x cid n) (xk : Xk G E k X) (ha : DEs G E X c (e :: es) u) (hn : n ≤ 1000 := by decide) (hj : j + 1 ≤ k := by decide) (hg : Gl X x := by rfl) (hdb : (x == ("__debug__" : Str)) = false := by decide)
    (he : starEach (e :: es) X.env = (false, eval e X.env) :: starEach es X.env := by rfl) (hpl : (backTo pos (starEach es X.env)).any (·.1) = false := by rfl) : DSt G E X c (.Raise (some (.Call (.Name x p) (e :: es) [] pos)) none pos') (sRaise cid n u) := by
  obtain ⟨fI, fd, ps, F1, T, iC, tI, hb, hm, hfl⟩ := F.ex
  rw [← xk.K] at F1 T iC tI hb
  have mk : PMk X (.Call (.Name x p) (e :: es) [] pos) (tMkO (G.cl cid) (spX (G.cl cid) (G.fl cid)) [] (liftA G E c u)) :=
    pmk_oex (CX := L2.CX X.prog X.w) T iC tI F1 (xk.room.mono hj) hb .nil (fun _ _ _ _ _ _ _ ⟨_, _, _, _, _, _, _, _, _, _, _, _, z⟩ => z.elim) hg hm ha hdb he hpl
  refine impS (ps_raise xk.calm xk.tk mk) fun Dn σ H h => ?_
  obtain ⟨W, hW, de, ht, k1, k2, k3, k4⟩ := h
  refine ⟨W, hW, _, ht, fun vs H1 ds st hd ⟨hl, hx⟩ => ?_⟩
  have el := hd.length
  refine ⟨by omega, fun a ha => ?_⟩
  rw [List.append_nil]
  refine ⟨a, vs, rfl, by omega, upd_same, fun H2 dx kp hdx nda e1 e2 => ⟨rfl, dx, _, e1, e2, ?_, ?_⟩⟩
  · rw [upd_ne nda] at hdx; exact hdx
  · have hdx1 : H1 dx = none := by rw [upd_ne nda] at hdx; exact hdx
    have ext : Ext none H1 (upd (L2.del H2 a) dx (.xd ((G.fl cid).zip vs.reverse))) := fun b o hb _ => by
      have nb : b ≠ a := ne_of_none hb ha
      rw [upd_ne (ne_of_none hb hdx1), del_ne nb]
      exact kp b o (by rw [upd_ne nb]; exact hb) nb
    have st' := st.pure ext
    refine W.exc ⟨cid, ds.reverse⟩ _ _ _ (W.fr.trans st'.ext) (st'.good.less (by omega)) ⟨rfl, dx, vs.reverse, rfl, fun z => (W.next st).fresh hdx1 (.inl z), upd_same, (List.length_reverse).trans (show vs.length = (G.fl cid).length by omega), ?_⟩ hx
    exact ((hd.ext (u := none) ext (fun _ z => z.none.elim)).fewer fun b z => .inl z).snoc
end
end Kn
set_option Elab.async false
set_option linter.all false
set_option maxRecDepth 100000
set_option maxHeartbeats 2100000
namespace Kn
open PySem L2 RZ
section
variable {G : Gd} {E : XK} {X : Cx} {σ : List (Option V)} {H H' : Hp} {k : Nat}
/-- what isinstance asks of an own class of errors -/
structure XcC (K : PySem.W.Frag) (C : Addr) : Prop where
  cs : (PySem.W.clsIn K C).isSome = true
  ga : PySem.W.findIn K (.ref C) "__getattribute__" =
        some (some (.builtin "BaseException.__getattribute__"))
  gg : PySem.W.findIn K (.ref
        C) "__getattr__" = some none
  sb : PySem.W.subIn K (.ref C) (.type "BaseException") = some true
  ca : PySem.W.findIn K (.ref C) "__class__"
        = some (some (.builtin "object.__class__"))
  gn : PySem.W.specialIn K (.builtin "object.__class__") "__get__" = some (some (.builtin "getset_descriptor.__get__"))
  tk : PySem.W.takesIn K (.builtin "object.__class__") = some true
  mr : PySem.W.mroIn K C (.type "object") = some true
/-- .. of another own class -/
structure InC (K : PySem.W.Frag) (C : Addr) : Prop where
  cl : Cls K C
  ca : PySem.W.findIn K (.ref C) "__class__"
        = some (some (.builtin "object.__class__"))
  gn : PySem.W.specialIn K (.builtin "object.__class__") "__get__" = some (some (.builtin "getset_descriptor.__get__"))
  tk : PySem.W.takesIn K (.builtin "object.__class__") = some true
  mr : PySem.W.mroIn K C (.type "object") = some true
/-- the type of a value -/
def TyD (G : Gd) (d : D) (t : Value) : Prop :=
  (∃ s, kindS d = some s ∧ t = .type s) ∨ (∃ c ds, d = .exc c ds ∧ XcC G.K (G.cl c) ∧ t = .ref (G.cl c)) ∨ (∃ c ds, d = .ins c ds ∧ InC G.K (G.cl c) ∧ t = .ref (G.cl c))
theorem Den.kit {pins : List (Addr × Obj)} {s : Shared} {B : Addr → Prop} {d : D} {x : V} {u t : Value} (I : Inv X pins σ H s) (hK : X.K = G.K) (rx : RelV x u) (h : Den G B H d x) (ty : TyD G d t) :
    ∃ P : Heap → Prop, PySem.W.KitX X.K u t P ∧ P s.heap ∧ u ≠ .builtin "__main__.__loader__#opaque" := by
  rcases ty with ⟨n, hs, rfl⟩ | ⟨c, ds, rfl, T, rfl⟩ | ⟨c, ds, rfl, T, rfl⟩
  · exact kit_of I rx (by rw [hK]; exact h.tyx hs)
  · obtain ⟨a, dd, xs, rfl, _, _, ha, hd, _⟩ := h
    cases rx
    obtain ⟨⟨oe, vs, e1, e2, e3⟩, _, _⟩ := (show ObjOk X.prog X.w H s.heap a (ExK (.ref (G.cl c)) (some dd) a) from I.hok a _ ha)
    obtain ⟨mA, hns, _⟩ := (show ObjOk X.prog X.w H s.heap dd (.xd _) from I.hok dd _ hd)
    obtain ⟨od, ho, _⟩ := lookIn_ns hns
    have J : PySem.W.InstAt s.heap a oe (G.cl c) (some od) := ⟨e1, e2.1, by unfold PySem.W.notCls; rw [e3] <;> rfl, by rw [e2.2]; exact ho⟩
    rw [← hK] at T
    exact ⟨_, PySem.W.kitx_exc T.cs T.ga T.gg T.sb T.ca T.gn T.tk T.mr, J, fun z => nomatch z⟩
  · obtain ⟨a, dx, xs, rfl, _, ha, _⟩ := h
    rw [← hK] at T
    exact kit_of I rx (.base (.ins ha T.cl T.ca T.gn T.tk T.mr))
/-- isinstance(x, C), C an own class or a built-in one -/
def gIsiC (G : Gd) : G2 := fun d c Q => ∃ (v : V) (u t : Value) (b : Bool), c = .opq v ∧ ClsV v u ∧ TyD G d t ∧ PySem.W.kitOne G.K t u = some b ∧ Q (.bl b)
theorem c_isiC (hK : X.K = G.K) : CallR X (.builtin "isinstance") (rDL G (g2 (gIsiC G))) := by
  intro pins s σ H xs us Q' I r h
  obtain ⟨B, d, c, x, y, Q, rfl, hd, hc, hf, ⟨v, u, t, b, rfl, kv, ty, e, hq⟩, kk⟩ := rDL2 h
  cases hc
  obtain ⟨u1, u2, rfl, r1, r2⟩ := vals2 r; have e2 := kv.eq r2
  subst e2
  obtain ⟨P, Z, p, hx⟩ := hd.kit I hK r1 ty
  exact PySem.W.kia_one Z I.kIn p (by rw [hK]; exact e) hx fun tk => ⟨.bl b, H, I.tok tk, rfl, kk _ H (.bl b) (Ext.refl _ _) (den_bl b) hq⟩
/-- isinstance(x, (C1, C2, ..)) -/
def dIsiCs (G : Gd) (us : List Value) (te : DT) : DT := fun ex env Q => te ex env fun d => ∃ (t : Value) (b : Bool), TyD G d t ∧ PySem.W.kitAny G.K t us = some b ∧ Q (.bl b)
theorem c_isiCs (hK : X.K = G.K) : CallR X (.builtin "isinstance") (fun xs H Q' => ∃ (B : Addr → Prop) (d : D) (x : V) (p : Addr) (cs : List V) (us : List Value) (t : Value) (b : Bool) (Q : D → Prop), xs = [x, .ref p] ∧ Den G B H d x ∧ H p = some (.tup cs) ∧ Paired ClsV cs us ∧ TyD G d t ∧ PySem.W.kitAny G.K t us = some b ∧ Q (.bl b) ∧ ∀ r H' rd, Ext none H H' → Den G B H' rd r → Q rd → Q' r H') := by
  intro pins s σ H xs us Q' I r h
  obtain ⟨B, d, x, p, cs, ws, t, b, Q, rfl, hd, hp, pr, ty, e, hq, kk⟩ := h
  obtain ⟨u1, u2, rfl, r1, r2⟩ := vals2 r; cases (show u2 = Value.ref p from r2)
  obtain ⟨P, Z, pp, hx⟩ := hd.kit I hK r1 ty
  obtain ⟨_, its, rv, o, h1, h2, n, h3⟩ := (show ObjOk X.prog X.w H s.heap p (.tup cs) from I.hok p _ hp)
  have e3 := ClsV.all pr rv
  subst e3
  obtain ⟨oc, od, dt, sl⟩ := o
  simp only at h2 h3
  subst h2 h3
  exact PySem.W.kia_tup Z I.kIn pp h1 (by rw [hK]; exact e) hx fun tk => ⟨.bl b, H, I.tok tk, rfl, kk _ H (.bl b) (Ext.refl _ _) (den_bl b) hq⟩
theorem de_isiCs {e : Expr} {es : List Expr} {p pos p2 : Pos} {x1 c : Nat} {te : DT} {cs : List V} {us : List Value} (hK : X.K = G.K) (hm : X.mg "isinstance" = none) (he : DE G E X c e te) (hes : PA X es (fun σ H Q => Q cs H)) (pr : Paired ClsV cs us) (hl : cs.length ≤ 1000 := by decide) (hg : Gl X "isinstance" := by rfl) (hv : bootBuiltins "isinstance" = some (.builtin "isinstance") := by decide +kernel)
    (hs : starEach [e, .Tuple es x1 p2] X.env = (false, eval e X.env) :: starEach [.Tuple es x1 p2] X.env := by rfl) (hs2 : starEach [.Tuple es x1 p2] X.env = (false, eval (.Tuple es x1 p2) X.env) :: starEach [] X.env := by rfl) (hpl : (backTo pos (starEach [.Tuple es x1 p2] X.env)).any (·.1) = false := by rfl) :
    DE G E X c (.Call (.Name "isinstance" p) [e, .Tuple es x1 p2] [] pos) (dIsiCs G us te) :=
  imp (pe_callB (c_isiCs (G := G) hK) hg hm hv (pa_cons he (pa_cons (pe_tup hes) pa_nil hs2) hs) (by decide) (by decide) hs hpl) fun σ H Q' h => by
    obtain ⟨W, hn, Q, ht, kk⟩ := h
    refine ⟨W, hn, _, ht, fun v H1 d st hd ⟨t, b, ty, hb, hq⟩ => ⟨by rw [sizeLine_eq]; omega, fun q hq0 => ?_⟩⟩
    exact ⟨W.XB, d, v, q, cs, us, t, b, Q, rfl, den_upd hq0 hd, upd_same, pr, ty, hb, hq, fun r H' rd ex hr hq2 => kk r H' rd ((st.new hq0).pure ex) hr hq2⟩
structure XfF (K : PySem.W.Frag) (C : Addr) (f : Str) : Prop where
  x : XcC K C
  hd : PySem.W.hasDictIn
        K C = true
  no : PySem.W.findIn K (.ref C) f = some none
end
end Kn
set_option Elab.async false
set_option linter.all false
set_option maxRecDepth 100000
set_option maxHeartbeats 2100000
namespace Kn
open PySem PySem.Spec L2 RZ LamX
open PyProof.Rows (envOfC)
/-- the call of what was handed, at slot i: W is what the context takes of errors -/
def tAct (i : Nat) (f c' : Addr) (q : Str) (W : WX) (tl : XK → Hp → VK → Prop) : TE := fun σZ HZ Q => σZ[i]? = some (some (.ref f)) ∧ HZ c' = some (CodeO c' q) ∧ ∃ E : XK, (∀ cls d H', E cls d H' → W cls d σZ H') ∧ tl E HZ Q
section
variable {X : Cx} {pins : List (Addr ×
      Obj)} {σ : L2.St} {H : Hp} {s : Shared}
theorem pe_actS {CXg : CXT} {Eg : XK} {Ng : List Str} {qg : Str} {sg : Scope} {g f c' : Addr} {cdg pm ctv : Value} {params : Arguments} {body : Expr} {scope : Scope} {k i : Nat} {a : Str} {pn : List (Addr × Obj)} {xe : Value → Shared → Prop} {W : WX} {tb : XK → TE} {p1 p2 : Pos}
    (I : Inv X pins σ H s) (L : LamS X.env.scope scope) (hf : s.heap.get? f = some (PySem.W.kla_obj "<lambda>" (X.env.qual ++
          "<lambda>") params body scope (cloFrom X.env.cells scope.names []) pm c' ctv)) (hfn : H f = none) (hfr : f ∉ frs X.stack)
    (hbind : bindArgs (PySem.W.kla_fn "<lambda>" (X.env.qual ++ "<lambda>") params body
          scope (cloFrom X.env.cells scope.names []) pm (.ref c') ctv) ⟨[], []⟩ = pure [])
    (tk : Takes ((cxOf CXg X.prog X.w X.K X.mg X.base Ng qg sg g cdg X.A X.stack s H Eg).tr pn xe) W) (hr : Room (k + 1) (X.A.deeper (envOfC qg sg s.heap.objs.size g cdg)))
    (hbody : ∀ (A : Around) (outer : List Env) (s : Shared) (H : Hp) (E : XK), Room k (A.deeper (lamEnv X scope s.heap.objs.size f c')) → A.guards = some [] → PE (lamCx X A outer s H E scope f c') body (tb E)) (hgd : X.A.guards = some [])
    (hN : Ng[i]? = some a) (hv : Vis sg a) (hd : (a == ("__debug__" : Str)) = false
          := by decide) (hcd : (a == ("__classdict__" : Str)) = false := by decide) :
    PE ((cxOf CXg X.prog X.w X.K X.mg X.base Ng qg sg g cdg X.A X.stack s H Eg).tr pn xe) (.Call (.Name a p1) [] [] p2) (tAct i f c' (X.env.qual ++ "<lambda>") W fun E HZ Q => tb E σ HZ Q) := by
  constructor
  intro pinsZ sZ σZ HZ Q IZ h
  obtain ⟨hs, hc, E, hW, ht⟩ := h
  have at0 := (pe_var (pos := p1) (i := i) hN hv hd hcd).run pinsZ sZ σZ HZ (fun v H1 => v = .ref f ∧ H1 = HZ) IZ ⟨.ref f, hs, rfl, rfl⟩
  refine wpAny_Call_Name_kw (thn at0 ?_)
  rintro u s1 ⟨v, H1, I1, r1, rfl, rfl⟩
  obtain rfl : u = Value.ref f := r1; have there : s1.heap.get? f = some (PySem.W.kla_obj "<lambda>" (X.env.qual ++ "<lambda>") params body scope (cloFrom X.env.cells scope.names []) pm c' ctv) := I1.base.keep f _ hf hfn hfr (fun z => nomatch (show f ∈ ([] : List Addr) from z))
  have since : Un (frs X.stack) [] H H1 s.heap s1.heap := I1.base
  obtain ⟨⟨oc, vs, t, hoc, hdc, hvc⟩, _, _⟩ := I1.hok c' _ hc; have inner : codeAny (model X.prog X.w) (X.A.deeper (envOfC qg sg s.heap.objs.size g cdg)) (.call (.ref f) ⟨[], []⟩) (CR (L2.CX X.prog X.w) (envOfC qg sg s.heap.objs.size g cdg :: X.stack) X.prog X.w H1 s1 Q E) s1 := by
    refine PySem.W.kla_callFunE hr.depth there rfl L.co L.gen rfl ⟨c', oc, vs, t, rfl, hoc, hdc, hvc⟩ ?_
    rw [hbind]
    refine wpAny_pure (wpAny_newFunctionEnv (fun y hy => (L.own y hy).2) (fun y hy => by cases hy) (fun h₁ hns hsb => ?_) L.kind)
    refine ⟨I1.nolimit.fresh _ hsb, ?_⟩
    show codeAny _ _ (.expr body (lamEnv X scope s1.heap.objs.size f c')) _ _; have kept : ∀ b o, s1.heap.get? b = some o → h₁.get? b = some o := fun b o e => hsb.extBut b o (Nat.ne_of_lt (Heap.lt_size e)) (Heap.get?_push_of_some _ e)
    have J := lam_start2 (E := E) (f := f) (c' := c') (tk := s1.toks + ([] : List (Str × Value)).length) I L I1.env0 hr.hd since hns kept
    have run := (hbody _ _ s1 H1 E (hr.deeper _) hgd).run [] _ _ H1 Q J ht
    refine PySem.W.kla_codeExpr (wpAny_mono run ?_ fun e s' hq => hq)
    rintro v s' ⟨w', H', J', rv, q⟩; exact ⟨w', H', J'.os, J'.bare, J'.base, J'.hok, rv, q⟩
  refine PySem.W.callWith_F0 ⟨_, _, _, _, there⟩ (wpAny_call (codeAny_mono inner ?_))
  intro r s' hq
  cases r with
  | error e => exact tk e s' (XE.of_call I1 hW hq)
  | ok fl =>
    cases fl with
    | ret u => exact I1.after hq
    | next => exact hq.elim
    | brk => exact hq.elim
    | cont => exact hq.elim
end
end Kn
set_option Elab.async false
set_option linter.all false
set_option maxRecDepth 100000
set_option maxHeartbeats 2100000
namespace Kn
open PySem PySem.Spec L2 RZ LamX
open PyProof.Rows (envOfC)
section
variable {X : Cx} {pins : List (Addr ×
      Obj)} {σ : L2.St} {H : Hp} {s : Shared}
/-- one code more in the table at P: what else is there stays, the tables are tables -/
theorem tabs_more {T : List (Addr × Str)} {P c' : Addr} {q : Str} {ps : Array Value} {pos : Pos} (hT : Tabs T H) (at_ : H P = some (.tbl ps)) (ok : TriplesOk ps.toList) (one : ∀ p ∈ T, p.1 = P → p.2 = q) (new : H c' = none) :
    (∀ b o, H b = some o → b ≠ P → upd (upd H P (.tbl (ps ++ #[rawInt pos.line, rawInt pos.col, .ref c']))) c' (CodeO c' q) b = some o) ∧ Tabs T (upd (upd H P (.tbl (ps ++ #[rawInt pos.line, rawInt pos.col, .ref c']))) c' (CodeO c' q)) := by
  have stay : ∀ b o, H b = some o → b ≠ P → upd (upd H P (.tbl (ps ++ #[rawInt pos.line, rawInt pos.col, .ref c']))) c' (CodeO c' q) b = some o := by
    intro b o e ne
    have ne2 : b ≠ c' := ne_of_none e new
    rw [upd_ne ne2, upd_ne ne, e]
  have code : ∀ {b : Addr} {r : Str}, H b = some (CodeO b r) → upd (upd H P (.tbl (ps ++ #[rawInt pos.line, rawInt pos.col, .ref c']))) c' (CodeO c' q) b = some (CodeO b r) := by
    intro b r e
    refine stay b _ e ?_
    rintro rfl
    rw [at_] at e
    exact codeO_ne ps (Option.some.inj e).symm
  refine ⟨stay, ?_⟩
  rintro ⟨a, r⟩ mem
  obtain ⟨qs, h1, h2, h3⟩ := hT _ mem
  by_cases e : a = P
  · obtain rfl : r = q := one _ mem e
    subst e
    obtain rfl : qs = ps := by
      rw [show H a = _ from h1] at at_
      injection at_ with z
      injection z
    have list : (qs ++ #[rawInt pos.line, rawInt pos.col, .ref c']).toList = qs.toList ++ [rawInt pos.line, rawInt pos.col, .ref c'] := Array.toList_append
    refine ⟨_, (upd_ne (ne_of_none at_ new)).trans upd_same, list ▸ PySem.TriplesOk_snoc _ _ _ _ ok, ?_⟩
    intro p cv among
    rw [list] at among
    rcases among_app _ ok among with old | rfl
    · obtain ⟨d, e1, e2⟩ := h3 p cv old
      exact ⟨d, e1, code e2⟩
    · exact ⟨c', rfl, upd_same⟩
  · refine ⟨qs, stay _ _ h1 e, h2, ?_⟩
    intro p cv among
    obtain ⟨d, e1, e2⟩ := h3 p cv among
    exact ⟨d, e1, code e2⟩
/-- no frame stands at an address that is not yet there -/
theorem frame_not (I : Inv X pins σ H s) {f : Addr} (big : s.heap.objs.size ≤ f) : f ∉ frs X.stack := by
  intro z
  have lt := I.lt
  rcases List.mem_cons.mp (I.stkSub _ z) with rfl | z
  · exact Nat.not_lt.mpr big lt
  · exact I.nofs big z
/-- a lambda is made: but the table at P all stays -/
theorem lam_laid {T : List (Addr × Str)} {c P : Addr} {params : Arguments} {body : Expr} {scope : Scope} {pos : Pos} {E : Value → Shared → Prop} {Q : Value → Shared → Prop} (I : Inv X pins σ H s) (TB : TabB X.base X.mg c P) (hcode : X.env.code = .ref c)
    (hm : (P, X.env.qual ++ "<lambda>") ∈ T) (hu : ∀ p ∈ T, p.1 = P → p.2 = X.env.qual ++ "<lambda>") (hT : Tabs T H) (hdef
          : defaultsOf params X.env = ([], [])) (hfree : ∀ y ∈ scope.names, y.2 = .free → ∃ c, X.env.cells.lookup y.1 = some c)
    (h : ∀ (f c' : Addr) (pm ctv : Value) (H1 : Hp) (s' : Shared), Inv X pins σ H1 s' → (∀ b o, H b = some o → b ≠ P → H1 b = some o) → Tabs T H1 →
      s'.heap.get? f = some (PySem.W.kla_obj "<lambda>" (X.env.qual ++ "<lambda>") params body scope (cloFrom X.env.cells scope.names
            []) pm c' ctv) → H1 f = none → f ∉ frs X.stack → H1 c' = some (CodeO c' (X.env.qual ++ "<lambda>")) → Q (.ref f) s') :
    wpAny (model X.prog X.w) X.A (eval (.Lambda
          params body scope pos) X.env) Q E s := by
  obtain ⟨ps, hP, ok, found⟩ := hT _ hm
  have raw : s.heap.get? P = some { cls := .none, data := .fields ps } := I.hok P _ hP
  have blt : s.heap.BuiltinsAt X.mg P := TB.bm.keeps I.bk
  have code := TB.code.keeps I.bk
  have glob := I.mod.glob.keeps I.bk
  refine PySem.W.kla_eval hdef ?_; rcases q : codeAmong pos ps.toList with _ | cv
  · refine PySem.W.kla_makeFunction (closure_ok hfree) I.ok.glob glob hcode code raw ok q TB.gP blt ?_
    rintro c' ctv h' tk keep ge lt ⟨_, oc, vs, t, ⟨⟩, there, hd, hv⟩ table
    have new : H c' = none := I.hok.fresh ge
    have big : s.heap.objs.size ≤ h'.objs.size := Nat.le_of_lt (Nat.lt_of_le_of_lt ge lt)
    obtain ⟨stay, tabs⟩ := tabs_more (pos := pos) hT hP ok hu new
    refine h h'.objs.size c' ((X.mg "__name__").getD .none) ctv _ _ (inv_table (t' := tk) (more := #[rawInt pos.line, rawInt pos.col, .ref c']) (h' := h'.push (PySem.W.kla_obj "<lambda>" (X.env.qual ++ "<lambda>") params body scope (cloFrom X.env.cells scope.names []) ((X.mg "__name__").getD .none) c' ctv)) I hP ?_ (Heap.get?_push_of_some _ table) ge ⟨oc, vs, t, Heap.get?_push_of_some _ there, hd, hv⟩) stay tabs (Heap.get?_push_size _ rfl) ?_ (frame_not I big) upd_same
    · exact fun b o ne e => Heap.get?_push_of_some _ (keep b o ne e)
    · have away : h'.objs.size ≠ P := Nat.ne_of_gt (Nat.lt_of_lt_of_le (Heap.lt_size raw) big)
      rw [upd_ne (Nat.ne_of_gt lt), upd_ne away]
      exact I.hok.fresh big
  · obtain ⟨c', rfl, there⟩ := found pos cv q
    refine PySem.W.kla_makeFunctionHit (closure_ok hfree) I.ok.glob glob hcode code raw ok q blt ?_
    intro ctv h' tk keep big
    exact h h'.objs.size c' ((X.mg "__name__").getD .none) ctv H _ (I.kept fun b o e => Heap.get?_push_of_some _ (keep b o e)) (fun _ _ e _ => e) hT (Heap.get?_push_size _ rfl) (I.hok.fresh big) (frame_not I big) there
end
/-- a def of the module whose code object stands at c -/
structure FunC (K : PySem.W.Frag) (x qual : Str) (st : Stmt) (f : Addr) (fd : FuncData) (c : Addr) : Prop where
  ex : ∃ (oc : Value) (od : Option Addr) (kV doc pm : Value) (an : Option Addr) (ct : Value) (osl : Array (Option Value)),
    fd = PySem.W.fnOf x qual (defArgs st) (defBody st) (defScope st) .none kV doc pm an (.ref c) ct ∧ K.lookup f = some ⟨oc, od, .func fd, osl⟩ ∧ PySem.W.codeIn K (.ref c) qual = true
  kp : PySem.W.keepIn
        K (.ref f) = true
/-- the reading of what is handed, what is wanted of the answer -/
abbrev LSpec := ((D → Prop) → (Exc → Prop) → Prop) → (D → Prop) → Prop
section
variable {G : Gd} {P : Program} {w : World} {mg : Str → Option Value} {base : Heap}
/-- what is handed at the heap H0, where B counts: read by T later, at most c draws -/
def Thunk (G : Gd) (c : Nat) (H0 : Hp) (B : Addr → Prop) (tl : XK → Hp → VK → Prop) (T : (D → Prop) → (Exc → Prop) → Prop) : Prop :=
  ∀ (E : XK) (HZ : Hp) (B' : Addr → Prop) (n : Nat) (Q0 : D → Prop) (ex0 : Exc → Prop) (Q' : VK), Ext G.u H0 HZ → Good G.u HZ n → c ≤ n → (∀ p, Pr G.u p → B' p.1 ∧ B' p.2) → (∀ b, B' b → B b ∨ H0 b = none) → (∀ b, B' b → HZ b ≠ none) → T Q0 ex0 →
    (∀ v H' d, Ext G.u HZ H' → Good G.u H' (n - c) → Den G B' H' d v → Q0 d → Q' v H') → (∀ x C d H', Ext G.u HZ H' → Good G.u H' (n - c) → ExcIs G B' H' x C d → ex0 x → E C d H') → tl E HZ Q'
/-- what a def that is handed a lambda asks -/
def liftL (G : Gd) (c : Nat) (S : LSpec) (tl : XK → Hp → VK → Prop) (H : Hp) (Q : VK) : Prop := ∃ (n : Nat) (B : Addr → Prop) (T : (D → Prop) → (Exc → Prop) → Prop) (R : D → Prop),
  c ≤ n ∧ (∀ p, Pr G.u p → B p.1 ∧ B p.2) ∧ (∀ a, B a → H a ≠ none) ∧ Good G.u H n ∧ Thunk G c H B tl T ∧ S T R ∧ ∀ v H' d, Ext G.u H H' → Good G.u H' (n - c) → Den G B H' d v → R d → Q v H'
/-- no error leaves -/
abbrev E1 : XK := fun _ _ _ => False
/-- what stands at slot 0 of the def at g can be called as tl -/
def ActOk (P : Program) (w : World) (K : PySem.W.Frag) (mg : Str → Option Value) (base : Heap) (N : List Str) (qg : Str) (sg : Scope) (g : Addr) (A : Around) (outer : List Env) (s : Shared) (H : Hp) (a : Str) (f c' : Addr) (q : Str) (tl : XK → Hp → VK → Prop) : Prop :=
  ∀ (cdv : Value) (W : WX) (pn : List (Addr × Obj)) (xe : Value → Shared → Prop) (p1 p2 : Pos), Takes ((cxOf (L2.CX P w) P w K mg base N qg sg g cdv A outer s H E1).tr pn xe) W →
    PE ((cxOf (L2.CX P w) P w K mg base N qg sg g cdv A outer s H E1).tr pn xe) (.Call (.Name a p1) [] [] p2) (tAct 0 f c' q W tl)
/-- the def x, that calls what it is handed -/
structure FnL (G : Gd) (P : Program) (w : World) (mg : Str → Option Value) (base : Heap) (k : Nat) (g : Addr) (fd : FuncData) (N : List Str) (qg : Str) (sg : Scope) (a : Str) (c : Nat) (S : LSpec) : Prop where
  hN : N[0]? = some a
  vis : Vis sg a
  run : ∀ (A : Around) (outer : List Env) (s : Shared) (H : Hp) (f c' : Addr) (q : Str) (tl : XK → Hp → VK → Prop) (Q : VK), Room k A → A.guards = some [] → Env0 P w G.K mg base A outer s H → BindsTo s fd ⟨[.ref f], []⟩ [(a, .ref f)] →
    ActOk P w G.K mg base N qg sg g A outer s H a f c' q tl → H c' = some (CodeO c' q) → liftL G c S tl H Q → codeAny (model P w) A (.call (.ref g) ⟨[.ref f], []⟩) (CR (L2.CX P w) outer P w H s Q E1) s
end
end Kn
set_option Elab.async false
set_option linter.all false
set_option maxRecDepth 100000
set_option maxHeartbeats 2100000
namespace Kn
open PySem PySem.Spec L2 RZ LamX
open PyProof.Rows (envOfC)
section
variable {G : Gd} {P : Program} {w : World} {mg : Str → Option Value} {base : Heap}
/-- what a def that makes lambdas knows of its code object and its table -/
structure LamT (G : Gd) (base : Heap) (mg : Str → Option Value) (c : Addr) (q : Str) : Prop where
  ex : ∃ (Pt : Addr) (r : Ur), TabB base mg c Pt ∧ G.u = some r ∧ (Pt, q) ∈ r.2 ∧ ∀ p ∈ r.2, p.1 = Pt → p.2 = q
/-- the def x of the module, that calls what it is handed -/
structure Fl (G : Gd) (P : Program) (w : World) (mg : Str → Option Value) (base : Heap) (k : Nat) (x : Str) (N : List Str) (sg : Scope) (a : Str) (c : Nat) (S : LSpec) : Prop where
  ex : ∃ (g : Addr) (fd : FuncData), FnL G P w mg base k g fd N x sg a c S ∧ mg x = some (.ref g) ∧ PySem.W.keepIn G.K (.ref g) = true ∧ Binds G.K fd [a] []
theorem FnL.mono {j k : Nat} {g : Addr} {fd : FuncData} {N : List Str} {qg : Str} {sg : Scope} {a : Str} {c : Nat} {S : LSpec} (F : FnL G P w mg base j g fd N qg sg a c S) (h : j ≤ k) : FnL G P w mg base k g fd N qg sg a c S :=
  ⟨F.hN, F.vis, fun A outer s H f c' q tl Q hr => F.run A outer s H f c' q tl Q (hr.mono h)⟩
/-- within a lambda's body -/
theorem xk_lam {X : Cx} {E : XK} {k : Nat} {A : Around} {outer : List Env} {s : Shared} {H : Hp} {scope : Scope} {f c' : Addr} (hK : X.K = G.K) (hr : Room k (A.deeper (lamEnv X scope s.heap.objs.size f c'))) (hg : A.guards = some []) : Xk G E k (lamCx X A outer s H E scope f c') where
  K := hK
  room := hr
  gd := hg
  pass := passes_call (W := fun cls d _ H => E cls d H) (takes_of rfl rfl rfl rfl) fun _ _ _ _ h => h
  calm := rfl
  tk := takes_of rfl rfl rfl rfl
/-- the state of the maker's slots at a later heap, where the lambda's body is read -/
theorem wd_lam {E E' : XK} {σ : List (Option V)} {H H1 HZ : Hp} (W : Wd G E σ H) (st : Step W 0 H1) {B' : Addr → Prop} {n m : Nat} {ex0 : Exc → Prop} (he : Ext G.u H1 HZ) (hg : Good G.u HZ n) (hu : ∀ p, Pr G.u p → B' p.1 ∧ B' p.2) (hB : ∀ b, B' b → W.XB b ∨ H1 b = none) (hZ : ∀ b, B' b → HZ b ≠ none)
    (kx : ∀ x C d H', Ext G.u HZ H' → Good G.u H' m → ExcIs G B' H' x C d → ex0 x → E' C d H') :
    ∃ W' : Wd G E' σ HZ, W'.u = G.u ∧ W'.n = n ∧ W'.m = m ∧ W'.env = inEnv W.env [] ∧ W'.ex = ex0 ∧ ∀ b, W'.XB b ↔ B' b := by
  have xb : ∀ b, XBof B' (inEnv W.env []) σ b → B' b := fun b h => xb_in h
  refine ⟨{ u := G.u, n := n, m := m, B := B', H0 := HZ, env := inEnv W.env [], ex := ex0, ug := rfl, hu := hu, hB := hZ, fr := Ext.refl _ _, good := hg, len := ?_, sl := fun i s e => ?_, nd := fun i j a s t h1 _ hm => (inEnv_noown h1 hm).elim, exc := kx }, rfl, rfl, rfl, rfl, rfl, fun b => ⟨xb b, .inl⟩⟩
  · unfold inEnv; rw [wipeE_len, List.length_map]; exact W.len
  · rcases inEnv_get e with z | ⟨_, s', h1, z⟩
    · subst z; trivial
    · subst z
      have so := (W.next st).sl i s' h1
      cases s' with
      | emp => trivial
      | own a ds => trivial
      | slf a dx c ds => trivial
      | obj a o => trivial
      | dic a ks ds => trivial
      | val d =>
        obtain ⟨x, e1, e2⟩ := so
        have e2' : Den G W.XB H1 d x := e2
        exact ⟨x, e1, Den.keep (fun b o nb hb => he b o hb (by rw [← W.ug]; exact W.nuX nb)) (fun b hb => hB b (xb b hb)) d x e2'⟩
def dLam (S : LSpec) (te : DT) : DT := fun ex env Q => S (fun Q0 ex0 => te ex0 (inEnv env []) Q0) Q
/-- x(lambda: body) -/
theorem de_lamcall {E : XK} {X : Cx} {j k kb cb cL : Nat} {x a : Str} {N : List Str} {sg : Scope} {S : LSpec} {c : Addr} {params : Arguments} {body : Expr} {scope : Scope} {te : DT} {p lpos pos : Pos} (F : Fl G X.prog X.w X.mg X.base j x N sg a cL S) (xk : Xk G E k X) (lt : LamT G X.base X.mg c (X.env.qual ++ "<lambda>")) (hcode : X.env.code = .ref c)
    (L : LamS X.env.scope scope) (hbody : ∀ (A : Around) (outer : List Env) (s : Shared) (H : Hp) (E' : XK) (f c' : Addr), Xk G E' kb (lamCx X A outer s H E' scope f c') → DE G E' (lamCx X A outer s H E' scope f c') cb body te) (hj : j ≤ k := by decide) (hkb : kb + 2 ≤ k := by decide) (hcb : cb ≤ cL := by decide)
    (hdef : defaultsOf params X.env = ([], []) := by rfl) (hbind : ∀ (q : Str) (cl : List (Str × Addr)) (pm cv ctv : Value), bindArgs (PySem.W.kla_fn "<lambda>" q params body scope cl pm cv ctv) ⟨[], []⟩ = pure [] := by (intros; rfl))
    (hg : Gl X x := by rfl) (hdb : (x == ("__debug__" : Str)) = false := by decide) (hd : (a == ("__debug__" : Str)) = false := by decide) (hcd : (a == ("__classdict__" : Str)) = false := by decide) :
    DE G E X cL (.Call (.Name x p) [.Lambda params body scope lpos] [] pos) (dLam S te) := by
  obtain ⟨g, fd, hF0, hm, hk, hb⟩ := F.ex
  obtain ⟨Pt, r, TB, hur, hmem, huq⟩ := lt.ex
  have hF := hF0.mono hj
  rw [← xk.K] at hk hb
  constructor
  intro pins s σ H Q' I h
  obtain ⟨W, hn, Q, hs, kk⟩ := h
  refine wpAny_Call_Name_kw (ld_glob I hg hm ?_ hdb); refine PySem.W.callWith_K (h₀ := X.base) I.ok.mod.kin hk ?_ (by rfl) (by rfl)
  show wpAny _ _ (spliced ((false, eval (.Lambda params body scope lpos) X.env) :: backTo pos (starEach [] X.env))) _ _ s; have hgood := W.good
  rw [W.ug, hur] at hgood
  obtain ⟨⟨ua, ub⟩, T⟩ := r
  obtain ⟨⟨cells, kI, rI, g1, g2, g3⟩, gT⟩ := hgood
  refine Calls.spliced_cons (lam_laid I TB hcode hmem huq gT hdef (L.has I.ok) fun f c' pm' ctv H1 s' I1 keep T1 hf hfn hfr hco => ?_)
  have atP : ∃ ps, H Pt = some (.tbl ps) := by
    obtain ⟨ps, e, _⟩ := gT _ hmem; exact ⟨ps, e⟩
  obtain ⟨ps, hP⟩ := atP
  have st : Step W 0 H1 := ⟨fun b o e nu => keep b o e (fun z => nu (Pt, Pt) ⟨_, by rw [W.ug, hur], .inr ⟨_, hmem, rfl⟩⟩ z.symm), by
    rw [W.ug, hur]
    exact ⟨⟨cells, kI, rI, keep _ _ g1 (fun z => by rw [z, hP] at g1; cases g1), keep _ _ g2 (fun z => by rw [z, hP] at g2; cases g2), g3⟩, T1⟩⟩
  have hug := W.ug
  have thunk : Thunk G cL H1 W.XB (fun E' H' Q' => lift G E' cb te σ H' Q') (fun Q0 ex0 => te ex0 (inEnv W.env []) Q0) := by
    intro E' HZ B' n' Q0 ex0 Q2 he hg' hc hu' hB' hZ ht kv kx
    obtain ⟨W', w1, w2, w3, w4, w5, w6⟩ := wd_lam (E' := E') (m := n' - cL) W st he hg' hu' hB' hZ kx
    refine ⟨W', by omega, Q0, by rw [w4, w5]; exact ht, fun v H' d st' hd hq => kv v H' d (by rw [← w1]; exact st'.ext) (by have z := st'.good; rw [w1, w2] at z; exact z.less (by omega)) (hd.fewer fun b z => (w6 b).2 z) hq⟩
  have lf : liftL G cL S (fun E' H' Q' => lift G E' cb te σ H' Q') H1 Q' := by
    refine ⟨W.n, W.XB, _, Q, by omega, fun p e => ⟨.inl (W.hu p (by rw [hug]; exact e)).1, .inl (W.hu p (by rw [hug]; exact e)).2⟩, fun a ha z => (W.next st).fresh z ha, by have z := st.good; rw [hug] at z; exact z, thunk, hs, fun v H' d e g' hd hq => kk v H' d ⟨st.ext.trans (by rw [hug]; exact e), by rw [hug]; exact g'⟩ hd hq⟩
  have act : ActOk X.prog X.w G.K X.mg X.base N x sg g X.A X.stack s' H1 a f c' (X.env.qual ++ "<lambda>") (fun E' H' Q' => lift G E' cb te σ H' Q') := by
    rw [← xk.K]
    intro cdv W0 pn xe p1 p2 tk
    exact pe_actS (k := kb) (tb := fun E' => lift G E' cb te) I1 L hf hfn hfr (hbind _ _ _ _ _) tk ((xk.room.mono (by omega : kb + 1 + 1 ≤ k)).deeper _) (fun A outer s H E' hr hgd => hbody A outer s H E' f c' (xk_lam xk.K hr hgd)) xk.gd hF.hN hF.vis hd hcd
  refine Calls.spliced_nil ⟨I1.kIn, ?_⟩; have rc : codeAny (model X.prog X.w) X.A (.call (.ref g) ⟨[.ref f], []⟩) (CR (L2.CX X.prog X.w) X.stack X.prog X.w H1 s' Q' E1) s' :=
    hF.run X.A X.stack s' H1 f c' _ _ Q' xk.room xk.gd (by rw [← xk.K]; exact I1.env0) (hb s' [.ref f] I1.kIn rfl) act hco lf
  refine wpAny_call (codeAny_mono rc fun r s2 hq => ?_); cases r with
  | error e => obtain ⟨_, _, _, _, _, _, _, _, _, _, _, _, z⟩ := hq; exact z.elim
  | ok fl =>
    cases fl with
    | ret u => exact I1.after hq
    | next => exact hq.elim
    | brk => exact hq.elim
    | cont => exact hq.elim
end
end Kn
set_option Elab.async false
set_option linter.all false
set_option maxRecDepth 100000
set_option maxHeartbeats 2100000
namespace Kn
open PySem PySem.Spec L2 RZ LamX
open PyProof.Rows (envOfC)
end Kn
set_option Elab.async false
set_option linter.all false
set_option maxRecDepth 100000
set_option maxHeartbeats 2100000
namespace Kn
open PySem PySem.Spec L2 RZ LamX
open PyProof.Rows (envOfC AllBare IntsAre)
/-- the law's def answers True from the entry on, over the heap of which the script and the tables of cs may be known -/
def LawOkT (P : Program) (w : World) (K : PySem.W.Frag) (mg : Str → Option Value) (fa a : Addr) (ns : List Int) (s₁ : Shared) (cs : List (Addr × Addr)) : Prop :=
  ∀ (base : Heap) (H : Hp), K.In base → base.Ns mainGlobals mg → (∀ p ∈ cs, TabB base mg p.1 p.2) → (∀ p ∈ cs, H p.2 = some (.tbl #[])) → SqL K H a (ns.map V.int) → Env0 P w K mg base callerA [] s₁ H →
    codeAny (model P w) callerA (.call (.ref fa) ⟨[.ref a], []⟩) (CR (L2.CX P w) [] P w H s₁ (fun v _ => v = .bl true) (fun _ _ _ => False)) s₁
section
variable {P : Program} {w : World} {K : PySem.W.Frag} {mg mb : Str → Option Value} {fa a : Addr} {s₁ : Shared} {vs : List Value} {ns : List Int} {cs : List (Addr × Addr)}
theorem law_coreT (KX : K.In s₁.heap) (hns : s₁.heap.Ns mainGlobals mg) (hb : s₁.heap.Ns builtinsNs mb) (hbb : ∀ x : Str, x ≠ "__name__" → mb x = bootBuiltins x) (hlim : s₁.heap.NoLimit) (hg : s₁.gens = #[])
    (hbm : ∃ (bm : Addr) (ob : Obj), mg "__builtins__" = some (.ref bm) ∧ bm ≠ builtinsNs ∧
          s₁.heap.get? bm = some ob ∧ ob.cls = .type "module" ∧ ob.dict = some builtinsNs ∧ ob.data = .plain)
    (ha : s₁.heap.get? a = some { cls := .type "list", data := .seq vs.toArray }) (hT : ∀ p ∈ cs, s₁.heap.get? p.2 = some (PySem.W.tabObj #[])) (nT : ∀ p ∈ cs, K.lookup p.2 = none) (C : ∀ p ∈ cs, PySem.W.CodeHd s₁.heap p.1 p.2) (F : LawOkT P w K mg fa a ns s₁ cs)
    (H : Hp) (hH : ∀ p ∈ cs, H p.2 = some (.tbl #[])) (hO : ∀ b o, H b = some o → (b = a ∧ ∃ ob xs, o = .frz ob (.lst xs)) ∨ ∃ p ∈ cs, b = p.2) (hS : SqL K H a (ns.map V.int)) (ok : HOk P w H s₁.heap) (hK : H a ≠ none → K.lookup a = none) :
    codeAny (model P w) callerA (.call (.ref fa) ⟨[.ref a], []⟩) (fun r s' => r = .ok
      (.ret (.bool true)) ∧ OldK s₁.heap s'.heap ∧ s'.os = s₁.os ∧ AllBare s'.gens) s₁ := by
  -- what is neither a list nor an empty record is not tracked
  have off : ∀ {b : Addr} {o : Obj}, s₁.heap.get? b = some o → (∀ xs n, o.data ≠ .seq xs n) → o.data ≠ .fields #[] → H b = none := by
    intro b o e n1 n2
    cases q : H b with
    | none => rfl
    | some u =>
      exfalso
      rcases hO b u q with ⟨rfl, _⟩ | ⟨p, hp, rfl⟩
      · rw [ha] at e; cases e; exact n1 _ _ rfl
      · rw [hT p hp] at e; cases e; exact n2 rfl
  have dict_off : ∀ {b : Addr} {o : Obj} {es : Array DictEntry} {ep : Nat}, s₁.heap.get? b = some o → o.data = .dict es ep → H b = none := fun {b o es ep} e d =>
    off e (fun xs n z => by rw [d] at z; cases z) (fun z => by rw [d] at z; cases z)
  have kb : K.In (hidT s₁.heap H) := by
    intro b o e
    refine hidT_get (KX b o e) ?_
    cases q : H b with
    | none => rfl
    | some u =>
      exfalso
      rcases hO b u q with ⟨rfl, _⟩ | ⟨p, hp, rfl⟩
      · rw [hK (by rw [q]; simp)] at e; cases e
      · rw [nT p hp] at e; cases e
  have gl := ns_hid dict_off hns
  obtain ⟨mc, l1, l2⟩ := hlim
  have hM : Mod K mg (hidT s₁.heap H) := ⟨kb, gl, ⟨mb, ns_hid dict_off hb, hbb⟩, ⟨mc, ns_hid dict_off l1, l2⟩⟩
  have e0 : Env0 P w K mg (hidT s₁.heap H) callerA [] s₁ H := {
    frames := rfl, mod := hM, bs := fun b o e => of_hidT e, bsz := Nat.le_of_eq (hidT_size _ _), funs := trivial, frf := fun b hb => (List.not_mem_nil hb).elim, hok := ok, bare := .of_eq hg }
  have tb : ∀ p ∈ cs, TabB (hidT s₁.heap H) mg p.1 p.2 := by
    intro p hp
    have at_ := hT p hp
    refine ⟨?_, ?_, fun z => ?_⟩
    · obtain ⟨o, us, x1, x2, x3, x4, x5, x6, x7, e1, e2, e3, e4, r⟩ := C p hp
      refine ⟨o, us, x1, x2, x3, x4, x5, x6, x7, hidT_get e1 (off e1 (fun xs n z => by rw [e3] at z; cases z) fun z => ?_), e2, e3, e4, r⟩
      rw [e3] at z
      cases z
      cases e4
    · obtain ⟨bm, ob, b1, b2,
          b3, b4, b5, b6⟩ := hbm
      refine ⟨bm, ob, b1, b2, fun q => ?_, fun q => ?_, hidT_get b3 (off b3 (fun xs n z => by rw [b6] at z; cases z) fun z => by rw [b6] at z; cases z), b4, b5, b6⟩
      · obtain ⟨o, es, ep, e, d, _⟩ := hns
        rw [q, e] at b3
        cases b3
        rw [d] at b6; cases b6
      · rw [q, at_] at b3
        cases b3; cases b6
    · obtain ⟨o, es, ep, e, d, _⟩ := hns
      rw [z, at_] at e
      cases e; cases d
  refine codeAny_mono (F _ H kb gl tb hH hS e0) ?_
  intro r s' h
  cases r with
  | error e =>
    exfalso
    obtain ⟨_, _, _, _, _, _, _, _, _, _, _, _, z⟩ := h; exact z.elim
  | ok fl =>
    cases fl with
    | next => exact h.elim
    | brk => exact h.elim
    | cont => exact h.elim
    | ret u =>
      obtain ⟨v, H', os, bare, un, hok', r', q⟩ := h; rw [show v = .bl true from q] at r'
      cases r'
      have grown : ∀ p ∈ cs, ∃ more, s'.heap.get? p.2 = some (PySem.W.tabObj more) := fun p hp => by
        obtain ⟨more, z⟩ := un.tbls p.2 #[] (hH p hp); exact ⟨_, hok' p.2 _ z⟩
      have same : ∀ b o, (∀ p ∈ cs, b ≠ p.2) → s₁.heap.get? b = some o → s'.heap.get? b = some o := by
        intro b o nb e
        cases hq : H b with
        | none => exact un.keep b o e hq (by intro z; cases z) (by intro z; cases z)
        | some x =>
          rcases hO b x hq with ⟨_, ob, xs, rfl⟩ | ⟨p, hp, z⟩
          · have g1 := (ok b _ hq).1
            have g2 := (hok' b _ (un.frzs b ob _ hq)).1
            rw [e] at g1
            cases g1
            exact g2
          · exact (nb p hp z).elim
      refine ⟨rfl, ⟨fun b o e => ?_,
            fun b o e => ?_⟩, os, bare⟩
      · by_cases hb : ∃ p ∈ cs, b = p.2
        · obtain ⟨p, hp, rfl⟩ := hb
          obtain ⟨more, hm⟩ := grown p hp; rw [hT p hp] at e
          cases e; exact .inr (.inl ⟨((C p hp).tab (hT p hp)).isCodeTable, rfl, #[], more, rfl, by rw [Array.empty_append]; exact hm⟩)
        · exact .inl (same b o (fun p hp z => hb ⟨p, hp, z⟩) e)
      · by_cases hb : ∃ p ∈ cs, b = p.2
        · obtain ⟨p, hp, rfl⟩ := hb
          obtain ⟨more, hm⟩ := grown p hp; exact ⟨_, hm⟩
        · exact ⟨o, same b o (fun p hp z => hb ⟨p, hp, z⟩) e⟩
theorem law_topT (KX : K.In s₁.heap) (hns : s₁.heap.Ns mainGlobals mg) (hb : s₁.heap.Ns builtinsNs mb) (hbb : ∀ x : Str, x ≠ "__name__" → mb x = bootBuiltins x) (hlim : s₁.heap.NoLimit) (hg : s₁.gens = #[])
    (hbm : ∃ (bm : Addr) (ob : Obj), mg "__builtins__" = some (.ref bm) ∧ bm ≠ builtinsNs ∧
          s₁.heap.get? bm = some ob ∧ ob.cls = .type "module" ∧ ob.dict = some builtinsNs ∧ ob.data = .plain)
    (ha : s₁.heap.get? a = some { cls := .type "list", data := .seq vs.toArray }) (hi : IntsAre vs ns) (hl : ns.length ≤ sizeLine) (hT : ∀ p ∈ cs, s₁.heap.get? p.2 = some (PySem.W.tabObj #[])) (nT : ∀ p ∈ cs, K.lookup p.2 = none) (C : ∀ p ∈ cs, PySem.W.CodeHd s₁.heap p.1 p.2) (F : LawOkT P w K mg fa a ns s₁ cs) :
    codeAny (model P w) callerA (.call (.ref fa) ⟨[.ref a], []⟩) (fun r s' => r = .ok
      (.ret (.bool true)) ∧ OldK s₁.heap s'.heap ∧ s'.os = s₁.os ∧ AllBare s'.gens) s₁ := by
  have rv := vals_ints hi
  have nat : ∀ p ∈ cs, p.2 ≠ a := fun p hp z => by
    have e := hT p hp
    rw [z, ha] at e; cases e
  open Classical in
  let Tb : Addr → Option HO := fun b => if ∃ p ∈ cs, b = p.2 then some (.tbl #[]) else none
  have tb1 : ∀ p ∈ cs, Tb p.2 = some (.tbl #[]) := fun p hp => if_pos ⟨p, hp, rfl⟩
  have tb2 : ∀ b o, Tb b = some o → (∃ p ∈ cs, b = p.2) ∧ o = .tbl #[] := fun b o e => by
    by_cases h : ∃ p ∈ cs, b = p.2
    · rw [show Tb b = some (.tbl #[]) from if_pos h] at e
      exact ⟨h, (Option.some.inj e).symm⟩
    · rw [show Tb b = none from if_neg h] at e; cases e
  have okT : ∀ {H : Hp} b o, Tb b = some o → ObjOk P w H s₁.heap b o := fun {H} b o e => by
    obtain ⟨⟨p, hp, rfl⟩, rfl⟩ := tb2 b o e
    exact hT p hp
  cases hk : K.lookup a with
  | some o =>
    have e := KX a o hk
    rw [ha] at e
    cases e
    refine law_coreT KX hns hb hbb hlim hg hbm ha hT nT C F Tb tb1 (fun b u z => .inr (tb2 b u z).1) (.inr ⟨_, vs.toArray, _, hk, rfl, rfl, rfl, by rw [List.size_toArray, hi.length]; exact hl, by simpa using rv⟩) (fun b u z => okT b u z) (fun z => ?_)
    cases q : Tb a with
    | none => exact (z q).elim
    | some u =>
      obtain ⟨⟨p, hp, e⟩, _⟩ := tb2 a u q
      exact (nat p hp e.symm).elim
  | none =>
    let H : Hp := fun b => if b = a then some (.frz { cls := .type "list", data := .seq vs.toArray } (.lst (ns.map V.int))) else Tb b
    have Ha : H a = some (.frz { cls := .type "list", data := .seq vs.toArray } (.lst (ns.map V.int))) := if_pos rfl
    have Hn : ∀ {b}, b ≠ a → H b = Tb b := fun {b} hb => if_neg hb
    refine law_coreT KX hns hb hbb hlim hg hbm ha hT nT C F H (fun p hp => by rw [Hn (nat p hp)]; exact tb1 p hp) (fun b u z => ?_) (.inl (.inr ⟨_, Ha⟩)) (fun b u z => ?_) (fun _ => hk)
    · by_cases h : b = a
      · rw [h, Ha] at z
        cases z
        exact .inl ⟨h, _, _, rfl⟩
      · rw [Hn h] at z
        exact .inr (tb2 b u z).1
    · by_cases h : b = a
      · rw [h, Ha] at z
        cases z
        rw [h]; exact ⟨ha, by rw [List.length_map]; exact hl, vs, _, rv, ha⟩
      · rw [Hn h] at z
        exact okT b u z
end
end Kn
set_option Elab.async false
set_option linter.all false
set_option maxRecDepth 100000
set_option maxHeartbeats 4100000
namespace Kn
open PySem L2 RZ
open PyProof.Rows (envOfC)
/-- the law's pen: a new list of the cells and two numbers -/
def spPen (K : PySem.W.Frag) : Sp := fun vs H Q _ => ∃ (a : Addr) (ns : List Int), vs = [.ref a] ∧ SqL K H a (ns.map V.int) ∧ ns.length ≤ 63 ∧
  ∀ (H' : Hp) (p b : Addr) (cells : List Int), Ext none H H' → H p = none → H b = none → p ≠ b → cells.length ≤ 63 → H' p = some (.lst [.ref b, .int 0, .int 0]) → H' b = some (.lst (cells.map V.int)) → Q (.ref p) H'
theorem Ext.sl {H H' : Hp} {a : Addr} {xs : List V} (e : Ext none H H') (h : SqL K H a xs) : SqL K H' a xs := Kn.Ext.sqL e NU.none h
theorem cut_ints (ns : List Int) : cutV (ns.map V.int) none (some 60) = (ns.take 60).map V.int := by
  unfold cutV
  rw [HT.sIx_none, List.drop_zero, Nat.sub_zero, show HT.sIx (ns.map V.int).length (ns.map V.int).length (some 60) = min 60 (ns.map V.int).length from HT.sIx_nat _ _ 60, List.length_map, ← List.map_take]
  congr 1
  by_cases h : 60 ≤ ns.length
  · rw [Nat.min_eq_left h]
  · rw [Nat.min_eq_right (by omega), List.take_length, List.take_of_length_le (by omega)]
section
variable {P : Program} {w : World} {G : Gd} {mg : Str → Option Value} {fa a : Addr} {fd : FuncData} {s₁ : Shared} {ns : List Int} {k : Nat}
theorem line_4000 : ((2 ^ 4000 : Nat) : Int) ≤ atLine := by
  unfold atLine
  rw [show (4096 : Nat) = 96 + 4000 from rfl, Int.pow_add]
  have h : (0 : Int) < 2 ^ 4000 := by first | exact Int.pow_pos (by decide) | exact Int.pos_pow_of_pos 4000 (by decide)
  push_cast
  generalize (2 : Int) ^ 4000 = T at *
  omega
/-- nothing wanted of errors -/
abbrev EF : XK := fun _ _ _ => False
/-- the state behind the making of the urn at p, with its cells at b -/
theorem wd_urn {N : List Str} {x : V} {p b : Addr} {H' : Hp} {cells : List Int} {T : List (Addr × Str)} (hN : 2 ≤ N.length) (hpb : p ≠ b) (hcl : cells.length ≤ 63) (hp : H' p = some (.lst [.ref b, .int 0, .int 0])) (hb : H' b = some (.lst (cells.map V.int))) (h2 : (L2.start N [x]).length = N.length) (hT : LamX.Tabs T H') :
    ∃ W : Wd { G with u := some ((p, b), T) } EF ((L2.start N [x]).set 1 (some (.ref p))) H', W.n = 2 ^ 4000 ∧ W.m = 0 ∧ W.env = .emp :: .val .urn :: List.replicate (N.length - 2) .emp ∧ W.ex = noX := by
  have he : ∀ {i : Nat} {s : Sl}, (Sl.emp :: Sl.val .urn :: List.replicate (N.length - 2) Sl.emp)[i]? = some s → s = .emp ∨ (i = 1 ∧ s = .val .urn) := fun {i s} e => by
    match i with
    | 0 => exact .inl (Option.some.inj e).symm
    | 1 => exact .inr ⟨rfl, (Option.some.inj e).symm⟩
    | i + 2 =>
      have e' : (List.replicate (N.length - 2) Sl.emp)[i]? = some s := e
      rw [List.getElem?_replicate] at e'
      split at e'
      · exact .inl (Option.some.inj e').symm
      · cases e'
  have hno : ∀ {i : Nat} {s : Sl}, (Sl.emp :: Sl.val .urn :: List.replicate (N.length - 2) Sl.emp)[i]? = some s → s.mine = true → False := fun {i s} e hm => by
    rcases he e with z | ⟨_, z⟩
    · subst z; cases hm
    · subst z; cases hm
  refine ⟨{ u := some ((p, b), T), n := 2 ^ 4000, m := 0, B := fun c => c = p ∨ c = b ∨ ∃ t ∈ T, c = t.1, H0 := H', env := .emp :: .val .urn :: List.replicate (N.length - 2) .emp, ex := noX, ug := rfl, hu := fun q e => ?_, hB := fun c hc z => ?_, fr := Ext.refl _ _, good := ?_, len := ?_, sl := fun i s e => ?_, nd := fun i j c s t e1 e2 m1 => (hno e1 m1).elim, exc := fun _ _ _ _ _ _ _ z => z.elim }, rfl, rfl, rfl, rfl⟩
  · obtain ⟨r, er, q⟩ := e
    cases er
    rcases q with rfl | ⟨t, ht, rfl⟩
    · exact ⟨.inl rfl, .inr (.inl rfl)⟩
    · exact ⟨.inr (.inr ⟨t, ht, rfl⟩), .inr (.inr ⟨t, ht, rfl⟩)⟩
  · rcases hc with rfl | rfl | ⟨t, ht, rfl⟩
    · rw [hp] at z; cases z
    · rw [hb] at z; cases z
    · obtain ⟨ps, e, _⟩ := hT t ht
      rw [e] at z; cases z
  · refine ⟨⟨cells, 0, 0, hp, hb, hcl, hpb, by decide, by decide, ?_⟩, hT⟩
    rw [Int.zero_add]
    exact line_4000
  · rw [List.length_set, h2]
    simp only [List.length_cons, List.length_replicate]
    omega
  · rcases he e with z | ⟨rfl, z⟩
    · subst z; trivial
    · subst z
      refine ⟨.ref p, ?_, ((p, b), T), rfl, rfl⟩
      rw [List.getElem?_set_self (by omega)]
      rfl
/-- THE RULE for the law: its first statement makes the urn, the rest is read over it -/
theorem law_of {cs : List (Addr × Addr)} {T : List (Addr × Str)} {cd : Addr} (hcs : ∀ t ∈ T, ∃ p ∈ cs, p.2 = t.1) {st s0 : Stmt} {rest : List Stmt} {N : List Str} {c : Nat} {ts : DS} (hGu : G.u = none) (F : FunC G.K "law" "law" st fa fd cd) (Sc : FnScope N ["script"] (defScope st)) (hb : ∀ (s : Shared) (v : Value), BindsTo s fd ⟨[v], []⟩ [("script", v)])
    (hr : Room (k + 1) callerA) (hN : 2 ≤ N.length) (hbody : defBody st = s0 :: rest) (hc : c ≤ 2 ^ 4000) (hlen : ns.length ≤ 63)
    (h0 : ∀ (base : Heap) (H : Hp), Room k (callerA.deeper (envOfC "law" (defScope st) s₁.heap.objs.size fa (.ref cd))) → PS (cxOf (L2.CX P w) P w G.K mg base N "law" (defScope st) fa (.ref cd) callerA [] s₁ H EF) s0 (tAsg (tCall (spPen G.K) [] EF (tCons (tVar 0) tNil)) (gName 1)))
    (hder : ∀ (p b : Addr) (base : Heap) (H : Hp), (∀ p ∈ cs, LamX.TabB base mg p.1 p.2) → Room k (callerA.deeper (envOfC "law" (defScope st) s₁.heap.objs.size fa (.ref cd))) → DSs { G with u := some ((p, b), T) } EF (cxOf (L2.CX P w) P w G.K mg base N "law" (defScope st) fa (.ref cd) callerA [] s₁ H EF) c rest ts)
    (hS : ts noX { nx := fun _ => False, rt := fun d _ => d = .bl true } (.emp :: .val .urn :: List.replicate (N.length - 2) .emp)) : LawOkT P w G.K mg fa a ns s₁ cs := by
  intro base H KXb hmg hTB hTH hSq e0
  have hTabs : LamX.Tabs T H := fun t ht => by
    obtain ⟨p, hp, e⟩ := hcs t ht
    rw [← e]
    exact LamX.TabS.nil (hTH p hp)
  obtain ⟨oc, od, kV, doc, pm, an, ct, osl, rfl, lk, hcd⟩ := F.ex; have KX : G.K.In s₁.heap := PySem.W.Frag.In.keeps e0.mod.kin (fun b o e => (e0.bs b o e).1)
  have nolim : s₁.heap.NoLimit := Heap.NoLimit.keeps e0.mod.nolimit (fun b o e => (e0.bs b o e).1)
  have kinds : ∀ y ∈ (["script"] : List Str).zip [Value.ref a], (defScope st).names.lookup y.1 = some .local ∨
      ((defScope st).names.lookup y.1 = some .cell ∧ ((cellsFrom (s₁.heap.objs.size + 1) (defScope st).names []).lookup y.1).isSome = true) := by
    intro y hy
    obtain ⟨n1, v1⟩ := y
    rcases Sc.par n1 (List.of_mem_zip hy).1 with z | z
    · exact .inl z
    · exact .inr ⟨z, PySem.W.cellsFrom_some _ _ _ (.inl z)⟩
  refine codeAny_call_function hr.depth (KX _ _ lk) rfl Sc.co Sc.gen rfl (PySem.W.codeRec_of KX hcd) ?_
  refine hb _ _ _ _ _ _ (wpAny_newFunctionEnv_cells Sc.kind kinds ?_)
  intro env he s1 ic
  subst he
  refine ⟨nolim.keeps ic.toInCall.keep, codeAny_func ?_⟩
  have I : Inv (cxOf (L2.CX P w) P w G.K mg base N "law" (defScope st) fa (.ref cd) callerA [] s₁ H EF) [] (L2.start N [.ref a]) H s1 := inv_start Sc hr.hd e0 rfl (.cons rfl .nil) ic
  have rm := hr.deeper (envOfC "law" (defScope st) s₁.heap.objs.size fa (.ref cd))
  have hl2 : (L2.start N [V.ref a]).length = N.length := by
    unfold L2.start
    simp only [List.length_append, List.length_map, List.length_replicate, List.length_cons, List.length_nil]
    omega
  have body : PSs (cxOf (L2.CX P w) P w G.K mg base N "law" (defScope st) fa (.ref cd) callerA [] s₁ H EF) (defBody st) (tSeq (tAsg (tCall (spPen G.K) [] EF (tCons (tVar 0) tNil)) (gName 1)) fun Dn σ H' => ∃ p b, liftS { G with u := some ((p, b), T) } EF c ts Dn σ H') := by
    rw [hbody]
    exact pss_cons (h0 base H rm) ⟨fun pins s σ H' D I q => by
      obtain ⟨p, b, q⟩ := q
      exact (hder p b base H hTB rm).run pins s σ H' D I q⟩
  have run := body.run [] s1 (L2.start N [.ref a]) H { nx := fun _ _ => False, rt := fun v _ => v = .bl true } I (by
    refine ⟨.ref a, rfl, a, ns, rfl, hSq, hlen, fun H' p b cells hext hp0 hb0 hpb hcl hp hb' => ?_⟩
    obtain ⟨W, w1, w2, w3, w4⟩ := wd_urn (G := G) hN hpb hcl hp hb' hl2 (hTabs.ext fun b o e => hext b o e NU.none)
    refine ⟨p, b, W, by rw [w1, w2, Nat.zero_add]; exact hc, ({ nx := fun _ => False, rt := fun d _ => d = .bl true } : DEnds), by rw [w3, w4]; exact hS, fun _ _ _ _ z => z.elim, fun v σ' H' W' d lt hd hr' => ?_, fun _ _ _ _ z => z.elim, fun _ _ _ _ z => z.elim⟩
    subst hr'
    exact hd)
  refine wpAny_mono run ?_ (fun e s' hs => hs)
  intro fl s' hfl
  cases fl with
  | next => obtain ⟨σ', H', J, q⟩ := hfl; exact q.elim
  | ret v' => obtain ⟨v, σ', H', J, r1, q⟩ := hfl; exact ⟨v, H', J.os, J.bare, J.base, J.hok, r1, q⟩
  | brk => obtain ⟨σ', H', J, q⟩ := hfl; exact q.elim
  | cont => obtain ⟨σ', H', J, q⟩ := hfl; exact q.elim
end
end Kn
set_option Elab.async false
set_option linter.all false
set_option maxRecDepth 100000
set_option maxHeartbeats 2100000
namespace Kn
open PySem PySem.Spec L2 RZ
section
variable {G : Gd} {E : XK} {X : Cx} {σ : List (Option V)} {H H' : Hp} {k : Nat}
def D.atom : D → Bool
  | .non => true
  | .bl _ => true
  | .int _ => true
  | .str _ => true
  | _ => false
theorem den_atom {B B' : Addr → Prop} {H H' : Hp} {d : D} {v : V} (h : d.atom = true) (hd : Den G B H d v) : Den G B' H' d v := by
  cases d <;> first | exact hd | cases h
/-- {} -/
theorem de_dic0 {pos : Pos} : DE G E X 0 (.Dict [] [] pos) (dC (.dic [] [])) := imp pe_dnewK fun σ H Q' hh => by
  obtain ⟨W, hn, Q, hq, kk⟩ := hh
  intro p hp
  exact kk (.ref p) _ (.dic [] []) ((Step.refl W).new hp) ⟨p, [], rfl, W.fresh hp, upd_same, rfl, rfl⟩ hq
end
end Kn
set_option Elab.async false
set_option linter.all false
set_option maxRecDepth 100000
set_option maxHeartbeats 2100000
namespace Kn
open PySem L2 RZ
section
variable {α : Type} {tg : DG} {tt : DB} {te : DT} {Q : List D → Prop} {env : List Sl}
/-- [e for x in xs]: g says how an item lies, r what comes of it -/
theorem compL_of (g r : α → D) : ∀ {xs : List α} {acc : List D}, (∀ x ∈ xs, ∀ K : D → Prop, K (r x) → tg (g x) env fun env2 => te noX env2 K) → Q (acc ++ xs.map r) → compL tg bYes te Q env (xs.map g) acc
  | [], acc, _, hq => by
    unfold compL
    simpa using hq
  | x :: xs, acc, h, hq => by
    show compL tg bYes te Q env (g x :: xs.map g) acc
    unfold compL
    refine h x List.mem_cons_self _ ?_
    exact compL_of g r (fun y hy => h y (List.mem_cons_of_mem _ hy)) (by rw [List.append_assoc]; exact hq)
/-- .. with an if -/
theorem compL_ofF (g r : α → D) (p : α → Bool) : ∀ {xs : List α} {acc : List D}, (∀ x ∈ xs, ∀ (K : D → Prop) (K' : Prop), (p x = true → K (r x)) → (p x = false → K') → tg (g x) env fun env2 => tt noX env2 fun b => if b = true then te noX env2 K else K') → Q (acc ++ (xs.filter p).map r) → compL tg tt te Q env (xs.map g) acc
  | [], acc, _, hq => by
    unfold compL
    simpa using hq
  | x :: xs, acc, h, hq => by
    show compL tg tt te Q env (g x :: xs.map g) acc
    unfold compL
    refine h x List.mem_cons_self _ _ (fun hp => ?_) (fun hp => ?_)
    · refine compL_ofF g r p (fun y hy => h y (List.mem_cons_of_mem _ hy)) ?_
      rw [List.filter_cons, if_pos hp] at hq
      rw [List.append_assoc]; exact hq
    · refine compL_ofF g r p (fun y hy => h y (List.mem_cons_of_mem _ hy)) ?_
      rw [List.filter_cons, if_neg (by rw [hp]; decide)] at hq
      exact hq
/-- for x in xs -/
theorem sForL_of {ex : Exc → Prop} {tb : DS} {de : DEnds} (g : α → D) {xs : List α} (I : Nat → List Sl → Prop) (h0 : I 0 env)
    (hs : ∀ (i : Nat) (x : α) (env : List Sl), xs[i]? = some x → I i env → ∀ nx : List Sl → Prop, (∀ env', I (i + 1) env' → nx env') → tg (g x) env fun env2 => tb ex { de with nx := nx, ct := nx, bk := de.nx } env2)
    (hd : ∀ env, I xs.length env → de.nx env) : sForL ex tg tb de (xs.map g) env := by
  refine sForL_inv I 0 h0 (fun i x env hi hI nx hn => ?_) (fun env hI => hd env (by rw [Nat.zero_add, List.length_map] at hI; exact hI))
  rw [List.getElem?_map] at hi
  obtain ⟨y, hy, rfl⟩ := Option.map_eq_some_iff.mp hi
  rw [Nat.zero_add] at hI hn
  exact hs i y env hy hI nx hn
/-- for i in range(n) -/
theorem sForL_rng {ex : Exc → Prop} {tb : DS} {de : DEnds} {n : Nat} (I : Nat → List Sl → Prop) (h0 : I 0 env)
    (hs : ∀ (i : Nat) (env : List Sl), i < n → I i env → ∀ nx : List Sl → Prop, (∀ env', I (i + 1) env' → nx env') → tg (.int i) env fun env2 => tb ex { de with nx := nx, ct := nx, bk := de.nx } env2)
    (hd : ∀ env, I n env → de.nx env) : sForL ex tg tb de (rangeD 0 n) env := by
  have e : rangeD 0 n = (List.range n).map fun (i : Nat) => D.int i := by
    unfold rangeD
    refine List.map_congr_left fun i _ => ?_; rw [Int.zero_add]
  rw [e]
  refine sForL_of (fun (i : Nat) => D.int i) I h0 (fun i x env hi hI nx hn => ?_) (fun env hI => hd env (by rw [List.length_range] at hI; exact hI))
  obtain ⟨hlt, hx⟩ := List.getElem?_eq_some_iff.mp hi
  rw [List.getElem_range] at hx
  rw [← hx]
  exact hs i env (by rw [List.length_range] at hlt; exact hlt) hI nx hn
end
/-- a statement in a row: what stands behind it -/
theorem seq_to {t u : DS} {ex : Exc → Prop} {de : DEnds} {env : List Sl} (I : List Sl → Prop) (h1 : ∀ de' : DEnds, (∀ env', I env' → de'.nx env') → de'.rt = de.rt → t ex de' env) (h2 : ∀ env', I env' → u ex de env') : sSeq t u ex de env :=
  h1 { de with nx := fun env' => u ex de env' } (fun env' h => h2 env' h) rfl
theorem ite_of {b : Bool} {X Y : Prop} (h1 : b = true → X) (h2 : b = false → Y) : if b = true then X else Y := by
  cases b with
  | true => exact h1 rfl
  | false => exact h2 rfl
theorem small {n : Nat} (h : n ≤ 100000) : n ≤ sizeLine := by rw [sizeLine_eq]; omega
end Kn
set_option Elab.async false
set_option linter.all false
set_option maxRecDepth 100000
set_option maxHeartbeats 2100000
namespace Kn
open PySem L2 RZ
open PyProof.Rows (envOfC)
section
variable {G : Gd} {E : XK} {X : Cx} {σ : List (Option V)} {H H' : Hp} {k : Nat} {tg : Expr}
def fListRg (te : DT) : DA := fun ex env Q => te ex env fun d => ∃ n : Nat, d = .int n ∧ n ≤ 100000 ∧ Q (rangeD 0 n)
theorem df_listRange {a : Expr} {c : Nat} {te : DT} {p p2 pos pos2 : Pos} (hc : X.calm = true) (hm : X.mg "list" = none) (hm2 : X.mg "range" = none) (ha : DE G E X c a te) (hg : Gl X "list" := by rfl) (hg2 : Gl X "range" := by rfl)
    (na : starEach [a] X.env = (false, eval a X.env) :: starEach [] X.env := by rfl) (nb : starEach [.Call (.Name "range" p2) [a] [] pos2] X.env = (false, eval (.Call (.Name "range" p2) [a] [] pos2) X.env) :: starEach [] X.env := by rfl) :
    DF G E X c (.Call (.Name "list" p) [.Call (.Name "range" p2) [a] [] pos2] [] pos) (fListRg te) :=
  imp (pe_listRg hc hg hm (prg_1 hg2 hm2 ha na) nb) fun σ H Q' h => by
    obtain ⟨W, hn, Q, ht, kk⟩ := h
    refine ⟨W, hn, _, ht, fun v H1 d st hd ⟨n, e, h1, hq⟩ => ?_⟩
    subst e
    cases hd
    refine ⟨(n : Int), rfl, ⟨by omega, by omega, by omega, by omega, by omega⟩, fun q hq0 => ?_⟩
    have e2 : rgV 0 (n : Int) = (List.range n).map fun i => V.int (0 + (i : Nat)) := by unfold rgV; rw [Int.sub_zero, Int.toNat_natCast]
    have hp0 : H q = none := by
      cases z : H q with
      | none => rfl
      | some o =>
        exfalso
        rw [st.ext q o z (W.nuX ((W.next st).fresh hq0))] at hq0; cases hq0
    refine kk q _ (rangeD 0 n) _ (st.new hq0) hp0 upd_same (by rw [rgV_length, sizeLine_eq]; omega) ?_ hq
    rw [e2]
    exact denL_rg 0 n
def fComp (vs : List Nat) (ti : DA) (tg : DG) (tt : DB) (te : DT) : DA := fun ex env Q => ti ex env fun ds => compL tg tt te Q (inEnv env vs) ds []
theorem lift_compF {ci ce ct : Nat} {ti : DA} {t : DG} {tt : DB} {te : DT} {vs sl : List Nat} (hsl : ∀ i ∈ sl, i ∈ vs) {Q' : VK} (h : liftFr G E (ci + 16777216 * (ct + ce)) (fComp vs ti t tt te) σ H Q') :
    tLc (liftI G E ci ti) (liftG G E0 sl t) (liftB G E0 ct tt) (lift G E0 ce te) vs σ H Q' := by
  obtain ⟨W, hn, Q, ht, k⟩ := h
  refine ⟨W, by omega, _, ht, fun J H1 ds st wk hq => ?_⟩
  intro D0 hD
  have hlen : ds.length ≤ 16777216 := by have := wk.len; rw [sizeLine_eq] at this; exact this
  have fr0 : ¬ W.XB D0 := (W.next st).fresh hD
  refine ⟨fun i m H2 => ∃ acc, AccAt G W H1 D0 (W.n - ci - i * (ct + ce)) H2 acc ∧ acc.length ≤ i ∧ i ≤ ds.length ∧ m = ds.length - i ∧ compL t tt te Q (inEnv W.env vs) (ds.drop i) acc, ⟨ds.length, [], ⟨⟨[], upd_same, by simp, rfl⟩, fun b o hb _ => by rw [upd_ne (ne_of_none hb hD)]; exact hb, ?_⟩, Nat.le_refl _, Nat.zero_le _, rfl, hq⟩, ?_⟩
  · have g := st.good
    rw [Nat.zero_mul, Nat.sub_zero]
    exact g.ext (Ext.new hD)
  rintro i m H2 ⟨acc, A, hacc, hi, rfl, hq2⟩
  obtain ⟨xs, hxs, hxl, hxd⟩ := A.at_
  have keepX : ∀ b o, ¬ W.XB b → H1 b = some o → H2 b = some o := fun b o nb hb => A.keep b o hb (W.nuX nb)
  by_cases hlt : i < ds.length
  · have hmul : (i + 1) * (ct + ce) ≤ 16777216 * (ct + ce) := Nat.mul_le_mul_right _ (by omega)
    have hmul2 : (i + 1) * (ct + ce) = i * (ct + ce) + (ct + ce) := by rw [Nat.add_mul, Nat.one_mul]
    obtain ⟨go, yl⟩ := wk.go i H2 (fun a => W.XB a ∨ a = D0) keepX (fun b hb => by
      rcases hb with hb | rfl
      · exact .inl hb
      · exact .inr hD) (fun p hp hb => by
      rcases hb with hb | rfl
      · cases q : H1 p with
        | none => exact (W.next st).fresh q hb
        | some o =>
          rcases NU.em (u := W.u) (b := p) with hu | ⟨r, hr, rfl⟩
          · rw [A.keep p o q hu] at hp; cases hp
          · obtain ⟨⟨_, h1⟩, _⟩ := A.good.there hr
            rw [h1] at hp; cases hp
      · rw [hxs] at hp; cases hp) hlt
    refine .inr ⟨go, fun H5 => ∃ acc2, AccAt G W H1 D0 (W.n - ci - (i + 1) * (ct + ce)) H5 acc2 ∧ acc2.length ≤ i + 1 ∧ compL t tt te Q (inEnv W.env vs) (ds.drop (i + 1)) acc2,
      fun H5 ⟨acc2, a2, l2, q2⟩ => ⟨ds.length - (i + 1), by omega, acc2, a2, l2, hlt, rfl, q2⟩, fun x H3 hy => ?_⟩
    obtain ⟨ex2, d, hd, hden⟩ := yl x H3 hy
    rw [drop_cons hd] at hq2
    have hD3 : H3 D0 = some (.lst xs) := ex2 _ _ hxs NU.none
    let W3 : Wd G E0 (wipe σ vs) H3 := W.inner st vs D0 H3 (W.n - ci - i * (ct + ce)) hD (by rw [hD3]; simp) (fun b o hb nu => ex2 _ _ (A.keep b o hb nu) NU.none) (A.good.ext ex2)
    have hden3 : Den G W3.XB H3 d x := hden.fewer fun b hb => xb_in hb
    refine ⟨W3, d, _, hden3, hq2, fun σ4 W4 al hsl4 hq4 => ⟨wipe_same hsl hsl4.1 (by rw [hsl4.2, wipe_length]), ?_⟩⟩
    have l4 := al.later
    have n4 : W4.n = W.n - ci - i * (ct + ce) := al.n
    have m4 : W4.m = W.m := l4.m
    have u4 : W4.u = W.u := l4.u
    have b4 : ∀ a, (W.XB a ∨ a = D0) → W4.XB a := fun a ha => .inl (by rw [l4.B]; exact ha)
    have nu0 : NU W.u D0 := W.nuX fr0
    have k3 : ∀ b o, H1 b = some o → NU W.u b → H3 b = some o := fun b o hb nu => ex2 _ _ (A.keep b o hb nu) NU.none
    refine ⟨W4, by rw [n4, m4]; omega, _, by rw [l4.ex]; exact hq4, fun b H5 st5 hb => ?_⟩
    have e5 : Ext W.u H3 H5 := by have z := st5.ext; rw [u4] at z; exact z
    have g5 : Good W.u H5 (W.n - ci - i * (ct + ce) - ct) := by have z := st5.good; rw [u4, n4] at z; exact z
    cases b with
    | false =>
      refine ⟨acc, ⟨⟨xs, e5 _ _ hD3 nu0, hxl, ?_⟩, fun b o hb nu => e5 _ _ (k3 b o hb nu) nu, g5.less (by omega)⟩, by omega, hb⟩
      refine (hxd.ext (u := none) ex2 (fun _ z => z.none.elim)).ext e5 (fun p e => .inl (W.huX p e))
    | true =>
      refine ⟨W4.next st5, by show W4.m + ce ≤ W4.n - ct; rw [n4, m4]; omega, _, by rw [show (W4.next st5).ex = noX from l4.ex]; exact hb, fun y H6 e6 st6 hy6 hq6 => ?_⟩
      have x6 : Ext W.u H5 H6 := by have z := st6.ext; rw [show (W4.next st5).u = W.u from u4] at z; exact z
      have g6 : Good W.u H6 (W.n - ci - i * (ct + ce) - ct - ce) := by have z := st6.good; rw [show (W4.next st5).u = W.u from u4, show (W4.next st5).n = W4.n - ct from rfl, n4] at z; exact z
      have hD6 : H6 D0 = some (.lst xs) := x6 _ _ (e5 _ _ hD3 nu0) nu0
      have hxl2 : xs.length < sizeLine := by have := hxd.length; rw [sizeLine_eq]; omega
      have dacc : DenL G (fun a => W.XB a ∨ a = D0) H6 acc xs := ((hxd.ext (u := none) ex2 (fun _ z => z.none.elim)).ext e5 (fun p e => .inl (W.huX p e))).ext x6 (fun p e => .inl (W.huX p e))
      have dy : Den G (fun a => W.XB a ∨ a = D0) H6 e6 y := hy6.fewer b4
      have kk : ∀ b o, ¬ (W.XB b ∨ b = D0) → H6 b = some o → upd H6 D0 (.lst (xs ++ [y])) b = some o := fun b o nb hb => by rw [upd_ne (fun z => nb (.inr z))]; exact hb
      refine ⟨xs, hD6, hxl2, acc ++ [e6], ⟨⟨xs ++ [y], upd_same, by rw [List.length_append]; exact hxl2, ?_⟩, fun b o hb nu => ?_, ?_⟩, by rw [List.length_append]; simp; omega, hq6⟩
      · exact (DenL.keep kk (fun b hb => .inl hb) _ _ dacc).append ⟨y, [], rfl, Den.keep kk (fun b hb => .inl hb) _ _ dy, rfl⟩
      · rw [upd_ne (ne_of_none hb hD)]
        exact x6 _ _ (e5 _ _ (k3 b o hb nu) nu) nu
      · refine (g6.upd (fun p e => ⟨fun z => fr0 (by rw [show D0 = p.1 from z]; exact W.huX p e), fun z => fr0 (by rw [show D0 = p.2 from z]; exact .inl (W.hu p e).2)⟩) (fun φ z => by rw [hD6] at z; cases z)).less (by omega)
  · have e : i = ds.length := by omega
    have hmul : i * (ct + ce) ≤ 16777216 * (ct + ce) := Nat.mul_le_mul_right _ (by omega)
    rw [e, List.drop_length] at hq2
    have hp0 : H D0 = none := by
      cases q : H D0 with
      | none => rfl
      | some o =>
        exfalso
        rw [st.ext D0 o q (W.nuX fr0)] at hD; cases hD
    exact .inl ⟨wk.stop i H2 keepX (by omega), k D0 H2 acc xs ⟨fun b o hb nu => A.keep b o (st.ext b o hb nu) nu, A.good.less (by omega)⟩ hp0 hxs hxl hxd hq2⟩
def sParVF (i j : Nat) (te : DT) (u : DA) : DS := fun ex de env => te ex env fun d => u ex env fun ds => ∀ a, de.nx ((env.set i (.val d)).set j (.own a ds))
end
end Kn
set_option Elab.async false
set_option linter.all false
set_option maxRecDepth 100000
set_option maxHeartbeats 2100000
namespace Kn
open PySem L2 RZ PyProof.Rows
section
theorem five {c z TI TO i1 i2 : Addr} (h : c ∈ [z, TI, TO, i1, i2]) : c = z ∨ c = TI ∨ c = TO ∨ c = i1 ∨ c = i2 := by simpa using h
end
end Kn
set_option Elab.async false
set_option linter.all false
set_option maxRecDepth 100000
set_option maxHeartbeats 2100000
namespace Kn
open PySem L2 RZ PyProof.Rows
end Kn
set_option Elab.async false
set_option linter.all false
set_option maxRecDepth 100000
set_option maxHeartbeats 2100000
namespace Kn
open PySem L2 RZ PyProof.Rows
/-- how far the zip has come -/
structure ZS (z TI TO i1 i2 a b : Addr) (k : Nat) (h : Heap) : Prop where
  z : (k = 0 ∧ IsZip h z TI TO .none) ∨ ∃ T fl oT, IsZipHeld h z TI TO T fl ∧ h.get? T = some oT ∧ T ≠ z ∧ T ≠ i1 ∧ T ≠ i2
  ti : IsPair h TI (.ref i1) (.ref i2)
  to : ∃ x y, IsPair h TO x y
  g1 : h.IsTupleIter i1 a k
  g2 : h.IsTupleIter i2 b k
end Kn
set_option Elab.async false
set_option linter.all false
set_option maxRecDepth 100000
set_option maxHeartbeats 2100000
namespace Kn
open PySem L2 RZ PyProof.Rows
theorem ZS.keep {z TI TO i1 i2 a b : Addr} {k : Nat} {h h' : Heap} (S : ZS z TI TO i1 i2 a b k h) (k1 : ∀ c ∈ [z, TI, TO, i1, i2], ∀ o, h.get? c = some o → h'.get? c = some o)
    (k2 : ∀ c o, h.get? c = some o → ∃ o', h'.get? c = some o') : ZS z TI TO i1 i2 a b k h' := by
  obtain ⟨x, y, hTO⟩ := S.to
  refine ⟨?_, k1 TI (by simp) _ S.ti, ⟨x, y, k1 TO (by simp) _ hTO⟩, S.g1.at fun o => k1 i1 (by simp) o, S.g2.at fun o => k1 i2 (by simp) o⟩
  rcases S.z with ⟨e, hz⟩ | ⟨T, fl, oT, hz, hT, t1, t2, t3⟩
  · exact .inl ⟨e, k1 z (by simp) _ hz⟩
  · obtain ⟨o', e'⟩ := k2 T oT hT
    exact .inr ⟨T, fl, o', k1 z (by simp) _ hz, e', t1, t2, t3⟩
theorem ZS.lt {z TI TO i1 i2 a b : Addr} {k : Nat} {h : Heap} (S : ZS z TI TO i1 i2 a b k h) {c : Addr} (hc : c ∈ [z, TI, TO, i1, i2]) : c < h.objs.size := by
  obtain ⟨x, y, hTO⟩ := S.to
  obtain ⟨o1, e1, _⟩ := S.g1
  obtain ⟨o2, e2, _⟩ := S.g2
  rcases five hc with rfl | rfl | rfl | rfl | rfl
  · rcases S.z with ⟨_, hz⟩ | ⟨T, fl, oT, hz, _⟩
    · exact Heap.lt_size hz
    · exact Heap.lt_size hz
  · exact Heap.lt_size S.ti
  · exact Heap.lt_size hTO
  · exact Heap.lt_size e1
  · exact Heap.lt_size e2
end Kn
set_option Elab.async false
set_option linter.all false
set_option maxRecDepth 100000
set_option maxHeartbeats 2100000
namespace Kn
open PySem L2 RZ PyProof.Rows
end Kn
set_option Elab.async false
set_option linter.all false
set_option maxRecDepth 100000
set_option maxHeartbeats 2100000
namespace Kn
open PySem L2 RZ PyProof.Rows
end Kn
set_option Elab.async false
set_option linter.all false
set_option maxRecDepth 100000
set_option maxHeartbeats 2100000
namespace Kn
open PySem L2 RZ PyProof.Rows
end Kn
set_option Elab.async false
set_option linter.all false
set_option maxRecDepth 100000
set_option maxHeartbeats 4100000
namespace Kn
open PySem L2 RZ
section
variable {G : Gd} {P : Program} {w : World} {mg : Str → Option Value} {base : Heap} {f : Addr} {fd : FuncData}
def rowD (r : List Int) : D := .tup (r.map D.int)
def atR (r : List Int) (i : Int) : Int := r.getD i.toNat 0
theorem atR_in {r : List Int} {i n : Int} (h0 : 0 ≤ i) (h1 : i < r.length) (hv : ∀ x ∈ r, 0 ≤ x ∧ x < n) : atI (r.map D.int) i = some (.int (atR r i)) ∧ 0 ≤ atR r i ∧ atR r i < n := by
  obtain ⟨k, rfl⟩ := Int.eq_ofNat_of_zero_le h0
  have hk : k < r.length := by omega
  have e : atR r (k : Int) = r[k] := by
    unfold atR
    rw [Int.toNat_natCast, List.getD_eq_getElem?_getD, List.getElem?_eq_getElem hk]; rfl
  rw [e]
  exact ⟨atI_nat (by rw [List.getElem?_map, List.getElem?_eq_getElem hk]; rfl), hv _ (List.getElem_mem hk)⟩
/-- a bound: None or an int -/
def bndD : Option Int → D
  | none => .non
  | some i => .int i
def inB (i : Int) (lo hi : Option Int) : Bool := (lo.all fun l => decide (l ≤ i)) && hi.all fun h => decide (i ≤ h)
def withinB (d : D) (lo hi : Option Int) : Bool := match d with
  | .int i => inB i lo hi
  | _ => false
theorem bnd_no (o : Option Int) : ∀ v, bndD o ≠ .opq v := by intro v h; cases o <;> cases h
theorem isI_of {d : D} (h : D.isI d = true) : ∃ i, d = .int i := by cases d <;> first | exact ⟨_, rfl⟩ | cases h
theorem kind_items {d : D} {xs : List D} (h : d.items? = some xs) : (kindS d).isSome = true := by cases d <;> first | rfl | cases h
theorem kinds_isI {xs : List D} (h : xs.all D.isI = true) : ∀ x ∈ xs, (kindS x).isSome = true := fun x hx => by
  obtain ⟨i, e⟩ := isI_of (List.all_eq_true.mp h x hx)
  rw [e]; rfl
theorem all_isI (is : List Int) : (is.map D.int).all D.isI = true := by simp [List.all_map, D.isI]
theorem atI_of {xs : List D} {k : Nat} {x : D} (h : xs[k]? = some x) : atI xs (k : Int) = some x := atI_nat h
theorem pdL_none {is : List Int} : pd (.lst (is.map D.int)) = some (.list (is.map PyData.int)) := by simp [pd, pdL_int]
theorem shaped_lst (is : List Int) : SeqAt.shaped (.list (is.map PyData.int)) = true := shaped_row is
theorem ne_nil {is : List Int} {Q : D → Prop} (h : Q (.bl (!is.isEmpty))) : gNe (.lst (is.map D.int)) (.lst []) Q := by
  refine ⟨_, .list [], pdL_none, rfl, shaped_lst is, shaped_lst [], ?_⟩
  cases is with
  | nil => exact h
  | cons a l => exact h
theorem pow18 : PowOk 10 18 := powOk_of (a := 4) (by decide) (by decide) (by decide)
theorem abs_lt_pow {x : Int} {n : Nat} (h0 : 0 ≤ x) (h : x < 2 ^ n) : x.natAbs < 2 ^ n := by
  have h1 : ((x.natAbs : Nat) : Int) = x := Int.natAbs_of_nonneg h0
  have h2 : ((x.natAbs : Nat) : Int) < ((2 ^ n : Nat) : Int) := by rw [h1]; push_cast; exact h
  exact_mod_cast h2
theorem pos_of {j : Int} (h : decide (0 < j) = true) : 0 < j := of_decide_eq_true h
theorem line_pos : (1 : Int) ≤ atLine := by
  unfold atLine
  first | exact Int.pow_pos (by decide) | exact Int.pos_pow_of_pos 4096 (by decide) | exact pow_pos (by decide) 4096
theorem pow_split (n : Nat) : (2 : Int) ^ (n + 4096) = 2 ^ n * atLine := by unfold atLine; rw [Int.pow_add]
theorem draw_pow1 {m k k2 t : Int} (hm : 0 ≤ m) (hm2 : m < 2 ^ 62) (hk : 0 ≤ k) (hk2 : k < 2 ^ 62) (hj : 0 ≤ k2) (hj2 : k2 < 2 ^ 62) (h0 : 0 ≤ t) (h1 : t < atLine) : PowOk (m + k * t + k2) 5 := by
  have hT := line_pos
  have hkt : k * t ≤ 2 ^ 62 * atLine := Int.mul_le_mul (by omega) (by omega) h0 (by decide)
  have hkt0 : 0 ≤ k * t := Int.mul_nonneg hk h0
  refine powOk_of (a := 104 + 4096) (abs_lt_pow (by omega) ?_) (by decide) (by decide)
  rw [pow_split]
  generalize k * t = u at *
  generalize atLine = T at *
  omega
theorem draw_wide {k t : Int} (hk : 0 ≤ k) (hk2 : k < 2 ^ 62) (h0 : 0 ≤ t) (h1 : t < atLine) : CMulW (k * t) t := by
  have hT := line_pos
  have hkt : k * t ≤ 2 ^ 62 * atLine := Int.mul_le_mul (by omega) (by omega) h0 (by decide)
  have hkt0 : 0 ≤ k * t := Int.mul_nonneg hk h0
  refine wide_mul (a := 104 + 4096) (b := 4096) (abs_lt_pow hkt0 ?_) (abs_lt_pow h0 h1) (by decide) (by decide) (by decide)
  rw [pow_split]
  generalize k * t = u at *
  generalize atLine = T at *
  omega
theorem draw_pow2 {m c2 c1 k k2 t : Int} (hm : 0 ≤ m) (hm2 : m < 2 ^ 62) (a0 : 0 ≤ c2) (a1 : c2 < 2 ^ 62) (b0 : 0 ≤ c1) (b1 : c1 < 2 ^ 62) (hk : 0 ≤ k) (hk2 : k < 2 ^ 62) (hj : 0 ≤ k2) (hj2 : k2 < 2 ^ 62) (h0 : 0 ≤ t) (h1 : t < atLine) : PowOk (m * (c2 * t + c1) + k * t * t + k2) 3 := by
  have hT := line_pos
  have e1 : c2 * t ≤ 2 ^ 62 * atLine := Int.mul_le_mul (by omega) (by omega) h0 (by decide)
  have e1' : 0 ≤ c2 * t := Int.mul_nonneg a0 h0
  have e2 : m * (c2 * t + c1) ≤ 2 ^ 62 * (2 ^ 62 * atLine + 2 ^ 62) := Int.mul_le_mul (by omega) (by omega) (by omega) (by decide)
  have e2' : 0 ≤ m * (c2 * t + c1) := Int.mul_nonneg hm (by omega)
  have e3 : k * t ≤ 2 ^ 62 * atLine := Int.mul_le_mul (by omega) (by omega) h0 (by decide)
  have e3' : 0 ≤ k * t := Int.mul_nonneg hk h0
  have e4 : k * t * t ≤ 2 ^ 62 * atLine * atLine := Int.mul_le_mul e3 (by omega) h0 (by omega)
  have e4' : 0 ≤ k * t * t := Int.mul_nonneg e3' h0
  have e5 : atLine ≤ atLine * atLine := by
    have := Int.mul_le_mul_of_nonneg_left hT (show (0 : Int) ≤ atLine by omega)
    rw [Int.mul_one] at this
    exact this
  refine powOk_of (a := (200 + 4096) + 4096) (abs_lt_pow (by omega) ?_) (by decide) (by decide)
  rw [pow_split, pow_split]
  have e6 : (2 : Int) ^ 200 * atLine * atLine = 2 ^ 200 * (atLine * atLine) := Int.mul_assoc _ _ _
  have e7 : (2 : Int) ^ 62 * atLine * atLine = 2 ^ 62 * (atLine * atLine) := Int.mul_assoc _ _ _
  rw [e6]
  rw [e7] at e4
  generalize m * (c2 * t + c1) = u at *
  generalize k * t * t = v at *
  generalize atLine * atLine = S at *
  generalize atLine = T at *
  omega
theorem ne_lst {is js : List Int} {Q : D → Prop} (h : Q (.bl (!(is == js)))) : gNe (.lst (is.map D.int)) (.lst (js.map D.int)) Q :=
  ⟨_, _, pdL_none, pdL_none, shaped_lst is, shaped_lst js, by rw [show PyData.eqv (.list (is.map PyData.int)) (.list (js.map PyData.int)) = PyData.eqvAll (is.map PyData.int) (js.map PyData.int) from rfl, eqvAll_int]; exact h⟩
def srt (r : List Int) : List Int := r.mergeSort fun a b => decide (a ≤ b)
/-- a test whose answer is known -/
def Tst (t : DB) (ex : Exc → Prop) (env : List Sl) (x : Bool) : Prop := ∀ K : Bool → Prop, K x → t ex env K
section
variable {t u : DB} {ex : Exc → Prop} {env : List Sl} {x y : Bool}
theorem tst_or (h1 : Tst t ex env x) (h2 : x = false → Tst u ex env y) : Tst (bOr t u) ex env (x || y) := fun K hK => h1 _ (by
  cases x with
  | true => exact hK
  | false => exact h2 rfl K hK)
theorem sif_of {a b : DS} {de : DEnds} (h : Tst t ex env x) (h1 : x = true → a ex de env) (h2 : x = false → b ex de env) : sIf t a b ex de env := h _ (by
  cases x with
  | true => exact h1 rfl
  | false => exact h2 rfl)
end
def rowP (r : List Int) : PyData := .tuple (r.map PyData.int)
def Small (r : List Int) : Prop := r.length ≤ 5 ∧ ∀ i ∈ r, 0 ≤ i ∧ i < 8
theorem pd_rows : ∀ rows : List (List Int), pdL (rows.map rowD) = some (rows.map rowP)
  | [] => rfl
  | r :: rows => by
    have h := pd_rows rows
    simp only [List.map_cons, pdL, h]
    rw [show pd (rowD r) = some (rowP r) by simp [rowD, rowP, pd, pdL_int]]
theorem small_cases {i : Int} (h : 0 ≤ i ∧ i < 8) : i = 0 ∨ i = 1 ∨ i = 2 ∨ i = 3 ∨ i = 4 ∨ i = 5 ∨ i = 6 ∨ i = 7 := by omega
theorem int_facts {i : Int} (h : 0 ≤ i ∧ i < 8) : PyData.weight (.int i) ≤ 3 ∧ PyData.showable (.int i) = true ∧ PyData.intsShort 13 (.int i) = true := by
  rcases small_cases h with rfl | rfl | rfl | rfl | rfl | rfl | rfl | rfl <;> decide +kernel
theorem ints_facts : ∀ {r : List Int}, (∀ i ∈ r, 0 ≤ i ∧ i < 8) → PyData.weightAll (r.map PyData.int) ≤ 4 * r.length ∧ PyData.showableAll (r.map PyData.int) = true ∧ PyData.intsShortAll 13 (r.map PyData.int) = true ∧ PyData.hasDictAll (r.map PyData.int) = false
  | [], _ => by decide
  | i :: r, h => by
    obtain ⟨h1, h2, h3⟩ := int_facts (h i List.mem_cons_self)
    obtain ⟨k1, k2, k3, k4⟩ := ints_facts (r := r) fun j hj => h j (List.mem_cons_of_mem _ hj)
    refine ⟨?_, ?_, ?_, ?_⟩
    · show PyData.weight (.int i) + 1 + PyData.weightAll (r.map PyData.int) ≤ _
      rw [List.length_cons]; omega
    · show (PyData.showable (.int i) && PyData.showableAll (r.map PyData.int)) = true
      rw [h2, k2]; rfl
    · show (PyData.intsShort 13 (.int i) && PyData.intsShortAll 13 (r.map PyData.int)) = true
      rw [h3, k3]; rfl
    · show (PyData.hasDict (.int i) || PyData.hasDictAll (r.map PyData.int)) = false
      rw [k4]; rfl
theorem rows_facts : ∀ {rows : List (List Int)}, (∀ r ∈ rows, Small r) → PyData.weightAll (rows.map rowP) ≤ 21 * rows.length ∧ PyData.showableAll (rows.map rowP) = true ∧ PyData.intsShortAll 13 (rows.map rowP) = true ∧ PyData.hasDictAll (rows.map rowP) = false ∧ PyData.canLayAll0 (rows.map rowP) = true ∧ PyData.depthAll (rows.map rowP) ≤ 2
  | [], _ => by decide
  | r :: rows, h => by
    obtain ⟨hl, hv⟩ := h r List.mem_cons_self
    obtain ⟨h1, h2, h3, h4⟩ := ints_facts hv
    obtain ⟨k1, k2, k3, k4, k5, k6⟩ := rows_facts (rows := rows) fun j hj => h j (List.mem_cons_of_mem _ hj)
    have hd := depth_int r
    refine ⟨?_, ?_, ?_, ?_, ?_, ?_⟩
    · show PyData.weightAll (r.map PyData.int) + 1 + PyData.weightAll (rows.map rowP) ≤ _
      rw [List.length_cons]; omega
    · show (PyData.showableAll (r.map PyData.int) && PyData.showableAll (rows.map rowP)) = true
      rw [h2, k2]; rfl
    · show (PyData.intsShortAll 13 (r.map PyData.int) && PyData.intsShortAll 13 (rows.map rowP)) = true
      rw [h3, k3]; rfl
    · show (PyData.hasDictAll (r.map PyData.int) || PyData.hasDictAll (rows.map rowP)) = false
      rw [h4, k4]; rfl
    · show (PyData.canLayAll0 (r.map PyData.int) && PyData.canLayAll0 (rows.map rowP)) = true
      rw [lay_int, k5]; rfl
    · show max (PyData.depthAll (r.map PyData.int) + 1) (PyData.depthAll (rows.map rowP)) ≤ 2
      omega
theorem nilLen {ex : Exc → Prop} {env : List Sl} {ds : List D} {Q : D → Prop} (h : Q (.int ds.length)) : aNil ex env fun xs => g1 gLen (.lst ds :: xs) Q := h
/-- a row of b things below n -/
def RowIn (b n : Nat) (r : List Int) : Prop := r.length = b ∧ ∀ i ∈ r, 0 ≤ i ∧ i < (n : Int)
theorem atR_at {r : List Int} {i : Int} (h0 : 0 ≤ i) (h1 : i < r.length) : atI (r.map D.int) i = some (.int (atR r i)) := by
  obtain ⟨j, rfl⟩ := Int.eq_ofNat_of_zero_le h0; have hj : j < r.length := by omega
  refine atI_nat ?_
  rw [List.getElem?_map, List.getElem?_eq_getElem hj]
  simp [atR, List.getD_eq_getElem?_getD, List.getElem?_eq_getElem hj]
theorem eq_bl {a b : Bool} {Q : D → Prop} (h : Q (.bl (a == b))) : gEq (.bl a) (.bl b) Q := ⟨_, _, rfl, rfl, by cases a <;> rfl, by cases b <;> rfl, by cases a <;> cases b <;> exact h⟩
theorem cut_toN {xs : List D} {k : Nat} : cutD xs none (some (k : Int)) = xs.take k := by
  unfold cutD
  rw [show HT.sIx xs.length xs.length (some (k : Int)) = min k xs.length from HT.sIx_nat xs.length xs.length k, HT.sIx_none, List.drop_zero, Nat.sub_zero]
  by_cases h : k ≤ xs.length
  · rw [Nat.min_eq_left h]
  · rw [Nat.min_eq_right (by omega), List.take_of_length_le
        (Nat.le_refl _), List.take_of_length_le (by omega)]
theorem cut_fromN {xs : List D} {k : Nat} : cutD xs (some (k : Int)) none = xs.drop k := by
  unfold cutD
  rw [show HT.sIx xs.length 0 (some (k : Int)) = min k xs.length from HT.sIx_nat xs.length 0 k, HT.sIx_none]
  by_cases h : k ≤ xs.length
  · rw [Nat.min_eq_left h,
        List.take_of_length_le (by simp)]
  · rw [Nat.min_eq_right (by omega), List.drop_eq_nil_of_le (by omega), List.drop_eq_nil_of_le (by omega)]
    simp
theorem nilT {ex : Exc → Prop} {env : List Sl} {ds : List D} {Q : D → Prop} (h : Q (.tup ds)) : aNil ex env fun xs => g1 gTuple (.lst ds :: xs) Q := h
def idx (n : Nat) : List Int := (List.range n).map fun (i : Nat) => (i : Int)
theorem range_idx (n : Nat) : rangeD 0 n = (idx n).map D.int := by
  unfold rangeD idx
  rw [List.map_map]
  exact List.map_congr_left fun i _ => by show D.int (0 + (i : Int)) = D.int i; rw [Int.zero_add]
theorem idx_val {n : Nat} {i : Int} (h : i ∈ idx n) : 0 ≤ i ∧ i < n := by
  obtain ⟨k, hk, rfl⟩ := List.mem_map.mp h
  have := List.mem_range.mp hk
  omega
theorem idx_len (n : Nat) : (idx n).length = n := by simp [idx]
theorem atR_idx {n : Nat} {i : Int} (h0 : 0 ≤ i) (h1 : i < n) : atR (idx n) i = i := by
  obtain ⟨k, rfl⟩ := Int.eq_ofNat_of_zero_le h0
  unfold atR idx
  rw [Int.toNat_natCast, List.getD_eq_getElem?_getD, List.getElem?_map, List.getElem?_range (by omega)]
  rfl
theorem atR_map {r : List Int} {f : Int → Int} {i : Int} (h0 : 0 ≤ i) (h1 : i < r.length) : atR (r.map f) i = f (atR r i) := by
  obtain ⟨k, rfl⟩ := Int.eq_ofNat_of_zero_le h0
  have hk : k < r.length := by omega
  unfold atR
  rw [Int.toNat_natCast, List.getD_eq_getElem?_getD, List.getD_eq_getElem?_getD, List.getElem?_map, List.getElem?_eq_getElem hk]
  rfl
theorem eqv_row (a b : List Int) : PyData.eqv (rowP a) (rowP b) = (a == b) := eqvAll_int a b
theorem eqC {x c : D} {ex : Exc → Prop} {env : List Sl} {Q : D → Prop} (h : gEq x c Q) : dC c ex env fun y => gEq x y Q := h
theorem nilLenT {ex : Exc → Prop} {env : List Sl} {ds : List D} {Q : D → Prop} (h : Q (.int ds.length)) : aNil ex env fun xs => g1 gLen (.tup ds :: xs) Q := h
end
end Kn
set_option Elab.async false
set_option linter.all false
set_option maxRecDepth 100000
set_option maxHeartbeats 2100000
namespace Kn
open PySem PySem.Spec PyProof.Rows L2 RZ
end Kn
set_option Elab.async false
set_option linter.all false
set_option maxRecDepth 100000
set_option maxHeartbeats 2100000
namespace Kn
open PySem L2 RZ PyProof.Rows
theorem any_rows (r : List Int) : ∀ rows : List (List Int), (rows.map rowP).any (fun z => PyData.eqv z (rowP r)) = rows.any (· == r)
  | [] => rfl
  | x :: rows => by
    rw [List.map_cons, List.any_cons, List.any_cons, any_rows r rows]
    congr 1
    rw [show PyData.eqv (rowP x) (rowP r) = PyData.eqvAll (x.map PyData.int) (r.map PyData.int) from rfl, eqvAll_int]
theorem shaped_rowsL {rows : List (List Int)} (h : ∀ r ∈ rows, Small r) : SeqAt.shaped (.list (rows.map rowP)) = true := by
  obtain ⟨_, _, _, _, h5, h6⟩ := rows_facts h
  unfold SeqAt.shaped
  rw [show PyData.canLay0 (.list (rows.map rowP)) = PyData.canLayAll0 (rows.map rowP) from rfl, h5, Bool.true_and]
  exact decide_eq_true (by show PyData.depthAll (rows.map rowP) + 1 ≤ 64; omega)
theorem ni_rows {r : List Int} {rows : List (List Int)} {Q : D → Prop} (h : ∀ r ∈ rows, Small r) (hq : Q (.bl (!rows.any (· == r)))) : gNi (rowD r) (.lst (rows.map rowD)) Q :=
  ⟨rowP r, rows.map rowP, rows.map rowD, rfl, by simp [pd, rowD, rowP, pdL_int], pd_rows rows, shaped_row r, shaped_rowsL h, by rw [any_rows]; exact hq⟩
theorem eq_rows0 {rows : List (List Int)} {Q : D → Prop} (h : ∀ r ∈ rows, Small r) (hq : Q (.bl (rows == []))) : gEq (.lst (rows.map rowD)) (.lst []) Q := by
  refine ⟨.list (rows.map rowP), .list [], by show (pdL (rows.map rowD)).map PyData.list = _; rw [pd_rows]; rfl, rfl, shaped_rowsL h, shaped_lst [], ?_⟩
  cases rows with
  | nil => exact hq
  | cons x r => exact hq
end Kn
set_option Elab.async false
set_option linter.all false
set_option maxRecDepth 100000
set_option maxHeartbeats 2100000
namespace GQ
open PySem PySem.SeqAt
open AutoSeq1
 (wpAny_loadPart')
open MeetsSeq
open MeetsSeq2 MeetsSeq3 SeqRoads2
section
variable {prog : Program} {w : World} {A
      : Around} {R : Result → Shared → Prop}
theorem ne_allG (p q : Addr) (as bs : Array Value) (n n2 : Nat) (dd dd2 : Option Addr) (sl sl2 : Array (Option Value)) (same : as.size = bs.size) (J : Nat → Shared → Prop)
    (turn : ∀ k (u1 : k < as.size) (u2 : k < bs.size) s, J k s → wpAny (model prog w) A.in1 (eqBool as[k] bs[k]) (fun r s' => r = true ∧ J (k + 1) s') (fun e s' => R (.error e) s') s)
    (fin : ∀ s, J as.size s → R (.ok (.ret (.bool false))) s) {s : Shared} (hp1 : s.heap.get? p = some { cls := .type "tuple", dict := dd, data := .seq as n, slots := sl }) (hq1 : s.heap.get? q = some { cls := .type "tuple", dict := dd2, data := .seq bs n2, slots := sl2 }) (h : J 0 s) :
    wpAny (model prog w) A.in1 (Builtin.«tuple.__ne__» ⟨[.ref p, .ref q], []⟩) (FinOf prog w A R) (fun e s' => R (.error e) s') s := by
  have f2 := AutoSeq1.sub_tuple_tuple; have hZ : (as.toList.zip bs.toList).length = as.size := by simp [same]
  have h0 := h; obtain ⟨hp, g, d, tk, os⟩ := s
  wp_walk using wpAny_loadPart' hp1, wpAny_loadPart' hq1, wpAny_forIn_list _ (fun rest b s' => b.1 = none ∧ ∃ k, rest = (as.toList.zip bs.toList).drop k ∧ k ≤ as.size ∧ J k s') _
  case turn =>
    rintro ⟨y, x⟩ rest b s' ⟨e0, k, ez, hk, hJ⟩
    have lt : k < (as.toList.zip bs.toList).length := Nat.lt_of_not_le fun z => by rw [List.drop_of_length_le z] at ez; cases ez
    have u1 : k < as.size := hZ ▸ lt
    have u2 : k < bs.size := same ▸ u1
    rw [List.drop_eq_getElem_cons lt] at ez
    injection ez with exy er
    obtain rfl : y = as[k] := by simpa using congrArg Prod.fst exy
    obtain rfl : x = bs[k] := by simpa using congrArg Prod.snd exy
    refine wpAny_bind (wpAny_mono (turn k u1 u2 s' hJ) (fun r s2 z => ?_) fun _ _ z => z)
    obtain ⟨rfl, z⟩ := z
    wp_walk
    exact ⟨rfl, k + 1, er, u1, z⟩
  case fin =>
    rintro ⟨b1, b2⟩ s' ⟨e0, k, ez, hk, hJ⟩
    simp only at e0
    subst e0
    have ge : as.size ≤ k := Nat.le_of_not_lt fun z => by
      have z' : k < (as.toList.zip bs.toList).length := hZ.symm ▸ z
      rw [List.drop_eq_getElem_cons z'] at ez; cases ez
    have hR : R (.ok (.ret (.bool false))) s' := fin s' ((by omega : k = as.size) ▸ hJ)
    wp_walk
    simpa [Builtin.Tuple.tupleCompareSizes, same] using hR
  case h =>
    exact ⟨rfl, 0, rfl,
          Nat.zero_le _, h0⟩
end
section
variable {prog : Program} {w : World} {A :
      Around} {E : Value → Shared → Prop} {s : Shared}
theorem rc_neG {p q : Addr} {as bs : Array Value} {Q : Value → Shared → Prop} (same : as.size = bs.size) (hu : A.units < cLine) (J : Nat → Shared → Prop)
    (hl : s.heap.IsTuple p as) (hb : s.heap.IsTuple q bs)
    (turn : ∀ k (u1 : k < as.size) (u2 : k < bs.size) s, J k s → wpAny (model prog w) A.in1 (eqBool as[k] bs[k]) (fun r s' => r = true ∧ J (k + 1) s') E s)
    (fin : ∀ s, J as.size s → Q (.bool false) s) (h : J 0 s) : wpAny (model prog w) A (richCompare .NotEq (.ref p) (.ref q)) Q E s := by
  obtain ⟨⟨c1, dd, da1, sl⟩, ho, hc, n, hd⟩ := id hl
  obtain ⟨⟨c2, dd2, da2, sl2⟩, ho2, hc2, n2, hd2⟩ := id hb
  simp only at hc hd hc2 hd2
  subst hc hd hc2 hd2
  refine wpAny_richCompare_same_room (op := .NotEq) ⟨_, ho, rfl⟩ ⟨_, ho2, rfl⟩ F.slot_tuple_ne (call_here F.slot_tuple_ne ⟨_, ho, rfl⟩ F.entry_tuple_ne (F.args_tuple_ne_2 _ _) ?_) hu
  exact ne_allG (R := wants (fun v s' => v ≠ .notImplemented ∧ Q v s') E) p q as bs n n2 dd dd2 sl sl2 same J turn (fun s' z => ⟨(fun x => nomatch x), fin s' z⟩) ho ho2 h
end
end GQ
namespace Kn
open PySem L2 RZ
section
variable {G : Gd} {E : XK} {X : Cx} {σ : List (Option V)} {H H' : Hp} {k : Nat}
/-- values without parts, the same -/
def leafEq : D → D → Prop
  | .non, .non => True
  | .bl a, .bl b => a = b
  | .int a, .int b => a = b
  | .str a, .str b => a = b
  | _, _ => False
def PrsD (p : D → D → Prop) (ds es : List D) : Prop := ds.length = es.length ∧ ∀ (i : Nat) (d e : D), ds[i]? = some d → es[i]? = some e → p d e
/-- alike: tuples n deep, things of own classes as ok tells -/
def simN (ok : Nat → List D → List D → Prop) : Nat → D → D → Prop
  | 0, d, e => leafEq d e ∨ ∃ c ds es, d = .ins c ds ∧ e = .ins c es ∧ ok c ds es
  | n + 1, d, e => simN ok n d e ∨ ∃ ds es, d = .tup ds ∧ e = .tup es ∧ PrsD (simN ok n) ds es
/-- the own == of these says True -/
structure EqF (G : Gd) (P : Program) (w : World) (mg : Str → Option Value) (base : Heap) (j : Nat) (ok : Nat → List D → List D → Prop) : Prop where
  own : ∀ c ds es, ok c ds es → ∃ S, Fqn G P w mg base j c 0 S ∧ ∀ R ex, R (.bl true) → S [.ins c ds, .ins c es] R ex
/-- where a builtin stands that calls back -/
structure Fr (G : Gd) (E : XK) (B : Addr → Prop) (n : Nat) (ex : Exc → Prop) (H : Hp) : Prop where
  hu : ∀ p, Pr G.u p → B p.1 ∧ B p.2
  hB : ∀ a, B a → H a ≠ none
  good : Good G.u H n
  exc : ∀ x C d H', Ext G.u H H' → Good G.u H' n → ExcIs G B H' x C d → ex x → E C d H'
theorem Fr.next {B : Addr → Prop} {n : Nat} {ex : Exc → Prop} (F : Fr G E B n ex H) (e : Ext G.u H H') (g : Good G.u H' n) : Fr G E B n ex H' := by
  refine ⟨F.hu, fun a ha z => ?_, g, fun x C d H2 e2 => F.exc x C d H2 (e.trans e2)⟩
  rcases NU.em (u := G.u) (b := a) with nu | ⟨r, hr, rfl⟩
  · cases q : H a with
    | none => exact F.hB a ha q
    | some o => rw [e a o q nu] at z; cases z
  · obtain ⟨⟨o, h1⟩, _⟩ := g.there hr
    rw [h1] at z; cases z
theorem Fr.den {B : Addr → Prop} {n : Nat} {ex : Exc → Prop} (F : Fr G E B n ex H) (e : Ext G.u H H') {d : D} {v : V} (h : Den G B H d v) : Den G B H' d v := h.ext e fun p hp => (F.hu p hp).1
/-- what has become of the heap -/
def Aft (G : Gd) (X : Cx) (pins : List (Addr × Obj)) (σ : List (Option V)) (n : Nat) (H : Hp) (s : Shared) : Prop := ∃ H2, Inv X pins σ H2 s ∧ Ext G.u H H2 ∧ Good G.u H2 n
theorem leaf_flat {B : Addr → Prop} {d e : D} {x y : V} (h : leafEq d e) (hx : Den G B H d x) (hy : Den G B H e y) : flatV x = true ∧ flatV y = true ∧ eqV x y = true := by
  cases d <;> cases e <;> first | exact h.elim | skip
  all_goals
    cases hx
    cases hy
    first | (obtain rfl := h; refine ⟨rfl, rfl, ?_⟩; simp [eqV]) | exact ⟨rfl, rfl, rfl⟩
theorem liftF_of {B : Addr → Prop} {n : Nat} {ex : Exc → Prop} (F : Fr G E B n ex H) {S : FSpec} {ds : List D} {vs : List V} {Q : D → Prop} {Q' : VK} (hd : DenL G B H ds vs) (hs : S ds Q ex)
    (kk : ∀ v H' d, Ext G.u H H' → Good G.u H' n → Den G B H' d v → Q d → Q' v H') : liftF G 0 S vs H Q' E :=
  ⟨G.u, n, B, ds, Q, ex, rfl, Nat.zero_le _, F.hu, F.hB, F.good, hd, hs, kk, F.exc⟩
theorem cmp_own {pins : List (Addr × Obj)} {s : Shared} {j c n : Nat} {S : FSpec} {B : Addr → Prop} {ex : Exc → Prop} {ds es : List D} {A : Around} (F : Fqn G X.prog X.w X.mg X.base j c 0 S) (hS : ∀ R ex, R (.bl true) → S [.ins c ds, .ins c es] R ex) (xk : Xk G E k X) (fr : Fr G E B n ex H)
    (rm : Room j A) (hfr : A.frames = X.A.frames) (hgd : A.guards = some []) (I : Inv X pins σ H s) {x y : V} {u v : Value} (hx : Den G B H (.ins c ds) x) (hy : Den G B H (.ins c es) y) (rx : RelV x u) (ry : RelV y v) :
    wpAny (model X.prog X.w) A (richCompare .Eq u v) (fun r s' => ∃ b, r = .bool b ∧ b = true ∧ Aft G X pins σ n H s') X.xe s := by
  obtain ⟨f, fd, ps, hF0, hs, hf, hbd, hp2, hm, hne⟩ := F.ex
  obtain ⟨tb, ht, hnf⟩ := den_type (.inl ⟨es, rfl⟩) I xk.K hy ry
  have hd2 : DenL G B H [D.ins c ds, D.ins c es] [x, y] := ⟨_, _, rfl, hx, _, _, rfl, hy, rfl⟩
  obtain ⟨a, dx, xs, rfl, na, ha, la, da⟩ := hx
  rw [← xk.K] at hs hf hbd hm hne
  cases rx
  obtain ⟨mA, J, _⟩ := ins_get I.hok ha; obtain ⟨od, J, _⟩ := J.look; obtain ⟨m, hFr⟩ := I.fr
  refine PySem.W.cmp_K (op := .Eq) (tb := tb) rm.units0 hFr I.ok.mod.kin J ht hnf hs hf (run_own (Q' := fun v H' => v = .bl true ∧ Ext G.u H H' ∧ Good G.u H' n) hF0 xk rm hfr hgd hbd hp2 I ry ?_ fun w s' z => ?_)
  · exact liftF_of fr (Q := fun d => d = .bl true) hd2 (hS _ _ rfl) fun v H' d e g hd q => by subst q; cases hd; exact ⟨rfl, e, g⟩
  · obtain ⟨z', H', I', rz, eb, e, g⟩ := z
    subst eb
    exact SlX.cmpback rz ⟨true, rz, rfl, H', I', e, g⟩
/-- == within a list or tuple -/
theorem eq_sim {j : Nat} {ok : Nat → List D → List D → Prop} (Q0 : EqF G X.prog X.w X.mg X.base j ok) (xk : Xk G E k X) {B : Addr → Prop} {m : Nat} {ex : Exc → Prop} :
    ∀ (n : Nat) (d e : D), simN ok n d e → ∀ {H : Hp}, Fr G E B m ex H → ∀ (A : Around) (pins : List (Addr × Obj)) (s : Shared) (x y : V) (u v : Value), Room (j + n) A → A.frames = X.A.frames → A.guards = some [] → Inv X pins σ H s → Den G B H d x → Den G B H e y → RelV x u → RelV y v →
      wpAny (model X.prog X.w) A (eqBool u v) (fun r s' => r = true ∧ Aft G X pins σ m H s') X.xe s := by
  intro n
  induction n with
  | zero =>
    intro d e h H fr A pins s x y u v rm hf hg I hx hy rx ry
    rcases h with h | ⟨c, ds, es, rfl, rfl, h⟩
    · obtain ⟨f1, f2, f3⟩ := leaf_flat h hx hy
      have q := eqAt_V (A := A) (s := s) rx ry f1 f2
      rw [f3] at q
      exact q X.prog X.w X.xe _ ⟨rfl, H, I, Ext.refl _ _, fr.good⟩
    · obtain ⟨S, F, hS⟩ := Q0.own c ds es h
      have hc := cmp_own F hS xk fr rm hf hg I hx hy rx ry
      obtain ⟨a, dx, xs, rfl, _⟩ := id hx
      obtain ⟨b, dy, ys, rfl, _⟩ := id hy
      cases rx
      cases ry
      by_cases hab : a = b
      · subst hab
        exact SeqAt.EqAt.same (A := A) (s := s) (.ref a) X.prog X.w X.xe _ ⟨rfl, H, I, Ext.refl _ _, fr.good⟩
      · refine GQ.eqBool_refG hab (wpAny_mono hc (fun r s' z => ?_) fun _ _ z => z)
        obtain ⟨b, rfl, rfl, z⟩ := z
        exact ⟨true, rfl, rfl, z⟩
  | succ n ih =>
    intro d e h H fr A pins s x y u v rm hf hg I hx hy rx ry
    rcases h with h | ⟨ds, es, rfl, rfl, hl, h⟩
    · exact ih d e h fr A pins s x y u v (rm.mono (by omega)) hf hg I hx hy rx ry
    · obtain ⟨a, xs, rfl, na, ha, la, da⟩ := hx
      obtain ⟨b, ys, rfl, nb, hb, lb, db⟩ := hy
      cases rx
      cases ry
      by_cases hab : a = b
      · subst hab
        exact SeqAt.EqAt.same (A := A) (s := s) (.ref a) X.prog X.w X.xe _ ⟨rfl, H, I, Ext.refl _ _, fr.good⟩
      · rw [← xk.K] at ha hb
        obtain ⟨its, r, e1, z⟩ := I.tuple ha
        obtain ⟨its2, r2, e2, z2⟩ := I.tuple hb; have l1 := da.length
        have l2 := db.length
        have hsz : its.toArray.size = its2.toArray.size := by rw [List.size_toArray, List.size_toArray, ← r.length, ← r2.length]; omega
        refine GQ.eqBool_refG hab (GQ.rc_tupG hsz rm.units0 (fun _ s' => Aft G X pins σ m H s') e1 e2 (fun i h1 h2 s' q => ?_) (fun s' q => ⟨true, rfl, rfl, q⟩) ⟨H, I, Ext.refl _ _, fr.good⟩)
        obtain ⟨H1, I1, ex1, g1⟩ := q; have h1' : i < its.length := by simpa using h1
        have h2' : i < its2.length
              := by simpa using h2
        have k1 : i < xs.length := by rw [r.length]; exact h1'
        have k2 : i < ys.length := by rw [r2.length]; exact h2'
        obtain ⟨u1, hu1, ru⟩ := r.get (List.getElem?_eq_getElem k1)
        obtain ⟨v1, hv1, rv⟩ := r2.get (List.getElem?_eq_getElem k2)
        obtain ⟨d1, hd1, dd1⟩ := da.getV (List.getElem?_eq_getElem k1)
        obtain ⟨d2, hd2, dd2⟩ := db.getV (List.getElem?_eq_getElem k2)
        have g1' : its[i]? = some its.toArray[i] := by rw [List.getElem?_eq_getElem h1']; simp
        have g2' : its2[i]? = some its2.toArray[i] := by rw [List.getElem?_eq_getElem h2']; simp
        rw [g1'] at hu1
        rw [g2'] at hv1
        cases hu1
        cases hv1
        refine wpAny_mono (ih d1 d2 (h i d1 d2 hd1 hd2) (fr.next ex1 g1) A.in1 pins s' _ _ _ _ (Room.in1 rm) hf hg I1 (fr.den ex1 dd1) (fr.den ex1 dd2) ru rv) (fun r s2 q => ?_) fun _ _ z => z
        obtain ⟨hr, H2, I2, ex2, g2⟩ := q
        exact ⟨hr, H2, I2, ex1.trans ex2, g2⟩
def rSim (neg : Bool) (G : Gd) (E : XK) (ok : Nat → List D → List D → Prop) (n : Nat) : R2 := fun x y H Q' => ∃ (B : Addr → Prop) (m : Nat) (ex : Exc → Prop) (ds es : List D), Fr G E B m ex H ∧ Den G B H (.tup ds) x ∧ Den G B H (.tup es) y ∧ PrsD (simN ok n) ds es ∧ ∀ H', Ext G.u H H' → Good G.u H' m → Q' (.bl (!neg)) H'
theorem turn_sim {j m n : Nat} {ok : Nat → List D → List D → Prop} (Q0 : EqF G X.prog X.w X.mg X.base j ok) (xk : Xk G E k X) {B : Addr → Prop} {ex : Exc → Prop} {H : Hp} (fr : Fr G E B m ex H) {A : Around} (rm : Room (j + n) A.in1) (hf : A.frames = X.A.frames) (hg : A.guards = some []) {pins : List (Addr × Obj)} {ds es : List D} {xs ys : List V} {its its2 : List Value} (h : PrsD (simN ok n) ds es) (da : DenL G B H ds xs) (db : DenL G B H es ys) (r : Vals xs its) (r2 : Vals ys its2)
    (i : Nat) (h1 : i < its.toArray.size) (h2 : i < its2.toArray.size) (s' : Shared) (q : Aft G X pins σ m H s') : wpAny (model X.prog X.w) A.in1 (eqBool its.toArray[i] its2.toArray[i]) (fun r s2 => r = true ∧ Aft G X pins σ m H s2) X.xe s' := by
  obtain ⟨H1, I1, ex1, g1⟩ := q; have h1' : i < its.length := by simpa using h1
  have h2' : i < its2.length
        := by simpa using h2
  have k1 : i < xs.length := by rw [r.length]; exact h1'
  have k2 : i < ys.length := by rw [r2.length]; exact h2'
  obtain ⟨u1, hu1, ru⟩ := r.get (List.getElem?_eq_getElem k1)
  obtain ⟨v1, hv1, rv⟩ := r2.get (List.getElem?_eq_getElem k2)
  obtain ⟨d1, hd1, dd1⟩ := da.getV (List.getElem?_eq_getElem k1)
  obtain ⟨d2, hd2, dd2⟩ := db.getV (List.getElem?_eq_getElem k2)
  have g1' : its[i]? = some its.toArray[i] := by rw [List.getElem?_eq_getElem h1']; simp
  have g2' : its2[i]? = some its2.toArray[i] := by rw [List.getElem?_eq_getElem h2']; simp
  rw [g1'] at hu1
  rw [g2'] at hv1
  cases hu1
  cases hv1
  refine wpAny_mono (eq_sim Q0 xk n d1 d2 (h.2 i d1 d2 hd1 hd2) (fr.next ex1 g1) A.in1 pins s' _ _ _ _ rm hf hg I1 (fr.den ex1 dd1) (fr.den ex1 dd2) ru rv) (fun r s2 q => ?_) fun _ _ z => z
  obtain ⟨hr, H2, I2, ex2, g2⟩ := q
  exact ⟨hr, H2, I2, ex1.trans ex2, g2⟩
theorem op_neS {j n : Nat} {ok : Nat → List D → List D → Prop} (Q0 : EqF G X.prog X.w X.mg X.base j ok) (xk : Xk G E k X) (hj : j + n + 1 ≤ k := by decide) : OpR X (compareOp .NotEq) (rSim true G E ok n) := by
  intro pins s σ H x y v u Q I rx ry h; obtain ⟨B, m, ex, ds, es, fr, hx, hy, hp, hq⟩ := h
  obtain ⟨a, xs, rfl, na, ha, la, da⟩ := hx
  obtain ⟨b, ys, rfl, nb, hb, lb, db⟩ := hy
  cases rx
  cases ry
  rw [← xk.K] at ha hb
  obtain ⟨its, r, e1, z⟩ := I.tuple ha
  obtain ⟨its2, r2, e2, z2⟩ := I.tuple hb; have l1 := da.length
  have l2 := db.length
  have l3 := hp.1
  have hsz : its.toArray.size = its2.toArray.size := by rw [List.size_toArray, List.size_toArray, ← r.length, ← r2.length]; omega
  have rm : Room (j + n + 1) X.A := xk.room.mono hj
  refine (?_ : wpAny (model X.prog X.w) X.A (richCompare .NotEq _ _) (EP X pins σ Q) X.xe s)
  refine GQ.rc_neG hsz rm.units0 (fun _ s' => Aft G X pins σ m H s') e1 e2 (fun i h1 h2 s' q => turn_sim Q0 xk fr (Room.in1 rm) rfl xk.gd hp da db r r2 i h1 h2 s' q) (fun s' q => ?_) ⟨H, I, Ext.refl _ _, fr.good⟩
  obtain ⟨H2, I2, ex2, g2⟩ := q
  exact ⟨.bl false, H2, I2, rfl, hq H2 ex2 g2⟩
def dSim (neg : Bool) (ok : Nat → List D → List D → Prop) (n : Nat) (ta tb : DT) : DT := fun ex env Q => ta ex env fun d => tb ex env fun e => ∃ ds es, d = .tup ds ∧ e = .tup es ∧ PrsD (simN ok n) ds es ∧ Q (.bl (!neg))
theorem lift_sim {neg : Bool} {ca cb n : Nat} {ok : Nat → List D → List D → Prop} {ta tb : DT} {Q' : VK} (h : lift G E (ca + cb) (dSim neg ok n ta tb) σ H Q') : tOp (rSim neg G E ok n) (lift G E ca ta) (lift G E cb tb) σ H Q' := by
  obtain ⟨W, hn, Q, ht, kk⟩ := h
  refine ⟨W, by omega, _, ht, fun v H1 d st hd hq => ⟨W.next st, by show W.m + cb ≤ W.n - ca; omega, _, hq, fun v2 H2 e st2 he ⟨ds, es, e1, e2, hp, hs⟩ => ?_⟩⟩
  subst e1
  subst e2
  have hd2 : Den G W.XB H2 (.tup ds) v := (W.next st).den st2 hd
  have he2 : Den G W.XB H2 (.tup es) v2 := he
  have st3 := st.trans st2
  have ug := W.ug
  refine ⟨W.XB, W.n - (ca + cb), W.ex, ds, es, ⟨fun p e => ?_, fun a ha z => (W.next st3).fresh z ha, ?_, fun x C d H' e g hx q => ?_⟩, hd2, he2, hp, fun H' e g => ?_⟩
  · rw [← ug] at e
    exact ⟨.inl (W.hu p e).1, .inl (W.hu p e).2⟩
  · rw [← ug]; exact st3.good
  · rw [← ug] at e g
    refine W.exc x C d H' ((W.fr.trans st3.ext).trans e) (g.less (by omega)) ?_ q
    obtain ⟨e1, dd, xs, e2, nd, e3, e4, e5⟩ := hx
    exact ⟨e1, dd, xs, e2, fun z => nd (.inl z), e3, e4, e5.fewer fun b z => .inl z⟩
  · rw [← ug] at e g
    exact kk _ H' (.bl _) ⟨st3.ext.trans e, g⟩ (den_bl _) hs
theorem dt_neS (n : Nat) {a b : Expr} {pos : Pos} {j ca cb : Nat} {ok : Nat → List D → List D → Prop} {ta tb : DT} (Q0 : EqF G X.prog X.w X.mg X.base j ok) (xk : Xk G E k X) (ha : DE G E X ca a ta) (hb : DE G E X cb b tb) (hm : behindInMarks .NotEq b = false) (hj : j + n + 1 ≤ k := by decide) : DPt G E X (ca + cb) (.Compare a [.NotEq] [b] pos) (dTrue (dSim true ok n ta tb)) :=
  impT (pt_cmpR (op_neS Q0 xk hj) ha hb hm) fun _ _ _ h => lift_sim (lift_true h)
theorem EqF.one {P : Program} {w : World} {mg : Str → Option Value} {base : Heap} {i j c : Nat} {S : FSpec} (F : Fqn G P w mg base i c 0 S) {ok : List D → List D → Prop} (h : ∀ ds es, ok ds es → ∀ R ex, R (.bl true) → S [.ins c ds, .ins c es] R ex) (hij : i ≤ j := by decide) : EqF G P w mg base j (fun c' ds es => c' = c ∧ ok ds es) :=
  ⟨fun c' ds es ⟨e, o⟩ => by subst e; obtain ⟨f, fd, ps, hF, r⟩ := F.ex; exact ⟨S, ⟨f, fd, ps, hF.mono hij, r⟩, h ds es o⟩⟩
theorem EqF.or {P : Program} {w : World} {mg : Str → Option Value} {base : Heap} {j : Nat} {ok ok' : Nat → List D → List D → Prop} (a : EqF G P w mg base j ok) (b : EqF G P w mg base j ok') : EqF G P w mg base j (fun c ds es => ok c ds es ∨ ok' c ds es) :=
  ⟨fun c ds es o => o.elim (a.own c ds es) (b.own c ds es)⟩
theorem sim_ins {ok : Nat → List D → List D → Prop} {c : Nat} {ds es : List D} (h : ok c ds es) : ∀ n, simN ok n (.ins c ds) (.ins c es)
  | 0 => .inr ⟨c, ds, es, rfl, rfl, h⟩
  | n + 1 => .inl (sim_ins h n)
theorem PrsD.nil {p : D → D → Prop} : PrsD p [] [] := ⟨rfl, fun i d e h => by simp at h⟩
theorem PrsD.cons {p : D → D → Prop} {d e : D} {ds es : List D} (h : p d e) (t : PrsD p ds es) : PrsD p (d :: ds) (e :: es) := by
  refine ⟨by rw [List.length_cons, List.length_cons, t.1], fun i a b h1 h2 => ?_⟩
  cases i with
  | zero => simp at h1 h2; subst h1; subst h2; exact h
  | succ i => simp at h1 h2; exact t.2 i a b h1 h2
theorem PrsD.same {p : D → D → Prop} {ds : List D} (h : ∀ d ∈ ds, p d d) : PrsD p ds ds :=
  ⟨rfl, fun i d e h1 h2 => by rw [h1] at h2; cases h2; exact h d (List.mem_of_getElem? h1)⟩
theorem leaf_int {is : List Int} : ∀ d ∈ is.map D.int, leafEq d d := fun d hd => by obtain ⟨i, _, rfl⟩ := List.mem_map.mp hd; rfl
end
end Kn
set_option Elab.async false
set_option linter.all false
set_option maxRecDepth 100000
set_option maxHeartbeats 2100000
namespace Kn
open PySem L2 RZ
section
variable {G : Gd} {E : XK} {X : Cx} {σ : List (Option V)} {H H' : Hp} {k : Nat}
def gTypeK : D → (D → Prop) → Prop := fun d Q => (∃ c ds, d = .ins c ds ∧ Q (.opq (.ref (G.cl c)))) ∨ ∃ s, kindS d = some s ∧ Q (.opq (.ty s))
theorem den_typeIs {pins : List (Addr × Obj)} {s : Shared} {B : Addr → Prop} {d : D} {x : V} {u : Value} {t : String} (hK : X.K = G.K) (I : Inv X pins σ H s) (hd : Den G B H d x) (e : kindS d = some t) (r : RelV x u) : s.TypeIs u t ∧ (Value.type t == Value.type "builtin_function_or_method") = false := by
  cases d with
  | non => cases e; cases hd; cases r; exact ⟨rfl, by decide +kernel⟩
  | bl b => cases e; cases hd; cases r; exact ⟨rfl, by decide +kernel⟩
  | int i => cases e; cases hd; obtain ⟨t, rfl⟩ := r; exact ⟨rfl, by decide +kernel⟩
  | str z => cases e; cases hd; obtain ⟨t, rfl⟩ := r; exact ⟨rfl, by decide +kernel⟩
  | lst ds =>
    cases e
    obtain ⟨a, xs, rfl, _, ha, _⟩ := hd
    cases r
    obtain ⟨its, _, px, _⟩ := I.list (SqL.of ha)
    obtain ⟨o, ho, hc, _⟩ := px.isList
    exact ⟨⟨o, ho, hc⟩, by decide +kernel⟩
  | tup ds =>
    cases e
    obtain ⟨a, xs, rfl, _, ha, _⟩ := hd
    cases r
    obtain ⟨its, _, ⟨o, ho, hc, _⟩, _⟩ := I.tuple (by rw [hK]; exact ha)
    exact ⟨⟨o, ho, hc⟩, by decide +kernel⟩
  | dic ks ds =>
    cases e
    obtain ⟨a, kvs, rfl, _, ha, _⟩ := hd
    cases r
    obtain ⟨_, _, vs, _, o, es, ep, ho, hc, _⟩ := I.hok a _ ha
    exact ⟨⟨o, ho, hc.1⟩, by decide +kernel⟩
  | ins c ds => cases e
  | opq w => cases e
  | urn => cases e
  | at_ a ds => cases e
  | dct ks ds => cases e
  | tupn ds => cases e
  | exc c ds => cases e
  | dcT ks ds => cases e
  | dcf _ _ => cases e
theorem c_typeK (hK : X.K = G.K) : CallR X (.type "type") (rDL G (g1 (gTypeK (G := G)))) := by
  intro pins s σ H vs us Q' I r h
  obtain ⟨B, d, x, Q, rfl, hd, hf, hg, kk⟩ := rDL1 h
  rcases hg with ⟨c, ds, rfl, hq⟩ | ⟨t, e, hq⟩
  · obtain ⟨a, dx, ys, rfl, na, ha, la, da⟩ := hd
    exact cr_type pins s σ H _ us Q' I r ⟨a, _, dx, _, rfl, ha, kk _ H (.opq (.ref (G.cl c))) (Ext.refl _ _) (den_opq _) hq⟩
  · cases r with
    | cons r1 rs =>
      cases rs
      obtain ⟨h1, h2⟩ := den_typeIs hK I hd e r1
      exact call_type_of h1 h2 ⟨.ty t, H, I, rfl, kk _ H (.opq (.ty t)) (Ext.refl _ _) (den_opq _) hq⟩
def gIsK (G : Gd) (f : Bool → Bool) : G2 := fun d e Q => (∃ a b, d = .opq (.ref a) ∧ e = .opq (.ref b) ∧ (a = b ∨ (PySem.W.makesIn G.K a = true ∧ PySem.W.makesIn G.K b = true)) ∧ Q (.bl (f (decide (a = b))))) ∨ ∃ n a, d = .opq (.ty n) ∧ e = .opq (.ref a) ∧ Q (.bl (f false))
theorem o_isK (hK : X.K = G.K) : OpR X (compareOp .Is) (rD G (gIsK G id)) := by
  intro pins s σ H x y v u Q' I rx ry h
  obtain ⟨B, d, e, Q, hd, he, _, hg, kk⟩ := h
  rcases hg with ⟨a, b, rfl, rfl, ok, hq⟩ | ⟨n, a, rfl, rfl, hq⟩
  · cases hd; cases he
    exact op_is_cls pins s σ H _ _ v u Q' I rx ry ⟨a, b, rfl, rfl, by rw [hK]; exact ok, kk _ H (.bl _) (Ext.refl _ _) (den_bl _) hq⟩
  · cases hd; cases he
    cases rx; cases ry
    exact wpAny_is_other rfl (fun z => by cases z) ⟨.bl false, H, I, rfl, kk _ H (.bl false) (Ext.refl _ _) (den_bl _) hq⟩
end
end Kn
set_option Elab.async false
set_option linter.all false
set_option maxRecDepth 100000
set_option maxHeartbeats 2100000
namespace Kn
open PySem PySem.Spec L2 RZ LamX PyProof.Rows
open PyProof.Rows (envOfC)
/-- one parameter x of its own, which the maker does not know -/
structure LamD (N : List Str) (x : Str) (sc scope : Scope) : Prop where
  kind : scope.kind = .function
  co : scope.isCoroutine
        = false
  gen : scope.isGenerator
        = false
  own : ∀ y ∈ scope.names, y.2 ≠ .cell ∧ (y.2 = .local → y.1 = x)
  free : ∀ y ∈ scope.names, y.2 = .free → sc.names.lookup
        y.1 = some .cell ∨ sc.names.lookup y.1 = some .free
  nin : x ∉ N
  loc : scope.names.lookup
        x = some .local
section
variable {X : Cx} {pins : List (Addr × Obj)} {σ : L2.St} {H HZ : Hp} {s s1 : Shared} {x : Str}
theorem LamD.has {scope : Scope} (L : LamD X.N x X.env.scope scope) (ok : X.Ok) : ∀ y ∈ scope.names, y.2 = .free → ∃ c, X.env.cells.lookup y.1 = some c := fun y hy e => by
  rcases L.free y
        hy e with k | k
  · exact ok.has _ (.inl k)
  · exact ok.has _ (.inr k)
end
end Kn
set_option Elab.async false
set_option linter.all false
set_option maxRecDepth 100000
set_option maxHeartbeats 2100000
namespace Kn
open PySem L2 RZ
end Kn
set_option Elab.async false
set_option linter.all false
set_option maxRecDepth 100000
set_option maxHeartbeats 2100000
namespace Kn
open PySem L2 RZ
end Kn
set_option Elab.async false
set_option linter.all false
set_option maxRecDepth 100000
set_option maxHeartbeats 3200000
namespace Kn
open PySem PySem.Spec PyProof.Rows L2 RZ
/-- a set as it is made -/
abbrev newSet (w : World) : Obj := { cls := .type "set", dict := none, data := .set #[] 0 (.fresh 0 0 (!w.params.followText "set-order")) }
end Kn
set_option Elab.async false
set_option linter.all false
set_option maxRecDepth 100000
set_option maxHeartbeats 2100000
namespace Kn
open PySem PySem.Spec PyProof.Rows L2 RZ
end Kn
set_option Elab.async false
set_option linter.all false
set_option maxRecDepth 100000
set_option maxHeartbeats 2100000
namespace Kn
open PySem L2 RZ
open PyProof.Rows (envOfC)
end Kn
set_option Elab.async false
set_option linter.all false
set_option maxRecDepth 100000
set_option maxHeartbeats 2100000
namespace Kn
open PySem PySem.Spec PyProof.Rows L2 RZ
/-- the order of tuples of ints -/
def lexL : List Int → List Int → Bool
  | [], [] => false
  | [], _ :: _ => true
  | _ :: _, [] => false
  | x :: xs, y :: ys => if x = y then lexL xs ys else decide (x < y)
theorem lexL_asym : ∀ x y : List Int, lexL x y = true → lexL y x = false
  | [], [], h => by cases h
  | [], _ :: _, _ => rfl
  | _ :: _, [], h => by cases h
  | x :: xs, y :: ys, h => by
    unfold lexL at h ⊢
    by_cases e : x = y
    · subst e
      rw [if_pos rfl] at h ⊢
      exact lexL_asym xs ys h
    · rw [if_neg e] at h
      rw [if_neg fun z => e z.symm]
      have := of_decide_eq_true h; exact decide_eq_false (by omega)
theorem lexL_tr : ∀ x y z : List Int, lexL y x = false → lexL z y = false → lexL z x = false
  | [], [], [], _, _ => rfl
  | [], [], _ :: _, _, _ => rfl
  | [], _ :: _, [], _, h => by cases h
  | [], _ :: _, _ :: _, _, _ =>
        rfl
  | _ :: _, [], _, h, _ =>
        by cases h
  | _ :: _, _ :: _, [], _, h => by cases h
  | x :: xs, y :: ys, z :: zs, h1, h2 =>
        by
    unfold lexL at h1 h2 ⊢
    by_cases a : y = x
    · subst a
      rw [if_pos rfl] at h1
      by_cases b : z = y
      · subst b
        rw [if_pos rfl] at h2 ⊢
        exact lexL_tr xs ys zs h1 h2
      · rw [if_neg b] at h2 ⊢
        exact h2
    · rw [if_neg a] at h1
      have a1 := of_decide_eq_false h1
      by_cases b : z = y
      · subst b
        rw [if_neg a]
        exact h1
      · rw [if_neg b] at h2
        have b1 := of_decide_eq_false h2
        rw [if_neg (show ¬ z = x by omega)]
        exact decide_eq_false
              (by omega)
theorem swo_lexL (k : Value → List Int) : SrtO.Swo fun v u => lexL (k v) (k u) := ⟨fun x y => lexL_asym _ _, fun x y z => lexL_tr _ _ _⟩
/-- a tuple of these ints stands at v -/
def TupV (h : Heap) (v : Value) (ns : List Int) : Prop := ∃ a o its n, v = .ref a ∧ h.get? a = some o ∧ o.cls = .type "tuple" ∧ o.data = .seq (List.toArray its) n ∧ IntsAre its ns
theorem TupV.keeps {h h' : Heap} {v : Value} {ns : List Int} (x : TupV h v ns) (k : ∀ b o, h.get? b = some o → o.cls = .type "tuple" → h'.get? b = some o) : TupV h' v ns := by
  obtain ⟨a, o, its, n, e, ho, hc, r⟩ := x
  exact ⟨a, o, its, n, e, k _ _ ho hc, hc, r⟩
end Kn
set_option Elab.async false
set_option linter.all false
set_option maxRecDepth 100000
set_option maxHeartbeats 2100000
namespace Kn
open PySem PySem.Spec PyProof.Rows L2 RZ
end Kn
set_option Elab.async false
set_option linter.all false
set_option maxRecDepth 100000
set_option maxHeartbeats 2100000
namespace Kn
open PySem L2 RZ
section
variable {G : Gd} {X : Cx} {B : Addr → Prop} {H : Hp}
theorem rows_ks : ∀ {rs : List (List Int)} {ys : List V}, DenL G B H (rs.map rowD) ys → ∃ ks : List (Addr × List Int), ys = ks.map (fun p => V.ref p.1) ∧ ks.map (·.2) = rs ∧ ∀ p ∈ ks, SqT G.K H p.1 (p.2.map V.int) ∧ Den G B H (rowD p.2) (.ref p.1)
  | [], ys, h => by
    cases (show ys = [] from h)
    exact ⟨[], rfl, rfl, nofun⟩
  | r :: rs, ys, ⟨x, zs, e, h1, h2⟩ => by
    obtain ⟨ks, e1, e2, e3⟩ := rows_ks h2
    have h0 := h1
    obtain ⟨a, xs, rfl, na, ha, la, da⟩ := h1
    rw [DenL.ints da] at ha
    refine ⟨(a, r) :: ks, by rw [e, e1]; rfl, by rw [List.map_cons, e2], fun p hp => ?_⟩
    rcases List.mem_cons.mp
          hp with rfl | hp
    · exact ⟨ha, h0⟩
    · exact e3 p hp
theorem denL_ks {H' : Hp} : ∀ {ls : List (Addr × List Int)}, (∀ p ∈ ls, Den G B H' (rowD p.2) (.ref p.1)) → DenL G B H' ((ls.map (·.2)).map rowD) (ls.map fun p => V.ref p.1)
  | [], _ => rfl
  | p :: ls, h => ⟨_, _, rfl, h p List.mem_cons_self, denL_ks fun q hq => h q (List.mem_cons_of_mem _ hq)⟩
end
end Kn
set_option Elab.async false
set_option linter.all false
set_option maxRecDepth 100000
set_option maxHeartbeats 2100000
namespace Kn
open PySem PySem.Spec PyProof.Rows L2 RZ
abbrev tkd (P : Program) (w : World) : HeapKind P w (List Int) := tupleKind (intKind P w)
/-- what a dict of rows holds at a row -/
def atL (L : List (List Int × Addr × V)) (r : List Int) : Option V := (L.find? fun x => decide (x.1 = r)).map (·.2.2)
def putIn (r : List Int) (v : V) (x : List Int × Addr × V) : List Int × Addr × V := if x.1 = r then (x.1, x.2.1, v) else x
def putL (L : List (List Int × Addr × V)) (r : List Int) (b : Addr) (v : V) : List (List Int × Addr × V) := if (atL L r).isSome then L.map (putIn r v) else L ++ [(r, b, v)]
abbrev LX : List (List Int × Addr × V) → List (List Int × Addr × Value) → Prop := Paired fun p q => p.1 = q.1 ∧ p.2.1 = q.2.1 ∧ RelV p.2.2 q.2.2
theorem lx_keys : ∀ {L : List (List Int × Addr × V)} {xs : List (List Int × Addr × Value)}, LX L xs → xs.map (·.1) = L.map (·.1)
  | [], _, .nil => rfl
  | _ :: _, _, .cons h t => by rw [List.map_cons, List.map_cons, lx_keys t, h.1]
theorem lx_at : ∀ {L : List (List Int × Addr × V)} {xs : List (List Int × Addr × Value)}, LX L xs → ∀ r, RelO (atL L r) ((atKey xs r).map (·.2))
  | [], _, .nil, r => trivial
  | p :: L, _, @Paired.cons _ _ _ _ q _ xs h t, r => by
    unfold atL atKey
    rw [List.find?_cons, List.find?_cons, h.1]
    by_cases e : q.1 = r
    · rw [decide_eq_true e]
      exact h.2.2
    · rw [decide_eq_false e]
      exact lx_at t r
theorem relO_some {o : Option V} {u : Option Value} (h : RelO o u) : o.isSome = u.isSome := by
  cases o <;> cases u <;> first | rfl | cases h
theorem lx_mem : ∀ {L : List (List Int × Addr × V)} {xs : List (List Int × Addr × Value)}, LX L xs → ∀ x ∈ xs, ∃ p ∈ L, p.1 = x.1 ∧ p.2.1 = x.2.1
  | [], _, .nil, _, hx => nomatch hx
  | p :: L, _, .cons h t, x, hx => by
    rcases List.mem_cons.mp
          hx with rfl | hx
    · exact ⟨p, List.mem_cons_self, h.1, h.2.1⟩
    · obtain ⟨p', hp, e⟩ := lx_mem t x hx
      exact ⟨p', List.mem_cons_of_mem _ hp, e⟩
theorem lx_repl (r : List Int) {v : V} {u : Value} (hv : RelV v u) : ∀ {L : List (List Int × Addr × V)} {xs : List (List Int × Addr × Value)}, LX L xs → LX (L.map (putIn r v)) (xs.map (putAt r u))
  | [], _, .nil => .nil
  | p :: L, _, @Paired.cons _ _ _ _ q _ xs h t => by
    rw [List.map_cons, List.map_cons]; refine .cons ?_ (lx_repl r hv t)
    unfold putIn putAt
    by_cases e : p.1 = r
    · rw [if_pos e, if_pos (h.1 ▸ e)]; exact ⟨h.1, h.2.1, hv⟩
    · rw [if_neg e, if_neg (h.1 ▸ e)]; exact h
theorem lx_put {L : List (List Int × Addr × V)} {xs : List (List Int × Addr × Value)} (h : LX L xs) (r : List Int) (b : Addr) {v : V} {u : Value} (hv : RelV v u) : LX (putL L r b v) (storedH xs r b u) := by
  have e : (atL L r).isSome = (atKey xs r).isSome := by rw [relO_some (lx_at h r), Option.isSome_map]
  unfold putL storedH
  rw [e]
  split
  · exact lx_repl r hv h
  · exact Paired.snoc h ⟨rfl, rfl, hv⟩
theorem putIn_keys (L : List (List Int × Addr × V)) (r : List Int) (v : V) : (L.map (putIn r v)).map (·.1) = L.map (·.1) := by
  rw [List.map_map]
  refine List.map_congr_left fun x _ => ?_; show (putIn r v x).1 = x.1
  unfold putIn
  split <;> rfl
theorem putL_len (L : List (List Int × Addr × V)) (r : List Int) (b : Addr) (v : V) : (putL L r b v).length ≤ L.length + 1 := by
  unfold putL
  split
  · rw [List.length_map]; omega
  · rw [List.length_append];
        simp
/-- the keys stand as tuples of ints -/
def KeysS (K : PySem.W.Frag) (H : Hp) (L : List (List Int × Addr × V)) : Prop := ∀ p ∈ L, SqT K H p.2.1 (p.1.map V.int)
section
variable {X : Cx} {pins : List (Addr × Obj)} {σ : List (Option V)} {H : Hp} {s : Shared} {a b : Addr} {L : List (List Int × Addr × V)} {r : List Int} {A : Around} {E : Value → Shared → Prop}
theorem dic_rd (I : Inv X pins σ H s) (e : H a = some (DicO a L)) (hk : KeysS X.K H L) : (a == sysModules) = false ∧ L.length ≤ sizeLine ∧ (L.map (·.1)).Nodup ∧ ∃ xs, LX L xs ∧ s.heap.DictOfH (tkd X.prog X.w) a xs := by
  have c : DicAt s.heap a L := (I.hok a _ e).1
  obtain ⟨xs, o, es, ep, hx, ho, hd, hdat, he⟩ := c.ex
  refine ⟨c.low, c.few, c.nd, xs, hx, o, es, ep, ho, hd, hdat, he, fun x hxm => ?_, by rw [lx_keys hx]; exact c.nd⟩
  obtain ⟨p, hp, e1, e2⟩ := lx_mem hx x hxm
  rw [← e1, ← e2]
  exact I.isT (hk p hp)
theorem dicO_new {P : Program} {w : World} {H : Hp} {h : Heap} (c : DicAt h a L) : ObjOk P w H h a (DicO a L) := by
  obtain ⟨xs, o, es, ep, hx, ho, r⟩ := c.ex
  refine ⟨c, ⟨o, ho⟩, fun h1 h2 p k => ?_⟩
  have p' : DicAt h1 a L := p
  obtain ⟨xs', o', es', ep', hx', ho', r'⟩ := p'.ex
  exact ⟨p'.low, p'.few, p'.nd, xs', o', es', ep', hx', k o' ho', r'⟩
theorem dicAt_of {P : Program} {w : World} {h : Heap} {xs : List (List Int × Addr × Value)} (lo : (a == sysModules) = false) (few : L.length ≤ sizeLine) (hx : LX L xs) (hd : h.DictOfH (tkd P w) a xs) : DicAt h a L := by
  obtain ⟨o, es, ep, ho, h1, h2, h3, _, h5⟩ := hd
  exact ⟨lo, few, by rw [← lx_keys hx]; exact h5, xs, o, es, ep, hx, ho, h1, h2, h3⟩
theorem dic_notIn {Q : Value → Shared → Prop} (hu : A.units + 1 < cLine) (I : Inv X pins σ H s) (e : H a = some (DicO a L)) (hk : KeysS X.K H L) (hb : SqT X.K H b (r.map V.int)) (h : ∀ s', Inv X pins σ H s' → Q (.bool (!(atL L r).isSome)) s') :
    wpAny (model X.prog X.w) A (compareOp .NotIn (.ref b) (.ref a)) Q E s := by
  obtain ⟨z, _, _, xs, hx, dd⟩ := dic_rd I e hk
  refine wpAny_notIn_heap (tupleKind_room_in1 hu) (I.isT hb) z dd ?_
  have q := relO_some (lx_at hx r)
  rw [Option.isSome_map] at q
  rw [← q]
  exact h _ (I.tok _)
/-- d[r] = v -/
theorem dic_put {v : V} {u : Value} {Q : Unit → Shared → Prop} (hu : A.units + 1 < cLine) (I : Inv X pins σ H s) (e : H a = some (DicO a L)) (hk : KeysS X.K H L) (hb : SqT X.K H b (r.map V.int)) (hl : L.length < sizeLine) (rv : RelV v u)
    (h : ∀ s', Inv X pins σ (upd H a (DicO a (putL L r b v))) s' → Q () s') : wpAny (model X.prog X.w) A (setItem (.ref a) (.ref b) u) Q E s := by
  obtain ⟨z, few, _, xs, hx, dd⟩ := dic_rd I e hk
  have hz : xs.length ≤ sizeLine := by rw [← Paired.length hx]; exact few
  refine wpAny_setItem_heap (hsz := hz) (tupleKind_room_in1 hu) (I.isT hb) dd fun h' dd' hs => h _ ?_
  have c : DicAt h' a (putL L r b v) := dicAt_of z (by have := putL_len L r b v; omega) (lx_put hx r b rv) dd'
  obtain ⟨q, _, _, hq, _⟩ := dd'
  exact d_write I (by rw [e]; exact True.intro) hs ⟨q, hq⟩ (dicO_new c)
/-- {} -/
theorem dic_empty (h : Heap) (hb : sysModules < h.objs.size) : DicAt (h.push { cls := .type "dict", data := .dict #[] }) h.objs.size [] :=
  ⟨beq_eq_false_iff_ne.mpr (Ne.symm (Nat.ne_of_lt hb)), Nat.zero_le _, List.nodup_nil, [], _, #[], 0, .nil, Heap.get?_push_size _ rfl, ⟨rfl, rfl, rfl⟩, rfl, rfl⟩
end
section
variable {X : Cx} {o i e value : Expr}
      {pos pos' tpos : Pos} {td ty tv : TE}
/-- y in d -/
def rLIn (K : PySem.W.Frag) (neg : Bool) : V → V → Hp → VK → Prop := fun y x H Q => ∃ a L b r, x = .ref a ∧ y = .ref b ∧ H a = some (DicO a L) ∧ KeysS K H L ∧ SqT K H b (r.map V.int) ∧ Q (.bl (if neg then !(atL L r).isSome else (atL L r).isSome)) H
theorem or_lnotin (hu : X.A.units + 1 < cLine) : OpR X (compareOp .NotIn) (rLIn X.K true) := by
  intro pins s σ H x y v u Q I rx ry h; obtain ⟨a, L, b, r, rfl, rfl, hd, hk, hb, q⟩ := h
  cases rx; cases ry
  exact dic_notIn hu I hd hk hb fun s' I' => ⟨.bl (!(atL L r).isSome), H, I', rfl, q⟩
/-- d[y] = v -/
def sLPut (K : PySem.W.Frag) (td ty tv : TE) : TS := fun D σ H => tv σ H fun v H1 => td σ H1 fun x H2 => ty σ H2 fun y H3 => ∃ a L b r, x = .ref a ∧ y = .ref b ∧ H3 a = some (DicO a L) ∧ KeysS K H3 L ∧ SqT K H3 b (r.map V.int) ∧ L.length < sizeLine ∧ D.nx σ (upd H3 a (DicO a (putL L r b v)))
theorem ps_lput (hu : X.A.units + 1 < cLine) (ho : PE X o td) (hi : PE X i ty) (hv : PE X value tv) (hs : swapsWith value (some (.Subscript o i pos')) pos.line X.env = pure false) :
    PS X (.Assign [.Subscript o i pos'] value pos) (sLPut X.K td ty tv) := by
  refine ⟨fun pins s σ H D I h => ?_⟩; refine wpAny_Assign_Subscript (thn (hv.run pins s σ H _ I h) fun r s1 ⟨v, H1, I1, rv, q1⟩ => thn (ho.run pins s1 σ H1 _ I1 q1) fun u s2 ⟨x, H2, I2, rx, q2⟩ => thn (hi.run pins s2 σ H2 _ I2 q2) fun iv s3 ⟨y, H3, I3, ry, a, L, b, k, ex, ey, hd, hk, hb, hl, q3⟩ => ?_) hs
  subst ex ey
  obtain rfl : u = Value.ref a := rx; obtain rfl : iv = Value.ref b := ry
  exact dic_put hu I3 hd hk hb hl rv fun s4 I4 => ⟨σ, _, I4, q3⟩
end
end Kn
set_option Elab.async false
set_option linter.all false
set_option maxRecDepth 100000
set_option maxHeartbeats 2100000
namespace Kn
open PySem L2 RZ
open PyProof.Rows (envOfC)
section
variable {G : Gd} {E : XK} {X : Cx} {σ : List (Option V)} {H H' : Hp} {k : Nat}
/-- the value is the row r -/
def rowK (d : D) (r : List Int) : Prop := d = .tup (r.map D.int) ∨ d = .tupn (r.map D.int)
theorem rowK_t {r : List Int} : rowK (.tup (r.map D.int)) r := .inl rfl
theorem Den.key {B : Addr → Prop} {d : D} {v : V} {r : List Int} (hk : rowK d r) (h : Den G B H d v) : ∃ b, v = .ref b ∧ (¬ B b ∨ KTup G.K b (r.map V.int)) ∧ SqT G.K H b (r.map V.int) ∧ r.length ≤ sizeLine := by
  have h' : Den G B H (.tup (r.map D.int)) v := by
    rcases hk with rfl | rfl
    · exact h
    · obtain ⟨a, xs, o, rfl, nb, hs, _, _, hl, hd⟩ := h
      exact ⟨a, xs, rfl, .inl nb, .inl (.inr ⟨o, hs⟩), hl, hd⟩
  obtain ⟨a, xs, rfl, nb, hs, hl, hd⟩ := h'
  have e := hd.ints
  subst e
  rw [List.length_map] at hl
  exact ⟨a, rfl, nb, hs, hl⟩
def putKs (ks : List (List Int)) (r : List Int) : List (List Int) := if r ∈ ks then ks else ks ++ [r]
def putDs (ks : List (List Int)) (ds : List D) (r : List Int) (d : D) : List D := if r ∈ ks then (ks.zip ds).map (fun x => if x.1 = r then d else x.2) else ds ++ [d]
theorem KeysOk.s {B : Addr → Prop} {L : List (List Int × Addr × V)} (h : KeysOk G.K B H L) : KeysS G.K H L := fun p hp => (h p hp).2.1
theorem atL_mem (L : List (List Int × Addr × V)) (r : List Int) : (atL L r).isSome = decide (r ∈ L.map (·.1)) := by
  unfold atL
  rw [Option.isSome_map]
  by_cases h : r ∈ L.map (·.1)
  · rw [decide_eq_true h]
    obtain ⟨x, hx, e⟩ := List.mem_map.mp h
    exact List.find?_isSome.mpr ⟨x, hx, decide_eq_true e⟩
  · rw [decide_eq_false h]
    cases z : (L.find? fun x => decide (x.1 = r)) with
    | none => rfl
    | some x =>
      exfalso
      have hx := List.mem_of_find?_eq_some z
      have he := List.find?_some z
      exact h (List.mem_map.mpr ⟨x, hx, of_decide_eq_true he⟩)
theorem put_map : ∀ {L : List (List Int × Addr × V)} {ds : List D} {r : List Int} {d : D} {v : V} {B : Addr → Prop}, DenL G B H ds (L.map (·.2.2)) → Den G B H d v →
    DenL G B H (((L.map (·.1)).zip ds).map fun x => if x.1 = r then d else x.2) ((L.map (putIn r v)).map (·.2.2))
  | [], [], _, _, _, _, _, _ => rfl
  | [], _ :: _, _, _, _, _, h, _ => by obtain ⟨_, _, e, _⟩ := h; cases e
  | p :: L, [], _, _, _, _, h, _ => by cases h
  | p :: L, d0 :: ds, r, d, v, B, ⟨x, q, e1, h1, h2⟩, hv => by
    cases e1
    refine ⟨(putIn r v p).2.2, (L.map (putIn r v)).map (·.2.2), rfl, ?_, put_map (L := L) h2 hv⟩
    unfold putIn
    by_cases c : p.1 = r
    · show Den G B H (if p.1 = r then d else d0) _
      rw [if_pos c, if_pos c]; exact hv
    · show Den G B H (if p.1 = r then d else d0) _
      rw [if_neg c, if_neg c]; exact h1
theorem putL_keys (L : List (List Int × Addr × V)) (r : List Int) (b : Addr) (v : V) : (putL L r b v).map (·.1) = putKs (L.map (·.1)) r := by
  unfold putL putKs
  rw [atL_mem]
  by_cases h : r ∈ L.map (·.1)
  · rw [if_pos (decide_eq_true h), if_pos h, putIn_keys]
  · rw [if_neg (by rw [decide_eq_false h]; simp), if_neg h, List.map_append]; rfl
theorem putL_vals {B : Addr → Prop} {L : List (List Int × Addr × V)} {ds : List D} {r : List Int} {b : Addr} {d : D} {v : V} (h : DenL G B H ds (L.map (·.2.2))) (hv : Den G B H d v) : DenL G B H (putDs (L.map (·.1)) ds r d) ((putL L r b v).map (·.2.2)) := by
  by_cases c : r ∈ L.map (·.1)
  · have e1 : putL L r b v = L.map (putIn r v) := by unfold putL; rw [atL_mem, if_pos (decide_eq_true c)]
    have e2 : putDs (L.map (·.1)) ds r d = ((L.map (·.1)).zip ds).map (fun x => if x.1 = r then d else x.2) := by unfold putDs; rw [if_pos c]
    rw [e1, e2]; exact put_map h hv
  · have e1 : putL L r b v = L ++ [(r, b, v)] := by unfold putL; rw [atL_mem, decide_eq_false c]; rfl
    have e2 : putDs (L.map (·.1)) ds r d = ds ++ [d] := by unfold putDs; rw [if_neg c]
    rw [e1, e2, List.map_append]
    exact h.append ⟨v, [], rfl, hv, rfl⟩
theorem putL_ok {K : PySem.W.Frag} {B : Addr → Prop} {L : List (List Int × Addr × V)} {r : List Int} {b : Addr} {v : V} (h : KeysOk K B H L) (hb : (¬ B b ∨ KTup K b (r.map V.int)) ∧ SqT K H b (r.map V.int) ∧ r.length ≤ sizeLine) : KeysOk K B H (putL L r b v) := fun p hp => by
  unfold putL at hp
  split at hp
  · obtain ⟨q, hq, e⟩ := List.mem_map.mp hp
    have z := h q hq
    have e2 : p.1 = q.1 ∧ p.2.1 = q.2.1 := by
      rw [← e]; unfold putIn; split <;> exact ⟨rfl, rfl⟩
    rw [e2.1, e2.2]; exact z
  · rcases List.mem_append.mp
        hp with hp | hp
    · exact h p hp
    · rw [List.mem_singleton.mp hp]; exact hb
def gInDT (neg : Bool) : G2 := fun k d Q => ∃ ks ds r, rowK k r ∧ d = .dcT ks ds ∧ Q (.bl (if neg then !decide (r ∈ ks) else decide (r ∈ ks)))
theorem rd_inDT {neg : Bool} {x y : V} {Q' : VK} (hK : X.K = G.K) (h : rD G (gInDT neg) x y H Q') : rLIn X.K neg x y H Q' := by
  obtain ⟨B, d, e, Q, hd, he, hf, ⟨ks, ds, r, hk, rfl, hq⟩, kk⟩ := h
  obtain ⟨a, L, rfl, na, hat, hks, hkk, hds⟩ := he
  obtain ⟨b, rfl, nb, hb, _⟩ := hd.key hk
  rw [hK]
  subst hks
  refine ⟨a, L, b, r, rfl, rfl, hat, hkk.s, hb, ?_⟩
  rw [atL_mem]
  exact kk _ H _ (Ext.refl _ _) (den_bl _) hq
theorem o_niD (hK : X.K = G.K) (hu : X.A.units + 1 < cLine) : OpR X (compareOp .NotIn) (rD G (gInDT true)) := opr_imp (or_lnotin hu) fun x y H Q' h => rd_inDT hK h
abbrev DKt := (Exc → Prop) → List Sl → (List (List Int) → List D → Prop) → Prop
def liftK (G : Gd) (E : XK) (c : Nat) (t : DKt) : TE := fun σ H Q' => ∃ W : Wd G E σ H, W.m + c ≤ W.n ∧ ∃ Q, t W.ex W.env Q ∧
  ∀ p H' ks ds L, Step W c H' → H p = none → H' p = some (DicO p L) → L.map (·.1) = ks → KeysOk G.K (fun a => W.XB a ∨ a = p) H' L → DenL G (fun a => W.XB a ∨ a = p) H' ds (L.map (·.2.2)) → Q ks ds → Q' (.ref p) H'
abbrev DNd (G : Gd) (E : XK) (X : Cx) (c : Nat) (e : Expr) (t : DKt) : Prop := PE X e (liftK G E c t)
theorem new_none {W : Wd G E σ H} {c : Nat} {H1 : Hp} (st : Step W c H1) {p : Addr} (hp : H1 p = none) : H p = none := by
  cases q : H p with
  | none => rfl
  | some o =>
    exfalso
    rw [st.ext p o q (W.nuX ((W.next st).fresh hp))] at hp; cases hp
/-- x = e -/
def sDic (i : Nat) (t : DKt) : DS := fun ex de env => t ex env fun ks ds => ∀ a, de.nx (env.set i (.dic a ks ds))
theorem wd_dic (W : Wd G E σ H) {c : Nat} {H2 : Hp} (st : Step W c H2) {i : Nat} {p : Addr} {ks : List (List Int)} {ds : List D} {L : List (List Int × Addr × V)} (hp : H p = none) (h2 : H2 p = some (DicO p L)) (hk : L.map (·.1) = ks) (hx : KeysOk G.K (fun a => W.XB a ∨ a = p) H2 L) (hd : DenL G (fun a => W.XB a ∨ a = p) H2 ds (L.map (·.2.2))) :
    ∃ W' : Wd G E (σ.set i (some (.ref p))) H2, Later W c W' ∧ W'.env = W.env.set i (.dic p ks ds) ∧ W'.n = W.n - c := by
  have fr0 : ¬ W.XB p := W.fresh hp
  have h0 : W.H0 p = none := by
    cases q : W.H0 p with
    | none => rfl
    | some o =>
      exfalso
      rw [W.fr p o q (W.nuX fr0)] at hp; cases hp
  have npo : ∀ {j : Nat} {s : Sl} {b : Addr}, W.env[j]? = some s → s.mine = true → σ[j]? = some (some (.ref b)) → b ≠ p := fun {j s b} e hm es z => by
    obtain ⟨_, o, ho⟩ := W.mine_at e hm es
    rw [z, hp] at ho; cases ho
  have xb : ∀ b, XBof W.B (W.env.set i (.dic p ks ds)) (σ.set i (some (.ref p))) b → W.XB b ∨ b = p := fun b hb => by
    rcases hb with hb | ⟨j, s, e1, m1, e2⟩
    · exact .inl (.inl hb)
    · by_cases hj : i = j
      · subst hj
        by_cases hi : i < σ.length
        · rw [List.getElem?_set_self hi] at e2; cases e2; exact .inr rfl
        · rw [List.getElem?_eq_none (by rw [List.length_set]; omega)] at e2; cases e2
      · rw [List.getElem?_set_ne hj] at e1 e2
        exact .inl (.inr ⟨j, s, e1, m1, e2⟩)
  have sp : ∀ b, XBof W.B (W.env.set i (.dic p ks ds)) (σ.set i (some (.ref p))) b → W.XB b ∨ H b = none := fun b hb => (xb b hb).imp id fun z => by rw [z]; exact hp
  have dk : ∀ {d : D} {v : V}, Den G W.XB H d v → Den G (XBof W.B (W.env.set i (.dic p ks ds)) (σ.set i (some (.ref p)))) H2 d v := fun {d v} h => Den.keep (fun b o nb e => st.keep nb e) sp d v h
  have dkl : ∀ {es : List D} {ys : List V}, DenL G W.XB H es ys → DenL G (XBof W.B (W.env.set i (.dic p ks ds)) (σ.set i (some (.ref p)))) H2 es ys := fun {es ys} h => DenL.keep (fun b o nb e => st.keep nb e) sp es ys h
  have own_st : ∀ {j : Nat} {s : Sl} {b : Addr} {o : HO}, W.env[j]? = some s → s.mine = true → σ[j]? = some (some (.ref b)) → H b = some o → H2 b = some o := fun {j s b o} e hm es ho => st.ext b o ho (lend_un W (W.mine_at e hm es).1)
  refine ⟨{ u := W.u, n := W.n - c, m := W.m, B := W.B, H0 := W.H0, env := W.env.set i (.dic p ks ds), ex := W.ex, ug := W.ug, hu := W.hu, hB := W.hB, fr := W.fr.trans st.ext, good := st.good, len := by rw [List.length_set, List.length_set]; exact W.len, sl := fun j s e => ?_, nd := fun j l b s t e1 e2 m1 m2 e3 e4 => ?_, exc := W.exc },
    ⟨rfl, rfl, rfl, rfl, rfl, by show W.n ≤ W.n - c + c; omega, fun b o nb e => st.keep nb e, sp⟩, rfl, rfl⟩
  · by_cases hj : i = j
    · subst hj
      by_cases hi : i < W.env.length
      · rw [List.getElem?_set_self hi] at e
        cases e
        rw [getD_set, if_pos ⟨rfl, by rw [← W.len]; exact hi⟩]
        exact ⟨L, rfl, h0, h2, hk, hx.keep (fun _ _ _ h => h) (fun b hb => .inl (xb b hb)), hd.fewer xb⟩
      · rw [List.getElem?_eq_none (by simpa using hi)] at e; cases e
    · rw [List.getElem?_set_ne hj] at e
      rw [getD_set, if_neg (fun z => hj z.1)]
      have z := W.sl j s e
      cases s with
      | emp => trivial
      | val d => obtain ⟨x, e1, e2⟩ := z; exact ⟨x, e1, dk e2⟩
      | own b es => obtain ⟨ys, e1, e2, e3, e4, e5⟩ := z; exact ⟨ys, e1, e2, own_st e rfl (join_some e1) e3, e4, dkl e5⟩
      | slf b dx cc es => obtain ⟨ys, e1, e2, e3, e4, e5⟩ := z; exact ⟨ys, e1, e2, own_st e rfl (join_some e1) e3, e4, dkl e5⟩
      | obj b o => obtain ⟨e1, e2, e3, e4⟩ := z; exact ⟨e1, e2, own_st e rfl (join_some e1) e3, e4⟩
      | dic b ks es => obtain ⟨L, e1, e2, e3, e4, e5, e6⟩ := z; exact ⟨L, e1, e2, own_st e rfl (join_some e1) e3, e4, e5.by dk, dkl e6⟩
  · by_cases hj : i = j
    · by_cases hlk : i = l
      · exact hj.symm.trans hlk
      · subst hj
        exfalso
        rw [List.getElem?_set_ne hlk] at e2 e4
        have hi : i < σ.length := by
          by_cases q : i < σ.length
          · exact q
          · rw [List.getElem?_eq_none (by rw [List.length_set]; omega)] at e3; cases e3
        rw [List.getElem?_set_self hi] at e3
        cases e3
        exact npo e2 m2 e4 rfl
    · rw [List.getElem?_set_ne hj] at e1 e3
      by_cases hlk : i = l
      · subst hlk
        exfalso
        have hi : i < σ.length := by
          by_cases q : i < σ.length
          · exact q
          · rw [List.getElem?_eq_none (by rw [List.length_set]; omega)] at e4; cases e4
        rw [List.getElem?_set_self hi] at e4
        cases e4
        exact npo e1 m1 e3 rfl
      · rw [List.getElem?_set_ne hlk] at e2 e4
        exact W.nd j l b s t e1 e2 m1 m2 e3 e4
theorem ds_dic {i : Nat} {x : Str} {e : Expr} {pos pos' : Pos} {c : Nat} {t : DKt} (hN : X.N.Nodup) (hi : X.N[i]? = some x) (hx : Loc X.env.scope x) (he : DNd G E X c e t) (hs : swapsWith e (some (.Name x pos')) pos.line X.env = pure false := by rfl)
    (hf : X.fn x = true ∨ X.env.scope.names.lookup x = some .local := by first | exact .inl rfl | exact .inr rfl) : DSt G E X c (.Assign [.Name x pos'] e pos) (sDic i t) :=
  impS (ps_set hN hi hx he hs hf) fun Dn σ H h => by
    obtain ⟨W, hn, de, ht, k1, k2, k3, k4⟩ := h
    refine ⟨W, hn, _, ht, fun p H' ks ds L st hp h2 hk hx hd hq => ?_⟩
    obtain ⟨W', l1, l2, _⟩ := wd_dic W st (i := i) hp h2 hk hx hd
    exact k1 _ H' W' l1 (by rw [l2]; exact hq p)
theorem lift_dic {i : Nat} {W : Wd G E σ H} {ks : List (List Int)} {ds : List D} {a : Addr} (he : W.env[i]? = some (.dic a ks ds)) : ∃ L, σ[i]? = some (some (.ref a)) ∧ W.H0 a = none ∧ H a = some (DicO a L) ∧ L.map (·.1) = ks ∧ KeysOk G.K W.XB H L ∧ DenL G W.XB H ds (L.map (·.2.2)) := by
  obtain ⟨L, e1, e2, e3, e4, e5, e6⟩ := W.sl i _ he
  exact ⟨L, join_some e1, e2, e3, e4, e5, e6⟩
/-- x[y] = v -/
def sDput (i : Nat) (te tk : DT) : DS := fun ex de env => te ex env fun d => tk ex env fun y => ∃ a ks ds r, env[i]? = some (.dic a ks ds) ∧ rowK y r ∧ ks.length < sizeLine ∧ de.nx (env.set i (.dic a (putKs ks r) (putDs ks ds r d)))
theorem ds_dput {i : Nat} {x : Str} {e b : Expr} {pos p p2 : Pos} {c c2 : Nat} {te ti : DT} (hK : X.K = G.K) (hu : X.A.units + 1 < cLine) (hN : X.N[i]? = some x) (he : DE G E X c e te) (hi : DE G E X c2 b ti) (hv : Vis X.env.scope x := by first | exact Or.inl rfl | exact Or.inr (Or.inl rfl) | exact Or.inr (Or.inr rfl))
    (hd : (x == ("__debug__" : Str)) = false := by decide) (hcd : (x == ("__classdict__" : Str)) = false := by decide) (hs : swapsWith e (some (.Subscript (.Name x p) b p2)) pos.line X.env = pure false := by rfl)
    (h0 : ∀ (W : List Sl), True := by intro _; trivial) : DSt G E X (c + c2) (.Assign [.Subscript (.Name x p) b p2] e pos) (fun ex de env => (∃ a ks ds, env[i]? = some (.dic a ks ds)) ∧ sDput i te ti ex de env) :=
  impS (ps_lput hu (pe_var (i := i) hN hv hd hcd) hi he hs) fun Dn σ H h => by
    obtain ⟨W, hn, de, ⟨⟨a, ks, ds, hei⟩, ht⟩, k1, k2, k3, k4⟩ := h
    refine ⟨W, by omega, _, ht, fun v H1 d st hdv hq => ?_⟩
    obtain ⟨L, hsi, h0, ha, hk, hx, hds⟩ := lift_dic (W := W) hei
    refine ⟨.ref a, hsi, W.next st, by show W.m + c2 ≤ W.n - c; omega, _, hq, fun v2 H2 e2 st2 hv2 ⟨a', ks', ds', r, hei', hkd, hl, hnx⟩ => ?_⟩
    have z : some (Sl.dic a ks ds) = some (Sl.dic a' ks' ds') := hei.symm.trans hei'
    cases z
    obtain ⟨b', rfl, nb, hb, hl2⟩ := hv2.key hkd
    have st3 := st.trans st2
    have hei3 : (W.next st3).env[i]? = some (.dic a ks ds) := hei
    have ha2 : H2 a = some (DicO a L) := st3.ext a _ ha (lend_un W h0)
    have hx2 : KeysOk G.K W.XB H2 L := hx.ext st3.ext W.huX
    have hds2 : DenL G W.XB H2 ds (L.map (·.2.2)) := hds.ext st3.ext W.huX
    have hv1 : Den G W.XB H2 d v := (W.next st).den st2 hdv
    refine ⟨a, L, b', r, rfl, rfl, ha2, by rw [hK]; exact hx2.s, by rw [hK]; exact hb, by rw [← hk, List.length_map] at hl; exact hl, ?_⟩
    have kp := mut_keep (o1 := DicO a (putL L r b' v)) (W.next st3) hei3 rfl hsi
    have hx3 : KeysOk G.K W.XB (upd H2 a (DicO a (putL L r b' v))) (putL L r b' v) := (putL_ok hx2 ⟨nb, hb, hl2⟩).keep kp fun b hb => .inl hb
    have hd3 : DenL G W.XB (upd H2 a (DicO a (putL L r b' v))) (putDs ks ds r d) ((putL L r b' v).map (·.2.2)) := by
      rw [← hk]
      exact DenL.keep kp (fun b hb => .inl hb) _ _ (putL_vals hds2 hv1)
    have hk3 : (putL L r b' v).map (·.1) = putKs ks r := by rw [← hk]; exact putL_keys L r b' v
    obtain ⟨W', l1, l2, l3⟩ := wd_mut (o1 := DicO a (putL L r b' v)) (s1 := .dic a (putKs ks r) (putDs ks ds r d)) (W.next st3) hei3 rfl hsi rfl ⟨putL L r b' v, rfl, h0, upd_same, hk3, hx3, hd3⟩
    exact k1 σ _ W' (((Later.next st3).trans l1).more (by omega)) (by rw [l2]; exact hnx)
/-- from here on the dict in slot i stays as it is -/
def sFreezeD (i : Nat) (t : DS) : DS := fun ex de env => ∃ a ks ds, env[i]? = some (.dic a ks ds) ∧ t ex de (env.set i (.val (.dcT ks ds)))
theorem ds_freezeD {i : Nat} {sts : List Stmt} {c : Nat} {t : DS} (h : DSs G E X c sts t) : DSs G E X c sts (sFreezeD i t) := impSs h fun Dn σ H h => by
  obtain ⟨W, hn, de, ⟨a0, ks, ds, he, ht⟩, k1, k2, k3, k4⟩ := h
  obtain ⟨W1, a, w1, w2, w3, w4, w5, w6, w7, hsi, h0, nt, x1, x2⟩ := wd_lend (v := .dcT ks ds) W he (.inr (.inr ⟨a0, ks, ds, rfl, rfl⟩))
  have lt : Later W 0 W1 := ⟨w2, w5, w7, w6, w4, by rw [w3]; omega, fun _ _ _ h => h, fun b hb => .inl (x2 b hb).1⟩
  exact ⟨W1, by rw [w3, w4]; exact hn, de, by rw [w1, w6]; exact ht, fun σ' H' W2 l2 q => k1 σ' H' W2 ((lt.trans l2).more (by omega)) q, fun v σ2 H' W2 d l2 hd hr => k2 v σ2 H' W2 d ((lt.trans l2).more (by omega)) (by rw [lt.B] at hd; exact hd) hr, fun σ' H' W2 l2 q => k3 σ' H' W2 ((lt.trans l2).more (by omega)) q, fun σ' H' W2 l2 q => k4 σ' H' W2 ((lt.trans l2).more (by omega)) q⟩
abbrev TSpec := List D → (List (List Int) → List D → Prop) → (Exc → Prop) → Prop
def liftT (G : Gd) (c : Nat) (S : TSpec) : Sp := fun vs H Q E => ∃ (u : Option Ur) (n : Nat) (B : Addr → Prop) (ds : List D) (R : List (List Int) → List D → Prop) (ex : Exc → Prop),
  u = G.u ∧ c ≤ n ∧ (∀ p, Pr u p → B p.1 ∧ B p.2) ∧ (∀ a, B a → H a ≠ none) ∧ Good u H n ∧ DenL G B H ds vs ∧ S ds R ex ∧
  (∀ a H' ks es L, Ext u H H' → Good u H' (n - c) → H a = none → H' a = some (DicO a L) → L.map (·.1) = ks → KeysOk G.K (fun b => B b ∨ b = a) H' L → DenL G (fun b => B b ∨ b = a) H' es (L.map (·.2.2)) → R ks es → Q (.ref a) H') ∧
  (∀ x C d H', Ext u H H' → Good u H' (n - c) → ExcIs G B H' x C d → ex x → E C d H')
/-- the def at f keeps S, returns a new dict -/
structure FnT (G : Gd) (P : Program) (w : World) (mg : Str → Option Value) (base : Heap) (k : Nat) (f : Addr) (fd : FuncData) (ps : List Str) (c : Nat) (S : TSpec) : Prop where
  run : ∀ (A : Around) (outer : List Env) (s : Shared) (H : Hp) (args : Args) (us : List Value) (vs : List V) (Q : VK) (E : XK), Room k A → A.guards = some [] → Env0 P w G.K mg base A outer s H →
    BindsTo s fd args (ps.zip us) → Vals vs us → vs.length = ps.length → liftT G c S vs H Q E → codeAny (model P w) A (.call (.ref f) args) (CR (L2.CX P w) outer P w H s Q E) s
theorem FnT.more {P : Program} {w : World} {mg : Str → Option Value} {base : Heap} {j k : Nat} {f : Addr} {fd : FuncData} {ps : List Str} {c d : Nat} {S : TSpec} (F : FnT G P w mg base j f fd ps c S) (h : j ≤ k) (hc : c ≤ d) : FnT G P w mg base k f fd ps d S :=
  ⟨fun A outer s H args us vs Q E hr hg e0 hb rv hl hs => F.run A outer s H args us vs Q E (hr.mono h) hg e0 hb rv hl (by
    obtain ⟨u, n, B, ds, R, ex, h1, h2, h3, h4, h5, h6, h7, h8, h9⟩ := hs
    exact ⟨u, n, B, ds, R, ex, h1, by omega, h3, h4, h5, h6, h7, fun a H' ks es L e g => h8 a H' ks es L e (g.less (by omega)), fun x C d' H' e g => h9 x C d' H' e (g.less (by omega))⟩)⟩
end
end Kn
set_option Elab.async false
set_option linter.all false
set_option maxRecDepth 100000
set_option maxHeartbeats 2100000
namespace Kn
open PySem PySem.Spec PyProof.Rows L2 RZ
end Kn
set_option Elab.async false
set_option linter.all false
set_option maxRecDepth 100000
set_option maxHeartbeats 2100000
namespace Kn
open PySem PySem.Spec L2 RZ
end Kn
set_option Elab.async false
set_option linter.all false
set_option maxRecDepth 100000
set_option maxHeartbeats 2100000
namespace Kn
open PySem PySem.Spec PyProof.Rows L2 RZ
end Kn
set_option Elab.async false
set_option linter.all false
set_option maxRecDepth 100000
set_option maxHeartbeats 2100000
namespace Kn
open PySem L2 RZ StX
open PyProof.Rows (envOfC)
section
variable {G : Gd} {E : XK} {X : Cx} {σ : List (Option V)} {H H' : Hp} {k : Nat}
/-- fields so far, arguments; what holds of the answer and the fields then; what errors may come -/
abbrev XSpec := List D → List D → (D → List D → Prop) → (Exc → Prop) → Prop
def liftX (G : Gd) (c cid : Nat) (S : XSpec) : Sp := fun vs H Q E => ∃ (u : Option Ur) (n : Nat) (B : Addr → Prop) (fs ds : List D) (R : D → List D → Prop) (ex : Exc → Prop) (x dx : Addr) (vs' xs : List V),
  u = G.u ∧ vs = .ref x :: vs' ∧ H x = some (.ins (G.cl cid) dx ((G.fl cid).zip xs)) ∧ xs.length ≤ (G.fl cid).length ∧ ¬ B x ∧ (∀ p, Pr u p → x ≠ p.1 ∧ x ≠ p.2) ∧ c ≤ n ∧ (∀ p, Pr u p → B p.1 ∧ B p.2) ∧ (∀ a, B a → H a ≠ none) ∧ Good u H n ∧
  DenL G (fun a => B a ∨ a = x) H ds vs' ∧ DenL G (fun a => B a ∨ a = x) H fs xs ∧ S fs ds R ex ∧
  (∀ H' v xs' d fs', (∀ b o, H b = some o → b ≠ x → NU u b → H' b = some o) → Good u H' (n - c) → H' x = some (.ins (G.cl cid) dx ((G.fl cid).zip xs')) → xs'.length ≤ (G.fl cid).length → DenL G (fun a => B a ∨ a = x) H' fs' xs' → Den G (fun a => B a ∨ a = x) H' d v → R d fs' → Q v H') ∧
  (∀ y C d H', (∀ b o, H b = some o → b ≠ x → NU u b → H' b = some o) → Good u H' (n - c) → ExcIs G B H' y C d → ex y → E C d H')
structure MutX (G : Gd) (P : Program) (w : World) (mg : Str → Option Value) (base : Heap) (k : Nat) (f : Addr) (c cid : Nat) (S : XSpec) : Prop where
  run : ∀ (A : Around) (outer : List Env) (s : Shared) (H : Hp) (us : List Value) (vs : List V) (Q : VK) (E : XK), Room k A → A.guards = some [] → Env0 P w G.K mg base A outer s H → Vals vs us →
    liftX G c cid S vs H Q E → codeAny (model P w) A (.call (.ref f) ⟨us, []⟩) (CR (L2.CX P w) outer P w H s Q E) s
theorem MutX.mono {P : Program} {w : World} {mg : Str → Option Value} {base : Heap} {j k : Nat} {f : Addr} {c cid : Nat} {S : XSpec} (F : MutX G P w mg base j f c cid S) (h : j ≤ k) : MutX G P w mg base k f c cid S :=
  ⟨fun A outer s H us vs Q E hr => F.run A outer s H us vs Q E (hr.mono h)⟩
end
end Kn
set_option Elab.async false
set_option linter.all false
set_option maxRecDepth 100000
set_option maxHeartbeats 2100000
namespace Kn
open PySem L2 RZ
open PyProof.Rows (envOfC)
end Kn
set_option Elab.async false
set_option linter.all false
set_option maxRecDepth 100000
set_option maxHeartbeats 2100000
namespace Kn
open PySem L2 RZ
end Kn
set_option Elab.async false
set_option linter.all false
set_option maxRecDepth 100000
set_option maxHeartbeats 2100000
namespace Kn
open PySem PySem.Spec PyProof.Rows L2 RZ
end Kn
set_option Elab.async false
set_option linter.all false
set_option maxRecDepth 100000
set_option maxHeartbeats 2100000
namespace Kn
open PySem L2 RZ
open PyProof.Rows (envOfC)
end Kn
set_option Elab.async false
set_option linter.all false
set_option maxRecDepth 100000
set_option maxHeartbeats 2100000
namespace Kn
open PySem L2 RZ
end Kn
set_option Elab.async false
set_option linter.all false
set_option maxRecDepth 100000
set_option maxHeartbeats 2100000
namespace Kn
open PySem L2 RZ
end Kn
set_option Elab.async false
set_option linter.all false
set_option maxRecDepth 100000
set_option maxHeartbeats 2100000
namespace Kn
open PySem L2 RZ
section
variable {G : Gd} {E : XK} {X : Cx} {σ : List (Option V)} {H H' : Hp} {k : Nat} {tg : Expr}
theorem df_comp {elt iter : Expr} {ifs : List Expr} {scope : Scope} {own : List (Str × Nat)} {pos : Pos} {ci ce ct : Nat} {ti : DA} {t : DG} {tt : DB} {te : DT} {sl : List Nat} {k : Nat} (xk : Xk G E k X) (hN : X.N.Nodup) (hi : DI G E X tg ci iter ti) (ok : BlkOk X.N X.env.scope scope own)
    (hg : ∀ (s : Shared) (H : Hp) (C : Addr) (cl : List (Str × Addr)) (fp : List Addr), DTg G E0 (X.blk s H scope (compEnvC scope cl C X.env) fp) tg sl t) (ht : ∀ (s : Shared) (H : Hp) (C : Addr) (cl : List (Str × Addr)) (fp : List Addr), DTs G (X.blk s H scope (compEnvC scope cl C X.env) fp) ct ifs tt)
    (he : ∀ (s : Shared) (H : Hp) (C : Addr) (cl : List (Str × Addr)) (fp : List Addr), DE G E0 (X.blk s H scope (compEnvC scope cl C X.env) fp) ce elt te) (hsl : ∀ i ∈ sl, i ∈ own.map (·.2)) (hs : ∀ x, foldedSetIterable iter X.env x = pure x := by intro _; rfl) :
    DF G E X (ci + 16777216 * (ct + ce)) (.ListComp elt [⟨tg, iter, ifs, 0⟩] scope pos) (fComp (own.map (·.2)) ti t tt te) :=
  imp (pe_lc xk.calm hN hi ok hg ht he hs) fun _ _ _ h => lift_compF hsl h
def sParFV (i j : Nat) (t : DA) (te : DT) : DS := fun ex de env => t ex env fun ds => te ex env fun d => ∃ n, d = .int n ∧ ∀ a, de.nx ((env.set i (.own a ds)).set j (.val (.int n)))
end
end Kn
set_option Elab.async false
set_option linter.all false
set_option maxRecDepth 100000
set_option maxHeartbeats 2100000
namespace Kn
open PySem PySem.Spec PyProof.Rows L2 RZ
end Kn
set_option Elab.async false
set_option linter.all false
set_option maxRecDepth 100000
set_option maxHeartbeats 2100000
namespace Kn
open PySem L2 RZ
open PyProof.Rows (envOfC)
end Kn
set_option Elab.async false
set_option linter.all false
set_option maxRecDepth 100000
set_option maxHeartbeats 2100000
namespace Kn
open PySem L2 RZ
end Kn
set_option Elab.async false
set_option linter.all false
set_option maxRecDepth 100000
set_option maxHeartbeats 2100000
namespace Pg
open PySem
open PySem.Spec PyProof.Rows L2
theorem law_rowX {l : PySem.W.OpenLaw} {n : Nat} {q : Program} {loose : List Str} {XP : (Str → Option Value) → Heap → Prop} {YP : World → Heap → Prop} {d : DefRec}
    (hn : l.most = some n) (hn2 : n ≤ sizeLine) (hdf : d.params.defaults = [])
    (F : ∀ (w : World) (mg : Str → Option Value) (fa a : Addr) (h : Heap) (s : Shared) (ns : List Int), YP w h → h.Ns mainGlobals mg → mg d.name = some (.ref fa) → ns.length ≤ n →
      ∃ K : PySem.W.Frag, K.In h ∧ ∃ cs : List (Str × Addr × Addr), (∀ x ∈ cs, ((PyProof.Rows.recsOf q).find? (fun e => e.name == x.1)).isSome = true ∧ PySem.W.tabIn K x.1 = some x.2 ∧ K.lookup x.2.2 = none) ∧ Kn.LawOkT l.prog w K mg fa a ns s (cs.map (·.2))) :
    PySem.W.WalkO q loose XP YP l.row.toRowW
      d [] (fun f vs => PySem.call f vs) := by
  refine Att.attach_call hn hdf ?_
  intro w s₀ s₁ mg mb fa o pm cd doc a vs ns Gx Y ho hd hcd hmg hobj hints hlen hg
  obtain ⟨K, KX, cs, hcs, hF⟩ := F w mg fa a _ s₁ ns Y Gx.T.g hmg hlen
  have tabs : ∀ p ∈ cs.map (·.2), PySem.W.CodeHd s₁.heap p.1 p.2 ∧ s₁.heap.get? p.2 = some (PySem.W.tabObj #[]) ∧ K.lookup p.2 = none := fun p hp => by
    obtain ⟨x, hx, rfl⟩ := List.mem_map.mp hp
    obtain ⟨h1, h2, h3⟩ := hcs x hx
    obtain ⟨dr, h1⟩ := Option.isSome_iff_exists.mp h1
    obtain ⟨t1, t2⟩ := PySem.W.tab_of Gx.T KX h1 h2
    exact ⟨t1, t2, h3⟩
  exact Kn.law_topT KX Gx.T.g Gx.T.b Gx.T.builtins Gx.T.nolimit hg Gx.T.bmain hobj hints (Nat.le_trans hlen hn2) (fun p hp => (tabs p hp).2.1) (fun p hp => (tabs p hp).2.2) (fun p hp => (tabs p hp).1) hF
end Pg
set_option Elab.async false
set_option linter.all false
set_option maxRecDepth 100000
set_option maxHeartbeats 2100000
namespace Kn
open PySem L2 RZ
end Kn
set_option Elab.async false
set_option linter.all false
set_option maxRecDepth 100000
set_option maxHeartbeats 2100000
namespace Kn
open PySem L2 RZ
end Kn
set_option Elab.async false
set_option linter.all false
set_option maxRecDepth 100000
set_option maxHeartbeats 2100000
namespace Kn
open PySem L2 RZ
/-- one value a key -/
def AllK (R : Str → D → Prop) : List Str → List D → Prop
  | [], ps => ps = []
  | k :: ks, ps => ∃ p r, ps = p :: r ∧ R k p ∧ AllK R ks r
theorem AllK.length {R : Str → D → Prop} : ∀ {ks : List Str} {ps : List D}, AllK R ks ps → ps.length = ks.length
  | [], _, h => by cases h; rfl
  | _ :: _, _, ⟨_, _, e, _, h⟩ => by subst e; simp [AllK.length h]
end Kn
set_option Elab.async false
set_option linter.all false
set_option maxRecDepth 100000
set_option maxHeartbeats 2100000
namespace Kn
open PySem L2 RZ
end Kn
set_option Elab.async false
set_option linter.all false
set_option maxRecDepth 100000
set_option maxHeartbeats 2100000
namespace Pg
open PySem
open PySem.Spec PyProof.Rows L2
end Pg
set_option Elab.async false
set_option linter.all false
set_option maxRecDepth 100000
set_option maxHeartbeats 2100000
namespace Kn
open PySem L2 RZ
end Kn
set_option Elab.async false
set_option linter.all false
set_option maxRecDepth 100000
set_option maxHeartbeats 2100000
namespace Kn
open PySem L2 RZ
end Kn
set_option Elab.async false
set_option linter.all false
set_option maxRecDepth 100000
set_option maxHeartbeats 2100000
namespace Kn
open PySem L2 RZ
end Kn
set_option Elab.async false
set_option linter.all false
set_option maxRecDepth 100000
set_option maxHeartbeats 2100000
namespace Kn
open PySem L2 RZ
end Kn
set_option Elab.async false
set_option linter.all false
set_option maxRecDepth 100000
set_option maxHeartbeats 2100000
namespace Kn
open PySem PySem.Spec L2 RZ
open PyProof.Rows
/-- behind a suite the clause's name is gone, the exception is forgotten -/
def outEnds (i : Nat) (D : Ends) : Ends where
  nx := fun σ H => D.nx (σ.set i none) H
  rt := fun v H => D.rt v H
  bk := fun σ H => D.bk (σ.set i none) H
  ct := fun σ H => D.ct (σ.set i none) H
theorem inv_drop {X : Cx} {pins : List (Addr × Obj)} {σ : List (Option V)} {H : Hp} {s : Shared} {q : Addr × Obj} (J : Inv X (q :: pins) σ H s) : Inv X pins σ H s :=
  { J with pin := fun p hp => J.pin p (by
      rcases List.mem_append.mp
            hp with z | z
      · exact List.mem_append_left _ z
      · exact List.mem_append_right _ (List.mem_cons_of_mem _ z)) }
/-- what the clauses wish of an exception of the body: the first takes it, or the second -/
def wKeep2 (K : PySem.W.Frag) (c1 : Value) (i1 : Nat) (t1 : Addr → Value → Option Addr → TS) (c2 : Value) (i2 : Nat) (t2 : Addr → Value → Option Addr → TS) (D : Ends) : WX := fun cls d σ H =>
  ∃ b, PySem.W.exmOne K cls c1 = some b ∧ (b = true → ∀ a, H a = none → t1 a cls d (outEnds i1 D) (σ.set i1 (some (.ref a))) H) ∧ (b = false → PySem.W.exmOne K cls c2 = some true ∧ ∀ a, H a = none → t2 a cls d (outEnds i2 D) (σ.set i2 (some (.ref a))) H)
section
variable {X : Cx} {body : List Stmt} {pos : Pos} {tb : WX → TS} {Wout : WX}
theorem ps_try_two {x1 n1 x2 n2 : Str} {c1 c2 : Value} {i1 i2 : Nat} {su1 su2 : List Stmt} {b1 b2 : Stmt} {np1 pos1 np2 pos2 : Pos} {t1 t2 : Addr → Value → Option Addr → TS} {more : List ExceptHandler} (hs : X.stack = X.env :: X.outer) (hf : X.env.frame = some X.env.locals) (hN : X.N.Nodup) (hi1 : X.N[i1]? = some n1) (hln1 : X.env.kindOf n1 = some .local) (hc1 : Names X x1 c1) (hi2 : X.N[i2]? = some n2) (hln2 : X.env.kindOf n2 = some .local) (hc2 : Names X x2 c2) (hx : X.ex = [])
    (hb : ∀ (W : WX) (pn : List (Addr × Obj)) (xe : Value → Shared → Prop), Takes (X.tr
          pn xe) W → PassesOwn (model X.prog X.w) X.A X.env xe → PSs (X.tr pn xe) body (tb W))
    (hsu1 : ∀ (a : Addr) (oe : Obj) (cls : Value) (d : Option Addr) (pn : List (Addr × Obj)), Zc cls d oe → (∃ vs, oe.data = .fields vs) → PSs (X.suite a ((a, oe) :: pn)) (b1 :: su1) (t1 a cls d))
    (hsu2 : ∀ (a : Addr) (oe : Obj) (cls : Value) (d : Option Addr) (pn : List (Addr × Obj)), Zc cls d oe → (∃ vs, oe.data = .fields vs) → PSs (X.suite a ((a, oe) :: pn)) (b2 :: su2) (t2 a cls d)) :
    PS X (.Try body (.ExceptHandler (some (.Name x1 np1)) (some n1) (b1 :: su1) pos1 :: .ExceptHandler (some (.Name x2 np2)) (some n2) (b2 :: su2) pos2 :: more) [] [] pos) (fun D σ H => tb (wKeep2 X.K c1 i1 t1 c2 i2 t2 D) D σ H) := by
  constructor
  intro pins s σ H D I h
  have ok := I.ok
  have frames : X.A.frames = some (X.env :: X.outer) := by rw [ok.frames, hs]
  let hds : List ExceptHandler := .ExceptHandler (some (.Name x1 np1)) (some n1) (b1 :: su1) pos1 :: .ExceptHandler (some (.Name x2 np2)) (some n2) (b2 :: su2) pos2 :: more
  let catch_ : Value → Shared → Prop := fun e s₁ => wpAny (model X.prog X.w) X.A (noteFrame e X.env) (fun _ s₂ => wpAny (model X.prog X.w) X.A (setFlight e none) (fun _ s₃ => wpAny (model X.prog X.w) X.A (handleBy e X.env hds) (SP X pins D) X.xe s₃) X.xe s₂) X.xe s₁
  have caught : ∀ u s', XE (X.tr (X.pn ++ pins) catch_) (wKeep2 X.K c1 i1 t1 c2 i2 t2 D) u s' → catch_ u s' := by
    rintro u s' ⟨a, B, sI, pins', σ', H', cls, d, rfl, J0, nb, up, sky, na, os, ag, b, hb1, hyes, hno⟩
    have J : Inv X pins σ' H' sI := J0.ofTry ok
    rw [show (X.tr (X.pn ++ pins) catch_).stack = X.env :: X.outer from hs] at sky
    refine Sky.land Zc.steady frames hf sky fun h3 fl up3 => ?_
    have J3 : Inv X pins σ' H' { s' with heap := h3 } := J.landed nb fl.1 (up.trans up3) os ag
    have Ba : B.get? a = none := fl.2.1
    have off : a ∉ frs (X.env :: X.outer) := fun hm => by
      obtain ⟨o1, v1, e1, _, d1⟩ := fl.there
      obtain ⟨_, o2, e2, nf⟩ := fl.2.2.1.mem hm
      rw [e1] at e2
      cases e2
      exact nf _ d1
    have nL : a ≠ X.env.locals := fun z => off (List.mem_filterMap.mpr ⟨X.env, List.mem_cons_self, by rw [hf, z]⟩)
    have nF : a ∉ X.fs
          := fun hm => by
      obtain ⟨e, he, q⟩ := List.mem_filterMap.mp hm; exact off (List.mem_filterMap.mpr ⟨e, List.mem_cons_of_mem _ he, q⟩)
    have inB : ∀ b o, sI.heap.get? b = some o → b ≠ a := fun b o e z => by
      have q := nb b o e (by rw [show (X.tr (X.pn ++ pins) catch_).stack = X.env :: X.outer from hs, z]; exact off)
      rw [z, Ba] at q; cases q
    have n0 : X.s_0.heap.get?
          a = none := by
      cases q : X.s_0.heap.get? a with
      | none => rfl
      | some o =>
        obtain ⟨o', q'⟩ := J.base.there a o q (by rw [hx]; exact fun z => nomatch z)
        exact (inB a o' q' rfl).elim
    have npin : ∀ p ∈ X.pn ++ pins, p.1 ≠ a := fun p hp => inB p.1 p.2 (J.pin p hp).1
    obtain ⟨o3, v3, e3, z3, d3⟩ := fl.there
    have S3 := J3.suite e3 d3 na nL nF
    have clause : ∀ {x n : Str} {c : Value} {i : Nat} {b₀ : Stmt} {suite : List Stmt} {np pos' : Pos} {ts : Addr → Value → Option Addr → TS} {more : List ExceptHandler} (hi : X.N[i]? = some n) (hln : X.env.kindOf n = some .local) (hc : Names X x c)
        (hsu : ∀ (a : Addr) (oe : Obj) (cls : Value) (d : Option Addr) (pn : List (Addr × Obj)), Zc cls d oe → (∃ vs, oe.data = .fields vs) → PSs (X.suite a ((a, oe) :: pn)) (b₀ :: suite) (ts a cls d)) {b : Bool} (hb1 : PySem.W.exmOne X.K cls c = some b)
        (hyes : b = true → ∀ a, H' a = none → ts a cls d (outEnds i D) (σ'.set i (some (.ref a))) H') (hno : b = false → wpAny (model X.prog X.w) X.A (handleBy (.ref a) X.env more) (SP X pins D) X.xe { s' with heap := h3 }),
        wpAny (model X.prog X.w) X.A (handleBy (.ref a) X.env (.ExceptHandler (some (.Name x np)) (some n) (b₀ :: suite) pos' :: more)) (SP X pins D) X.xe { s' with heap := h3 } := by
      intro x n c i b₀ suite np pos' ts more hi hln hc hsu b hb1 hyes hno
      refine wpAny_handleBy_cons (codeAny_handlers_test ?_) (fun q => by cases q)
      have ty : PySem.W.Looks (model X.prog X.w) h3 (typeOf (.ref a)) cls := fun A Q E s k q => wpAny_typeOf_ref (k _ _ e3) (by rw [z3.1]; exact q)
      have fits := PySem.W.exm_one (M := model X.prog X.w) J3.kIn ty hb1
      have name : ∀ {Q : Value → Shared → Prop} {E : Value → Shared → Prop}, Q c { s' with heap := h3 } → wpAny (model X.prog X.w) (X.A.mark (some (.ref a))) (eval (.Name x np) X.env) Q E { s' with heap := h3 } := fun {Q E} q => by
        rcases hc with ⟨hg, hdb, hm | ⟨hm, hv, hnn⟩⟩
        · exact ld_glob S3 hg hm q hdb
        · exact ld_blt S3 hg hm hv q hnn hdb
      refine name (fits.here ?_)
      cases b with
      | true =>
        refine codeAny_handlers_suite_as (HandSPX.lands_againZ fl fun h4 fl4 up4 => ?_)
        have J4 : Inv X pins σ' H' { s' with heap := h4 } := J.landed nb fl4.1 ((up.trans up3).trans up4) os ag; obtain ⟨o4, v4, e4, z4, d4⟩ := fl4.there
        have S4 := J4.suite e4 d4 na nL nF
        refine store_ok (X := X.suite a ((a, o4) :: (X.pn ++ pins))) (v := .ref a) S4 hN hi (.inl hln) rfl (fun s5 S5 => ?_) (.inr hln)
        have inner := (hsu a o4 cls d (X.pn ++ pins) z4 ⟨_, d4⟩).run [] s5 _ H' _ S5 (hyes rfl a na)
        have leave : ∀ {σ6 : L2.St} {H6 : Hp} {s6 : Shared} {Q : Shared → Prop}, Inv (X.suite a ((a, o4) :: (X.pn ++ pins))) [] σ6 H6 s6 → (∀ s7, Inv X pins (σ6.set i none) H6 s7 → Q s7) →
            wpAny (model X.prog X.w) X.A (do bindName X.env n .none; unbindBehindTheSuite X.env n pos') (fun _ s7 => Q s7) X.xe s6 := fun {σ6 H6 s6 Q} S6 hq =>
          gone_ok (inv_held S6 ok) hN hi hln fun s7 J7 => hq s7 (inv_drop J7)
        refine wpAny_mono inner (fun f s6 hsp => ?_) (fun _ _ z => z.elim)
        cases f with
        | next => obtain ⟨σ6, H6, S6, q6⟩ := hsp; exact leave S6 fun s7 J7 => ⟨_, _, J7, q6⟩
        | brk => obtain ⟨σ6, H6, S6, q6⟩ := hsp; exact leave S6 fun s7 J7 => ⟨_, _, J7, q6⟩
        | cont => obtain ⟨σ6, H6, S6, q6⟩ := hsp; exact leave S6 fun s7 J7 => ⟨_, _, J7, q6⟩
        | ret u => obtain ⟨w6, σ6, H6, S6, r6, q6⟩ := hsp; exact leave S6 fun s7 J7 => ⟨w6, _, _, J7, r6, q6⟩
      | false => exact hno rfl
    exact clause hi1 hln1 hc1 hsu1 hb1 hyes fun z => clause hi2 hln2 hc2 hsu2 (hno z).1 (fun _ => (hno z).2) (fun y => by cases y)
  have hx2 := (hb (wKeep2 X.K c1 i1 t1 c2 i2 t2 D) (X.pn ++ pins) catch_ caught PassesOwn.looking).run [] s σ H D (I.toTry _) h
  refine wpAny_Try_except (wpAny_mono hx2 (fun f s1 hsp => ?_) (fun e s1 he => he))
  cases f with
  | next => obtain ⟨σ', H', J, q⟩ := hsp; exact wpAny_execs_nil ⟨σ', H', J.ofTry ok, q⟩
  | brk => obtain ⟨σ', H', J, q⟩ := hsp; exact ⟨σ', H', J.ofTry ok, q⟩
  | cont => obtain ⟨σ', H', J, q⟩ := hsp; exact ⟨σ', H', J.ofTry ok, q⟩
  | ret u => obtain ⟨v, σ', H', J, r, q⟩ := hsp; exact ⟨v, σ', H', J.ofTry ok, r, q⟩
end
end Kn
set_option Elab.async false
set_option linter.all false
set_option maxRecDepth 100000
set_option maxHeartbeats 2100000
namespace Kn
open PySem PySem.Spec L2 RZ LamX
open PyProof.Rows (envOfC)
section
variable {X : Cx}
/-- n.f, n the caught error within its suite -/
theorem pe_xpin {a : Addr} {oe : Obj} {pn : List (Addr × Obj)} {C dd : Addr} {j : Nat} {n f : Str} {p pos : Pos} (hN : X.N[j]? = some n) (hv : Vis X.env.scope n) (T : XfF X.K C f) (z : Zc (.ref C) (some dd) oe) (hvs : ∃ vs, oe.data = .fields vs) (hd : (n == ("__debug__" : Str)) = false := by decide) (hcd : (n == ("__classdict__" : Str)) = false := by decide)
    (hb : attributeBase (.Name n p) f X.env (eval (.Name n p) X.env) = eval (.Name n p) X.env := by rfl) : PE (X.suite a ((a, oe) :: pn)) (.Attribute (.Name n p) f pos) (fun σ H Q => σ[j]? = some (some (.ref a)) ∧ ∃ fs y, H dd = some (.xd fs) ∧ fs.lookup f = some y ∧ Q y H) := by
  constructor
  intro pins s σ H Q' I ⟨hs, fs, y, hdd, hy, q⟩
  refine attr_of hb (thn ((pe_var (X := X.suite a ((a, oe) :: pn)) (pos := p) (i := j) hN hv hd hcd).run pins s σ H (fun v H1 => v = .ref a ∧ H1 = H) I ⟨.ref a, hs, rfl, rfl⟩) fun u s1 hh => ?_)
  obtain ⟨v, H1, I1, rv, rfl, rfl⟩ := hh
  obtain rfl : u = Value.ref a := rv
  obtain ⟨vs, e3⟩ := hvs
  have e1 : s1.heap.get? a = some oe := (I1.pin (a, oe) (List.mem_append_left _ List.mem_cons_self)).1
  obtain ⟨mA, hns, hr⟩ := (show ObjOk X.prog X.w _ s1.heap dd (.xd _) from I1.hok dd _ hdd)
  obtain ⟨od, ho, hlk⟩ := lookIn_ns hns
  have J : PySem.W.InstAt s1.heap a oe C (some od) := ⟨e1, z.1, by unfold PySem.W.notCls; rw [e3] <;> rfl, by rw [z.2]; exact ho⟩
  obtain ⟨w', hw, rw'⟩ := RelO.some_of (v := y) (o := mA f) (by rw [← hy]; exact hr f)
  exact PySem.HandSPX.exc_get I1.kIn J T.x.ga T.x.gg T.x.sb (PySem.W.findObj_own T.hd T.no rfl (by rw [hlk, hw])) (handed_of rw') ⟨y, _, I1.tok _, rw', q⟩
/-- return (word, n.f) within the suite -/
def tWF (j : Nat) (C : Addr) (wd f : Str) : Addr → Value → Option Addr → TS := fun a cls d D σ H => cls = .ref C ∧ σ[j]? = some (some (.ref a)) ∧ ∃ dd fs y, d = some dd ∧ H dd = some (.xd fs) ∧ fs.lookup f = some y ∧ ∀ p, H p = none → D.rt (.ref p) (upd H p (.tup [.str wd, y]))
theorem ps_wf {a : Addr} {oe : Obj} {cls : Value} {d : Option Addr} {pn : List (Addr × Obj)} {C : Addr} {j jj kk : Nat} {n wd f : Str} {p1 p2 p3 p4 p5 : Pos} (hN : X.N[j]? = some n) (hv : Vis X.env.scope n) (T : XfF X.K C f) (z : Zc cls d oe) (hvs : ∃ vs, oe.data = .fields vs) (hd : (n == ("__debug__" : Str)) = false := by decide) (hcd : (n == ("__classdict__" : Str)) = false := by decide)
    (hb : attributeBase (.Name n p2) f X.env (eval (.Name n p2) X.env) = eval (.Name n p2) X.env := by rfl) : PS (X.suite a ((a, oe) :: pn)) (.Return (some (.Tuple [.Constant (.str wd) jj p1, .Attribute (.Name n p2) f p3] kk p4)) p5) (tWF j C wd f a cls d) := by
  constructor
  intro pins s σ H D I h
  obtain ⟨rfl, hs, dd, fs, y, rfl, hdd, hy, hq⟩ := h
  have at1 := pe_xpin (a := a) (pos := p3) (pn := pn) hN hv T z hvs hd hcd hb
  exact (ps_ret (pos := p5) (pe_tup (x1 := kk) (pos := p4) (pa_cons (pe_str (x := wd) (j := jj) (pos := p1)) (pa_cons at1 pa_nil)))).run pins s σ H D I ⟨hs, fs, y, hdd, hy, by simp [sizeLine_eq], hq⟩
end
section
variable {G : Gd} {P : Program} {w : World} {mg : Str → Option Value} {base : Heap}
theorem fnl_two {k : Nat} {g : Addr} {x a : Str} {st : Stmt} {fd : FuncData} {N : List Str} {c : Nat} {S : LSpec} {ts : DS} {j1 j2 c1 c2 jj1 jj2 kk1 kk2 : Nat} {C1 C2 e1 e2 w1 w2 f1 f2 : Str} {CV1 CV2 : Value} {rest : List Stmt} {more : List ExceptHandler} {p1 p2 p3 p4 p4' p5 np1 np2 q1 q2 q3 q4 q5 r1 r2 r3 r4 r5 : Pos} (F : Fun G.K x x st g fd) (Sc : FnScope N [a] (defScope st))
    (hb : defBody st = .Try [.Expr (.Call (.Name a p1) [] [] p2) p3] (.ExceptHandler (some (.Name C1 np1)) (some e1) [.Return (some (.Tuple [.Constant (.str w1) jj1 q1, .Attribute (.Name e1 q2) f1 q3] kk1 q4)) q5] p4 :: .ExceptHandler (some (.Name C2 np2)) (some e2) [.Return (some (.Tuple [.Constant (.str w2) jj2 r1, .Attribute (.Name e2 r2) f2 r3] kk2 r4)) r5] p4' :: more) [] [] p5 :: rest)
    (hN : N[0]? = some a) (hvis : Vis (defScope st) a) (hj1 : N[j1]? = some e1) (hl1 : (defScope st).names.lookup e1 = some .local) (hj2 : N[j2]? = some e2) (hl2 : (defScope st).names.lookup e2 = some .local) (h01 : 0 < j1) (h02 : 0 < j2)
    (hc1 : (defScope st).names.lookup C1 = some .globalImplicit) (hm1 : mg C1 = some CV1) (hc2 : (defScope st).names.lookup C2 = some .globalImplicit) (hm2 : mg C2 = some CV2) (hd1 : (C1 == ("__debug__" : Str)) = false) (hd2 : (C2 == ("__debug__" : Str)) = false)
    (he1 : (e1 == ("__debug__" : Str)) = false ∧ (e1 == ("__classdict__" : Str)) = false) (he2 : (e2 == ("__debug__" : Str)) = false ∧ (e2 == ("__classdict__" : Str)) = false)
    (T1 : XfF G.K (G.cl c1) f1) (T2 : XfF G.K (G.cl c2) f2) (fit11 : PySem.W.exmOne G.K (.ref (G.cl c1)) CV1 = some true) (fit21 : PySem.W.exmOne G.K (.ref (G.cl c2)) CV1 = some false) (fit22 : PySem.W.exmOne G.K (.ref (G.cl c2)) CV2 = some true)
    (hder : ∀ (cdv : Value) (A : Around) (outer : List Env) (s : Shared) (H : Hp), Room k (A.deeper (envOfC x (defScope st) s.heap.objs.size g cdv)) → A.guards = some [] → DSs G E1 (cxOf (L2.CX P w) P w G.K mg base N x (defScope st) g cdv A outer s H E1) 0 rest ts)
    (hS : ∀ (f : Addr) T R, S T R → T (fun _ => ts noX { nx := fun _ => R .non, rt := fun d _ => R d } (env0 N [.opq (.ref f)]))
      (fun e => (e.c = c1 ∧ f1 ∈ G.fl c1 ∧ ∃ x, e.ds[(G.fl c1).idxOf f1]? = some x ∧ R (.tup [.str w1, x])) ∨ (e.c = c2 ∧ f2 ∈ G.fl c2 ∧ ∃ x, e.ds[(G.fl c2).idxOf f2]? = some x ∧ R (.tup [.str w2, x])))) : FnL G P w mg base (k + 1) g fd N x (defScope st) a c S := by
  refine ⟨hN, hvis, ?_⟩
  intro A outer s H f c' q tl Q hr hgd e0 hbind act hco hl
  obtain ⟨n, B, T, R, hcn, hu, hB, hg, th, hST, hQ⟩ := hl
  obtain ⟨oc, od, kV, doc, pm, an, cdv, ct, osl, rfl, lk, hcd2⟩ := F.ex
  refine run_ofS (N := N) (ps := [a]) (us := [.ref f]) (vs := [.ref f]) lk hcd2 Sc hr e0 hbind (.cons rfl .nil) rfl fun hr' => ?_
  rw [hb]
  have X0ok := act cdv
  have tr := ps_try_two (X := cxOf (L2.CX P w) P w G.K mg base N x (defScope st) g cdv A outer s H E1) (x1 := C1) (n1 := e1) (c1 := CV1) (i1 := j1) (np1 := np1) (pos1 := p4) (x2 := C2) (n2 := e2) (c2 := CV2) (i2 := j2) (np2 := np2) (pos2 := p4') (more := more) (pos := p5)
    (tb := fun W => tDrop (tAct 0 f c' q W tl)) (t1 := tWF j1 (G.cl c1) w1 f1) (t2 := tWF j2 (G.cl c2) w2 f2) rfl rfl Sc.nd hj1 hl1 ⟨hc1, hd1, .inl hm1⟩ hj2 hl2 ⟨hc2, hd2, .inl hm2⟩ rfl
    (fun W pn xe tk' _ => pss_one (ps_expr (pos := p3) (X0ok W pn xe p1 p2 tk')))
    (fun ea oe cls d pn z hvs => pss_one (ps_wf (jj := jj1) (kk := kk1) (p1 := q1) (p2 := q2) (p3 := q3) (p4 := q4) (p5 := q5) hj1 (.inl hl1) T1 z hvs he1.1 he1.2)) (fun ea oe cls d pn z hvs => pss_one (ps_wf (jj := jj2) (kk := kk2) (p1 := r1) (p2 := r2) (p3 := r3) (p4 := r4) (p5 := r5) hj2 (.inl hl2) T2 z hvs he2.1 he2.2))
  refine ⟨_, pss_cons tr (hder cdv A outer s H hr' hgd), ?_⟩
  have st0 : (L2.start N [V.ref f])[0]? = some (some (.ref f)) := start_get (i := 0) rfl
  have hlenN : 1 ≤ N.length := by
    have := (List.getElem?_eq_some_iff.mp hN).1; omega
  have hjl1 : j1 < N.length := (List.getElem?_eq_some_iff.mp hj1).1
  have hjl2 : j2 < N.length := (List.getElem?_eq_some_iff.mp hj2).1
  have slen : (L2.start N [V.ref f]).length = N.length := by
    unfold L2.start; simp only [List.length_append, List.length_map, List.length_replicate, List.length_cons, List.length_nil]; omega
  have hd0 : DenL G B H [.opq (.ref f)] [V.ref f] := ⟨_, _, rfl, rfl, rfl⟩
  obtain ⟨W0, w1', w2', w3, w4, w5, w6, w7⟩ := wd_start (E := E1) (N := N) (u := G.u) (n := n) (c := c) (ex := noX) (by simpa using hlenN) rfl hcn hu hB hg hd0 (fun _ _ _ _ _ _ _ z => z.elim)
  let Dn : Ends := { nx := fun _ H' => Q .non H', rt := Q }
  let de : DEnds := { nx := fun _ => R .non, rt := fun d _ => R d }
  have fin : ∀ {τ : List (Option V)} {HZ : Hp} (W : Wd G E1 τ HZ), W.u = G.u → W.B = B → W.H0 = H → n - c ≤ W.n → W.m ≤ W.n → ts W.ex de W.env → liftS G E1 0 ts Dn τ HZ := by
    intro τ HZ W u1 u2 u3 u4 u5 ht
    refine ⟨W, u5, de, ht, ?_, ?_, fun _ _ _ _ z => z.elim, fun _ _ _ _ z => z.elim⟩
    · intro σ' H' W' lt hr'
      exact hQ .non H' .non (by have z := W'.fr; rw [lt.u, lt.H0, u1, u3] at z; exact z) (by have z := W'.good; rw [lt.u, u1] at z; exact z.less (by have := lt.n; omega)) rfl hr'
    · intro v σ' H' W' d lt hd' hr'
      rw [u2] at hd'
      exact hQ v H' d (by have z := W'.fr; rw [lt.u, lt.H0, u1, u3] at z; exact z) (by have z := W'.good; rw [lt.u, u1] at z; exact z.less (by have := lt.n; omega)) hd' hr'
  -- a word and a part are handed back
  have back : ∀ {j c0 : Nat} {wd fl : Str} {e : Exc} {H' : Hp} {dd : Addr} {xs : List V} {y : D}, j < N.length → Ext G.u H H' → Good G.u H' (n - c) → ¬ B dd → H' dd = some (.xd ((G.fl e.c).zip xs)) → DenL G B H' e.ds xs → e.c = c0 → fl ∈ G.fl c0 → e.ds[(G.fl c0).idxOf fl]? = some y → R (.tup [.str wd, y]) →
      ∀ a', H' a' = none → tWF j (G.cl c0) wd fl a' (.ref (G.cl e.c)) (some dd) (outEnds j { Dn with nx := liftS G E1 0 ts Dn }) ((L2.start N [V.ref f]).set j (some (.ref a'))) H' := by
    intro j c0 wd fl e H' dd xs y hjl he hg' nd hdd hds ec hf hy hR a' ha'
    subst ec
    obtain ⟨v, hv, hdv⟩ := hds.get hy
    refine ⟨rfl, by rw [List.getElem?_set_self]; rw [slen]; exact hjl, dd, _, v, rfl, hdd, zip_lookup hv hf, fun p hp => ?_⟩
    let W2 := W0.next (c := c) (H' := H') ⟨by show Ext W0.u H H'; rw [w1']; exact he, by show Good W0.u H' (W0.n - c); rw [w1', w2']; exact hg'⟩
    have np : ¬ B p := fun z => W2.fresh hp (.inl (by show W0.B p; rw [w4]; exact z))
    refine hQ (.ref p) (upd H' p (.tup [.str wd, v])) (.tup [.str wd, y]) (he.trans (Ext.new hp).weak) (hg'.ext (Ext.new hp)) ?_ hR
    exact ⟨p, _, rfl, .inl np, .inl (.inl upd_same), by simp [sizeLine_eq], _, _, rfl, den_str _, _, _, rfl, hdv.ext (u := none) (Ext.new hp) (fun _ z => z.none.elim), rfl⟩
  show tDrop (tAct 0 f c' q (wKeep2 G.K CV1 j1 (tWF j1 (G.cl c1) w1 f1) CV2 j2 (tWF j2 (G.cl c2) w2 f2) { Dn with nx := liftS G E1 0 ts Dn }) tl) { Dn with nx := liftS G E1 0 ts Dn } (L2.start N [V.ref f]) H
  refine ⟨st0, hco, fun cls d H' => wKeep2 G.K CV1 j1 (tWF j1 (G.cl c1) w1 f1) CV2 j2 (tWF j2 (G.cl c2) w2 f2) { Dn with nx := liftS G E1 0 ts Dn } cls d (L2.start N [V.ref f]) H', fun _ _ _ z => z, ?_⟩
  refine th _ H B n _ _ _ (Ext.refl _ _) hg hcn hu (fun b z => .inl z) hB (hS f T R hST) ?_ ?_
  · intro v H' d he hg' hd' ht
    let W2 := W0.next (c := c) (H' := H') ⟨by show Ext W0.u H H'; rw [w1']; exact he, by show Good W0.u H' (W0.n - c); rw [w1', w2']; exact hg'⟩
    refine fin W2 (by show W0.u = _; exact w1') (by show W0.B = _; exact w4) (by show W0.H0 = _; exact w5) (by show n - c ≤ W0.n - c; omega) (by show W0.m ≤ W0.n - c; omega) ?_
    show ts W0.ex de W0.env
    rw [w6, w7]
    exact ht
  · rintro e C d H' he hg' ⟨rfl, dd, xs, rfl, nd, e3, e4, e5⟩ (⟨ec, hf, y, hy, hR⟩ | ⟨ec, hf, y, hy, hR⟩)
    · exact ⟨true, by rw [ec]; exact fit11, fun _ => back hjl1 he hg' nd e3 e5 ec hf hy hR, fun z => by cases z⟩
    · exact ⟨false, by rw [ec]; exact fit21, fun z => (by cases z), fun _ => ⟨by rw [ec]; exact fit22, back hjl2 he hg' nd e3 e5 ec hf hy hR⟩⟩
end
end Kn
set_option Elab.async false
set_option linter.all false
set_option maxRecDepth 100000
set_option maxHeartbeats 4100000
namespace Pg
open PySem L2 RZ Kn
def topS (i : Nat) : Stmt := PySem.Challenge.pw_kindtells_k51_leads_closed_one_behind_an.main.body.getD i (.Pass ⟨0, 0, 0, 0⟩)
structure Bn (mg : Str → Option Value) : Prop where
  len : mg "len" = none
  all : mg "all" = none
  any : mg "any" = none
  isinstance : mg "isinstance" = none
  int : mg "int" = none
  bool : mg "bool" = none
  list : mg "list" = none
  tuple : mg "tuple" = none
  str : mg "str" = none
  range : mg "range" = none
  zip : mg "zip" = none
  sorted : mg "sorted" = none
  type : mg "type" = none
  max : mg "max" = none
  min : mg "min" = none
  abs : mg "abs" = none
  repr : mg "repr" = none
  set : mg "set" = none
  enumerate : mg "enumerate" = none
  dict : mg "dict" = none
  sum : mg "sum" = none
section
variable {G : Gd} {P : Program} {w : World} {mg : Str → Option Value} {base : Heap} {f : Addr} {fd : FuncData}
def sIsInt : FSpec := fun ds R _ => ∃ d, ds = [d] ∧ (kindS d).isSome = true ∧ R (.bl (D.isI d))
abbrev s_is_integer : Stmt := topS 10
theorem sc_is_integer : FnScope ["value"] ["value"] (defScope s_is_integer) := ⟨rfl, rfl, rfl, by decide +kernel, rfl, by decide +kernel, by decide +kernel⟩
theorem ok_is_integer (F : Fun G.K "is_integer" "is_integer" s_is_integer f fd) (bn : Bn mg)  : FnD G P w mg base 1 f fd ["value"] 0 sIsInt := by
  refine FnD.more (fnd_of F sc_is_integer (fun cdv A outer s H E hr hg => have xk := xk_def (E := E) hr hg; (ds_one (ds_ret (de_and (de_bi (c_isi xk.K) bn.isinstance (da_cons (dv 0) (da_cons (de_tyn (n := "int") bn.int) da_nil))) (de_one (de_not (de_bi (c_isi xk.K) bn.isinstance (da_cons (dv 0) (da_cons (de_tyn (n := "bool") bn.bool) da_nil))))))))) ?_) (by decide)
  rintro ds R ex hl ⟨d, rfl, hk, hr⟩
  refine ⟨d, rfl, _, _, rfl, isB_int hk, ?_⟩
  cases d <;> first | cases hk | skip
  all_goals first
    | exact ⟨_, rfl, hr⟩
    | exact ⟨_, rfl, _, rfl, _, _, rfl, isB_bool rfl, _, rfl, hr⟩
def sNumbers : FSpec := fun ds R _ => ∃ d, ds = [d] ∧ (kindS d).isSome = true ∧ (∀ xs, d.items? = some xs → ∀ x ∈ xs, (kindS x).isSome = true) ∧ R (.bl (match d.items? with | some xs => xs.all D.isI | none => false))
abbrev s_are_numbers : Stmt := topS 12
theorem sc_are_numbers : FnScope ["value", "number"] ["value"] (defScope s_are_numbers) := ⟨rfl, rfl, rfl, by decide +kernel, rfl, by decide +kernel, by decide +kernel⟩
theorem ok_are_numbers (F : Fun G.K "are_numbers" "are_numbers" s_are_numbers f fd) (bn : Bn mg) (F_is_integer : Fk G P w mg base 1 "is_integer" ["value"] 0 sIsInt) : FnD G P w mg base 2 f fd ["value"] 0 sNumbers := by
  refine FnD.more (fnd_of F sc_are_numbers (fun cdv A outer s H E hr hg => have xk := xk_def (E := E) hr hg; (ds_one (ds_ret (de_and (de_isiT (Ts := ["list", "tuple"]) xk.K bn.isinstance (dv 0) (pa_cons (ps_tyn (n := "list") bn.list) (pa_cons (ps_tyn (n := "tuple") bn.tuple) pa_nil)) (by simp) (by decide)) (de_one (de_bi (c_all xk.calm) bn.all (da_cons (de_comp (own := [("number", 1)]) xk sc_are_numbers.nd (di_seq xk.K (dv 0)) (blkOk_by (N := ["value", "number"]) (sc := defScope s_are_numbers) (by decide +kernel)) (fun s H C cl fp => (dg_name (i := 1) sc_are_numbers.nd rfl (Or.inl rfl))) (fun s H C cl fp => dts_nil) (fun s H C cl fp => (de_call F_is_integer (Xk.blk xk _ _ _ _ _) (da_cons (dv 1) da_nil))) (by simp)) da_nil))))))) ?_) (by decide)
  rintro ds R ex hl ⟨d, rfl, hk, hks, hr⟩
  refine ⟨d, rfl, _, any_seq hk, _, rfl, ?_⟩
  cases hi : d.items? with
  | none => rw [hi] at hr; exact hr
  | some xs =>
    rw [hi] at hr
    have key : ∀ (Q : D → Prop), Q (.bl (xs.all D.isI)) → compL (tgName 1) bYes (dCall 1 sIsInt (aCons (dVar 1) aNil)) (fun rs => g1 gAll [.lst rs] Q) (inEnv (env0 ["value", "number"] [d]) [1]) xs [] := fun Q hq => by
      refine compL_map (fun x => .bl (D.isI x)) (fun x hx K hK => ⟨x, rfl, rfl, x, rfl, hks xs hi x hx, hK⟩) ?_
      refine ⟨xs.map D.isI, by simp [List.map_map], ?_⟩
      simpa [List.all_map] using hq
    refine ⟨d, rfl, ?_⟩
    cases d <;> cases hi
    · exact key _ hr
    · exact key _ hr
def sWithin : FSpec := fun ds R _ => ∃ d lo hi, ds = [d, bndD lo, bndD hi] ∧ (kindS d).isSome = true ∧ R (.bl (withinB d lo hi))
abbrev s_is_within : Stmt := topS 11
theorem sc_is_within : FnScope ["value", "least", "most"] ["value", "least", "most"] (defScope s_is_within) := ⟨rfl, rfl, rfl, by decide +kernel, rfl, by decide +kernel, by decide +kernel⟩
theorem ok_is_within (F : Fun G.K "is_within" "is_within" s_is_within f fd) (bn : Bn mg) (F_is_integer : Fk G P w mg base 1 "is_integer" ["value"] 0 sIsInt) : FnD G P w mg base 2 f fd ["value", "least", "most"] 0 sWithin := by
  refine FnD.more (fnd_of F sc_is_within (fun cdv A outer s H E hr hg => have xk := xk_def (E := E) hr hg; (ds_cons (ds_if (dt_not (dt_val (de_call F_is_integer xk (da_cons (dv 0) da_nil)))) (ds_one (ds_ret de_bl)) ds_nil) (ds_one (ds_ret (de_and (de_or (de_cmp (o_is) (dv 1) de_non (by rfl)) (de_one (de_cmp (o_ge) (dv 0) (dv 1) (by rfl)))) (de_one (de_or (de_cmp (o_is) (dv 2) de_non (by rfl)) (de_one (de_cmp (o_le) (dv 0) (dv 2) (by rfl)))))))))) ?_) (by decide)
  rintro ds R ex hl ⟨d, lo, hi, rfl, hk, hr⟩
  refine ⟨d, rfl, rfl, d, rfl, hk, D.isI d, rfl, ?_⟩
  cases hi' : D.isI d with
  | false =>
    have e : withinB d lo hi = false := by cases d <;> first | rfl | cases hi'
    rw [e] at hr
    exact hr
  | true =>
    obtain ⟨i, rfl⟩ := isI_of hi'
    have k2 : ∀ Q : D → Prop, Q (.bl (hi.all fun h => decide (i ≤ h))) → (dOr (dOp gIs (dVar 2) (dC .non)) (dOp gLe (dVar 0) (dVar 2))) ex (env0 ["value", "least", "most"] [.int i, bndD lo, bndD hi]) Q := fun Q hq => by
      refine ⟨bndD hi, rfl, rfl, bnd_no hi, (bndD hi).isN, rfl, ?_⟩
      cases hi with
      | none => exact hq
      | some h => exact ⟨_, rfl, _, rfl, trivial, hq⟩
    have k1 : ∀ Q : D → Prop, (∀ b, b = (lo.all fun l => decide (l ≤ i)) → Q (.bl b)) → (dOr (dOp gIs (dVar 1) (dC .non)) (dOp gGe (dVar 0) (dVar 1))) ex (env0 ["value", "least", "most"] [.int i, bndD lo, bndD hi]) Q := fun Q hq => by
      refine ⟨bndD lo, rfl, rfl, bnd_no lo, (bndD lo).isN, rfl, ?_⟩
      cases lo with
      | none => exact hq _ rfl
      | some l => exact ⟨_, rfl, _, rfl, trivial, hq _ rfl⟩
    refine k1 (fun x => ∃ c, x = .bl c ∧ if c = true then dOr (dOp gIs (dVar 2) (dC .non)) (dOp gLe (dVar 0) (dVar 2)) ex (env0 ["value", "least", "most"] [.int i, bndD lo, bndD hi]) R else R (.bl false)) fun b hb => ⟨b, rfl, ?_⟩
    have e : withinB (.int i) lo hi = (b && hi.all fun h => decide (i ≤ h)) := by rw [hb]; rfl
    rw [e] at hr
    cases b with
    | false => exact hr
    | true => exact k2 _ hr
/-- a number within its bounds -/
def sDemNumL : FSpec := fun ds R _ => ∃ i lo hi p, ds = [.int i, bndD lo, bndD hi, p] ∧ inB i lo hi = true ∧ R .non
abbrev s_demand_number : Stmt := topS 15
theorem sc_demand_number : FnScope ["value", "least", "most", "part"] ["value", "least", "most", "part"] (defScope s_demand_number) := ⟨rfl, rfl, rfl, by decide +kernel, rfl, by decide +kernel, by decide +kernel⟩
theorem ok_demand_number (F : Fun G.K "demand_number" "demand_number" s_demand_number f fd) (bn : Bn mg) (F_is_within : Fk G P w mg base 2 "is_within" ["value", "least", "most"] 0 sWithin) : FnD G P w mg base 3 f fd ["value", "least", "most", "part"] 0 sDemNumL := by
  refine FnD.more (fnd_of F sc_demand_number (fun cdv A outer s H E hr hg => have xk := xk_def (E := E) hr hg; (ds_one (ds_if (dt_not (dt_val (de_call F_is_within xk (da_cons (dv 0) (da_cons (dv 1) (da_cons (dv 2) da_nil)))))) (ds_one ds_never) ds_nil))) ?_) (by decide)
  rintro ds R ex hl ⟨i, lo, hi, p, rfl, hb, hr⟩
  refine ⟨.int i, rfl, bndD lo, rfl, bndD hi, rfl, rfl, .int i, lo, hi, rfl, rfl, ?_⟩
  exact ⟨inB i lo hi, rfl, by rw [hb]; exact hr⟩
def sDemWorldL : FSpec := fun ds R _ => ∃ (i : Int) (p : D), ds = [.int i, p] ∧ 1 ≤ i ∧ i ≤ 5 ∧ R .non
abbrev s_demand_world : Stmt := topS 16
theorem sc_demand_world : FnScope ["things", "part"] ["things", "part"] (defScope s_demand_world) := ⟨rfl, rfl, rfl, by decide +kernel, rfl, by decide +kernel, by decide +kernel⟩
theorem ok_demand_world (F : Fun G.K "demand_world" "demand_world" s_demand_world f fd) (bn : Bn mg) (F_demand_number : Fk G P w mg base 3 "demand_number" ["value", "least", "most", "part"] 0 sDemNumL) (g_MOST_THINGS : ∃ t, mg "MOST_THINGS" = some (.int 5 t)) : FnD G P w mg base 4 f fd ["things", "part"] 0 sDemWorldL := by
  refine FnD.more (fnd_of F sc_demand_world (fun cdv A outer s H E hr hg => have xk := xk_def (E := E) hr hg; (ds_one (ds_expr (de_call F_demand_number xk (da_cons (dv 0) (da_cons de_int (da_cons (de_gint g_MOST_THINGS) (da_cons (dv 1) da_nil)))))))) ?_) (by decide)
  rintro ds R ex hl ⟨i, p, rfl, h1, h2, hr⟩
  refine ⟨.int i, rfl, p, rfl, rfl, i, some 1, some 5, p, rfl, ?_, hr⟩
  simp [inB, h1, h2]
def sDemNumsL : FSpec := fun ds R _ => ∃ d xs p, ds = [d, p] ∧ d.items? = some xs ∧ xs.all D.isI = true ∧ R .non
abbrev s_demand_numbers : Stmt := topS 17
theorem sc_demand_numbers : FnScope ["values", "part"] ["values", "part"] (defScope s_demand_numbers) := ⟨rfl, rfl, rfl, by decide +kernel, rfl, by decide +kernel, by decide +kernel⟩
theorem ok_demand_numbers (F : Fun G.K "demand_numbers" "demand_numbers" s_demand_numbers f fd) (bn : Bn mg) (F_are_numbers : Fk G P w mg base 2 "are_numbers" ["value"] 0 sNumbers) : FnD G P w mg base 3 f fd ["values", "part"] 0 sDemNumsL := by
  refine FnD.more (fnd_of F sc_demand_numbers (fun cdv A outer s H E hr hg => have xk := xk_def (E := E) hr hg; (ds_one (ds_if (dt_not (dt_val (de_call F_are_numbers xk (da_cons (dv 0) da_nil)))) (ds_one ds_never) ds_nil))) ?_) (by decide)
  rintro ds R ex hl ⟨d, xs, p, rfl, hx, ha, hr⟩
  refine ⟨d, rfl, rfl, d, rfl, kind_items hx, fun ys hy => ?_, true, ?_, hr⟩
  · rw [hx] at hy; cases hy; exact kinds_isI ha
  · rw [hx]; show D.bl (xs.all D.isI) = _; rw [ha]
def sDemThingsL : FSpec := fun ds R _ => ∃ (d : D) (is : List Int) (n : Int), ds = [d, .int n] ∧ d.items? = some (is.map D.int) ∧ (∀ i ∈ is, 0 ≤ i ∧ i < n) ∧ R .non
abbrev s_demand_things : Stmt := topS 18
theorem sc_demand_things : FnScope ["values", "things", "value"] ["values", "things"] (defScope s_demand_things) := ⟨rfl, rfl, rfl, by decide +kernel, rfl, by decide +kernel, by decide +kernel⟩
theorem ok_demand_things (F : Fun G.K "demand_things" "demand_things" s_demand_things f fd) (bn : Bn mg) (F_is_within : Fk G P w mg base 2 "is_within" ["value", "least", "most"] 0 sWithin) : FnD G P w mg base 3 f fd ["values", "things"] 0 sDemThingsL := by
  refine FnD.more (fnd_of F sc_demand_things (fun cdv A outer s H E hr hg => have xk := xk_def (E := E) hr hg; (ds_one (ds_for xk po_def (di_seq xk.K (dv 0)) (dg_name (i := 2) sc_demand_things.nd rfl (Or.inl rfl)) (ds_one (ds_if (dt_not (dt_val (de_call F_is_within xk (da_cons (dv 2) (da_cons de_int (da_cons (de_op (o_sub) (dv 1) de_int) da_nil)))))) (ds_one ds_never) ds_nil))))) ?_) (by decide)
  rintro ds R ex hl ⟨d, is, n, rfl, hx, hb, hr⟩
  refine ⟨d, rfl, ?_⟩
  have key : ∀ (de : DEnds) (tb : DS), de.nx = (fun _ => R .non) → (∀ (i : Int) (s : Sl) (nx : List Sl → Prop), 0 ≤ i → i < n → nx [.val d, .val (.int n), .val (.int i)] → tb ex { de with nx := nx, ct := nx, bk := de.nx } [.val d, .val (.int n), .val (.int i)]) → sForL ex (tgName 2) tb de (is.map D.int) (env0 ["values", "things", "value"] [d, .int n]) := fun de tb hde hstep => by
    refine sForL_inv (fun _ env => ∃ s, env = [.val d, .val (.int n), s]) 0 ⟨_, rfl⟩ (fun i x env hi hI nx hn => ?_) (fun env hI => by rw [hde]; exact hr)
    obtain ⟨s, rfl⟩ := hI
    rw [List.getElem?_map] at hi
    obtain ⟨j, hj, rfl⟩ := Option.map_eq_some_iff.mp hi
    obtain ⟨b1, b2⟩ := hb j (List.mem_of_getElem? hj)
    exact hstep j s nx b1 b2 (hn _ ⟨_, rfl⟩)
  cases d <;> cases hx
  all_goals
    refine key _ _ rfl fun i s nx b1 b2 hn => ?_
    refine ⟨.int i, rfl, .int n, rfl, trivial, rfl, .int i, some 0, some (n - 1), rfl, rfl, ?_⟩
    refine ⟨true, ?_, hn⟩
    rw [show withinB (.int i) (some 0) (some (n - 1)) = true by simp [withinB, inB]; omega]
/-- the classes: leads 1, the reader's 2, errors 4, 5, 6 (BadLead, Misfit, TellsError) -/
structure Gk (G : Gd) : Prop where
  fl : G.fl 1 = [Str.ofString "begin", "into", "row"]
  fl2 : G.fl 2 = [Str.ofString "words", "taken"]
  fl4 : G.fl 4 = [Str.ofString "part"]
  fl5 : G.fl 5 = [Str.ofString "part"]
  begin : FldOk G "begin"
  into : FldOk G "into"
  row : FldOk G "row"
  words : FldOk G "words"
  taken : FldOk G "taken"
  nd : ∀ c, (G.fl c).Nodup
  sm : ∀ c, (G.fl c).length ≤ 100
def leadD (into : Int) (is : List Int) : D := .ins 1 [.int is.length, .int into, .tup (is.map D.int)]
def sLeadInitL : FSpec := fun ds R _ => ∃ (into : Int) (d : D) (is : List Int), ds = [.int into, d] ∧ d.items? = some (is.map D.int) ∧ 1 ≤ into ∧ into ≤ 5 ∧ 1 ≤ is.length ∧ is.length ≤ 5 ∧ (∀ i ∈ is, 0 ≤ i ∧ i < into) ∧ R (leadD into is)
abbrev s_Lead___init__ : Stmt := inClass (topS 23) 0
theorem sc_Lead___init__ : FnScope ["self", "into", "row"] ["self", "into", "row"] (defScope s_Lead___init__) := ⟨rfl, rfl, rfl, by decide +kernel, rfl, by decide +kernel, by decide +kernel⟩
theorem ok_Lead___init__ (F : Fun G.K "__init__" "Lead.__init__" s_Lead___init__ f fd) (bn : Bn mg) (fo : Gk G) (F_demand_world : Fk G P w mg base 4 "demand_world" ["things", "part"] 0 sDemWorldL) (F_demand_things : Fk G P w mg base 3 "demand_things" ["values", "things"] 0 sDemThingsL) (F_are_numbers : Fk G P w mg base 2 "are_numbers" ["value"] 0 sNumbers) (g_MOST_THINGS : ∃ t, mg "MOST_THINGS" = some (.int 5 t)) : InitD G P w mg base 5 f fd ["self", "into", "row"] 0 1 sLeadInitL := by
  refine InitD.more (initd_of F sc_Lead___init__ (fun cdv A outer s H E hr hg => have xk := xk_def (E := E) hr hg; (ds_cons (ds_expr (de_call F_demand_world xk (da_cons (dv 1) (da_cons de_str da_nil)))) (ds_cons (ds_if (dt_w (dw_or (dt_not (dt_val (de_call F_are_numbers xk (da_cons (dv 2) da_nil)))) (dw_or1 (dt_not (dt_chain (o_le) (o_le) de_int (de_bi (c_len xk.K) bn.len (da_cons (dv 2) da_nil)) (de_gint g_MOST_THINGS)))))) (ds_one ds_never) ds_nil) (ds_cons (ds_expr (de_call F_demand_things xk (da_cons (dv 2) (da_cons (dv 1) da_nil)))) (ds_cons (ds_fld (i := 0) xk.K fo.begin fo.nd fo.sm rfl (de_bi (c_len xk.K) bn.len (da_cons (dv 2) da_nil))) (ds_cons (ds_fld (i := 0) xk.K fo.into fo.nd fo.sm rfl (dv 1)) (ds_one (ds_fld (i := 0) xk.K fo.row fo.nd fo.sm rfl (de_ty (c_tuple xk.K) bn.tuple (da_cons (dv 2) da_nil)))))))))) ?_) (by decide)
  rintro a dx ds R ex hl ⟨into, d, is, rfl, hx, h1, h2, h3, h4, hb, hr⟩
  refine ⟨.int into, rfl, rfl, into, _, rfl, h1, h2, ?_⟩
  have hk := kind_items hx
  refine ⟨d, rfl, rfl, d, rfl, hk, fun ys hy => by rw [hx] at hy; cases hy; exact kinds_isI (all_isI is), true, by rw [hx]; show D.bl ((is.map D.int).all D.isI) = _; rw [all_isI], ?_⟩
  have fin : ∀ xs, xs = is.map D.int → leadD into is = .ins 1 [.int (xs.length : Nat), .int into, .tup xs] := fun xs e => by rw [e, List.length_map]; rfl
  have e1 : (decide ((1 : Int) ≤ ((is.map D.int).length : Nat))) = true := by rw [List.length_map]; simp; omega
  have e2 : (decide (((is.map D.int).length : Nat) ≤ (5 : Int))) = true := by rw [List.length_map]; simp; omega
  cases d <;> cases hx
  all_goals
    refine ⟨_, rfl, trivial, true, congrArg D.bl e1, ?_⟩
    refine ⟨trivial, true, congrArg D.bl e2, ?_⟩
    refine ⟨_, rfl, .int into, rfl, rfl, _, is, into, rfl, rfl, hb, ?_⟩
    refine ⟨_, rfl, a, dx, 1, [], rfl, by rw [fo.fl]; rfl, ?_⟩
    refine ⟨.int into, rfl, a, dx, 1, _, rfl, by rw [fo.fl]; rfl, ?_⟩
    refine ⟨_, rfl, a, dx, 1, _, rfl, by rw [fo.fl]; rfl, ?_⟩
    refine ⟨_, rfl, by rw [fo.fl]; rfl, ?_⟩
    rw [fin _ rfl] at hr
    exact hr
def allRows (n : Nat) : Nat → List (List Int)
  | 0 => [[]]
  | m + 1 => (allRows n m).flatMap fun r => (List.range n).map fun (t : Nat) => r ++ [(t : Int)]
theorem allRows_len (n : Nat) : ∀ m, (allRows n m).length = n ^ m
  | 0 => rfl
  | m + 1 => by
    unfold allRows
    rw [List.length_flatMap]
    simp only [List.length_range, List.length_map]
    rw [List.map_const', List.sum_replicate_nat, allRows_len n m, Nat.pow_succ]
theorem allRows_row (n : Nat) : ∀ m, ∀ r ∈ allRows n m, r.length = m
  | 0, r, h => by simp [allRows] at h; rw [h]; rfl
  | m + 1, r, h => by
    unfold allRows at h
    obtain ⟨q, hq, hr⟩ := List.mem_flatMap.mp h
    obtain ⟨t, _, rfl⟩ := List.mem_map.mp hr
    rw [List.length_append, allRows_row n m q hq]; rfl
theorem fld_lead (fo : Gk G) {n : Int} {r : List Int} : (("begin" : Str) ∈ G.fl 1 ∧ ("into" : Str) ∈ G.fl 1 ∧ ("row" : Str) ∈ G.fl 1 ∧ [D.int r.length, .int n, rowD r][(G.fl 1).idxOf ("begin" : Str)]? = some (.int r.length) ∧
    [D.int r.length, .int n, rowD r][(G.fl 1).idxOf ("into" : Str)]? = some (.int n) ∧ [D.int r.length, .int n, rowD r][(G.fl 1).idxOf ("row" : Str)]? = some (rowD r)) := by
  rw [fo.fl]
  exact ⟨by decide, by decide, by decide, rfl, rfl, rfl⟩
end
end Pg
set_option Elab.async false
set_option linter.all false
set_option maxRecDepth 100000
set_option maxHeartbeats 4100000
namespace Pg
open PySem L2 RZ Kn
section
variable {G : Gd} {P : Program} {w : World} {mg : Str → Option Value} {base : Heap} {f : Addr} {fd : FuncData}
abbrev s_BadLead___init__ : Stmt := inClass (topS 4) 0
theorem sc_BadLead___init__ : FnScope ["self", "part"] ["self", "part"] (defScope s_BadLead___init__) := ⟨rfl, rfl, rfl, by decide +kernel, rfl, by decide +kernel, by decide +kernel⟩
theorem ok_BadLead___init__ {K : PySem.W.Frag} {C : Addr} (F : Fun K "__init__" "BadLead.__init__" s_BadLead___init__ f fd) (T : OexC K C) (n_part : PySem.W.findIn K (.ref C) "part" = some none) : FnOk P w K mg base (L2.CX P w) 1 f fd ["self", "part"] (spX C ["part"]) := by
  refine F.okX sc_BadLead___init__ (fun vs H Q E h => ?_) (fun cdv A outer s H vs Q E hr h => ?_)
  · obtain ⟨a, ws, rfl, hl, _⟩ := h
    rw [List.length_cons, hl]; rfl
  obtain ⟨a, ws, rfl, hl, ha, q⟩ := h
  match ws, hl with
  | [x], _ =>
  refine ⟨_, pss_one (ps_ost (by exact pe_var (i := 0) rfl (Or.inl rfl) (by decide) (by decide)) (by exact pe_var (i := 1) rfl (Or.inl rfl) (by decide) (by decide))), ?_⟩
  refine ⟨x, rfl, .ref a, rfl, a, C, rfl, T, n_part, .inl ⟨ha, fun dx hdx nda => ?_⟩⟩
  exact q _ dx (fun b o e nb => by rw [upd_ne nb, upd_ne (ne_of_none e hdx)]; exact e) hdx nda upd_same (by rw [upd_ne nda, upd_same]; rfl)
abbrev s_Misfit___init__ : Stmt := inClass (topS 5) 0
theorem sc_Misfit___init__ : FnScope ["self", "part"] ["self", "part"] (defScope s_Misfit___init__) := ⟨rfl, rfl, rfl, by decide +kernel, rfl, by decide +kernel, by decide +kernel⟩
theorem ok_Misfit___init__ {K : PySem.W.Frag} {C : Addr} (F : Fun K "__init__" "Misfit.__init__" s_Misfit___init__ f fd) (T : OexC K C) (n_part : PySem.W.findIn K (.ref C) "part" = some none) : FnOk P w K mg base (L2.CX P w) 1 f fd ["self", "part"] (spX C ["part"]) := by
  refine F.okX sc_Misfit___init__ (fun vs H Q E h => ?_) (fun cdv A outer s H vs Q E hr h => ?_)
  · obtain ⟨a, ws, rfl, hl, _⟩ := h
    rw [List.length_cons, hl]; rfl
  obtain ⟨a, ws, rfl, hl, ha, q⟩ := h
  match ws, hl with
  | [x], _ =>
  refine ⟨_, pss_one (ps_ost (by exact pe_var (i := 0) rfl (Or.inl rfl) (by decide) (by decide)) (by exact pe_var (i := 1) rfl (Or.inl rfl) (by decide) (by decide))), ?_⟩
  refine ⟨x, rfl, .ref a, rfl, a, C, rfl, T, n_part, .inl ⟨ha, fun dx hdx nda => ?_⟩⟩
  exact q _ dx (fun b o e nb => by rw [upd_ne nb, upd_ne (ne_of_none e hdx)]; exact e) hdx nda upd_same (by rw [upd_ne nda, upd_same]; rfl)
def leadP (p : Nat × List Int) : D := leadD p.1 p.2
/-- leads are no lists -/
structure LfL (G : Gd) : Prop where
  inc : InC G.K (G.cl 1)
  no : PySem.W.kitAny G.K (.ref (G.cl 1)) [.type "list", .type "tuple"] = some false
theorem isi_items {d : D} {xs : List D} (h : d.items? = some xs) : ∃ t, TyD G d t ∧ PySem.W.kitAny G.K t [.type "list", .type "tuple"] = some true := by
  have hk := kind_items h
  obtain ⟨s, hs⟩ := Option.isSome_iff_exists.mp hk
  refine ⟨.type s, .inl ⟨s, hs, rfl⟩, ?_⟩
  have z := any_seq (d := d) hk
  rw [h] at z
  exact any_kit hs z
theorem isi_none {d : D} (hk : (kindS d).isSome = true) (h : d.items? = none) : ∃ t, TyD G d t ∧ PySem.W.kitAny G.K t [.type "list", .type "tuple"] = some false := by
  obtain ⟨s, hs⟩ := Option.isSome_iff_exists.mp hk
  refine ⟨.type s, .inl ⟨s, hs, rfl⟩, ?_⟩
  have z := any_seq (d := d) hk
  rw [h] at z
  exact any_kit hs z
def isL (x : D) : Bool := match x with
  | .ins _ _ => true
  | _ => false
def leadItem (x : D) : Prop := (∃ p : Nat × List Int, x = leadP p) ∨ (kindS x).isSome = true
def sDLs : FSpec := fun ds R ex => ∃ d p, ds = [d, p] ∧ ((∃ xs : List D, d.items? = some xs ∧ xs.length ≤ 100000 ∧ (∀ x ∈ xs, leadItem x) ∧ (xs ≠ [] → xs.all isL = true → R .non) ∧ (xs = [] ∨ xs.all isL = false → ex ⟨4, [p]⟩)) ∨ ((((kindS d).isSome = true ∧ d.items? = none) ∨ ∃ q, d = leadP q) ∧ ex ⟨4, [p]⟩))
abbrev s_demand_leads : Stmt := topS 27
theorem sc_demand_leads : FnScope ["value", "part", "lead"] ["value", "part"] (defScope s_demand_leads) := ⟨rfl, rfl, rfl, by decide +kernel, rfl, by decide +kernel, by decide +kernel⟩
theorem ok_demand_leads (F : Fun G.K "demand_leads" "demand_leads" s_demand_leads f fd) (bn : Bn mg) (lf : LfL G) (X_BadLead : Fx G P w mg base 1 "BadLead" 4 1) (r_Lead : mg "Lead" = some (.ref (G.cl 1))) : FnD G P w mg base 3 f fd ["value", "part"] 0 sDLs := by
  refine FnD.more (fnd_of F sc_demand_leads (fun cdv A outer s H E hr hg => have xk := xk_def (E := E) hr hg; (ds_one (ds_if (dt_w (dw_or (dt_not (dt_val (de_isiCs xk.K bn.isinstance (dv 0) (pa_cons (ps_tyn (n := "list") bn.list) (pa_cons (ps_tyn (n := "tuple") bn.tuple) pa_nil)) (.cons (.ty _) (.cons (.ty _) .nil)) (hl := by simp)))) (dw_or (dt_cmp (o_eq xk.K xk.u64) (de_bi (c_len xk.K) bn.len (da_cons (dv 0) da_nil)) de_int (by rfl)) (dw_or1 (dt_not (dt_val (de_bi (c_all xk.calm) bn.all (da_cons (de_comp (own := [("lead", 2)]) xk sc_demand_leads.nd (di_seq xk.K (dv 0)) (blkOk_by (N := ["value", "part", "lead"]) (sc := defScope s_demand_leads) (by decide +kernel)) (fun s H C cl fp => (dg_name (i := 2) sc_demand_leads.nd rfl (Or.inl rfl))) (fun s H C cl fp => dts_nil) (fun s H C cl fp => (de_cmp (o_isK (Xk.blk xk _ _ _ _ _).K) (de_ty (c_typeK (Xk.blk xk _ _ _ _ _).K) bn.type (da_cons (dv 2) da_nil)) (de_ref r_Lead) (by rfl))) (by simp)) da_nil)))))))) (ds_one (ds_raise X_BadLead xk (da_cons (dv 1) da_nil))) ds_nil))) ?_) (by decide)
  rintro ds R ex hl ⟨d, p, rfl, ⟨xs, hi, hlen, hx, h1, h2⟩ | ⟨hd, hex⟩⟩
  · obtain ⟨t, ty, kt⟩ := isi_items (G := G) hi
    have key : ∀ (Q : D → Prop), Q (.bl (xs.all isL)) → compL (tgName 2) bYes (dOp (gIsK G id) (dBi (g1 (gTypeK (G := G))) (aCons (dVar 2) aNil)) (dC (.opq (.ref (G.cl 1))))) (fun rs => g1 gAll [.lst rs] Q) (inEnv (env0 ["value", "part", "lead"] [d, p]) [2]) xs [] := fun Q hq => by
      refine compL_map (fun x => .bl (isL x)) (fun x hxm K hK => ?_) ?_
      · rcases hx x hxm with ⟨q, rfl⟩ | hk
        · refine ⟨_, rfl, .inl ⟨1, _, rfl, .inl ⟨_, _, rfl, rfl, .inl rfl, ?_⟩⟩⟩
          rw [decide_eq_true rfl]
          exact hK
        · obtain ⟨s, hs⟩ := Option.isSome_iff_exists.mp hk
          have e : isL x = false := by cases x <;> first | rfl | cases hk
          refine ⟨x, rfl, .inr ⟨s, hs, .inr ⟨_, _, rfl, rfl, ?_⟩⟩⟩
          rw [e] at hK
          exact hK
      · refine ⟨xs.map isL, by simp [List.map_map], ?_⟩
        simpa [List.all_map] using hq
    refine sif_of (x := !true || (((xs.length : Nat) : Int) == 0 || !xs.all isL)) (tst_or (fun K hK => ⟨d, rfl, t, true, ty, kt, _, rfl, hK⟩) (fun _ => tst_or (fun K hK => ?_) (fun _ K hK => ?_))) (fun hb => ⟨_, rfl, rfl, h2 ?_⟩) (fun hb => h1 ?_ ?_)
    · refine ⟨d, rfl, ?_⟩
      cases d <;> cases hi
      · exact nilLen (eqC (eq_int ⟨_, rfl, hK⟩))
      · exact nilLenT (eqC (eq_int ⟨_, rfl, hK⟩))
    · refine ⟨d, rfl, ?_⟩
      cases d <;> cases hi
      · exact key (fun x => ∃ b, x = .bl b ∧ K (!b)) ⟨_, rfl, hK⟩
      · exact key (fun x => ∃ b, x = .bl b ∧ K (!b)) ⟨_, rfl, hK⟩
    · cases xs with
      | nil => exact .inl rfl
      | cons x r =>
        right
        cases q : (x :: r).all isL with
        | true =>
          rw [q] at hb
          have : (((x :: r).length : Nat) : Int) == 0 := by simpa using hb
          exact absurd (eq_of_beq this) (by simp; omega)
        | false => rfl
    · intro e
      rw [e] at hb
      exact absurd hb (by decide)
    · cases q : xs.all isL with
      | true => rfl
      | false => rw [q] at hb; simp at hb
  · have ht : ∃ t, TyD G d t ∧ PySem.W.kitAny G.K t [.type "list", .type "tuple"] = some false := by
      rcases hd with ⟨hk, hi⟩ | ⟨q, rfl⟩
      · exact isi_none hk hi
      · exact ⟨_, .inr (.inr ⟨1, _, rfl, lf.inc, rfl⟩), lf.no⟩
    obtain ⟨t, ty, kt⟩ := ht
    exact sif_of (x := !false || false) (tst_or (fun K hK => ⟨d, rfl, t, false, ty, kt, _, rfl, hK⟩) (fun hb K hK => by cases hb)) (fun _ => ⟨_, rfl, rfl, hex⟩) (fun hb => by cases hb)
end
end Pg
set_option Elab.async false
set_option linter.all false
set_option maxRecDepth 100000
set_option maxHeartbeats 2100000
namespace Pg
open PySem L2
theorem numsB_ok : ∀ {vs : List Value} {ys : List Int}, numsB vs ys = true → Vals (ys.map V.int) vs
  | [], [], _ => .nil
  | v :: vs, y :: ys, h => by
    cases v with
    | int x t =>
      obtain ⟨h1, h2⟩ := Bool.and_eq_true_iff.mp (show (decide (x = y) && numsB vs ys) = true from h)
      exact .cons ⟨t, by rw [of_decide_eq_true h1]⟩ (numsB_ok h2)
    | _ => cases h
  | [], _ :: _, h => by cases h
  | v :: _, [], h => by cases v <;> cases h
theorem tupsIB_ok {K : PySem.W.Frag} {a : Addr} {ys : List Int} (hy : ys.length ≤ sizeLine) (h : tupsIB K a ys = true) : Kn.KTup K a (ys.map V.int) := by
  unfold tupsIB at h
  cases q : K.lookup a with
  | none => rw [q] at h; cases h
  | some o =>
    obtain ⟨oc, od, dt, osl⟩ := o
    rw [q] at h
    cases oc with
    | type c =>
      cases dt with
      | seq its n =>
        obtain ⟨h1, h2⟩ := Bool.and_eq_true_iff.mp (show (decide (c = "tuple") && numsB its.toList ys) = true from h)
        have hv := numsB_ok h2
        refine ⟨_, its, n, q, congrArg Value.type (of_decide_eq_true h1), rfl, ?_, hv⟩
        have := hv.length
        rw [List.length_map] at this
        have e : its.size = its.toList.length := by simp
        omega
      | _ => cases h
    | _ => cases dt <;> cases h
end Pg
namespace Kn
open PySem L2 RZ
section
variable {G : Gd} {E : XK} {X : Cx} {σ : List (Option V)} {H H' : Hp} {k : Nat}
theorem denL_nums {B : Addr → Prop} {H : Hp} : ∀ (is : List Int), DenL G B H (is.map D.int) (is.map V.int)
  | [] => rfl
  | i :: is => ⟨_, _, rfl, den_int i, denL_nums is⟩
def GTupI (G : Gd) (mg : Str → Option Value) (x : Str) (is : List Int) : Prop := ∃ a, mg x = some (.ref a) ∧ KTup G.K a (is.map V.int) ∧ is.length ≤ sizeLine
theorem de_gtupI {x : Str} {is : List Int} {pos : Pos} (hm : GTupI G X.mg x is) (hg : Gl X x := by rfl) (hd : (x == ("__debug__" : Str)) = false := by decide) : DE G E X 0 (.Name x pos) (dC (.tup (is.map D.int))) := by
  obtain ⟨a, h1, h2, h3⟩ := hm
  exact imp (pe_glob (v := .ref a) hg h1 rfl hd) fun _ _ _ h => lift_c (d := .tup (is.map D.int)) (fun B H => (⟨a, is.map V.int, rfl, .inr h2, .inr h2, by simpa using h3, denL_nums is⟩ : Den G B H (.tup (is.map D.int)) (.ref a))) h
end
end Kn
set_option Elab.async false
set_option linter.all false
set_option maxRecDepth 100000
set_option maxHeartbeats 4100000
namespace Pg
open PySem L2 RZ Kn
section
variable {G : Gd} {P : Program} {w : World} {mg : Str → Option Value} {base : Heap} {f : Addr} {fd : FuncData}
theorem d_or {ta tb : DT} {ex : Exc → Prop} {env : List Sl} {Q : D → Prop} {x y : Bool} (h1 : ∀ K : D → Prop, K (.bl x) → ta ex env K) (h2 : x = false → ∀ K : D → Prop, K (.bl y) → tb ex env K) (hq : Q (.bl (x || y))) : dOr ta tb ex env Q := h1 _ ⟨x, rfl, by
  cases x with
  | true => exact hq
  | false => exact h2 rfl _ hq⟩
def leadsD (ps : List (Nat × List Int)) : List D := ps.map leadP
/-- leads of one world of two or three things to itself -/
def OneW (n : Nat) (ps : List (Nat × List Int)) : Prop := (n = 2 ∨ n = 3) ∧ ∀ p ∈ ps, p.1 = n ∧ p.2.length = n
def farB (ps : List (Nat × List Int)) : Bool := match ps with
  | [] => true
  | q :: _ => !(q.2.length == 2 || q.2.length == 3) || ps.any fun p => !(p.2.length == q.2.length) || !(p.1 == q.2.length)
def sOneW : FSpec := fun ds R ex => ∃ d ps, ds = [d] ∧ d.items? = some (leadsD ps) ∧ ps ≠ [] ∧ (farB ps = false → R .non) ∧ (farB ps = true → ex ⟨5, [.str "things"]⟩)
abbrev s_demand_one_world : Stmt := topS 28
theorem sc_demand_one_world : FnScope ["leads", "things", "lead"] ["leads"] (defScope s_demand_one_world) := ⟨rfl, rfl, rfl, by decide +kernel, rfl, by decide +kernel, by decide +kernel⟩
theorem ok_demand_one_world (F : Fun G.K "demand_one_world" "demand_one_world" s_demand_one_world f fd) (bn : Bn mg) (fo : Gk G) (X_Misfit : Fx G P w mg base 1 "Misfit" 5 1) (g_TOLD_WORLDS : GTupI G mg "TOLD_WORLDS" [2, 3]) : FnD G P w mg base 3 f fd ["leads"] 0 sOneW := by
  refine FnD.more (fnd_of F sc_demand_one_world (fun cdv A outer s H E hr hg => have xk := xk_def (E := E) hr hg; (ds_cons (ds_set (i := 1) sc_demand_one_world.nd rfl (Or.inr rfl) (de_fld xk.K fo.begin (de_ix xk.K (dv 0) de_int (fun _ _ => rfl)))) (ds_one (ds_if (dt_w (dw_or (dt_cmp (o_niT xk.K xk.u65) (dv 1) (de_gtupI g_TOLD_WORLDS) (by rfl)) (dw_or1 (dt_val (de_bi (c_any xk.calm) bn.any (da_cons (de_comp (own := [("lead", 2)]) xk sc_demand_one_world.nd (di_seq xk.K (dv 0)) (blkOk_by (N := ["leads", "things", "lead"]) (sc := defScope s_demand_one_world) (by decide +kernel)) (fun s H C cl fp => (dg_name (i := 2) sc_demand_one_world.nd rfl (Or.inl rfl))) (fun s H C cl fp => dts_nil) (fun s H C cl fp => (de_or (de_cmp (o_ne (Xk.blk xk _ _ _ _ _).K (Xk.blk xk _ _ _ _ _).u64) (de_fld (Xk.blk xk _ _ _ _ _).K fo.begin (dv 2)) (dv 1) (by rfl)) (de_one (de_cmp (o_ne (Xk.blk xk _ _ _ _ _).K (Xk.blk xk _ _ _ _ _).u64) (de_fld (Xk.blk xk _ _ _ _ _).K fo.into (dv 2)) (dv 1) (by rfl))))) (by simp)) da_nil)))))) (ds_one (ds_raise X_Misfit xk (da_cons de_str da_nil))) ds_nil)))) ?_) (by decide)
  rintro ds R ex hl ⟨d, ps, rfl, hi, hne, h1, h2⟩
  cases ps with
  | nil => exact absurd rfl hne
  | cons q r =>
    obtain ⟨k1, k2, k3, j1, j2, j3⟩ := fld_lead fo (n := q.1) (r := q.2)
    have hb : farB (q :: r) = (!((2 : Int) == (q.2.length : Nat) || ((3 : Int) == (q.2.length : Nat) || false)) || ((q :: r).map fun p => !(((p.2.length : Nat) : Int) == (q.2.length : Nat)) || !(((p.1 : Nat) : Int) == (q.2.length : Nat))).any id) := by
      have c : ∀ a b : Nat, (((a : Nat) : Int) == (b : Nat)) = (a == b) := fun a b => by
        rw [Bool.eq_iff_iff,
              beq_iff_eq, beq_iff_eq]; omega
      have c2 : ((2 : Int) == (q.2.length : Nat)) = (q.2.length == 2) := by rw [Bool.eq_iff_iff, beq_iff_eq, beq_iff_eq]; omega
      have c3 : ((3 : Int) == (q.2.length : Nat)) = (q.2.length == 3) := by rw [Bool.eq_iff_iff, beq_iff_eq, beq_iff_eq]; omega
      rw [c2, c3, List.any_map, Bool.or_false]
      show _ = (_ || (q :: r).any fun p => !(((p.2.length : Nat) : Int) == (q.2.length : Nat)) || !(((p.1 : Nat) : Int) == (q.2.length : Nat)))
      simp only [c]
      rfl
    refine seq_to (fun env' => env' = [.val d, .val (.int (q.2.length : Nat)), .emp]) (fun de' hnx hrt => ?_) (fun env' e => ?_)
    · cases d <;> cases hi
      · exact ⟨_, rfl, leadP q, atI_of (k := 0) rfl, 1, _, _, rfl, k1, j1, hnx _ rfl⟩
      · exact ⟨_, rfl, leadP q, atI_of (k := 0) rfl, 1, _, _, rfl, k1, j1, hnx _ rfl⟩
    subst e
    refine sif_of (x := !((2 : Int) == (q.2.length : Nat) || ((3 : Int) == (q.2.length : Nat) || false)) || ((q :: r).map fun p => !(((p.2.length : Nat) : Int) == (q.2.length : Nat)) || !(((p.1 : Nat) : Int) == (q.2.length : Nat))).any id) (tst_or (fun K hK => ?_) (fun _ K hK => ?_)) (fun hx => ⟨rfl, h2 (by rw [hb]; exact hx)⟩) (fun hx => h1 (by rw [hb]; exact hx))
    · exact ⟨_, rfl, .int (q.2.length : Nat), [.int 2, .int 3], _, rfl, rfl, rfl, shaped_int _, by decide +kernel, _, rfl, hK⟩
    · have key : ∀ (Q : D → Prop), Q (.bl (((q :: r).map fun p => !(((p.2.length : Nat) : Int) == (q.2.length : Nat)) || !(((p.1 : Nat) : Int) == (q.2.length : Nat))).any id)) → compL (tgName 2) bYes (dOr (dOp gNe (dFld G "begin" (dVar 2)) (dVar 1)) (dOp gNe (dFld G "into" (dVar 2)) (dVar 1))) (fun rs => g1 gAny [.lst rs] Q) (inEnv [.val d, .val (.int (q.2.length : Nat)), .emp] [2]) (leadsD (q :: r)) [] := fun Q hq => by
        refine compL_of leadP (fun p => .bl (!(((p.2.length : Nat) : Int) == (q.2.length : Nat)) || !(((p.1 : Nat) : Int) == (q.2.length : Nat)))) (fun p hp K hK => ?_) ?_
        · obtain ⟨m1, m2, m3, i1, i2, i3⟩ := fld_lead fo (n := p.1) (r := p.2)
          exact d_or (fun K hK => ⟨_, rfl, 1, _, _, rfl, m1, i1, _, rfl, ne_int hK⟩) (fun _ K hK => ⟨_, rfl, 1, _, _, rfl, m2, i2, _, rfl, ne_int hK⟩) hK
        · rw [List.nil_append]
          exact ⟨_, by rw [List.map_map]; rfl, hq⟩
      refine ⟨d, rfl, ?_⟩
      cases d <;> cases hi
      · exact key (fun x => ∃ b, x = .bl b ∧ K b) ⟨_, rfl, hK⟩
      · exact key (fun x => ∃ b, x = .bl b ∧ K b) ⟨_, rfl, hK⟩
end
end Pg
set_option Elab.async false
set_option linter.all false
set_option maxRecDepth 100000
set_option maxHeartbeats 4100000
namespace Pg
open PySem L2 RZ Kn
section
variable {G : Gd} {P : Program} {w : World} {mg : Str → Option Value} {base : Heap} {f : Addr} {fd : FuncData}
def badLs (d : D) : Prop := (∃ xs : List D, d.items? = some xs ∧ xs.length ≤ 100000 ∧ (∀ x ∈ xs, leadItem x) ∧ (xs = [] ∨ xs.all isL = false)) ∨ (((kindS d).isSome = true ∧ d.items? = none) ∨ ∃ q, d = leadP q)
def sDTM : FSpec := fun ds R ex => ∃ d, ds = [d] ∧ ((∃ ps, d.items? = some (leadsD ps) ∧ ps ≠ [] ∧ ps.length ≤ 100000 ∧ (farB ps = false → R .non) ∧ (farB ps = true → ex ⟨5, [.str "things"]⟩)) ∨ (badLs d ∧ ex ⟨4, [.str "leads"]⟩))
theorem leads_isL (ps : List (Nat × List Int)) : (leadsD ps).all isL = true := by
  unfold leadsD
  rw [List.all_map, List.all_eq_true]
  intro p _
  rfl
abbrev s_demand_told_manner : Stmt := topS 29
theorem sc_demand_told_manner : FnScope ["leads"] ["leads"] (defScope s_demand_told_manner) := ⟨rfl, rfl, rfl, by decide +kernel, rfl, by decide +kernel, by decide +kernel⟩
theorem ok_demand_told_manner (F : Fun G.K "demand_told_manner" "demand_told_manner" s_demand_told_manner f fd) (bn : Bn mg) (F_demand_leads : Fk G P w mg base 3 "demand_leads" ["value", "part"] 0 sDLs) (F_demand_one_world : Fk G P w mg base 3 "demand_one_world" ["leads"] 0 sOneW) : FnD G P w mg base 4 f fd ["leads"] 0 sDTM := by
  refine FnD.more (fnd_of F sc_demand_told_manner (fun cdv A outer s H E hr hg => have xk := xk_def (E := E) hr hg; (ds_cons (ds_expr (de_call F_demand_leads xk (da_cons (dv 0) (da_cons de_str da_nil)))) (ds_one (ds_expr (de_call F_demand_one_world xk (da_cons (dv 0) da_nil)))))) ?_) (by decide)
  rintro ds R ex hl ⟨d, rfl, ⟨ps, hi, hne, hlen, h1, h2⟩ | ⟨hb, hex⟩⟩
  · refine ⟨_, rfl, rfl, d, _, rfl, .inl ⟨leadsD ps, hi, by unfold leadsD; rw [List.length_map]; exact hlen, fun x hx => ?_, fun _ _ => ?_, fun h => ?_⟩⟩
    · obtain ⟨p, _, rfl⟩ := List.mem_map.mp hx
      exact .inl ⟨p, rfl⟩
    · exact ⟨_, rfl, rfl, d, ps, rfl, hi, hne, h1, h2⟩
    · rcases h with h | h
      · unfold leadsD at h
        exact absurd (List.map_eq_nil_iff.mp h) hne
      · rw [leads_isL] at h; cases h
  · refine ⟨_, rfl, rfl, d, _, rfl, ?_⟩
    rcases hb with ⟨xs, hi, hlen, hx, h⟩ | hb
    · refine .inl ⟨xs, hi, hlen, hx, fun h1 h2 => ?_, fun _ => hex⟩
      rcases h with h | h
      · exact absurd h h1
      · rw [h2] at h; cases h
    · exact .inr ⟨hb, hex⟩
def sLeadsBy : FSpec := fun ds R _ => ∃ (n : Nat) (rows : List (List Int)), ds = [.lst (rows.map rowD), .int n] ∧ 1 ≤ n ∧ n ≤ 5 ∧ (∀ r ∈ rows, r.length = n ∧ ∀ i ∈ r, 0 ≤ i ∧ i < (n : Int)) ∧ R (.tup (rows.map (leadD n)))
abbrev s_leads_by : Stmt := topS 31
theorem sc_leads_by : FnScope ["rows", "things", "row"] ["rows", "things"] (defScope s_leads_by) := ⟨rfl, rfl, rfl, by decide +kernel, rfl, by decide +kernel, by decide +kernel⟩
theorem ok_leads_by (F : Fun G.K "leads_by" "leads_by" s_leads_by f fd) (bn : Bn mg) (C_Lead : Fc G P w mg base 5 "Lead" 1 ["self", "into", "row"] 0 sLeadInitL) : FnD G P w mg base 7 f fd ["rows", "things"] 0 sLeadsBy := by
  refine FnD.more (fnd_of F sc_leads_by (fun cdv A outer s H E hr hg => have xk := xk_def (E := E) hr hg; (ds_one (ds_ret (de_ty (c_tuple xk.K) bn.tuple (da_cons (de_comp (own := [("row", 2)]) xk sc_leads_by.nd (di_seq xk.K (dv 0)) (blkOk_by (N := ["rows", "things", "row"]) (sc := defScope s_leads_by) (by decide +kernel)) (fun s H C cl fp => (dg_name (i := 2) sc_leads_by.nd rfl (Or.inl rfl))) (fun s H C cl fp => dts_nil) (fun s H C cl fp => (de_make C_Lead (Xk.blk xk _ _ _ _ _) (da_cons (dv 1) (da_cons (dv 2) da_nil)))) (by simp)) da_nil))))) ?_) (by decide)
  rintro ds R ex hl ⟨n, rows, rfl, n1, n5, hv, hr⟩
  refine ⟨_, rfl, ?_⟩
  refine compL_of rowD (fun r => leadD n r) (fun r hr2 K hK => ?_) ?_
  · obtain ⟨h1, h2⟩ := hv r hr2
    exact ⟨_, rfl, _, rfl, rfl, n, _, r, rfl, rfl, by omega, by omega, by omega, by omega, h2, hK⟩
  · rw [List.nil_append]
    exact nilT hr
def sBehind : FSpec := fun ds R _ => ∃ (n : Nat) (row later : List Int), ds = [rowD row, rowD later] ∧ later.length = n ∧ (∀ i ∈ row, 0 ≤ i ∧ i < (n : Int)) ∧ (∀ i ∈ later, 0 ≤ i ∧ i < (n : Int)) ∧ R (rowD (row.map (atR later)))
abbrev s_law_behind : Stmt := topS 39
theorem sc_law_behind : FnScope ["row", "later", "thing"] ["row", "later"] (defScope s_law_behind) := ⟨rfl, rfl, rfl, by decide +kernel, rfl, by decide +kernel, by decide +kernel⟩
theorem ok_law_behind (F : Fun G.K "_law_behind" "_law_behind" s_law_behind f fd) (bn : Bn mg)  : FnD G P w mg base 1 f fd ["row", "later"] 0 sBehind := by
  refine FnD.more (fnd_of F sc_law_behind (fun cdv A outer s H E hr hg => have xk := xk_def (E := E) hr hg; (ds_one (ds_ret (de_ty (c_tuple xk.K) bn.tuple (da_cons (de_comp (own := [("thing", 2)]) xk sc_law_behind.nd (di_seq xk.K (dv 0)) (blkOk_by (N := ["row", "later", "thing"]) (sc := defScope s_law_behind) (by decide +kernel)) (fun s H C cl fp => (dg_name (i := 2) sc_law_behind.nd rfl (Or.inl rfl))) (fun s H C cl fp => dts_nil) (fun s H C cl fp => (de_ix (Xk.blk xk _ _ _ _ _).K (dv 1) (dv 2) (fun _ _ => rfl))) (by simp)) da_nil))))) ?_) (by decide)
  rintro ds R ex hl ⟨n, row, later, rfl, hl2, hv, hv2, hr⟩
  refine ⟨_, rfl, ?_⟩
  refine compL_of D.int (fun i => .int (atR later i)) (fun i hi K hK => ?_) ?_
  · exact ⟨_, rfl, _, rfl, _, (atR_in (hv i hi).1 (by rw [hl2]; exact (hv i hi).2) hv2).1, hK⟩
  · rw [List.nil_append]
    refine nilT ?_
    have e : (.tup (row.map fun i => D.int (atR later i)) : D) = rowD (row.map (atR later)) := by unfold rowD; rw [List.map_map]; rfl
    rw [e]
    exact hr
end
end Pg
set_option Elab.async false
set_option linter.all false
set_option maxRecDepth 100000
set_option maxHeartbeats 2100000
namespace Kn
open PySem L2 RZ
section
variable {G : Gd} {E : XK} {X : Cx} {σ : List (Option V)} {H H' : Hp} {k : Nat}
def d2Pop0 (i : Nat) : DT2 := fun ex env Q => ∃ a ds y, env[i]? = some (.own a (ds ++ [y])) ∧ Q y (env.set i (.own a ds))
theorem d2_pop0 {i : Nat} {x : Str} {p apos cpos : Pos} (hN : X.N[i]? = some x) (hv : Vis X.env.scope x := by first | exact Or.inl rfl | exact Or.inr (Or.inl rfl) | exact Or.inr (Or.inr rfl)) (hd : (x == ("__debug__" : Str)) = false := by decide) (hcd : (x == ("__classdict__" : Str)) = false := by decide)
    (hbase : attributeBase (.Name x p) "pop" X.env (eval (.Name x p) X.env) = eval (.Name x p) X.env := by rfl)
    (hline : (apos.endLine == cpos.line) = true := by rfl) :
    DE2 G E X 0 (.Call (.Attribute (.Name x p) "pop" apos) [] [] cpos) (d2Pop0 i) :=
  imp (pe_bm0 PySem.F.plainAttrs_list PySem.F.slot_list_pop PySem.F.type_list_pop mt_pop (pe_var (i := i) hN hv hd hcd) hbase hline) fun σ H Q' h => by
    obtain ⟨W, hn, Q, ⟨a, ds, y, hei, hq⟩, kk⟩ := h
    obtain ⟨xs, hsi, h0, ha, hl, hds⟩ := lift_own hei
    have hlen := hds.length
    rw [List.length_append, List.length_singleton] at hlen
    obtain ⟨v, hv1, hdv⟩ := hds.get (i := ds.length) (d := y) (by rw [List.getElem?_append_right (Nat.le_refl _), Nat.sub_self]; rfl)
    have e1 : (ds ++ [y]).eraseIdx ds.length = ds := by
      rw [List.eraseIdx_eq_take_drop_succ, List.take_left' rfl, List.drop_of_length_le (by simp), List.append_nil]
    have e2 : xs.eraseIdx ds.length = xs.dropLast := by
      rw [List.eraseIdx_eq_take_drop_succ, List.drop_of_length_le (by omega), List.append_nil, List.dropLast_eq_take]
      congr 1
      omega
    have hds2 : DenL G W.XB H ds xs.dropLast := by
      have z := hds.eraseIdx ds.length
      rw [e1, e2] at z
      exact z
    have kp := mut_keep (o1 := .lst xs.dropLast) W hei rfl hsi
    obtain ⟨W', l1, l2, l3⟩ := wd_mut (o1 := .lst xs.dropLast) (s1 := .own a ds) W hei rfl hsi rfl ⟨_, rfl, h0, upd_same, by rw [List.length_dropLast]; omega, DenL.keep kp (fun b hb => .inl hb) _ _ hds2⟩
    refine ⟨.ref a, hsi, .inl ⟨rfl, xs, SqL.of ha⟩, a, xs, v, rfl, rfl, ha, by rw [← hlen]; exact hv1, ?_⟩
    exact kk v _ y W' (l1.more (by omega)) (Den.keep kp (fun b hb => .inl (pop_xb W' l2 hei hsi l1.B b hb)) y v hdv) (by rw [l2]; exact hq)
end
end Kn
set_option Elab.async false
set_option linter.all false
set_option maxRecDepth 100000
set_option maxHeartbeats 2100000
namespace Kn
open PySem L2 RZ
section
variable {G : Gd} {E : XK} {X : Cx} {σ : List (Option V)} {H H' : Hp} {k : Nat}
def bOwn (i : Nat) : DB := fun ex env Q => ∃ a ds, env[i]? = some (.own a ds) ∧ Q (!ds.isEmpty)
theorem dt_own {i : Nat} {x : Str} {p : Pos} (hN : X.N[i]? = some x) (hv : Vis X.env.scope x := by first | exact Or.inl rfl | exact Or.inr (Or.inl rfl) | exact Or.inr (Or.inr rfl)) (hd : (x == ("__debug__" : Str)) = false := by decide) (hcd : (x == ("__classdict__" : Str)) = false := by decide) :
    DPt G E X 0 (.Name x p) (bOwn i) := impT (pt_truth (pe_var (i := i) hN hv hd hcd) (by intro _; rfl)) fun σ H Q' h => by
  obtain ⟨W, hn, Q, ⟨a, ds, he, hq⟩, kk⟩ := h
  obtain ⟨xs, hsi, h0, ha, hl, hds⟩ := lift_own he
  have e : xs.isEmpty = ds.isEmpty := by
    have := hds.length
    cases xs <;> cases ds <;> simp_all
  refine ⟨.ref a, hsi, !xs.isEmpty, ?_, kk _ H (Step.refl W) (by rw [e]; exact hq)⟩
  exact .inl ⟨xs, SqL.of ha, rfl⟩
end
end Kn
set_option Elab.async false
set_option linter.all false
set_option maxRecDepth 100000
set_option maxHeartbeats 3200000
namespace Kn
open PySem PySem.Spec PyProof.Rows L2 RZ
theorem nd_sub {α : Type} [BEq α] [LawfulBEq α] : ∀ {l m : List α}, l.Nodup → (∀ x ∈ l, x ∈ m) → l.length ≤ m.length
  | [], _, _, _ =>
        Nat.zero_le _
  | x :: l, m, nd, sub => by
    obtain ⟨h1, h2⟩ := List.nodup_cons.mp nd
    have hx := sub x List.mem_cons_self
    have z := nd_sub (m := m.erase x) h2 fun y hy => (List.mem_erase_of_ne (fun e => h1 (by rw [← e]; exact hy))).mpr (sub y (List.mem_cons_of_mem _ hy))
    have e := List.length_erase_of_mem hx; have pos := List.length_pos_of_mem hx
    rw [List.length_cons]; omega
section
variable {prog : Program} {w : World} {A :
      Around} {E : Value → Shared → Prop} {s : Shared}
theorem lex_mixed {b : Bool} {Q : Bool → Shared → Prop} {xs : List Int} {us : List Value} (hu : IntsAre us xs) : ∀ {ys : List Int} {vs : List Value} {i : Nat}, IntsAre vs ys → Q (lexL xs ys) s → PySem.W.KatLex prog w A b (decide (us.length < vs.length)) Q (us.zip vs) i s := by
  induction hu with
  | nil =>
    intro ys vs i hv hq
    cases hv with
    | nil => exact PySem.W.kat_nil hq
    | cons n t r => exact PySem.W.kat_nil (by rw [decide_eq_true (by simp)]; exact hq)
  | cons x t ru ih =>
    intro ys vs i hv hq
    cases hv with
    | nil => exact PySem.W.kat_nil (by rw [decide_eq_false (by simp)]; exact hq)
    | cons y t' rv =>
      rw [List.length_cons, List.length_cons, show (decide (_ + 1 < _ + 1)) = decide _ from decide_eq_decide.mpr Nat.succ_lt_succ_iff]
      refine PySem.W.kat_cons (SeqAt.EqAt.int_int x t y t' prog w _ _ ?_); refine PySem.W.kat_go (fun e1 => ?_) (fun e1 => ?_)
      · have ex : x = y := by simpa using e1
        subst ex
        refine PySem.W.kat_yes (ih rv ?_)
        unfold lexL at hq
        rw [if_pos rfl] at hq
        exact hq
      · have ex : ¬ x = y := by simpa using e1
        unfold lexL at hq
        rw [if_neg ex] at hq
        exact PySem.W.kat_no (TS.oneLt_ints _ hq)
theorem mixed_cmp {vs : List Value} {k : Value → List Int} (hp : ∀ v ∈ vs, TupV s.heap v (k v)) : SrtO.Cmp prog w A s (tuples' true) (fun p => p.1 ∈ vs) (SrtO.lt2 fun v u => lexL (k v) (k u)) := by
  intro p q hm hm'
  have h1 := hp _ hm
  have h2 := hp _ hm'
  show wpAny (model prog w) A (keyLt' (tuples' true) p.1 q.1) (fun r s' => s' = s ∧ r = lexL (k p.1) (k q.1)) (fun _ _ => False) s
  generalize k p.1 = x at h1 ⊢
  generalize k q.1 = y at h2 ⊢
  obtain ⟨a, o, its, n, e, ho, hc, hd, hi⟩ := h1
  obtain ⟨a', o', its', n', e', ho', hc', hd', hi'⟩ := h2
  rw [e, e']
  refine PySem.W.kat_lt ho hd ho' hd' ?_; rw [List.size_toArray, List.size_toArray]
  exact lex_mixed hi hi' ⟨rfl, rfl⟩
theorem mixed_firsts {h : Heap} {k : Value → List Int} : ∀ {vs : List Value}, (∀ v ∈ vs, TupV h v (k v) ∧ k v ≠ []) → ∃ fs : List Value, PySem.W.KatTups h vs fs ∧ fs.length = vs.length ∧ ∀ f ∈ fs, ∃ x t, f = Value.int x t
  | [], _ => ⟨[], PySem.W.KatTups.nil, rfl, nofun⟩
  | v :: vs, x => by
    obtain ⟨fs, f1, f2, f3⟩ := mixed_firsts fun u hu => x u (List.mem_cons_of_mem _ hu)
    obtain ⟨⟨a, o, its, n, rfl, ho, hc, hdt, hi⟩, hl⟩ := x v List.mem_cons_self
    generalize k (.ref a) = ns at hi hl
    cases hi with
    | nil => exact absurd rfl hl
    | cons i t r =>
      refine ⟨.int i t :: fs, PySem.W.KatTups.cons ho hc hdt (by simp) f1, by rw [List.length_cons, List.length_cons, f2], fun f hf => ?_⟩
      rcases List.mem_cons.mp
            hf with rfl | hf
      · exact ⟨i, t, rfl⟩
      · exact f3 f hf
theorem mixed_sortable {a : Addr} {vs : List Value} {k : Value → List Int} (h0 : 0 < vs.length) (hp : ∀ v ∈ vs, TupV s.heap v (k v) ∧ k v ≠ []) (ha : ∀ o, s.heap.get? a = some o → o.cls ≠ .type "tuple") : SrtO.SortableO prog w A s a vs fun v u => lexL (k v) (k u) := by
  intro h' keep
  have hp' : ∀ v ∈ vs, TupV h' v (k v) ∧ k v ≠ [] := fun v hm => ⟨(hp v hm).1.keeps fun b o e c => keep b o (fun z => by subst z; exact ha o e c) e, (hp v hm).2⟩
  obtain ⟨fs, h1, h2, h3⟩ := mixed_firsts hp'
  refine ⟨tuples' true, fun Q E hq => ?_, mixed_cmp fun v hv => (hp' v hv).1⟩
  refine PySem.W.kat_kind (T := .type "int")
        h1 (by omega) (fun f hm => ?_) (by rfl) ?_
  · obtain ⟨x, t,
        rfl⟩ := h3 f hm
    exact PySem.W.Looks.now
  · have e : (Value.type "int" != Value.type "tuple") = true := by decide
    rw [e]
    exact hq
/-- xs.sort(), xs a new list of rows -/
theorem sort_rows_call {a : Addr} {vs : List Value} {k : Value → List Int} {Q : Value → Shared → Prop} (ho : s.heap.get? a = some (seqObj "list" vs.toArray 0)) (hz : vs.length ≤ sizeLine) (hp : ∀ v ∈ vs, TupV s.heap v (k v) ∧ k v ≠ [])
    (h : ∀ out : List Value, SrtO.Srtd (fun v u => lexL (k v) (k u)) out → SrtO.Stb (fun v u => lexL (k v) (k u)) out vs → Q .none { s with heap := sortedHeap s.heap a vs out.toArray }) :
    wpAny (model prog w) A (call (.builtin
          "list.sort") [.ref a]) Q E s := by
  refine wpAny_call_entry slot_list_sort ⟨_, ho, rfl⟩ entry_list_sort (SrtO.list_sort_ord (swo_lexL k) ho hz (fun h2 => ?_) fun out hs hb => ⟨_, rfl, h out hs hb⟩) (args_list_sort _)
  refine mixed_sortable (by omega) hp fun o e c => ?_
  obtain rfl : seqObj "list" vs.toArray 0 = o := Option.some.inj (ho.symm.trans e); exact absurd (Value.type.inj c) (by decide)
/-- the tail of sorted: a new list of vs, sorted -/
theorem sorted_rows_tail {vs : List Value} {k : Value → List Int} {Q : Value → Shared → Prop} (hz : vs.length ≤ sizeLine) (hp : ∀ v ∈ vs, TupV s.heap v (k v) ∧ k v ≠ [])
    (h : ∀ (h' : Heap) (out : List Value), SrtO.Srtd (fun v u => lexL (k v) (k u)) out → out.Perm vs → (∀ b o, s.heap.get? b = some o → h'.get? b = some o) → (∃ n, h'.get? s.heap.objs.size = some (seqObj "list" out.toArray n)) → Q (.ref s.heap.objs.size) { s with heap := h' }) :
    wpAny (model prog w) A (newList vs) (fun l s' => wpAny (model prog w) A (holding [l] (call (.builtin "list.sort") [l])) (fun _ s'' => Q l s'') E s') E s := by
  refine wpAny_newList ?_ hz
  have hoL : (s.heap.push (seqObj "list" vs.toArray 0)).get? s.heap.objs.size = some (seqObj "list" vs.toArray 0) := Heap.get?_push_size _ rfl
  have kp : ∀ b o, s.heap.get? b = some o → (s.heap.push (seqObj "list" vs.toArray 0)).get? b = some o := fun b o e => Heap.get?_push_of_some _ e
  refine wpAny_holding (sort_rows_call (s := { s with heap := s.heap.push (seqObj "list" vs.toArray 0) }) hoL hz (fun v hv => ⟨(hp v hv).1.keeps fun b o e _ => kp b o e, (hp v hv).2⟩) fun out hs hb => ?_)
  refine h _ out hs hb.perm (fun b o e => ?_) (sortedHeap_at (vs := vs) (out := out.toArray) hoL)
  have hb2 : b < s.heap.objs.size := Heap.lt_size e
  rw [sortedHeap_old (Nat.ne_of_lt hb2) (by rw [size_push']; exact Nat.lt_succ_of_lt hb2)]
  exact kp b o e
end
end Kn
set_option Elab.async false
set_option linter.all false
set_option maxRecDepth 100000
set_option maxHeartbeats 3200000
namespace Kn
open PySem PySem.Spec PyProof.Rows L2 RZ
/-- few unlike rows -/
def FewR (rs : List (List Int)) : Prop := ∃ U : List (List Int), U.length < 63 ∧ ∀ r ∈ rs, r ∈ U
/-- what the set holds of the first i -/
structure GotR (ks : List (Addr × List Int)) (i : Nat) (L : List (Addr × List Int)) : Prop where
  sub : ∀ p ∈ L, p ∈ ks
  all : ∀ p ∈ ks.take
        i, p.2 ∈ L.map (·.2)
theorem FewR.len {ks L : List (Addr × List Int)} (hf : FewR (ks.map (·.2))) (sub : ∀ p ∈ L, p ∈ ks) (nd : (L.map (·.2)).Nodup) : L.length + 1 < 64 := by
  obtain ⟨U, hU, hm⟩ := hf
  have z := nd_sub nd fun r hr => by
    obtain ⟨p, hp, rfl⟩ := List.mem_map.mp hr
    exact hm _ (List.mem_map.mpr ⟨p, sub p hp, rfl⟩)
  rw [List.length_map] at z
  omega
theorem take_one {α : Type} {l : List α} {i : Nat} {x : α} (h : l[i]? = some x) : l.take (i + 1) = l.take i ++ [x] := by
  rw [List.take_succ, h]; rfl
section
variable {P : Program} {w : World} {A : Around}
      {E : Value → Shared → Prop} {s : Shared}
/-- one turn more -/
theorem GotR.step {ks L L' : List (Addr × List Int)} {i : Nat} {p : Addr × List Int} (g : GotR ks i L) (hp : ks[i]? = some p) (c1 : p.2 ∈ L.map (·.2) → L' = L) (c2 : p.2 ∉ L.map (·.2) → L'.Perm ((p.1, p.2) :: L)) : GotR ks (i + 1) L' := by
  have pk : p ∈ ks := List.mem_of_getElem? hp
  have key : (∀ q ∈ L', q ∈ L ∨ q = p) ∧ (∀ r, r ∈ L.map (·.2) ∨ r = p.2 → r ∈ L'.map (·.2)) := by
    by_cases c : p.2 ∈ L.map (·.2)
    · rw [c1 c]
      exact ⟨fun _ h => .inl h, fun _ h => h.elim id fun e => e ▸ c⟩
    · have pm := c2 c
      constructor
      · intro q hq
        exact (List.mem_cons.mp (pm.mem_iff.mp hq)).symm
      · intro r hr
        rw [(pm.map (·.2)).mem_iff, List.map_cons, List.mem_cons]
        exact hr.symm
  constructor
  · intro q hq
    exact (key.1 q hq).elim (g.sub q) fun e => e ▸ pk
  · intro q hq
    rw [take_one hp, List.mem_append, List.mem_singleton] at hq
    exact key.2 _ (hq.imp (g.all q) fun e => by rw [e])
/-- the loop of set.update, over whatever stands between its turns -/
theorem upd_loop {I S : Addr} {n : Nat} {R : Result → Shared → Prop} (inv : Nat → Shared → Prop)
    (more : ∀ i s, i < n → inv i s → wpAny (model P w) A.in1 (pyNext (.ref I)) (fun r s1 => ∃ v, r = some v ∧ wpAny (model P w) A.in1 (setAdd S v) (fun _ s2 => inv (i + 1) s2) (fun e s2 => R (.error e) s2) s1) (fun e s1 => R (.error e) s1) s)
    (stop : ∀ s, inv n s → wpAny (model P w) A.in1 (pyNext (.ref I)) (fun r s1 => r = none ∧ R (.ok (.ret .none)) s1) (fun e s1 => R (.error e) s1) s) :
    ∀ (m i : Nat) (s : Shared), i + m = n → inv i s → codeAny (model P w) A (.builtin "set.update.loop" ⟨[.ref S, .ref I], []⟩) R s := by
  intro m
  induction m with
  | zero =>
    intro i s e h
    obtain rfl : i = n := e
    apply codeAny_builtin F.entry_set_update_loop; rw [Around.under_plainId F.plain_set_update_loop _]
    refine wpAny_bind (wpAny_mono (stop s h) ?_ fun _ _ z => z)
    rintro _ s1 ⟨rfl, hR⟩
    exact wpAny_pure hR
  | succ m ih =>
    intro i s e h
    apply codeAny_builtin F.entry_set_update_loop; rw [Around.under_plainId F.plain_set_update_loop _]
    refine wpAny_bind (wpAny_mono (more i s (by omega) h) ?_ fun _ _ z => z)
    rintro _ s1 ⟨v, rfl, hv⟩
    refine wpAny_bind (wpAny_holding (wpAny_mono hv ?_ fun _ _ z => z))
    intro _ s2 h2
    exact wpAny_pure ⟨plainId_quiet F.plain_set_update_loop _, ih (i + 1) s2 (by omega) h2⟩
/-- rows put into a set one by one -/
theorem upd_rows {I : Addr} {fp wr : List Addr} {G : Array GenState → Array GenState → Prop} {Pv : Nat → Value → Prop} {St : Nat → Shared → Prop} {R : Result → Shared → Prop} {S : Addr} {ks : List (Addr × List Int)} {h0 : Heap} {s : Shared} {es : Array (Int × Value)} {ep : Nat} {t : SetTable}
    (W : WalksS P w A.in1 I fp wr G ks.length Pv St) (hSf : S ∉ fp) (hf : FewR (ks.map (·.2))) (hval : ∀ i v, Pv i v → ∃ p, ks[i]? = some p ∧ v = .ref p.1)
    (hk : ∀ p ∈ ks, IsT P w h0 p.2 p.1) (hS0 : h0.get? S = none) (hw0 : ∀ b ∈ wr, h0.get? b = none) (hu : A.in1.units < cLine) (hst : St 0 s) (kept : ∀ b o, h0.get? b = some o → s.heap.get? b = some o) (none0 : SetTR P w s.heap S [] es ep t)
    (fin : ∀ s' L es ep t, Moved (S :: wr) G s s' → SetTR P w s'.heap S L es ep t → GotR ks ks.length L → (∀ b o, h0.get? b = some o → s'.heap.get? b = some o) → R (.ok (.ret .none)) s') :
    codeAny (model P w) A (.builtin "set.update.loop"
          ⟨[.ref S, .ref I], []⟩) R s := by
  have out : S ∉ wr := fun h => hSf (W.sub S h)
  have wide : ∀ {a b : Shared}, Moved wr G a b → Moved (S :: wr) G a b := fun m => m.mono fun c hc => List.mem_cons_of_mem S hc
  -- what a step of the iterator leaves
  have after : ∀ {a b : Shared} {i : Nat} {L : List (Addr × List Int)} {es : Array (Int × Value)} {ep : Nat} {t : SetTable}, Moved wr G a b → (∀ c o, h0.get? c = some o → a.heap.get? c = some o) → SetTR P w a.heap S L es ep t → GotR ks i L → (∀ c o, h0.get? c = some o → b.heap.get? c = some o) ∧ SetTR P w b.heap S L es ep t := by
    intro a b i L es ep t m ka T g
    have kb : ∀ c o, h0.get? c = some o → b.heap.get? c = some o := by
      intro c o e
      refine m.heap c o ?_ (ka c o e)
      intro z
      rw [hw0 c z] at e
      cases e
    exact ⟨kb, T.keep (fun o => m.heap S o out) fun p hp => isT_keep (hk p (g.sub p hp)) kb⟩
  refine upd_loop (fun i s' => St i s' ∧ (∀ b o, h0.get? b = some o → s'.heap.get? b = some o) ∧ Moved (S :: wr) G s s' ∧ ∃ L es ep t, SetTR P w s'.heap S L es ep t ∧ GotR ks i L) ?_ ?_ ks.length 0 s (Nat.zero_add _) ⟨hst, kept, ?_, [], es, ep, t, none0, ?_⟩
  · rintro i a lt ⟨sa, ka, ma, L, es, ep, t, T, g⟩
    refine W.item i a _ _ lt sa ?_
    intro v b hv sb m
    obtain ⟨p, hp, rfl⟩ := hval i v hv
    obtain ⟨kb, Tb⟩ := after m ka T g
    have ip : IsT P w b.heap p.2 p.1 := isT_keep (hk p (List.mem_of_getElem? hp)) kb
    refine ⟨_, rfl, ?_⟩
    unfold setAdd
    refine wpAny_holding (wpAny_bind (wpAny_pyHash_tuple hu ip (add_at (s := { b with toks := b.toks + (p.2.length + 1) }) Tb ip hu (hf.len g.sub T.nd) ?_)))
    intro _ h' L' es' ep' t' same T' c1 c2
    have else_ : ∀ c, c ≠ S → ∀ o, b.heap.get? c = some o → h'.get? c = some o := fun c hc o e => (same.2 c hc).trans e
    refine ⟨W.frame _ b _ _ sb (Nat.le_add_right _ _) fun c hc => else_ c fun z => hSf (z ▸ hc), fun c o e => else_ c (fun z => ?_) o (kb c o e), ?_, L', es', ep', t', T', g.step hp c1 c2⟩
    · rw [z, hS0] at e
      cases e
    · refine Moved.trans W.gtrans ma ((wide m).then_heap (Nat.le_add_right _ _) ?_)
      intro c o hc
      exact else_ c (fun z => hc (z ▸ List.mem_cons_self)) o
  · rintro a ⟨sa, ka, ma, L, es, ep, t, T, g⟩
    refine W.done a _ _ sa ?_
    intro b m
    obtain ⟨kb, Tb⟩ := after m ka T g
    exact ⟨rfl, fin b L es ep t (Moved.trans W.gtrans ma (wide m)) Tb g kb⟩
  · exact ⟨fun _ _ _ e => e, W.grefl _, rfl, rfl, Nat.le_refl _⟩
  · exact ⟨nofun, fun p hp => by simp at hp⟩
/-- set(x): the set is made, then filled by its own __init__ -/
theorem set_call {x : Value} {Q : Value → Shared → Prop} (hu : A.units + 3 < cLine)
    (go : ∀ S, S = s.heap.objs.size → wpAny (model P w) A.in1.in1 (Builtin.«set.__init__» ⟨[.ref S, x], []⟩) (fun fin s' => match fin with
      | .done f => wants (fun r s2 => r = .none ∧ Q (.ref S) s2) E (.ok f) s'
      | .again c => c.quiet = true ∧ codeAny (model P w) A.in1 c (wants (fun r s2 => r = .none ∧ Q (.ref S) s2) E) s') (fun e s' => wants (fun r s2 => r = .none ∧ Q (.ref S) s2) E (.error e) s') { s with heap := s.heap.push (newSet w) }) :
    wpAny (model P w) A (call (.type "set") [x]) Q E s := by
  have at_ : (s.heap.push (newSet w)).get? s.heap.objs.size = some (newSet w) := Heap.get?_push_size _ rfl
  have ty : Shared.TypeIs { s with heap := s.heap.push (newSet w) } (.ref s.heap.objs.size) "set" := ⟨_, at_, rfl⟩
  have m := F.called_set.mro; have k1 := F.called_set.made; have k2 := F.called_set.sub; have k3 := F.called_set.notType; have k4 := F.called_set.canCreate; have k5 := F.typeCall_set_1 x
  have k6 := F.called_set.init.lookup; have k7 := F.called_set.init.bind (.ref s.heap.objs.size)
  obtain ⟨c, tl, m⟩ := m
  apply wpAny_call; apply codeAny_of_tree
  show wpAny _ _ (callAny (.type "set") _) _ _ _; refine wpAny_pure ⟨Code.quiet_builtin _ (by decide +kernel), ?_⟩
  apply codeAny_builtin F.entry_type_call
  rw [Around.under_plain (weight_type_call_type "set" [x] []) rfl]
  repeat (any_goals (first
        | assumption | wp_step))
  refine codeAny_mono (code_set_led1 x (E := E) (Q₁ := fun obj s1 => obj = .ref s.heap.objs.size ∧ s1 = { s with heap := s.heap.push (newSet w) }) ⟨rfl, rfl⟩) ?_
  rintro (e | f) s1 hr
  · exact hr
  · cases f <;> first | exact hr.elim | skip
    obtain ⟨rfl, rfl⟩ := hr
    repeat (any_goals (first
          | assumption | wp_step))
    refine codeAny_mono (codeAny_call_builtin F.called_set.init.plain F.entry_set_init (check_set_init_1 ty (go _ rfl))) ?_
    rintro (e | f) s2 hr
    · exact hr
    · cases f <;> first | exact hr.elim | skip
      obtain ⟨rfl, hq⟩ := hr
      repeat (any_goals (first
            | assumption | wp_step))
theorem set_of_rows {l : Addr} {items : Array Value} (ks : List (Addr × List Int)) {Q : Value → Shared → Prop} (hh : A.handled = none) (hl : s.heap.IsList l items) (hit : items.toList = ks.map fun p => Value.ref p.1)
    (hk : ∀ p ∈ ks, IsT P w s.heap p.2 p.1) (hf : FewR (ks.map (·.2))) (hu : A.units + 3 < cLine)
    (h : ∀ (h' : Heap) (tk : Nat) L es ep t, SetTR P w h' s.heap.objs.size L es ep t → GotR ks ks.length L → (∀ b o, s.heap.get? b = some o → h'.get? b = some o) → Q (.ref s.heap.objs.size) { s with heap := h', toks := tk }) :
    wpAny (model P w) A (call (.type
          "set") [.ref l]) Q E s := by
  have len : items.size = ks.length := by simpa using congrArg List.length hit
  have fresh : ∀ b, s.heap.objs.size ≤ b → s.heap.get? b = none := fun b hb => Option.eq_none_iff_forall_ne_some.mpr fun o e => Nat.not_lt.mpr hb (Heap.lt_size e)
  have lt : l < s.heap.objs.size := by
    obtain ⟨o, e, -⟩ := hl
    exact Heap.lt_size e
  refine set_call hu fun S eS => ?_
  subst eS
  have made : (s.heap.push (newSet w)).get? s.heap.objs.size = some (newSet w) := Heap.get?_push_size _ rfl
  obtain ⟨⟨_, dd, dt, sl⟩, there, ec, nl, ed⟩ := hl
  simp only at ec ed
  subst ec ed
  have there2 : (s.heap.push (newSet w)).get? l = some { cls := .type "list", dict := dd, data := .seq items nl, slots := sl } := Heap.get?_push_of_some _ there
  have isL : (s.heap.push (newSet w)).IsList l items := ⟨_, there2, rfl, nl, rfl⟩
  have q1 := F.sub_list_set; have q2 := F.sub_list_frozenset
  have q3 : (Value.type "list" == Value.type "dict") = false := by decide
  unfold Builtin.«set.__init__» noKeywords Builtin.Frozenset.updateFrom; generalize pi : pyIter = it
  wp_walk
  subst pi
  refine wpAny_pyIter_list isL (wpAny_bind (wpAny_runValue ?_))
  have nl1 : l ≠ (s.heap.push (newSet w)).objs.size := by rw [Heap.size_push]; exact Nat.ne_of_lt (Nat.lt_succ_of_lt lt)
  have off : s.heap.objs.size ∉ [(s.heap.push (newSet w)).objs.size, l] := by
    rw [Heap.size_push, List.mem_cons, List.mem_singleton]
    exact not_or.mpr ⟨Nat.ne_of_lt (Nat.lt_succ_self _), Nat.ne_of_gt lt⟩
  have vals : ∀ (i : Nat) (v : Value), items[i]? = some v → ∃ p, ks[i]? = some p ∧ v = .ref p.1 := by
    intro i v e
    have e2 : items.toList[i]? = some v := by rw [Array.getElem?_toList]; exact e
    rw [hit, List.getElem?_map, Option.map_eq_some_iff] at e2
    exact e2.imp fun _ z => ⟨z.1, z.2.symm⟩
  have walk := (Walks.list (w := w) (prog := P) (A := A.in1.in1.in1) (by simp [hh]) _ l nl1 items).toS
  rw [len] at walk
  refine upd_rows walk off hf vals hk (fresh _ (Nat.le_refl _)) ?_ hu ⟨⟨_, Heap.get?_push_size _ rfl, rfl, rfl⟩, isL.push _⟩ ?_ (setTR_fresh (Heap.get?_push_of_some _ made)) ?_
  · intro b hb
    rw [List.mem_singleton.mp hb, Heap.size_push]; exact fresh _ (Nat.le_succ _)
  · exact fun b o e => Heap.get?_push_of_some _ (Heap.get?_push_of_some _ e)
  · intro s' L es ep t mv T g kp
    have z := h s'.heap s'.toks L es ep t T g kp
    have e : s' = { s with heap := s'.heap, toks := s'.toks } := mv.eq_with
    rw [← e] at z
    exact wpAny_pure (wpAny_pure ⟨rfl, z⟩)
theorem isT_tupV {h : Heap} {k : List Int} {b : Addr} (x : IsT P w h k b) : TupV h (.ref b) k := by
  obtain ⟨o, items, n, ho, hc, hd, hi⟩ := x; exact ⟨b, o, items.toList, n, rfl, ho, hc, by rw [Array.toArray_toList]; exact hd, ints_of_items hi⟩
open Classical in
/-- the row of an address among some -/
noncomputable def rowAt (L : List (Addr × List Int)) (v : Value) : List Int := if h : ∃ q ∈ L, v = .ref q.1 then h.choose.2 else []
theorem rowAt_of {h : Heap} {L : List (Addr × List Int)} (tup : ∀ p ∈ L, IsT P w h p.2 p.1) {q : Addr × List Int} (hq : q ∈ L) : rowAt L (.ref q.1) = q.2 := by
  unfold rowAt
  have ex : ∃ r ∈ L, Value.ref q.1 = .ref r.1 := ⟨q, hq, rfl⟩
  rw [dif_pos ex]
  obtain ⟨h1, h2⟩ := ex.choose_spec
  have a1 := tup _ h1
  have e : q.1 = ex.choose.1 := by injection h2
  rw [← e] at a1
  exact a1.inj (tup q hq)
/-- values that are among some addresses, as these -/
theorem refs_rows {L : List (Addr × List Int)} : ∀ {vs : List Value}, (∀ v ∈ vs, ∃ q ∈ L, v = Value.ref q.1) → ∃ L1 : List (Addr × List Int), vs = L1.map (fun q => Value.ref q.1) ∧ ∀ q ∈ L1, q ∈ L
  | [], _ => ⟨[], rfl, nofun⟩
  | v :: vs, hv => by
    obtain ⟨q, hq, e⟩ := hv v List.mem_cons_self; obtain ⟨L1, e1, hs⟩ := refs_rows fun u hu => hv u (List.mem_cons_of_mem _ hu)
    refine ⟨q :: L1, by rw [List.map_cons,
          e, e1], fun r hr => ?_⟩
    rcases List.mem_cons.mp
          hr with z | z
    · rw [z]; exact hq
    · exact hs r z
theorem perm_rows {h : Heap} {L L1 : List (Addr × List Int)} (tup : ∀ p ∈ L, IsT P w h p.2 p.1) (nd : (L.map (·.2)).Nodup) (sub : ∀ q ∈ L1, q ∈ L) (pm : (L1.map (fun q => Value.ref q.1)).Perm (L.map fun q => Value.ref q.1)) : L1.Perm L := by
  have one : ∀ q ∈ L, ∀ r ∈ L, q.1 =
        r.1 → q = r := fun q hq r hr e => by
    have a1 := tup q hq
    have a2 := tup r hr
    rw [e] at a1
    exact Prod.ext e (a1.inj a2)
  have nL : L.Nodup := nodup_of_map nd
  have nref : (L.map fun q =>
        Value.ref q.1).Nodup := by
    refine List.pairwise_map.mpr (List.Pairwise.imp_of_mem
          (fun {q r} hq hr hne e => ?_) nL)
    injection e with e
    exact hne (one q hq r hr e)
  have n1 : L1.Nodup := nodup_of_map (pm.nodup_iff.mpr nref)
  refine (List.perm_ext_iff_of_nodup n1 nL).mpr fun q => ⟨sub q, fun hq => ?_⟩
  have hm : Value.ref q.1 ∈ L1.map (fun q => Value.ref q.1) := pm.mem_iff.mpr (List.mem_map.mpr ⟨q, hq, rfl⟩)
  obtain ⟨r, hr, e⟩ :=
        List.mem_map.mp hm
  injection e with e
  rw [← one r (sub r hr) q hq e]
  exact hr
/-- collected references to unlike rows, sorted -/
theorem sorted_refs {L : List (Addr × List Int)} {vs : List Value} {Q : Value → Shared → Prop} (hz : vs.length ≤ sizeLine) (tup : ∀ p ∈ L, IsT P w s.heap p.2 p.1) (nd : (L.map (·.2)).Nodup) (hne : ∀ p ∈ L, p.2 ≠ []) (pm : vs.Perm (L.map fun q => Value.ref q.1))
    (h : ∀ (h' : Heap) (L' : List (Addr × List Int)), L'.Perm L → L'.Pairwise (fun q r => lexL r.2 q.2 = false) → (∀ b o, s.heap.get? b = some o → h'.get? b = some o) → (∃ n, h'.get? s.heap.objs.size = some (seqObj "list" (L'.map fun q => Value.ref q.1).toArray n)) → Q (.ref s.heap.objs.size) { s with heap := h' }) :
    wpAny (model P w) A (newList vs) (fun l s' => wpAny (model P w) A (holding [l] (call (.builtin "list.sort") [l])) (fun _ s'' => Q l s'') E s') E s := by
  refine sorted_rows_tail (k := rowAt L) hz (fun v hv => ?_) fun h' out hs hp kp hn => ?_
  · obtain ⟨q, hq, rfl⟩ := List.mem_map.mp (pm.mem_iff.mp hv)
    rw [rowAt_of tup hq]
    exact ⟨isT_tupV (tup q hq), hne q hq⟩
  · obtain ⟨L', e', sub⟩ := refs_rows (L := L) (vs := out) fun v hv => by
      obtain ⟨q, hq, e⟩ := List.mem_map.mp (pm.mem_iff.mp (hp.mem_iff.mp hv))
      exact ⟨q, hq, e.symm⟩
    have pL : L'.Perm L := perm_rows tup nd sub (by rw [← e']; exact hp.trans pm)
    subst e'
    refine h h' L' pL ?_ kp hn
    have hs' := List.pairwise_map.mp hs
    exact hs'.imp_of_mem fun {q r} hq hr hle => by
      have z : lexL (rowAt L (.ref r.1)) (rowAt L (.ref q.1)) = false := hle
      rw [rowAt_of tup (sub q hq), rowAt_of tup (sub r hr)] at z
      exact z
theorem sorted_rowset {a : Addr} {L : List (Addr × List Int)} {es : Array (Int × Value)} {ep : Nat} {t : SetTable} {Q : Value → Shared → Prop} (R : SetTR P w s.heap a L es ep t) (hh : A.handled = none) (hne : ∀ p ∈ L, p.2 ≠ [])
    (hQ : ∀ (s' : Shared) (p : Addr) (L' : List (Addr × List Int)), (∀ b o, s.heap.get? b = some o → s'.heap.get? b = some o) → s'.gens = s.gens → s'.os = s.os → s.heap.objs.size ≤ p →
      (∃ c, s'.heap.get? p = some (seqObj "list" (L'.map (fun q => Value.ref q.1)).toArray c)) → L'.Perm L → L'.Pairwise (fun q r => lexL r.2 q.2 = false) → Q (.ref p) s') :
    wpAny (model P w) A (call (.builtin
          "sorted") [.ref a]) Q E s := by
  obtain ⟨o, there, exact_, data⟩ := R.ob
  have size := R.size; have few := R.few
  have names : es.toList.map (·.2) = L.map fun q => Value.ref q.1 := by
    have rows := R.rows
    unfold rowsOf at rows
    rw [rows, List.map_map]
    exact List.map_congr_left fun _ _ => rfl
  apply Calls.call_function_entry kind_sorted plain_sorted entry_sorted (args_sorted1 _)
  unfold Builtin.«sorted»
  refine wpAny_bind (m := checkCount "sorted" 1 1 _) (wpAny_pure (wpAny_bind (collect_set (A := A.in1) hh ⟨o, there, exact_.1, data⟩ R.fits (by unfold scanBound; omega) R.tab.ris R.led ?_)))
  intro s1 vs kept big gens os pm
  rw [names] at pm
  have short : vs.length < 64 := by
    have := pm.length_eq
    rw [List.length_map] at this
    omega
  refine wpAny_bind (wpAny_mono (sorted_refs (A := A.in1) (E := fun _ _ => False) (s := s1) (P := P) (w := w) (L := L) (Q := fun l s' => Q l s') (by rw [sizeLine_eq]; omega) (fun p hp => isT_keep (R.tup p hp) kept) R.nd hne pm ?_) ?_ fun _ _ z => z.elim)
  · intro h' L' pL pw kp new
    exact hQ { s1 with heap := h' } _ L' (fun b u e => kp b u (kept b u e)) gens os big new pL pw
  · intro l s' hs
    exact wpAny_bind (wpAny_mono hs (fun _ s'' h => wpAny_pure ⟨_, rfl, h⟩) fun _ _ z => z.elim)
/-- a dict's keys, gathered -/
theorem src_raw {d : Addr} {es : Array DictEntry} {ep : Nat} (lo : (d == sysModules) = false) : PySem.W.KdlSrc P w "dict" d d es.size (fun i v => ∃ hi : i < es.size, v = es[i].key) (fun h => h.DictRaw d es ep) where
  type := fun _ hm => hm.typeIs
  there := fun _ hm => ⟨let ⟨_, ho, _⟩ := hm; Heap.lt_size ho, let ⟨_, ho, _⟩ := hm; Heap.lt_size ho⟩
  keep := fun _ _ hm hk => hm.at
        fun o e => hk d (.inl rfl) o e
  notList := by decide
  notTuple := by decide
  hint := fun _ _ _ _ hm hq => PySem.W.kdl_hint_dict hm.typeIs hq
  iter := fun _ _ hh hm => ⟨_, _, (fun _ _ hq => wpAny_pyIter_dict_raw lo hm hq), Walks.rawKeys hh _ d (let ⟨_, ho, _⟩ := hm; Nat.ne_of_lt (Heap.lt_size ho)) es ep, ⟨⟨_, Heap.get?_push_size _ rfl, rfl, rfl⟩, hm.at fun o e => Heap.get?_push_of_some _ e⟩⟩
theorem sorted_rowdict {a : Addr} {xs : List (List Int × Addr × Value)} {Q : Value → Shared → Prop} (lo : (a == sysModules) = false) (hd : s.heap.DictOfH (tkd P w) a xs) (hz : xs.length ≤ sizeLine) (hh : A.handled = none) (hne : ∀ p ∈ xs, p.1 ≠ [])
    (hQ : ∀ (h1 h' : Heap) (tk : Nat) (p : Addr) (L' : List (Addr × List Int)), (∀ b o, s.heap.get? b = some o → h1.get? b = some o) → (∀ b o, h1.get? b = some o → h'.get? b = some o) → h1.objs.size ≤ p →
      (∃ c, h'.get? p = some (seqObj "list" (L'.map (fun q => Value.ref q.1)).toArray c)) → L'.Perm (xs.map fun x => (x.2.1, x.1)) → L'.Pairwise (fun q r => lexL r.2 q.2 = false) → Q (.ref p) { s with heap := h', toks := tk }) :
    wpAny (model P w) A (call (.builtin
          "sorted") [.ref a]) Q E s := by
  obtain ⟨o, es, ep, ho, hc, hdat, he, his, hnd⟩ := id hd
  have hs : es.size = xs.length := size_of_entries he
  refine Calls.call_function_entry kind_sorted plain_sorted entry_sorted (args_sorted1 _) ?_; unfold Builtin.«sorted»
  refine wpAny_bind (m := checkCount "sorted" 1 1 _) (wpAny_pure ?_); refine wpAny_bind (PySem.W.kdu_collect (A := A.in1) (src_raw (P := P) (w := w) (es := es) (ep := ep) lo) hh ⟨o, ho, hc, hdat⟩ (by rw [hs]; exact hz) fun h' tk acc hk hacc => ?_)
  have hacl : acc.toList = (xs.map fun x => (x.2.1, x.1)).map fun q => Value.ref q.1 := by
    refine List.ext_getElem? fun i => ?_
    rw [List.map_map, List.getElem?_map]
    by_cases hi : i < es.size
    · have h1 : i < acc.size := by rw [hacc.1]; exact hi
      obtain ⟨_, e⟩ := hacc.2 i acc[i] (Array.getElem?_eq_getElem h1)
      have e2 := entry_at he i
      rw [Array.getElem?_eq_getElem hi, List.getElem?_eq_getElem (by omega), Option.map_some] at e2
      have e3 := Option.some.inj e2
      rw [Array.getElem?_toList, Array.getElem?_eq_getElem h1, e, List.getElem?_eq_getElem (by omega : i < xs.length), e3]
      rfl
    · rw [List.getElem?_eq_none (by rw [Array.length_toList, hacc.1]; omega), List.getElem?_eq_none (by omega)]
      rfl
  have hvl : acc.toList.length ≤ sizeLine := by rw [Array.length_toList, hacc.1, hs]; exact hz
  refine wpAny_bind (wpAny_mono (sorted_refs (A := A.in1) (E := fun _ _ => False) (s := { s with heap := h', toks := tk }) (P := P) (w := w) (L := xs.map fun x => (x.2.1, x.1)) (Q := fun l s' => Q l s') hvl (fun p hp => ?_) ?_ (fun p hp => ?_) (by rw [hacl]) fun h2 L' pL pw kp hn => ?_) (fun l s' hs => wpAny_bind (wpAny_mono hs (fun _ s'' h => wpAny_pure ⟨_, rfl, h⟩) fun _ _ z => z.elim)) fun _ _ z => z.elim)
  · obtain ⟨x, hx, rfl⟩ := List.mem_map.mp hp
    exact isT_keep (his x hx) hk
  · rw [List.map_map]; exact hnd
  · obtain ⟨x, hx, rfl⟩ := List.mem_map.mp hp
    exact hne x hx
  · exact hQ h' h2 tk _ L' hk kp (Nat.le_refl _) hn pL pw
end
end Kn
set_option Elab.async false
set_option linter.all false
set_option maxRecDepth 100000
set_option maxHeartbeats 2100000
namespace Kn
open PySem PySem.Spec PyProof.Rows L2 RZ
section
variable {X : Cx} {a : Expr} {te : TE} {p p2 q pos : Pos}
def tSortSetR (K : PySem.W.Frag) (te : TE) : TE := fun σ H Q => te σ H fun x H1 => ∃ (l : Addr) (ks : List (Addr × List Int)), x = V.ref l ∧ SqL K H1 l (ks.map fun p => V.ref p.1) ∧ (∀ p ∈ ks, SqT K H1 p.1 (p.2.map V.int)) ∧ FewR (ks.map (·.2)) ∧ (∀ p ∈ ks, p.2 ≠ []) ∧
  ∀ (L : List (Addr × List Int)) (r : Addr), (∀ p ∈ L, p ∈ ks) → (∀ p ∈ ks, p.2 ∈ L.map (·.2)) → (L.map (·.2)).Nodup → L.Pairwise (fun q r => lexL r.2 q.2 = false) → H1 r = none → Q (.ref r) (upd H1 r (.lst (L.map fun p => V.ref p.1)))
theorem pe_sortSetR (hc : X.calm = true) (hu : X.A.units + 64 < cLine) (hg : Gl X "sorted") (hm : X.mg "sorted" = none) (hg2 : Gl X "set") (hm2 : X.mg "set" = none) (ha : PE X a te)
    (na : starEach [a] X.env = (false, eval a X.env) :: starEach [] X.env := by rfl) : PE X (.Call (.Name "sorted" p) [.Call (.Name "set" p2) [a] [] q] [] pos) (tSortSetR X.K te) := by
  refine ⟨fun pins s σ H Q I h => ?_⟩; refine Call_ (ld_blt I hg hm boot_sorted (callWith_builtin1 (args_cons ?_ rfl) rfl rfl))
  refine Call_ (ld_blt I hg2 hm2 boot_set (callWith_type1 (args_cons (thn (ha.run pins s σ H _ I h) fun v s1 ⟨x, H1, I1, r1, q1⟩ => args_nil ?_) na) na rfl))
  obtain ⟨l, ks, rfl, hq, hk, hf, hne, q1⟩ := q1
  cases r1
  have hd := I1.ok.hd hc
  obtain ⟨its, rv, pl, hz⟩ := I1.list hq
  refine set_of_rows (P := X.prog) (w := X.w) ks hd pl.isList (by simpa using refs_of_vals rv) (fun p hp => I1.isT (hk p hp)) hf (by omega) fun h' tk L es ep t R g k => args_nil ?_
  have I2 : Inv X pins σ H1 { s1 with heap := h', toks := tk } := I1.kept (t' := tk) k
  refine sorted_rowset R hd (fun p hp => hne p (g.sub p hp)) fun s' r L' k2 g2 o2 hr ⟨c2, hg3⟩ pm pw => ?_
  have hfew : L'.length < 64 := by
        rw [pm.length_eq]; exact R.few
  have hlen : (L'.map fun q => V.ref q.1).length ≤
        sizeLine := by rw [List.length_map, sizeLine_eq]; omega
  have hn : H1 r = none := I2.hok.fresh hr
  have J : Inv X pins σ (upd H1 r (.lst (L'.map fun q => V.ref q.1))) { ({ s1 with heap := h', toks := tk } : Shared) with heap := s'.heap, gens := s'.gens, drawn := s'.drawn, toks := s'.toks } :=
    I2.call (ch := []) (Un.laid k2 hr hn) (I2.hok.laid k2 hr ⟨hlen, _, c2, vals_of_refs L', hg3⟩) (by rw [g2]; exact I2.bare) nofun
  have e : s' = { ({ s1 with heap := h', toks := tk } : Shared) with heap := s'.heap, gens := s'.gens, drawn := s'.drawn, toks := s'.toks } := by
    cases s'; cases s1; cases o2; rfl
  rw [e]
  exact ⟨.ref r, _, J, rfl, q1 L' r (fun p hp => g.sub p (pm.mem_iff.mp hp)) (fun p hp => (pm.map (·.2)).mem_iff.mpr (g.all p (by rw [List.take_length]; exact hp))) ((pm.map (·.2)).nodup_iff.mpr R.nd) pw hn⟩
/-- sorted(d) -/
def rSortDic (K : PySem.W.Frag) : List V → Hp → VK → Prop := fun vs H Q => ∃ (a : Addr) (L : List (List Int × Addr × V)), vs = [V.ref a] ∧ H a = some (DicO a L) ∧ KeysS K H L ∧ (∀ p ∈ L, p.1 ≠ []) ∧
  ∀ (L' : List (Addr × List Int)) (r : Addr), L.length ≤ sizeLine → L'.Perm (L.map fun x => (x.2.1, x.1)) → L'.Pairwise (fun q r => lexL r.2 q.2 = false) → H r = none → Q (.ref r) (upd H r (.lst (L'.map fun p => V.ref p.1)))
theorem lx_entries : ∀ {L : List (List Int × Addr × V)} {xs : List (List Int × Addr × Value)}, LX L xs → xs.map (fun x => (x.2.1, x.1)) = L.map fun x => (x.2.1, x.1)
  | [], _, .nil => rfl
  | _ :: _, _, .cons h t => by rw [List.map_cons, List.map_cons, lx_entries t, h.1, h.2.1]
theorem cr_sortDic (hc : X.calm = true) : CallR X (.builtin "sorted") (rSortDic X.K) := by
  intro pins s σ H vs us Q I r h; obtain ⟨a, L, rfl, ha, hk, hne, q⟩ := h
  rw [Vals.ref1 r]
  obtain ⟨z, few, nd, xs, hx, dd⟩ := dic_rd I ha hk
  have hl : xs.length = L.length := (Paired.length hx).symm
  refine sorted_rowdict z dd (by rw [hl]; exact few) (I.ok.hd hc) (fun x hxm => ?_) fun h1 h' tk r L' k1 k2 hr ⟨c, hg⟩ pm pw => ?_
  · obtain ⟨p, hp, e1, _⟩ := lx_mem hx x hxm
    rw [← e1]; exact hne p hp
  · rw [lx_entries hx] at pm
    have I1 : Inv X pins σ H { s with heap := h1, toks := tk } := I.kept (t' := tk) k1
    have hlen : (L'.map fun q => V.ref q.1).length ≤ sizeLine := by rw [List.length_map, pm.length_eq, List.length_map]; exact few
    exact ⟨.ref r, upd H r (.lst (L'.map fun q => V.ref q.1)), I1.laid (t' := tk) k2 hr ⟨hlen, _, c, vals_of_refs L', hg⟩, rfl, q L' r few pm pw (I1.hok.fresh hr)⟩
end
section
variable {G : Gd} {E : XK} {X : Cx} {σ : List (Option V)} {H H' : Hp} {B : Addr → Prop}
/-- sorted of a dict of rows -/
def gSortDT : D → (D → Prop) → Prop := fun d Q => ∃ (ks : List (List Int)) (ds : List D), d = .dcT ks ds ∧ (∀ r ∈ ks, r ≠ []) ∧ ∀ out : List (List Int), out.Perm ks → out.Pairwise (fun x y => lexL y x = false) → Q (.lst (out.map rowD))
theorem c_sortDT (hK : X.K = G.K) (hc : X.calm = true) : CallR X (.builtin "sorted") (rDL G (g1 gSortDT)) := callr_imp (cr_sortDic hc) fun xs H Q' h => by
  obtain ⟨B, d, x, Q, rfl, hd, hf, ⟨ks, ds, rfl, hne, hq⟩, kk⟩ := rDL1 h
  obtain ⟨a, L, rfl, na, ha, hk, hx, hds⟩ := hd
  refine ⟨a, L, rfl, ha, by rw [hK]; exact hx.s, fun p hp => hne _ (by rw [← hk]; exact List.mem_map.mpr ⟨p, hp, rfl⟩), fun L' r few pm pw hr => ?_⟩
  have hlen : (L'.map fun p => V.ref p.1).length ≤ sizeLine := by rw [List.length_map, pm.length_eq, List.length_map]; exact few
  refine kk _ _ (.lst ((L'.map (·.2)).map rowD)) (Ext.new hr) (den_lst hr (hf r hr) hlen (denL_ks fun q hq2 => ?_)) (hq _ ?_ (List.pairwise_map.mpr pw))
  · have hm := pm.mem_iff.mp hq2
    obtain ⟨p, hp, rfl⟩ := List.mem_map.mp hm
    obtain ⟨h1, h2, h3⟩ := hx p hp
    exact ⟨p.2.1, p.1.map V.int, rfl, h1, h2, by rw [List.length_map]; exact h3, DenL.of_ints⟩
  · have z := pm.map (·.2)
    rw [List.map_map] at z
    rw [← hk]
    exact z
end
end Kn
set_option Elab.async false
set_option linter.all false
set_option maxRecDepth 100000
set_option maxHeartbeats 2100000
namespace Kn
open PySem PySem.Spec PyProof.Rows L2 RZ
section
variable {X : Cx}
def tLOne (K : PySem.W.Frag) (tk tv : TE) : TE := fun σ H Q => ∀ p, H p = none → tPairs [(tk, tv)] σ (upd H p (DicO p [])) fun ps H2 => H2 p = some (DicO p []) ∧ ∃ (b : Addr) (r : List Int) (v : V), ps = [(.ref b, v)] ∧ SqT K H2 b (r.map V.int) ∧ Q (.ref p) (upd H2 p (DicO p [(r, b, v)]))
theorem pe_lone {ke e : Expr} {pos : Pos} {tk tv : TE} (hu : X.A.units + 1 < cLine) (hk : PE X ke tk) (he : PE X e tv) : PE X (.Dict [some ke] [e] pos) (tLOne X.K tk tv) := by
  refine ⟨fun pins s σ H Q I q => ?_⟩; have hn := I.hok.fresh (Nat.le_refl s.heap.objs.size)
  have I1 := I.laid (a := s.heap.objs.size) (o := DicO s.heap.objs.size []) (h' := s.heap.push { cls := .type "dict", data := .dict #[] }) (t' := s.toks) (fun _ _ q => Heap.get?_push_of_some _ q) (Nat.le_refl _) (dicO_new (dic_empty s.heap I.big))
  have run := (pps_cons (pos := pos) hk he pps_nil).run pins _ σ _ _ I1 (q _ hn)
  rw [arm_eval_Dict, zip_pairTrees [some ke] [e] X.env pos rfl rfl, dictDisplay_pairs _ (by intro z; cases z) (by show 1 < 17; omega)]
  refine wpAny_bind (wpAny_standAt (wpAny_bind (wpAny_subDictH (knd := tkd X.prog X.w) (show X.A.units < cLine by omega) (by show 1 ≤ 15; omega) (thn run fun ws s2 ⟨ps, H2, I2, rel, e0, b, r, v, ep, hb, q2⟩ => ?_))))
  subst ep
  cases rel with
  | @cons _ p2 _ _ h2 t2 =>
    cases t2
    obtain ⟨k2, u2⟩ := p2
    obtain ⟨rk, rv⟩ := h2
    cases rk
    obtain ⟨z, _, _, xs, hx, dd⟩ := dic_rd I2 e0 (fun _ h => nomatch h)
    cases hx
    refine ⟨[(r, b, u2)], ⟨rfl, rfl, I2.isT hb, trivial⟩, dd, fun h' tk dd' hs => wpAny_pure ⟨.ref s.heap.objs.size, _, ?_, rfl, q2⟩⟩
    have c : DicAt h' s.heap.objs.size [(r, b, v)] := dicAt_of z (by rw [sizeLine_eq]; simp) (.cons ⟨rfl, rfl, rv⟩ .nil) dd'
    obtain ⟨oq, _, _, hq, _⟩ := dd'
    exact d_write (t' := tk) I2 (by rw [e0]; exact True.intro) hs ⟨oq, hq⟩ (dicO_new c)
end
section
variable {G : Gd} {E : XK} {X : Cx} {σ : List (Option V)} {H H' : Hp}
def kOne (tk te : DT) : DKt := fun ex env Q => tk ex env fun y => te ex env fun d => ∃ r : List Int, rowK y r ∧ d.atom = true ∧ Q [r] [d]
theorem dk_one {ke e : Expr} {pos : Pos} {c c2 : Nat} {tk te : DT} (hK : X.K = G.K) (hu : X.A.units + 1 < cLine) (hk : DE G E X c ke tk) (he : DE G E X c2 e te) : DNd G E X (c + c2) (.Dict [some ke] [e] pos) (kOne tk te) :=
  imp (pe_lone hu hk he) fun σ H Q' hh => by
    obtain ⟨W, hn, Q, ht, kk⟩ := hh
    intro p hp
    have fr := W.fresh hp
    let W1 := W.next (c := 0) (H' := upd H p (DicO p [])) ((Step.refl W).new hp)
    refine ⟨W1, by show W.m + c ≤ W.n - 0; omega, _, ht, fun y H1 dy st hdy hq => ?_⟩
    refine ⟨W1.next st, by show W.m + c2 ≤ W.n - 0 - c; omega, _, hq, fun v H2 d st2 hd ⟨r, hkd, ha, hq2⟩ => ?_⟩
    have st4 := st.trans st2
    have hp2 : H2 p = some (DicO p []) := st4.ext p _ upd_same (W.nuX fr)
    have hdy2 : Den G W1.XB H2 dy y := (W1.next st).den st2 hdy
    obtain ⟨b, rfl, nb, hb, hl2⟩ := hdy2.key hkd
    refine ⟨hp2, b, r, v, rfl, by rw [hK]; exact hb, ?_⟩
    have st3 : Step W (c + c2) (upd H2 p (DicO p [(r, b, v)])) := by
      refine ⟨fun b' o hb' nu => ?_, ?_⟩
      · have nb' : b' ≠ p := ne_of_none hb' hp
        rw [upd_ne nb']
        exact st4.ext b' o (by rw [upd_ne nb']; exact hb') nu
      · have g : Good W.u H2 (W.n - (c + c2)) := by have z := st4.good; rw [show W1.n = W.n - 0 from rfl, Nat.sub_zero] at z; exact z
        exact g.upd (fun r e => ⟨fun z => fr (by rw [z]; exact W.huX r e), fun z => fr (by rw [z]; exact .inl (W.hu r e).2)⟩) (fun q' z => dicO_ne_code q' (Option.some.inj (hp2.symm.trans z)))
    have key : KeysOk G.K (fun a => W.XB a ∨ a = p) (upd H2 p (DicO p [(r, b, v)])) [(r, b, v)] := fun x hx => by
      obtain rfl := List.mem_singleton.mp hx
      rcases nb with nb | nb
      · rcases hb with (e | ⟨o, e⟩) | e
        · have nbp : b ≠ p := fun z => by rw [z, hp2] at e; cases e
          exact ⟨.inl fun z => z.elim nb nbp, .inl (.inl (by rw [upd_ne nbp]; exact e)), hl2⟩
        · have nbp : b ≠ p := fun z => by rw [z, hp2] at e; cases e
          exact ⟨.inl fun z => z.elim nb nbp, .inl (.inr ⟨o, by rw [upd_ne nbp]; exact e⟩), hl2⟩
        · exact ⟨.inr e, .inr e, hl2⟩
      · exact ⟨.inr nb, .inr nb, hl2⟩
    exact kk p _ [r] [d] [(r, b, v)] st3 hp upd_same rfl key ⟨v, [], rfl, den_atom ha hd, rfl⟩ hq2
end
end Kn
set_option Elab.async false
set_option linter.all false
set_option maxRecDepth 100000
set_option maxHeartbeats 2100000
namespace Kn
open PySem L2 RZ
end Kn
set_option Elab.async false
set_option linter.all false
set_option maxRecDepth 100000
set_option maxHeartbeats 3200000
namespace Kn
open PySem PySem.Spec PyProof.Rows L2 RZ
section
variable {X : Cx}
theorem addR_ok {pins : List (Addr × Obj)} {σ : L2.St} {H : Hp} {s : Shared} {E : Value → Shared → Prop} {D b : Addr} {r : List Int} {L : List (Addr × List Int)} {Q : Value → Shared → Prop} (hu : X.A.units + 64 < cLine) (I : Inv X pins σ H s) (hD : H D = some (SetTO X.prog X.w D L)) (hb : SqT X.K H b (r.map V.int)) (hL : ∀ p ∈ L, SqT X.K H p.1 (p.2.map V.int)) (few : L.length + 1 < 64)
    (h : ∀ s' L', Inv X pins σ (upd H D (SetTO X.prog X.w D L')) s' → (r ∈ L.map (·.2) → L' = L) → (r ∉ L.map (·.2) → L'.Perm ((b, r) :: L)) → (L'.map (·.2)).Nodup → Q .none s') : wpAny (model X.prog X.w) X.A (call (.builtin "set.add") [.ref D, .ref b]) Q E s := by
  have there : SetT0 X.prog X.w s.heap D L := (I.hok D _ hD).1
  obtain ⟨es, ep, t, R⟩ := there.full fun p hp => I.isT (hL p hp)
  have ix := I.isT hb
  have hu1 : X.A.in1.units < cLine := Nat.lt_of_le_of_lt (show X.A.units + 1 ≤ X.A.units + 64 by omega) hu
  have main0 := R.ob
  obtain ⟨o, ho, ex, -⟩ := main0
  refine wpAny_call_entry F.slot_set_add ?_ F.entry_set_add ?_ (F.args_set_add_2 _ _)
  · exact ⟨o, ho, ex.1⟩
  have main : wpAny (model X.prog X.w) X.A.in1 (setAdd D (.ref b)) (fun _ s' => ∃ L', Inv X pins σ (upd H D (SetTO X.prog X.w D L')) s' ∧ (r ∈ L.map (·.2) → L' = L) ∧ (r ∉ L.map (·.2) → L'.Perm ((b, r) :: L)) ∧ (L'.map (·.2)).Nodup) E s := by
    unfold setAdd
    refine wpAny_holding (wpAny_bind (wpAny_pyHash_tuple hu1 ix (add_at (s := { s with toks := s.toks + (r.length + 1) }) R ix hu1 few fun _ h' L' _ _ _ sb R2 c1 c2 => ?_)))
    refine ⟨L', ?_, c1, c2, R2.nd⟩
    have old : ∃ o, h'.get? D = some o := R2.ob.imp fun _ q => q.1
    exact I.write (e := D) (t' := s.toks + (r.length + 1)) (by rw [hD]; trivial) (.inl rfl) (fun c _ hc e => (sb.2 c hc).trans e) old (setTO_new R2.t0)
  generalize hA : setAdd D (.ref b) = act at main
  have fin : ∀ s', (∃ L', Inv X pins σ (upd H D (SetTO X.prog X.w D L')) s' ∧ (r ∈ L.map (·.2) → L' = L) ∧ (r ∉ L.map (·.2) → L'.Perm ((b, r) :: L)) ∧ (L'.map (·.2)).Nodup) → Q .none s' := fun s' ⟨L', a1, a2, a3, a4⟩ => h s' L' a1 a2 a3 a4
  unfold Builtin.«set.add» Builtin.Frozenset.oneOther; simp only [List.isEmpty_nil, bind_assoc]
  refine wpAny_bind (wpAny_pure (wpAny_bind (wpAny_pure ?_))); rw [hA]
  refine wpAny_bind (wpAny_mono main (fun _ s' q => ?_) fun _ _ z => z)
  exact wpAny_pure (show ∃ v, _ ∧ Q v s' from ⟨_, rfl, fin s' q⟩)
/-- behind the block's end: the frame's own stands, the block's names are free -/
theorem blk_left {pins : List (Addr × Obj)} {σ τ : L2.St} {H H3 : Hp} {s s3 : Shared} {scope : Scope} {ce : Env} {fp : List Addr} (I3 : Inv X pins σ H3 s3) (ft : ∀ b ∈ fp, FpOk X pins H3 b) (I : Inv (X.blk s3 H3 scope ce fp) [] τ H s) (ec : ce.locals = s3.heap.objs.size) :
    Inv X pins σ H s ∧ (∃ m, s.heap.Ns s3.heap.objs.size m) ∧ FpOk X pins H s3.heap.objs.size := by
  have gone := I.free
  obtain ⟨m, ns, -⟩ := I.loc
  change s.heap.Ns ce.locals m at ns
  change H ce.locals = none at gone
  rw [ec] at ns gone
  refine ⟨I3.call' (ch := fp) I.os I.base I.hok I.bare ?_, ⟨m, ns⟩, I3.fpOk (Nat.le_refl _) gone⟩
  intro b hb
  obtain ⟨-, a, -, c, d, e⟩ := ft b hb
  exact ⟨c, a, d, e⟩
/-- within the block: where the iterator's objects may stand -/
theorem blk_foot {τ : L2.St} {H H3 : Hp} {s s3 : Shared} {scope : Scope} {ce : Env} {fp : List Addr} (I : Inv (X.blk s3 H3 scope ce fp) [] τ H s) (off : ∀ b ∈ fp, H b = none) : ∀ b ∈ fp, FpOk (X.blk s3 H3 scope ce fp) [] H b := by
  intro b hb
  obtain ⟨x1, x2⟩ := I.ok.exf b hb
  refine ⟨off b hb, x1, I.ok.exfs b hb, .inl hb, fun y c e => x2 y c e, ?_⟩
  intro p hp
  change p ∈ ([] : List (Addr × Obj)) ++ [] at hp
  simp at hp
/-- where a block stands before a turn -/
structure InBlk (X : Cx) (s3 : Shared) (H3 : Hp) (scope : Scope) (ce : Env) (fp : List Addr) (τ : L2.St) (tn : Nat → Heap → Prop) (W : Nat → Nat → Hp → Prop) (n i : Nat) (H : Hp) (s : Shared) : Prop where
  inv : Inv (X.blk s3 H3 scope ce fp) [] τ H s
  iter : tn i s.heap
  off : ∀ b ∈ fp, H b = none
  want : W i n H
/-- a turn is over: the next one's place -/
theorem blk_next {σ8 τ : L2.St} {H' H3 : Hp} {s7 s' s3 : Shared} {scope : Scope} {ce : Env} {fp : List Addr} {vs : List Nat} {J : It} {tg : Expr} {it : Addr} {tn : Nat → Heap → Prop} {W : Nat → Nat → Hp → Prop} {m i : Nat} (T : Turn X.prog X.w X.K tg J fp it tn) (st : tn i s7.heap) (hw : wipe σ8 vs = τ)
    (I : Inv (X.blk s3 H3 scope ce fp) ([] ++ pinsAt fp s7.heap) σ8 H' s') (want : W i m H') : InBlk X s3 H3 scope ce fp τ tn W m i H' s' := by
  have same : ∀ b ∈ fp, ∃ o, s7.heap.get? b = some o ∧ s'.heap.get? b = some o ∧ H' b = none := by
    intro b hb
    obtain ⟨o, e, -⟩ := T.obj i _ st b hb
    have q := I.pin (b, o) (by rw [List.nil_append]; exact List.mem_append_right _ (mem_pinsAt hb e))
    exact ⟨o, e, q.1, q.2.1⟩
  constructor
  · refine (I.unpinned (pins := [])).weak (by rw [← hw, wipe_length]) ?_
    intro j v e
    rw [← hw] at e
    exact (wipe_some e).1
  · refine T.keep i _ _ st ?_
    intro b hb o e
    obtain ⟨o2, e2, e3, -⟩ := same b hb
    rw [e] at e2
    cases e2
    exact e3
  · intro b hb
    obtain ⟨_, _, _, z⟩ := same b hb
    exact z
  · exact want
end
section
variable {X : Cx}
/-- {elt for target in iter if ..}, elt a row: D the new set -/
def tScR (K : PySem.W.Frag) (P : Program) (w : World) (wi : TI) (g : TG) (tt : TT) (te : TE) (vs : List Nat) : TE := fun σ H Q => wi σ H fun J H1 => ∀ D, H1 D = none → ∃ W : Nat → Nat → Hp → Prop, (∃ m, W 0 m (upd H1 D (SetTO P w D []))) ∧ ∀ i m H, W i m H →
  (J.stop i H ∧ Q (.ref D) H) ∨ (J.go i H ∧ ∃ Nx : Hp → Prop, (∀ H', Nx H' → ∃ m', m' < m ∧ W (i + 1) m' H')
        ∧ ∀ x H', J.yld i H x H' → g x (wipe σ vs) H' fun σ2 H2 => wipe σ2 vs = wipe σ vs ∧ tt σ2 H2 fun b H3 =>
    if b = true then te σ2 H3 fun y H4 => ∃ (b : Addr) (r : List Int) (L : List (Addr × List Int)), y = .ref b ∧ SqT K H4 b (r.map V.int) ∧ H4 D = some (SetTO P w D L) ∧ (∀ p ∈ L, SqT K H4 p.1 (p.2.map V.int)) ∧ L.length + 1 < 64 ∧
      ∀ L', (r ∈ L.map (·.2) → L' = L) → (r ∉ L.map (·.2) → L'.Perm ((b, r) :: L)) → (L'.map (·.2)).Nodup → Nx (upd H4 D (SetTO P w D L')) else Nx H3)
/-- a set without members, as it is made -/
abbrev rowSet0 (w : World) : Obj := { cls := .type "set", dict := none, data := .set #[] 0 (.fresh 0 0 (!w.params.followText "set-order")) }
theorem rowSet0_laid {pins : List (Addr × Obj)} {s : Shared} {σ : L2.St} {H : Hp} (I : Inv X pins σ H s) : Inv X pins σ (upd H s.heap.objs.size (SetTO X.prog X.w s.heap.objs.size [])) { s with heap := s.heap.push (rowSet0 X.w) } :=
  I.laid (t' := s.toks) (fun _ _ => Heap.get?_push_of_some _) (Nat.le_refl _) (setTO_new (setTR_fresh (Heap.get?_push_size _ rfl)).t0)
/-- the block's loop, from where it is laid -/
theorem scR_loop {pins : List (Addr × Obj)} {s3 s4 : Shared} {σ τ : L2.St} {H3 : Hp} {Q : VK} {elt tg iter : Expr} {ifs : List Expr} {scope : Scope} {pos : Pos} {g : TG} {tt : TT} {te : TE} {vs : List Nat} {use : Option (Value → Sem Unit)} {Qf : Value → Shared → Prop} {ce : Env} {fp : List Addr} {J : It} {tn : Nat → Heap → Prop} {it D : Addr} {W : Nat → Nat → Hp → Prop} {m0 : Nat}
    (hc : X.calm = true) (hu : X.A.units + 64 < cLine) (I3 : Inv X pins σ H3 s3) (ft : ∀ b ∈ fp, FpOk X pins H3 b) (T : Turn X.prog X.w X.K tg J fp it tn) (ec : ce.locals = s3.heap.objs.size)
    (pg : PG (X.blk s3 H3 scope ce fp) tg g) (pt : PTs (X.blk s3 H3 scope ce fp) ifs tt) (pe : PE (X.blk s3 H3 scope ce fp) elt te) (hτ : τ = wipe σ vs)
    (turn : ∀ i m H, W i m H → (J.stop i H ∧ Q (.ref D) H) ∨ (J.go i H ∧ ∃ Nx : Hp → Prop, (∀ H', Nx H' → ∃ m', m' < m ∧ W (i + 1) m' H') ∧ ∀ x H', J.yld i H x H' → g x τ H' fun σ2 H2 => wipe σ2 vs = τ ∧ tt σ2 H2 fun b H3 =>
      if b = true then te σ2 H3 fun y H4 => ∃ (b : Addr) (r : List Int) (L : List (Addr × List Int)), y = .ref b ∧ SqT X.K H4 b (r.map V.int) ∧ H4 D = some (SetTO X.prog X.w D L) ∧ (∀ p ∈ L, SqT X.K H4 p.1 (p.2.map V.int)) ∧ L.length + 1 < 64 ∧
        ∀ L', (r ∈ L.map (·.2) → L' = L) → (r ∉ L.map (·.2) → L'.Perm ((b, r) :: L)) → (L'.map (·.2)).Nodup → Nx (upd H4 D (SetTO X.prog X.w D L')) else Nx H3))
    (hRR : ∀ D C s' m H', Inv X pins σ H' s' → Q (.ref D) H' → s'.heap.Ns C m → FpOk X pins H' C → compPost (model X.prog X.w) X.A X.xe use Qf (.ref D) C (.ok .next) s')
    (z : InBlk X s3 H3 scope ce fp τ tn W m0 0 H3 s4) :
    codeAny (model X.prog X.w) X.A (.compLoop (.SetComp elt [⟨tg, iter, ifs, 0⟩] scope pos) 0 (.ref it) (.ref D) ce) (compPost (model X.prog X.w) X.A X.xe use Qf (.ref D) s3.heap.objs.size) s4 := by
  refine PpSet.compLoopS_any (fun n s => ∃ i H, InBlk X s3 H3 scope ce fp τ tn W n i H s) ?_ m0 ⟨0, H3, z⟩
  intro n s ⟨i, H, B⟩
  have foot := blk_foot B.inv B.off
  rcases turn i n H B.want with ⟨stop, hq⟩ | ⟨go, Nx, less, step⟩
  · refine thnF (T.done (X.blk s3 H3 scope ce fp) rfl rfl rfl hc i [] s _ H (fun _ _ => False) B.inv foot B.iter stop) ?_
    rintro _ s6 ⟨rfl, I6⟩
    obtain ⟨J1, ⟨m, J2⟩, J3⟩ := blk_left I3 ft I6 ec
    exact hRR _ _ _ m H J1 hq J2 J3
  · refine thnF (T.item (X.blk s3 H3 scope ce fp) rfl rfl rfl hc i [] s _ H (fun _ _ => False) B.inv foot B.iter go) ?_
    rintro _ s6 ⟨u, rfl, h6⟩
    refine thnF h6 ?_
    rintro _ s7 ⟨x, H7, I7, ru, hy, st7, off7⟩
    have over : ∀ {σ8 : L2.St} {H' : Hp} {s' : Shared}, wipe σ8 vs = τ → Inv (X.blk s3 H3 scope ce fp) ([] ++ pinsAt fp s7.heap) σ8 H' s' → Nx H' → ∃ m, m < n ∧ ∃ i H, InBlk X s3 H3 scope ce fp τ tn W m i H s' := by
      intro σ8 H' s' hw I nx
      obtain ⟨m, lt, want⟩ := less H' nx
      exact ⟨m, lt, i + 1, H', blk_next T st7 hw I want⟩
    refine thnF (pg.run _ s7 _ H7 x u _ (I7.pinned (blk_foot I7 off7) (T.obj _ _ st7)) ru (step x H7 hy)) ?_
    rintro _ s8 ⟨σ8, H8, I8, hw, q8⟩
    refine thnF (pt.run _ s8 σ8 H8 _ I8 q8) ?_
    rintro (_ | _) s9 ⟨H9, I9, q9⟩
    · exact over hw I9 q9
    · refine thnF (pe.run _ s9 σ8 H9 _ I9 q9) ?_
      rintro v s10 ⟨_, H10, I10, rv, b0, r0, L0, rfl, k1, k2, k3, k4, nx⟩
      obtain rfl : v = Value.ref b0 := rv
      exact addR_ok (X := X.blk s3 H3 scope ce fp) hu I10 k2 k1 k3 k4 fun _ L1 I11 c1 c2 c3 => over hw I11 (nx L1 c1 c2 c3)
theorem scR_core {pins : List (Addr × Obj)} {s : Shared} {σ : L2.St} {H : Hp} {Q : VK} {elt tg iter : Expr} {ifs : List Expr} {scope : Scope} {own : List (PySem.Str × Nat)} {pos pos' : Pos} {wi : TI} {g : TG} {tt : TT} {te : TE} {use : Option (Value → Sem Unit)} {Qf : Value → Shared → Prop}
    (hc : X.calm = true) (hN : X.N.Nodup) (I : Inv X pins σ H s)
          (hi : PI X tg iter wi) (ok : BlkOk X.N X.env.scope scope own)
    (hg : ∀ (s : Shared) (H : Hp) (C : Addr) (cl : List (PySem.Str × Addr)) (fp : List Addr), PG (X.blk s H scope (compEnvC scope cl C X.env) fp) tg g)
          (ht : ∀ (s : Shared) (H : Hp) (C : Addr) (cl : List (PySem.Str × Addr)) (fp : List Addr), PTs (X.blk s H scope (compEnvC scope cl C X.env) fp) ifs tt)
    (he : ∀ (s : Shared) (H : Hp) (C : Addr) (cl : List (PySem.Str × Addr)) (fp : List Addr), PE (X.blk
          s H scope (compEnvC scope cl C X.env) fp) elt te) (hs : ∀ x, foldedSetIterable iter X.env x = pure x)
    (hu : X.A.units + 64 < cLine) (h : tScR X.K X.prog X.w wi g tt te (own.map (·.2)) σ H Q)
    (hRR : ∀ D C s' m H', Inv X pins σ H' s' → Q (.ref D) H' → s'.heap.Ns C m → FpOk X
          pins H' C → compPost (model X.prog X.w) X.A X.xe use Qf (.ref D) C (.ok .next) s') :
    wpAny (model X.prog X.w) X.A (comprehension (.SetComp elt [⟨tg, iter, ifs, 0⟩] scope pos) scope X.env pos' (PySem.newSet (.type "set")) false (eval iter X.env) use) Qf X.xe s := by
  have clo : ∀ y ∈ scope.names, y.2 = .free → ∃ c, X.env.cells.lookup y.1 = some c := by
    intro y hy e
    exact (ok.free y hy e).elim (fun q => I.ok.has _ (.inl q)) fun q => I.ok.has _ (.inr q)
  refine wpAny_comprehension_free (use := use) rfl hs (closure_ok clo) ok.kind (fun y hy e => by rw [ok.uniq y hy, e]) ?_
  refine thn (hi.run pins s σ H _ I h) ?_
  intro xv s1 hx
  refine thn hx ?_
  rintro _ s2 ⟨it, fp, tn, J, H2, rfl, I2, T, st2, f2, q⟩
  refine PpSet.newSet_ok (newEnv_comp ?_)
  obtain ⟨W, ⟨m0, w0⟩, turn⟩ := q s2.heap.objs.size (I2.hok.fresh (Nat.le_refl _))
  have laid := rowSet0_laid I2
  have grown : ∀ b o, s2.heap.get? b = some o → (s2.heap.push (rowSet0 X.w)).get? b = some o := fun _ _ => Heap.get?_push_of_some _
  have ft : ∀ b ∈ fp, FpOk X pins (upd H2 s2.heap.objs.size (SetTO X.prog X.w s2.heap.objs.size [])) b ∧ b < (s2.heap.push (rowSet0 X.w)).objs.size := by
    intro b hb
    obtain ⟨o, e, -⟩ := T.obj _ _ st2 b hb
    have lt := Heap.lt_size e
    obtain ⟨a1, a2⟩ := f2 b hb
    exact ⟨⟨(upd_ne (Nat.ne_of_lt lt)).trans a1, a2⟩, by rw [Heap.size_push]; exact Nat.lt_succ_of_lt lt⟩
  have st3 : tn 0 (s2.heap.push (rowSet0 X.w)) := T.keep _ _ _ st2 fun b _ => grown b
  generalize upd H2 s2.heap.objs.size (SetTO X.prog X.w s2.heap.objs.size []) = H3 at laid w0 ft
  generalize s2.heap.objs.size = D at turn ⊢
  obtain ⟨s3, e3⟩ : ∃ s3 : Shared, s3 = { s2 with heap := s2.heap.push (rowSet0 X.w) } := ⟨_, rfl⟩
  have eh : s2.heap.push (rowSet0 X.w) = s3.heap := by rw [e3]
  rw [eh] at ft st3
  rw [← e3] at laid
  have blk := block_start laid ok hN ft
  have st4 : tn 0 (pushCells (s3.heap.push { cls := .type "dict", data := .dict #[] }) scope.names) := T.keep _ _ _ st3 fun b _ o e => pushCells_keeps _ _ _ _ (Heap.get?_push_of_some _ e)
  have loop := scR_loop (pos := pos) (iter := iter) hc hu laid (fun b hb => (ft b hb).1) T rfl (hg s3 H3 _ _ fp) (ht s3 H3 _ _ fp) (he s3 H3 _ _ fp) rfl turn hRR ⟨blk, st4, fun b hb => (ft b hb).1.1, w0⟩
  have run := PpSet.codeAny_compStart_set loop (T.self X.A 0 _ _ _ st4 loop)
  rw [e3] at run
  exact run
/-- sorted of a set of rows that stands -/
def rSortTO (K : PySem.W.Frag) (P : Program) (w : World) : List V → Hp → VK → Prop := fun vs H Q => ∃ (a : Addr) (L : List (Addr × List Int)), vs = [V.ref a] ∧ H a = some (SetTO P w a L) ∧ (∀ p ∈ L, SqT K H p.1 (p.2.map V.int)) ∧ (∀ p ∈ L, p.2 ≠ []) ∧
  ∀ (L' : List (Addr × List Int)) (r : Addr), L'.Perm L → (L'.map (·.2)).Nodup → L'.length < 64 → L'.Pairwise (fun q r => lexL r.2 q.2 = false) → H r = none → Q (.ref r) (upd H r (.lst (L'.map fun q => V.ref q.1)))
theorem cr_sortTO (hc : X.calm = true) : CallR X (.builtin "sorted") (rSortTO X.K X.prog X.w) := by
  intro pins s σ H xs us Q I r h; obtain ⟨a, L, rfl, ha, hk, hne, q⟩ := h
  have there : SetT0 X.prog X.w s.heap a L := (I.hok a _ ha).1
  have full := there.full fun p hp => I.isT (hk p hp)
  obtain ⟨es, ep, t, R⟩ := full
  have len := R.few
  rw [Vals.ref1 r]
  refine sorted_rowset R (I.ok.hd hc) hne ?_
  intro s' p L' kept gens os big ⟨c2, at_⟩ pm pw
  have few : L'.length < 64 := pm.length_eq ▸ len
  have new : H p = none := I.hok.fresh big
  refine ⟨.ref p, upd H p (.lst (L'.map fun q => V.ref q.1)), I.call' (ch := []) os (Un.laid kept big new) (I.hok.laid kept big ⟨?_, _, c2, vals_of_refs L', at_⟩) (gens ▸ I.bare) nofun, rfl, q L' p pm ((pm.map (·.2)).nodup_iff.mpr R.nd) few pw new⟩
  rw [List.length_map, sizeLine_eq]; omega
theorem pe_scR {elt tg iter : Expr} {ifs : List Expr} {scope : Scope} {own : List (PySem.Str × Nat)} {pos : Pos} {wi : TI} {g : TG} {tt : TT} {te : TE} (hc : X.calm = true) (hu : X.A.units + 64 < cLine) (hN : X.N.Nodup) (hi : PI X tg iter wi) (ok : BlkOk X.N X.env.scope scope own)
    (hg : ∀ (s : Shared) (H : Hp) (C : Addr) (cl : List (PySem.Str × Addr)) (fp : List Addr), PG (X.blk s H scope (compEnvC scope cl C X.env) fp) tg g)
          (ht : ∀ (s : Shared) (H : Hp) (C : Addr) (cl : List (PySem.Str × Addr)) (fp : List Addr), PTs (X.blk s H scope (compEnvC scope cl C X.env) fp) ifs tt)
    (he : ∀ (s : Shared) (H : Hp) (C : Addr) (cl : List (PySem.Str × Addr)) (fp : List Addr), PE (X.blk s H scope
          (compEnvC scope cl C X.env) fp) elt te) (hs : ∀ x, foldedSetIterable iter X.env x = pure x := by intro _; rfl) :
    PE X (.SetComp elt [⟨tg, iter, ifs, 0⟩] scope pos) (tScR X.K X.prog X.w wi g tt te (own.map (·.2))) := by
  constructor
  intro pins s σ H Q I h
  rw [PpSet.eval_SetComp]
  refine scR_core hc hN I hi ok hg ht he hs hu h ?_
  intro D C s' m H' J q n f
  refine ⟨m, n, ?_⟩
  intro h'' sb
  have J' := J.turned (t' := s'.toks) (fun b o hb e => (sb.2 b hb).trans e) f.1 f.2.1 f.2.2.2.1 f.2.2.2.2.1 f.2.2.2.2.2
  exact ⟨.ref D, H', J', rfl, q⟩
end
end Kn
set_option Elab.async false
set_option linter.all false
set_option maxRecDepth 100000
set_option maxHeartbeats 2100000
namespace Kn
open PySem L2 RZ
theorem setTO_ne_code {P : Program} {w : World} {a : Addr} {L : List (Addr × List Int)} (q : Str) : SetTO P w a L ≠ LamX.CodeO a q := fun z => by
  unfold SetTO LamX.CodeO at z
  injection z with z
  let o : Obj := { cls := .none, data := .fields #[.none, .str q default] }
  let h : Heap := { objs := Array.replicate (a + 1) o }
  have hg : h.get? a = some o := by
    show (match (Array.replicate (a + 1) o)[a]? with | some ⟨_, _, .freed, _⟩ => none | o => o) = some o
    rw [Array.getElem?_replicate, if_pos (Nat.lt_succ_self a)]
  have e := congrFun z h
  have c : SetT0 P w h a L := by
    rw [e]
    exact ⟨o, _, default, hg, rfl, rfl⟩
  obtain ⟨es, ep, t, ⟨o', h1, _, h2⟩, _⟩ := c.ex
  rw [hg] at h1
  cases h1
  cases h2
section
variable {G : Gd} {E : XK} {X : Cx} {σ : List (Option V)} {H H' : Hp} {tg : Expr}
/-- the elements of a set of rows, all among U -/
def compS (U : List (List Int)) (tg : DG) (tt : DB) (te : DT) (Q : List (List Int) → Prop) (env : List Sl) : List D → List (List Int) → Prop
  | [], acc => Q acc
  | d :: ds, acc => tg d env fun env2 => tt noX env2 fun b => if b = true then te noX env2 fun y => ∃ r : List Int, rowK y r ∧ r ∈ U ∧ compS U tg tt te Q env ds (acc ++ [r]) else compS U tg tt te Q env ds acc
def dSortSc (vs : List Nat) (ti : DA) (tg : DG) (tt : DB) (te : DT) : DT := fun ex env Q => ti ex env fun ds => ∃ U : List (List Int), U.length < 63 ∧ compS U tg tt te (fun rs => (∀ r ∈ rs, r ≠ []) ∧ ∀ out : List (List Int), out.Nodup → out.Pairwise (fun x y => lexL y x = false) → (∀ r, r ∈ out ↔ r ∈ rs) → Q (.lst (out.map rowD))) (inEnv env vs) ds []
structure SetAtR (G : Gd) (P : Program) (w : World) {E : XK} {σ : List (Option V)} {H : Hp} (W : Wd G E σ H) (H1 : Hp) (D0 : Addr) (b : Nat) (H2 : Hp) (acc : List (List Int)) : Prop where
  at_ : ∃ L : List (Addr × List Int), H2 D0 = some (SetTO P w D0 L) ∧ (L.map (·.2)).Nodup ∧ (∀ r, r ∈ L.map (·.2) ↔ r ∈ acc) ∧ ∀ p ∈ L, Den G (fun a => W.XB a ∨ a = D0) H2 (rowD p.2) (.ref p.1)
  keep : ∀ b o, H1 b = some o → NU W.u b → H2 b = some o
  good : Good W.u H2 b
theorem den_sqT {B : Addr → Prop} {H : Hp} {r : List Int} {b : Addr} (h : Den G B H (rowD r) (.ref b)) : SqT G.K H b (r.map V.int) := by
  obtain ⟨a, xs, e, na, ha, la, da⟩ := h
  cases e
  rw [DenL.ints da] at ha
  exact ha
theorem rowK_den {B : Addr → Prop} {H : Hp} {y : D} {v : V} {r : List Int} (hk : rowK y r) (h : Den G B H y v) : ∃ b, v = .ref b ∧ Den G B H (rowD r) (.ref b) := by
  obtain ⟨b, rfl, h1, h2, h3⟩ := h.key hk
  exact ⟨b, rfl, b, r.map V.int, rfl, h1, h2, by rw [List.length_map]; exact h3, DenL.of_ints⟩
/-- sorted(s), s a new set of rows at D0 -/
def tSortV (K : PySem.W.Frag) (P : Program) (w : World) (te : TE) : TE := fun σ H Q => te σ H fun x H1 => rSortTO K P w [x] H1 Q
theorem lift_sc {ci ce ct : Nat} {ti : DA} {t : DG} {tt : DB} {te : DT} {vs sl : List Nat} (hK : X.K = G.K) (hsl : ∀ i ∈ sl, i ∈ vs) {Q' : VK} (h : lift G E (ci + 16777216 * (ct + ce)) (dSortSc vs ti t tt te) σ H Q') :
    tSortV X.K X.prog X.w (tScR X.K X.prog X.w (liftI G E ci ti) (liftG G E0 sl t) (liftB G E0 ct tt) (lift G E0 ce te) vs) σ H Q' := by
  obtain ⟨W, hn, Q, ht, k⟩ := h
  refine ⟨W, by omega, _, ht, fun J H1 ds st wk ⟨U, hU, hq⟩ => ?_⟩
  intro D0 hD
  have hlen : ds.length ≤ 16777216 := by have := wk.len; rw [sizeLine_eq] at this; exact this
  have fr0 : ¬ W.XB D0 := (W.next st).fresh hD
  let Qs : List (List Int) → Prop := fun rs => (∀ r ∈ rs, r ≠ []) ∧ ∀ out : List (List Int), out.Nodup → out.Pairwise (fun x y => lexL y x = false) → (∀ r, r ∈ out ↔ r ∈ rs) → Q (.lst (out.map rowD))
  refine ⟨fun i m H2 => ∃ acc, SetAtR G X.prog X.w W H1 D0 (W.n - ci - i * (ct + ce)) H2 acc ∧ (∀ r ∈ acc, r ∈ U) ∧ i ≤ ds.length ∧ m = ds.length - i ∧ compS U t tt te Qs (inEnv W.env vs) (ds.drop i) acc, ⟨ds.length, [], ⟨⟨[], upd_same, List.nodup_nil, fun r => by simp, nofun⟩, fun b o hb _ => by rw [upd_ne (ne_of_none hb hD)]; exact hb, ?_⟩, nofun, Nat.zero_le _, rfl, hq⟩, ?_⟩
  · have g := st.good
    rw [Nat.zero_mul, Nat.sub_zero]
    exact g.ext (Ext.new hD)
  rintro i m H2 ⟨acc, A, hacc, hi, rfl, hq2⟩
  obtain ⟨L, hxs, hnd, hmem, hxd⟩ := A.at_
  have keepX : ∀ b o, ¬ W.XB b → H1 b = some o → H2 b = some o := fun b o nb hb => A.keep b o hb (W.nuX nb)
  by_cases hlt : i < ds.length
  · have hmul : (i + 1) * (ct + ce) ≤ 16777216 * (ct + ce) := Nat.mul_le_mul_right _ (by omega)
    have hmul2 : (i + 1) * (ct + ce) = i * (ct + ce) + (ct + ce) := by rw [Nat.add_mul, Nat.one_mul]
    obtain ⟨go, yl⟩ := wk.go i H2 (fun a => W.XB a ∨ a = D0) keepX (fun b hb => by
      rcases hb with hb | rfl
      · exact .inl hb
      · exact .inr hD) (fun p hp hb => by
      rcases hb with hb | rfl
      · cases q : H1 p with
        | none => exact (W.next st).fresh q hb
        | some o =>
          rcases NU.em (u := W.u) (b := p) with hu | ⟨r, hr, rfl⟩
          · rw [A.keep p o q hu] at hp; cases hp
          · obtain ⟨⟨_, h1⟩, _⟩ := A.good.there hr
            rw [h1] at hp; cases hp
      · rw [hxs] at hp; cases hp) hlt
    refine .inr ⟨go, fun H5 => ∃ acc2, SetAtR G X.prog X.w W H1 D0 (W.n - ci - (i + 1) * (ct + ce)) H5 acc2 ∧ (∀ r ∈ acc2, r ∈ U) ∧ compS U t tt te Qs (inEnv W.env vs) (ds.drop (i + 1)) acc2,
      fun H5 ⟨acc2, a2, l2, q2⟩ => ⟨ds.length - (i + 1), by omega, acc2, a2, l2, hlt, rfl, q2⟩, fun x H3 hy => ?_⟩
    obtain ⟨ex2, d, hd, hden⟩ := yl x H3 hy
    rw [drop_cons hd] at hq2
    have hD3 : H3 D0 = some (SetTO X.prog X.w D0 L) := ex2 _ _ hxs NU.none
    let W3 : Wd G E0 (wipe σ vs) H3 := W.inner st vs D0 H3 (W.n - ci - i * (ct + ce)) hD (by rw [hD3]; simp) (fun b o hb nu => ex2 _ _ (A.keep b o hb nu) NU.none) (A.good.ext ex2)
    have hden3 : Den G W3.XB H3 d x := hden.fewer fun b hb => xb_in hb
    refine ⟨W3, d, _, hden3, hq2, fun σ4 W4 al hsl4 hq4 => ⟨wipe_same hsl hsl4.1 (by rw [hsl4.2, wipe_length]), ?_⟩⟩
    have l4 := al.later
    have n4 : W4.n = W.n - ci - i * (ct + ce) := al.n
    have m4 : W4.m = W.m := l4.m
    have u4 : W4.u = W.u := l4.u
    have b4 : ∀ a, (W.XB a ∨ a = D0) → W4.XB a := fun a ha => .inl (by rw [l4.B]; exact ha)
    have nu0 : NU W.u D0 := W.nuX fr0
    have k3 : ∀ b o, H1 b = some o → NU W.u b → H3 b = some o := fun b o hb nu => ex2 _ _ (A.keep b o hb nu) NU.none
    refine ⟨W4, by rw [n4, m4]; omega, _, by rw [l4.ex]; exact hq4, fun b H5 st5 hb => ?_⟩
    have e5 : Ext W.u H3 H5 := by have z := st5.ext; rw [u4] at z; exact z
    have g5 : Good W.u H5 (W.n - ci - i * (ct + ce) - ct) := by have z := st5.good; rw [u4, n4] at z; exact z
    have d5 : ∀ p ∈ L, Den G (fun a => W.XB a ∨ a = D0) H5 (rowD p.2) (.ref p.1) := fun p hp => ((hxd p hp).ext (u := none) ex2 (fun _ z => z.none.elim)).ext e5 (fun p e => .inl (W.huX p e))
    cases b with
    | false => exact ⟨acc, ⟨⟨L, e5 _ _ hD3 nu0, hnd, hmem, d5⟩, fun b o hb nu => e5 _ _ (k3 b o hb nu) nu, g5.less (by omega)⟩, hacc, hb⟩
    | true =>
      refine ⟨W4.next st5, by show W4.m + ce ≤ W4.n - ct; rw [n4, m4]; omega, _, by rw [show (W4.next st5).ex = noX from l4.ex]; exact hb, fun y H6 e6 st6 hy6 hq7 => ?_⟩
      obtain ⟨r, hrk, hrU, hq6⟩ := hq7
      have x6 : Ext W.u H5 H6 := by have z := st6.ext; rw [show (W4.next st5).u = W.u from u4] at z; exact z
      have g6 : Good W.u H6 (W.n - ci - i * (ct + ce) - ct - ce) := by have z := st6.good; rw [show (W4.next st5).u = W.u from u4, show (W4.next st5).n = W4.n - ct from rfl, n4] at z; exact z
      have hD6 : H6 D0 = some (SetTO X.prog X.w D0 L) := x6 _ _ (e5 _ _ hD3 nu0) nu0
      have d6 : ∀ p ∈ L, Den G (fun a => W.XB a ∨ a = D0) H6 (rowD p.2) (.ref p.1) := fun p hp => (d5 p hp).ext x6 (fun p e => .inl (W.huX p e))
      obtain ⟨b0, rfl, dy⟩ := rowK_den hrk (hy6.fewer b4)
      have kk : ∀ (L' : List (Addr × List Int)) b o, ¬ (W.XB b ∨ b = D0) → H6 b = some o → upd H6 D0 (SetTO X.prog X.w D0 L') b = some o := fun L' b o nb hb => by rw [upd_ne (fun z => nb (.inr z))]; exact hb
      have fewL : L.length + 1 < 64 := by
        have z := nd_sub (m := U) hnd fun r hr => hacc r ((hmem r).mp hr)
        rw [List.length_map] at z; omega
      refine ⟨b0, r, L, rfl, by rw [hK]; exact den_sqT dy, hD6, fun p hp => by rw [hK]; exact den_sqT (d6 p hp), fewL, fun L' c1 c2 nd2 => ?_⟩
      have sub : ∀ p ∈ L', p = (b0, r) ∨ p ∈ L := fun p hp => by
        by_cases c : r ∈ L.map (·.2)
        · rw [c1 c] at hp; exact .inr hp
        · exact List.mem_cons.mp ((c2 c).mem_iff.mp hp)
      have mem2 : ∀ r', r' ∈ L'.map (·.2) ↔ r' ∈ acc ++ [r] := fun r' => by
        rw [List.mem_append, List.mem_singleton, ← hmem]
        by_cases c : r ∈ L.map (·.2)
        · rw [c1 c]
          exact ⟨.inl, fun z => z.elim id fun z => by rw [z]; exact c⟩
        · rw [((c2 c).map (·.2)).mem_iff, List.map_cons, List.mem_cons]
          exact ⟨fun z => z.elim .inr .inl, fun z => z.elim .inr .inl⟩
      refine ⟨acc ++ [r], ⟨⟨L', upd_same, nd2, mem2, fun p hp => ?_⟩, fun b o hb nu => ?_, ?_⟩, fun r' hr' => ?_, hq6⟩
      · rcases sub p hp with rfl | hp
        · exact Den.keep (kk L') (fun b hb => .inl hb) _ _ dy
        · exact Den.keep (kk L') (fun b hb => .inl hb) _ _ (d6 p hp)
      · rw [upd_ne (ne_of_none hb hD)]
        exact x6 _ _ (e5 _ _ (k3 b o hb nu) nu) nu
      · refine (g6.upd (fun p e => ⟨fun z => fr0 (by rw [show D0 = p.1 from z]; exact W.huX p e), fun z => fr0 (by rw [show D0 = p.2 from z]; exact .inl (W.hu p e).2)⟩) (fun φ z => setTO_ne_code φ (Option.some.inj (hD6.symm.trans z)))).less (by omega)
      · rcases List.mem_append.mp hr' with z | z
        · exact hacc r' z
        · rw [List.mem_singleton.mp z]; exact hrU
  · have e : i = ds.length := by omega
    have hmul : i * (ct + ce) ≤ 16777216 * (ct + ce) := Nat.mul_le_mul_right _ (by omega)
    rw [e, List.drop_length] at hq2
    obtain ⟨hne, hq3⟩ := hq2
    refine .inl ⟨wk.stop i H2 keepX (by omega), D0, L, rfl, hxs, fun p hp => by rw [hK]; exact den_sqT (hxd p hp), fun p hp => hne _ ((hmem _).mp (List.mem_map.mpr ⟨p, hp, rfl⟩)), fun L' r pm nd2 few2 pw hr => ?_⟩
    have st2 : Step W (ci + 16777216 * (ct + ce)) (upd H2 r (.lst (L'.map fun q => V.ref q.1))) := by
      have s0 : Step W (ci + 16777216 * (ct + ce)) H2 := ⟨fun b o hb nu => A.keep b o (st.ext b o hb nu) nu, A.good.less (by omega)⟩
      exact s0.new hr
    have frR : ¬ W.XB r := fun hb => by
      cases q : H1 r with
      | none => exact (W.next st).fresh q hb
      | some o =>
        rcases NU.em (u := W.u) (b := r) with hu | ⟨r', hr', rfl⟩
        · rw [A.keep r o q hu] at hr; cases hr
        · obtain ⟨⟨_, h1⟩, _⟩ := A.good.there hr'
          rw [h1] at hr; cases hr
    refine k _ _ (.lst ((L'.map (·.2)).map rowD)) st2 (den_lst hr frR (by rw [List.length_map, sizeLine_eq]; omega) (denL_ks fun q hq => ((hxd q (pm.mem_iff.mp hq)).fewer fun b z => .inl z))) (hq3 _ nd2 (List.pairwise_map.mpr pw) fun r' => ?_)
    rw [(pm.map (·.2)).mem_iff]
    exact hmem r'
theorem de_sortSc {elt iter : Expr} {ifs : List Expr} {scope : Scope} {own : List (Str × Nat)} {p pos cpos : Pos} {ci ce ct : Nat} {ti : DA} {t : DG} {tt : DB} {te : DT} {sl : List Nat} {k : Nat} (xk : Xk G E k X) (hm : X.mg "sorted" = none) (hN : X.N.Nodup) (hi : DI G E X tg ci iter ti) (ok : BlkOk X.N X.env.scope scope own)
    (hg : ∀ (s : Shared) (H : Hp) (C : Addr) (cl : List (Str × Addr)) (fp : List Addr), DTg G E0 (X.blk s H scope (compEnvC scope cl C X.env) fp) tg sl t) (ht : ∀ (s : Shared) (H : Hp) (C : Addr) (cl : List (Str × Addr)) (fp : List Addr), DTs G (X.blk s H scope (compEnvC scope cl C X.env) fp) ct ifs tt)
    (he : ∀ (s : Shared) (H : Hp) (C : Addr) (cl : List (Str × Addr)) (fp : List Addr), DE G E0 (X.blk s H scope (compEnvC scope cl C X.env) fp) ce elt te) (hsl : ∀ i ∈ sl, i ∈ own.map (·.2)) (hgl : Gl X "sorted" := by rfl) (hs : ∀ x, foldedSetIterable iter X.env x = pure x := by intro _; rfl)
    (na : starEach [.SetComp elt [⟨tg, iter, ifs, 0⟩] scope pos] X.env = (false, eval (.SetComp elt [⟨tg, iter, ifs, 0⟩] scope pos) X.env) :: starEach [] X.env := by rfl) :
    DE G E X (ci + 16777216 * (ct + ce)) (.Call (.Name "sorted" p) [.SetComp elt [⟨tg, iter, ifs, 0⟩] scope pos] [] cpos) (dSortSc (own.map (·.2)) ti t tt te) :=
  imp (pe_callB (cr_sortTO xk.calm) hgl hm (by decide +kernel) (pa_cons (pe_scR xk.calm (xk.u (n := 64)) hN hi ok hg ht he hs) pa_nil na) (he := na)) fun σ H Q' h => lift_sc xk.K hsl h
/-- a reading: the elements of a mapped list, all let in -/
theorem compS_of {α : Type} {U : List (List Int)} {t : DG} {te : DT} {Q : List (List Int) → Prop} {env : List Sl} (f : α → D) (g : α → List Int) : ∀ (xs : List α) (acc : List (List Int)), (∀ x ∈ xs, ∀ K : D → Prop, (∀ y, rowK y (g x) → g x ∈ U → K y) → t (f x) env fun env2 => te noX env2 K) → Q (acc ++ xs.map g) → compS U t bYes te Q env (xs.map f) acc
  | [], acc, _, hq => by rw [List.map_nil, List.append_nil] at hq; exact hq
  | x :: xs, acc, hs, hq => by
    show t (f x) env fun env2 => bYes noX env2 fun b => _
    have z := hs x List.mem_cons_self (fun y => ∃ r : List Int, rowK y r ∧ r ∈ U ∧ compS U t bYes te Q env (xs.map f) (acc ++ [r])) fun y h1 h2 => ⟨g x, h1, h2, compS_of f g xs _ (fun x hx => hs x (List.mem_cons_of_mem _ hx)) (by rw [List.append_assoc]; exact hq)⟩
    exact z
end
end Kn
set_option Elab.async false
set_option linter.all false
set_option maxRecDepth 100000
set_option maxHeartbeats 2100000
namespace Kn
open PySem L2 RZ
open PyProof.Rows (envOfC)
section
variable {G : Gd} {E : XK} {X : Cx} {σ : List (Option V)} {H H' : Hp} {tg : Expr}
theorem wd_afterO (W : Wd G E σ H) {c : Nat} {i : Nat} {a : Addr} {fs fs' : List D} {xs' : List V} (he : W.env[i]? = some (.own a fs)) (hsi : σ[i]? = some (some (.ref a))) (hc : c ≤ W.n) (kp : ∀ b o, H b = some o → b ≠ a → NU W.u b → H' b = some o) (hg : Good W.u H' (W.n - c))
    (ha : H' a = some (.lst xs')) (hl : xs'.length ≤ sizeLine) (hd : DenL G W.XB H' fs' xs') : ∃ W' : Wd G E σ H', Later W c W' ∧ W'.env = W.env.set i (.own a fs') ∧ ∀ b, W'.XB b → W.XB b := by
  have hil : i < W.env.length := (List.getElem?_eq_some_iff.mp he).1
  have xa : W.XB a := .inr ⟨i, _, he, rfl, hsi⟩
  obtain ⟨h0, oa, hoa⟩ := W.mine_at he rfl hsi
  have nB : ¬ W.B a := W.own_ne h0
  have xb : ∀ b, XBof W.B (W.env.set i (.own a fs')) σ b → W.XB b := fun b hb => by
    rcases hb with hb | ⟨j, s, e1, m1, e2⟩
    · exact .inl hb
    · by_cases hj : i = j
      · subst hj
        exact .inr ⟨i, _, he, rfl, e2⟩
      · rw [List.getElem?_set_ne hj] at e1
        exact .inr ⟨j, s, e1, m1, e2⟩
  have kd : ∀ b o, ¬ W.XB b → H b = some o → H' b = some o := fun b o nb e => kp b o e (fun z => nb (by rw [z]; exact xa)) (W.nuX nb)
  have dk : ∀ {d : D} {v : V}, Den G W.XB H d v → Den G (XBof W.B (W.env.set i (.own a fs')) σ) H' d v := fun {d v} h => (Den.keep kd (fun b hb => .inl hb) d v h).fewer xb
  have dkl : ∀ {ds : List D} {xs : List V}, DenL G W.XB H ds xs → DenL G (XBof W.B (W.env.set i (.own a fs')) σ) H' ds xs := fun {ds xs} h => (DenL.keep kd (fun b hb => .inl hb) ds xs h).fewer xb
  refine ⟨{ u := W.u, n := W.n - c, m := W.m, B := W.B, H0 := W.H0, env := W.env.set i (.own a fs'), ex := W.ex, ug := W.ug, hu := W.hu, hB := W.hB, fr := fun b o e nu => ?_, good := hg, len := by rw [List.length_set]; exact W.len, sl := fun j s e => ?_, nd := fun j l b s t e1 e2 m1 m2 e3 e4 => ?_, exc := W.exc }, ⟨rfl, rfl, rfl, rfl, rfl, by show W.n ≤ W.n - c + c; omega, kd, fun b hb => .inl (xb b hb)⟩, rfl, xb⟩
  · exact kp b o (W.fr b o e nu) (fun z => by rw [z, h0] at e; cases e) nu
  · by_cases hj : i = j
    · subst hj
      rw [List.getElem?_set_self hil] at e
      cases e
      rw [hsi]
      exact ⟨xs', rfl, h0, ha, hl, hd.fewer xb⟩
    · rw [List.getElem?_set_ne hj] at e
      have z := W.sl j s e
      have ow : ∀ b o, s.mine = true → σ[j]? = some (some (.ref b)) → H b = some o → H' b = some o := fun b o ms hb q => by
        refine kp b o q (fun z => ?_) (lend_un W (W.mine_at e ms hb).1)
        subst z
        exact hj (W.nd i j b _ s he e rfl ms hsi hb)
      cases s with
      | emp => trivial
      | val d => obtain ⟨x, e1, e2⟩ := z; exact ⟨x, e1, dk e2⟩
      | own b ds => obtain ⟨xs, e1, e2, e3, e4, e5⟩ := z; exact ⟨xs, e1, e2, ow b _ rfl (join_some e1) e3, e4, dkl e5⟩
      | slf b dx c ds => obtain ⟨xs, e1, e2, e3, e4, e5⟩ := z; exact ⟨xs, e1, e2, ow b _ rfl (join_some e1) e3, e4, dkl e5⟩
      | obj b o => obtain ⟨e1, e2, e3, e4⟩ := z; exact ⟨e1, e2, ow b _ rfl (join_some e1) e3, e4⟩
      | dic b ks es => obtain ⟨L, e1, e2, e3, e4, e5, e6⟩ := z; exact ⟨L, e1, e2, ow b _ rfl (join_some e1) e3, e4, e5.by dk, dkl e6⟩
  · have old : ∀ {j : Nat} {s : Sl}, (W.env.set i (.own a fs'))[j]? = some s → s.mine = true → ∃ s', W.env[j]? = some s' ∧ s'.mine = true := fun {j s} e ms => by
      by_cases hj : i = j
      · subst hj; exact ⟨_, he, rfl⟩
      · rw [List.getElem?_set_ne hj] at e; exact ⟨s, e, ms⟩
    obtain ⟨s', f1, f2⟩ := old e1 m1
    obtain ⟨t', f3, f4⟩ := old e2 m2
    exact W.nd j l b s' t' f1 f3 f2 f4 e3 e4
def compP (G : Gd) (tg : DG) (te : DT2) (i0 : Nat) (a : Addr) (Q : List D → List D → Prop) (base : List Sl) : List D → List D → List D → Prop
  | [], acc, fs => Q acc fs
  | d :: ds, acc, fs => tg d (base.set i0 (.own a fs)) fun env2 => te noX env2 fun y env3 => ∃ fs', env3[i0]? = some (.own a fs') ∧ fs'.length ≤ sizeLine ∧ compP G tg te i0 a Q base ds (acc ++ [y]) fs'
def d2CompP (G : Gd) (i0 : Nat) (vs : List Nat) (ti : DA) (tg : DG) (te : DT2) : DT2 := fun ex env Q => ∃ a fs, env[i0]? = some (.own a fs) ∧ fs.length ≤ sizeLine ∧ ti ex env fun ds => compP G tg te i0 a (fun rs fs' => Q (.lst rs) (env.set i0 (.own a fs'))) (inEnv env vs) ds [] fs
/-- the state in which one item is made: the own thing at a stands in slot i0, all else of the frame's own is out of reach -/
def Wd.innerP (W : Wd G E σ H) {c : Nat} {H1 : Hp} (st : Step W c H1) (vs : List Nat) (Dn : Addr) (H2 : Hp) (n2 : Nat) (hD : H1 Dn = none) (hD2 : H2 Dn ≠ none) {i0 : Nat} {a : Addr} {fs0 fs : List D} {xs : List V} (he : W.env[i0]? = some (.own a fs0)) (hsi : σ[i0]? = some (some (.ref a))) (hv : i0 ∉ vs)
    (k : ∀ b o, H1 b = some o → b ≠ a → NU W.u b → H2 b = some o) (hg : Good W.u H2 n2) (ha : H2 a = some (.lst xs)) (hl : xs.length ≤ sizeLine) (hd : DenL G (fun b => W.XB b ∨ b = Dn) H2 fs xs) (hna : H1 a ≠ none) :
    Wd G E0 (wipe σ vs) H2 where
  u := W.u
  n := n2
  m := W.m
  B := fun b => (W.XB b ∧ b ≠ a) ∨ b = Dn
  H0 := fun b => if b = a then none else H2 b
  env := (inEnv W.env vs).set i0 (.own a fs)
  ex := fun _ => False
  ug := W.ug
  hu := fun p e => by
    have nB : ¬ W.B a := W.own_ne (W.mine_at he rfl hsi).1
    exact ⟨.inl ⟨.inl (W.hu p e).1, fun z => nB (by rw [← z]; exact (W.hu p e).1)⟩, .inl ⟨.inl (W.hu p e).2, fun z => nB (by rw [← z]; exact (W.hu p e).2)⟩⟩
  hB := fun b hb z => by
    have nDa : Dn ≠ a := fun q => hna (by rw [← q]; exact hD)
    rcases hb with ⟨hb, hba⟩ | rfl
    · rw [if_neg hba] at z
      cases q : H1 b with
      | none => exact (W.next st).fresh q hb
      | some o =>
        rcases NU.em (u := W.u) (b := b) with hu | ⟨r, hr, rfl⟩
        · rw [k b o q hba hu] at z; cases z
        · obtain ⟨⟨_, h1⟩, _⟩ := hg.there hr
          rw [h1] at z; cases z
    · rw [if_neg nDa] at z
      exact hD2 z
  fr := fun b o e0 _ => by
    have e : (if b = a then none else H2 b) = some o := e0
    by_cases q : b = a
    · rw [if_pos q] at e; cases e
    · rw [if_neg q] at e; exact e
  good := hg
  len := by unfold inEnv; rw [List.length_set, wipeE_len, List.length_map, wipe_length]; exact W.len
  sl := fun i s e => by
    have xa : W.XB a := .inr ⟨i0, _, he, rfl, hsi⟩
    have sub : ∀ b, XBof (fun b => (W.XB b ∧ b ≠ a) ∨ b = Dn) ((inEnv W.env vs).set i0 (.own a fs)) (wipe σ vs) b → W.XB b ∨ b = Dn := fun b hb => by
      rcases hb with (hb | hb) | ⟨j, t, e1, m1, e2⟩
      · exact .inl hb.1
      · exact .inr hb
      · by_cases hj : i0 = j
        · subst hj
          rw [wipe_get, if_neg (fun z => hv z.1), hsi] at e2
          cases e2
          exact .inl xa
        · rw [List.getElem?_set_ne hj] at e1
          exact (inEnv_noown e1 m1).elim
    by_cases hj : i0 = i
    · subst hj
      have hil : i0 < (inEnv W.env vs).length := by
        unfold inEnv; rw [wipeE_len, List.length_map]; exact (List.getElem?_eq_some_iff.mp he).1
      rw [List.getElem?_set_self hil] at e
      cases e
      rw [wipe_get, if_neg (fun z => hv z.1), hsi]
      exact ⟨xs, rfl, if_pos rfl, ha, hl, hd.fewer sub⟩
    · rw [List.getElem?_set_ne hj] at e
      rcases inEnv_get e with z | ⟨hi, s', h1, z⟩
      · subst z; trivial
      · subst z
        have so := (W.next st).sl i s' h1
        have ew : (wipe σ vs)[i]? = σ[i]? := by rw [wipe_get, if_neg (fun z => hi z.1)]
        rw [ew]
        cases s' with
        | emp => trivial
        | own a ds => trivial
        | slf a dx c ds => trivial
        | obj a o => trivial
        | dic a ks ds => trivial
        | val d =>
          obtain ⟨x, e1, e2⟩ := so
          refine ⟨x, e1, ?_⟩
          have e2' : Den G W.XB H1 d x := e2
          refine Den.keep (fun b o nb hb => k b o hb (fun z => nb (by rw [z]; exact xa)) (W.nuX nb)) (fun b hb => ?_) d x e2'
          · rcases sub b hb with q | rfl
            · exact .inl q
            · exact .inr hD
  nd := fun i j b s t h1 h2 m1 m2 _ _ => by
    have key : ∀ {i : Nat} {s : Sl}, ((inEnv W.env vs).set i0 (.own a fs))[i]? = some s → s.mine = true → i = i0 := fun {i s} e m => by
      by_cases hj : i0 = i
      · exact hj.symm
      · rw [List.getElem?_set_ne hj] at e
        exact (inEnv_noown e m).elim
    rw [key h1 m1, key h2 m2]
  exc := fun _ _ _ _ _ _ _ z => z.elim
/-- what stands between two turns -/
structure AccP (G : Gd) {E : XK} {σ : List (Option V)} {H : Hp} (W : Wd G E σ H) (H1 : Hp) (D0 a : Addr) (b : Nat) (H2 : Hp) (acc fs : List D) : Prop where
  at_ : ∃ xs, H2 D0 = some (.lst xs) ∧ xs.length ≤ sizeLine ∧ DenL G (fun a => W.XB a ∨ a = D0) H2 acc xs
  own : ∃ ys, H2 a = some (.lst ys) ∧ ys.length ≤ sizeLine ∧ DenL G (fun a => W.XB a ∨ a = D0) H2 fs ys
  keep : ∀ b o, H1 b = some o → b ≠ a → NU W.u b → H2 b = some o
  good : Good W.u H2 b
theorem lift_compP {ci ce i0 : Nat} {ti : DA} {t : DG} {te : DT2} {vs sl : List Nat} (hsl : ∀ i ∈ sl, i ∈ vs) (hv : i0 ∉ vs) {Q' : VK} (h : lift2 G E (ci + 16777216 * ce) (d2CompP G i0 vs ti t te) σ H Q') :
    tLc (liftI G E ci ti) (liftG G E0 sl t) (liftB G E0 0 bYes) (lift2 G E0 ce te) vs σ H Q' := by
  obtain ⟨W, hn, Q, ⟨a, fs0, he, hfl0, ht⟩, k⟩ := h
  refine ⟨W, by omega, _, ht, fun J H1 ds st wk hq => ?_⟩
  intro D0 hD
  have hlen : ds.length ≤ 16777216 := by have := wk.len; rw [sizeLine_eq] at this; exact this
  have fr0 : ¬ W.XB D0 := (W.next st).fresh hD
  obtain ⟨ys0, hsi, h0, hat, hl0, hy0⟩ := lift_own he
  have nB : ¬ W.B a := W.own_ne h0
  have xa : W.XB a := .inr ⟨i0, _, he, rfl, hsi⟩
  have una : NU W.u a := lend_un W h0
  have ha1 : H1 a = some (.lst ys0) := st.ext a _ hat una
  have nDa : D0 ≠ a := fun q => by rw [← q, hD] at ha1; cases ha1
  have hy1 : DenL G W.XB H1 fs0 ys0 := hy0.ext st.ext W.huX
  have nu0 : NU W.u D0 := W.nuX fr0
  refine ⟨fun i m H2 => ∃ acc fs, AccP G W H1 D0 a (W.n - ci - i * ce) H2 acc fs ∧ acc.length ≤ i ∧ i ≤ ds.length ∧ m = ds.length - i ∧ fs.length ≤ sizeLine ∧ compP G t te i0 a (fun rs fs' => Q (.lst rs) (W.env.set i0 (.own a fs'))) (inEnv W.env vs) (ds.drop i) acc fs,
    ⟨ds.length, [], fs0, ⟨⟨[], upd_same, by simp, rfl⟩, ⟨ys0, by rw [upd_ne (Ne.symm nDa)]; exact ha1, hl0, ?_⟩, fun b o hb _ _ => by rw [upd_ne (ne_of_none hb hD)]; exact hb, ?_⟩, Nat.le_refl _, Nat.zero_le _, rfl, hfl0, hq⟩, ?_⟩
  · exact DenL.keep (fun b o nb e => by rw [upd_ne (ne_of_none e hD)]; exact e) (fun b hb => hb.imp id fun z => by rw [z]; exact hD) _ _ hy1
  · have g := st.good
    rw [Nat.zero_mul, Nat.sub_zero]
    exact g.ext (Ext.new hD)
  rintro i m H2 ⟨acc, fs, A, hacc, hi, rfl, hfl, hq2⟩
  obtain ⟨xs, hxs, hxl, hxd⟩ := A.at_
  obtain ⟨ys, hys, hyl, hyd⟩ := A.own
  have keepX : ∀ b o, ¬ W.XB b → H1 b = some o → H2 b = some o := fun b o nb hb => A.keep b o hb (fun z => nb (by rw [z]; exact xa)) (W.nuX nb)
  by_cases hlt : i < ds.length
  · have hmul : (i + 1) * ce ≤ 16777216 * ce := Nat.mul_le_mul_right _ (by omega)
    have hmul2 : (i + 1) * ce = i * ce + ce := by rw [Nat.add_mul, Nat.one_mul]
    obtain ⟨go, yl⟩ := wk.go i H2 (fun a => W.XB a ∨ a = D0) keepX (fun b hb => by
      rcases hb with hb | rfl
      · exact .inl hb
      · exact .inr hD) (fun p hp hb => by
      rcases hb with hb | rfl
      · cases q : H1 p with
        | none => exact (W.next st).fresh q hb
        | some o =>
          rcases NU.em (u := W.u) (b := p) with hu | ⟨r, hr, rfl⟩
          · by_cases hpa : p = a
            · rw [hpa, hys] at hp; cases hp
            · rw [A.keep p o q hpa hu] at hp; cases hp
          · obtain ⟨⟨_, h1⟩, _⟩ := A.good.there hr
            rw [h1] at hp; cases hp
      · rw [hxs] at hp; cases hp) hlt
    refine .inr ⟨go, fun H5 => ∃ acc2 fs2, AccP G W H1 D0 a (W.n - ci - (i + 1) * ce) H5 acc2 fs2 ∧ acc2.length ≤ i + 1 ∧ fs2.length ≤ sizeLine ∧ compP G t te i0 a (fun rs fs' => Q (.lst rs) (W.env.set i0 (.own a fs'))) (inEnv W.env vs) (ds.drop (i + 1)) acc2 fs2,
      fun H5 ⟨acc2, fs2, a2, l2, f2, q2⟩ => ⟨ds.length - (i + 1), by omega, acc2, fs2, a2, l2, hlt, rfl, f2, q2⟩, fun x H3 hy => ?_⟩
    obtain ⟨ex2, d, hd, hden⟩ := yl x H3 hy
    rw [drop_cons hd] at hq2
    have hD3 : H3 D0 = some (.lst xs) := ex2 _ _ hxs NU.none
    have ha3 : H3 a = some (.lst ys) := ex2 _ _ hys NU.none
    have hy3 : DenL G (fun a => W.XB a ∨ a = D0) H3 fs ys := hyd.ext (u := none) ex2 (fun _ z => z.none.elim)
    have k3 : ∀ b o, H1 b = some o → b ≠ a → NU W.u b → H3 b = some o := fun b o hb na nu => ex2 _ _ (A.keep b o hb na nu) NU.none
    let W3 : Wd G E0 (wipe σ vs) H3 := W.innerP st vs D0 H3 (W.n - ci - i * ce) hD (by rw [hD3]; simp) he hsi hv k3 (A.good.ext ex2) ha3 hyl hy3 (by rw [ha1]; simp)
    have sub3 : ∀ b, W3.XB b → W.XB b ∨ b = D0 := fun b hb => by
      rcases hb with (hb | hb) | ⟨j, s, e1, m1, e2⟩
      · exact .inl hb.1
      · exact .inr hb
      · by_cases hj : i0 = j
        · subst hj
          rw [wipe_get, if_neg (fun z => hv z.1), hsi] at e2
          cases e2
          exact .inl xa
        · have e1' : ((inEnv W.env vs).set i0 (.own a fs))[j]? = some s := e1
          rw [List.getElem?_set_ne hj] at e1'
          exact (inEnv_noown e1' m1).elim
    have hden3 : Den G W3.XB H3 d x := hden.fewer sub3
    refine ⟨W3, d, _, hden3, hq2, fun σ4 W4 al hsl4 hq4 => ⟨wipe_same hsl hsl4.1 (by rw [hsl4.2, wipe_length]), ?_⟩⟩
    have l4 := al.later
    have n4 : W4.n = W.n - ci - i * ce := al.n
    have m4 : W4.m = W.m := l4.m
    have u4 : W4.u = W.u := l4.u
    have B4 : W4.B = fun b => (W.XB b ∧ b ≠ a) ∨ b = D0 := l4.B
    have H04 : W4.H0 = fun b => if b = a then none else H3 b := l4.H0
    have s4 : σ4[i0]? = some (some (.ref a)) := by rw [hsl4.1 i0 (fun z => hv (hsl i0 z)), wipe_get, if_neg (fun z => hv z.1)]; exact hsi
    refine ⟨W4, by rw [n4, m4]; omega, fun b => b = true, rfl, fun b H5 st5 hb => ?_⟩
    subst hb
    show lift2 G E0 ce te σ4 H5 _
    have e5 : Ext W.u H3 H5 := by have z := st5.ext; rw [u4] at z; exact z
    refine ⟨W4.next st5, by show W4.m + ce ≤ W4.n - 0; rw [n4, m4]; omega, _, by rw [show (W4.next st5).ex = noX from l4.ex]; exact hq4, fun y H6 e6 W5 lt hy6 hq5 => ?_⟩
    obtain ⟨fs', he5, hfl5, hq6⟩ := hq5
    have u5 : W5.u = W.u := lt.u.trans u4
    have B5 : W5.B = fun b => (W.XB b ∧ b ≠ a) ∨ b = D0 := lt.B.trans B4
    have H05 : W5.H0 = fun b => if b = a then none else H3 b := lt.H0.trans H04
    have k6 : ∀ b o, H3 b = some o → b ≠ a → NU W.u b → H6 b = some o := fun b o hb na nu => W5.fr b o (by rw [H05]; show (if b = a then none else H3 b) = some o; rw [if_neg na]; exact hb) (by rw [u5]; exact nu)
    have x5 : ∀ b, (W.XB b ∨ b = D0) → W5.XB b := fun b hb => by
      by_cases q : b = a
      · exact .inr ⟨i0, _, he5, rfl, by rw [q]; exact s4⟩
      · exact .inl (by rw [B5]; exact hb.imp (fun z => ⟨z, q⟩) id)
    obtain ⟨ys6, hs6, h06, ha6, hl6, hd6⟩ := lift_own he5
    have ey6 : ys6.length ≤ sizeLine := hl6
    have g6 : Good W.u H6 (W.n - ci - i * ce - ce) := by
      have z := W5.good
      rw [u5] at z
      refine z.less ?_
      have := lt.n
      have h2 : (W4.next st5).n = W4.n - 0 := rfl
      rw [h2, n4] at this
      omega
    have hD6 : H6 D0 = some (.lst xs) := k6 _ _ hD3 nDa nu0
    have hxl2 : xs.length < sizeLine := by have := hxd.length; rw [sizeLine_eq]; omega
    have dacc : DenL G (fun a => W.XB a ∨ a = D0) H6 acc xs := by
      have z : DenL G (fun a => W.XB a ∨ a = D0) H3 acc xs := hxd.ext (u := none) ex2 (fun _ z => z.none.elim)
      exact DenL.keep (fun b o nb e => k6 b o e (fun z => nb (.inl (by rw [z]; exact xa))) (W.nuX fun q => nb (.inl q))) (fun b hb => .inl hb) _ _ z
    have dy : Den G (fun a => W.XB a ∨ a = D0) H6 e6 y := hy6.fewer x5
    have kk : ∀ b o, ¬ (W.XB b ∨ b = D0) → H6 b = some o → upd H6 D0 (.lst (xs ++ [y])) b = some o := fun b o nb hb => by rw [upd_ne (fun z => nb (.inr z))]; exact hb
    refine ⟨xs, hD6, hxl2, acc ++ [e6], fs', ⟨⟨xs ++ [y], upd_same, by rw [List.length_append]; exact hxl2, ?_⟩, ⟨ys6, by rw [upd_ne (Ne.symm nDa)]; exact ha6, ey6, DenL.keep kk (fun b hb => .inl hb) _ _ (hd6.fewer x5)⟩, fun b o hb na nu => ?_, ?_⟩, by rw [List.length_append]; simp; omega, hfl5, hq6⟩
    · exact (DenL.keep kk (fun b hb => .inl hb) _ _ dacc).append ⟨y, [], rfl, Den.keep kk (fun b hb => .inl hb) _ _ dy, rfl⟩
    · rw [upd_ne (ne_of_none hb hD)]
      exact k6 _ _ (k3 b o hb na nu) na nu
    · refine (g6.upd (fun p e => ⟨fun z => fr0 (by rw [show D0 = p.1 from z]; exact W.huX p e), fun z => fr0 (by rw [show D0 = p.2 from z]; exact .inl (W.hu p e).2)⟩) (fun φ z => by rw [hD6] at z; cases z)).less (by omega)
  · have e : i = ds.length := by omega
    have hmul : i * ce ≤ 16777216 * ce := Nat.mul_le_mul_right _ (by omega)
    rw [e, List.drop_length] at hq2
    obtain ⟨W', l1, l2, l3⟩ := wd_afterO (c := ci + 16777216 * ce) W (i := i0) (fs' := fs) he hsi (by omega) (fun b o hb na nu => A.keep b o (st.ext b o hb nu) na nu) (A.good.less (by omega)) hys hyl (hyd.fewer fun b z => .inl z)
    have hden : Den G W'.XB H2 (.lst acc) (.ref D0) := ⟨D0, xs, rfl, fun z => fr0 (l3 D0 z), hxs, hxl, hxd.fewer fun b z => .inl (l3 b z)⟩
    have hq3 : Q (.lst acc) W'.env := by rw [l2]; exact hq2
    exact .inl ⟨wk.stop i H2 keepX (by omega), k (.ref D0) H2 (.lst acc) W' l1 hden hq3⟩
theorem d2_compP {elt iter : Expr} {scope : Scope} {own : List (Str × Nat)} {pos : Pos} {ci ce i0 : Nat} {ti : DA} {t : DG} {te : DT2} {sl : List Nat} {k : Nat} (xk : Xk G E k X) (hN : X.N.Nodup) (hi : DI G E X tg ci iter ti) (ok : BlkOk X.N X.env.scope scope own)
    (hg : ∀ (s : Shared) (H : Hp) (C : Addr) (cl : List (Str × Addr)) (fp : List Addr), DTg G E0 (X.blk s H scope (compEnvC scope cl C X.env) fp) tg sl t)
    (he : ∀ (s : Shared) (H : Hp) (C : Addr) (cl : List (Str × Addr)) (fp : List Addr), DE2 G E0 (X.blk s H scope (compEnvC scope cl C X.env) fp) ce elt te) (hsl : ∀ i ∈ sl, i ∈ own.map (·.2)) (hv : i0 ∉ own.map (·.2)) (hs : ∀ x, foldedSetIterable iter X.env x = pure x := by intro _; rfl) :
    DE2 G E X (ci + 16777216 * ce) (.ListComp elt [⟨tg, iter, [], 0⟩] scope pos) (d2CompP G i0 (own.map (·.2)) ti t te) :=
  imp (pe_lc xk.calm hN hi ok hg (fun s H C cl fp => dts_nil) he hs) fun _ _ _ h => lift_compP hsl hv h
def d2Tup (t : DT2) : DT2 := fun ex env Q => t ex env fun d env' => gTuple d fun r => Q r env'
theorem d2_tuple {e : Expr} {p pos : Pos} {c : Nat} {t : DT2} (hK : X.K = G.K) (hm : X.mg "tuple" = none) (he : DE2 G E X c e t) (hg : Gl X "tuple" := by rfl) (na : starEach [e] X.env = (false, eval e X.env) :: starEach [] X.env := by rfl) :
    DE2 G E X c (.Call (.Name "tuple" p) [e] [] pos) (d2Tup t) :=
  imp (pe_callTy (c_tuple (G := G) hK) hg hm (by decide +kernel) (pa_cons he pa_nil na) (by decide) (by decide) na (by rfl)) fun σ H Q' h => by
    obtain ⟨W, hn, Q, ht, kk⟩ := h
    refine ⟨W, hn, _, ht, fun v H1 d W1 lt hd hq => ?_⟩
    show rDL G (g1 gTuple) [v] H1 Q'
    refine ⟨W1.XB, [d], fun r => Q r W1.env, ⟨v, [], rfl, hd, rfl⟩, fun p hp => W1.fresh hp, hq, fun r H2 rd ext hrd hq2 => ?_⟩
    have st2 : Step W1 0 H2 := (Step.refl W1).pure ext
    exact kk r H2 rd (W1.next st2) ((lt.trans (Later.next st2)).more (by omega)) hrd hq2
/-- return e, e changes something of the frame's own -/
def s2Ret (t : DT2) : DS := fun ex de env => t ex env fun d env' => de.rt d env'
theorem Den.outL {W : Wd G E σ H} {c : Nat} {H' : Hp} {W' : Wd G E σ H'} (lt : Later W c W') {d : D} {v : V} (h : Den G W'.XB H' d v) : Den G W.B H' d v := h.fewer fun b hb => .inl (by rw [lt.B]; exact hb)
theorem ds2_ret {e : Expr} {pos : Pos} {c : Nat} {t : DT2} (he : DE2 G E X c e t) : DSt G E X c (.Return (some e) pos) (s2Ret t) := impS (ps_ret he) fun Dn σ H h => by
  obtain ⟨W, hn, de, ht, k1, k2, k3, k4⟩ := h
  exact ⟨W, hn, _, ht, fun v H' d W' lt hd hr => k2 v σ H' W' d lt (hd.outL lt) hr⟩
end
end Kn
set_option Elab.async false
set_option linter.all false
set_option maxRecDepth 100000
set_option maxHeartbeats 2100000
namespace Kn
open PySem L2 RZ
section
variable {G : Gd} {E : XK} {X : Cx} {σ : List (Option V)} {H H' : Hp} {tg : Expr}
def fSortOwn (i : Nat) : DA := fun _ env Q => ∃ (a : Addr) (rs : List (List Int)), env[i]? = some (.own a (rs.map rowD)) ∧ FewR rs ∧ (∀ r ∈ rs, r ≠ []) ∧ ∀ out : List (List Int), out.Nodup → out.Pairwise (fun x y => lexL y x = false) → (∀ r, r ∈ out ↔ r ∈ rs) → Q (out.map rowD)
theorem df_sortOwn {i : Nat} {x : Str} {px p p2 q pos : Pos} (hK : X.K = G.K) (hc : X.calm = true) (hu : X.A.units + 64 < cLine) (hm : X.mg "sorted" = none) (hm2 : X.mg "set" = none) (hN : X.N[i]? = some x) (hv : Vis X.env.scope x := by first | exact Or.inl rfl | exact Or.inr (Or.inl rfl) | exact Or.inr (Or.inr rfl))
    (hdb : (x == ("__debug__" : Str)) = false := by decide) (hcd : (x == ("__classdict__" : Str)) = false := by decide) (hg : Gl X "sorted" := by rfl) (hg2 : Gl X "set" := by rfl)
    (na : starEach [.Name x px] X.env = (false, eval (.Name x px) X.env) :: starEach [] X.env := by rfl) : DF G E X 0 (.Call (.Name "sorted" p) [.Call (.Name "set" p2) [.Name x px] [] q] [] pos) (fSortOwn i) :=
  imp (pe_sortSetR hc hu hg hm hg2 hm2 (pe_var (i := i) hN hv hdb hcd) na) fun σ H Q' h => by
    obtain ⟨W, hn, Q, ⟨a, rs, he, hf, hne, hq⟩, kk⟩ := h
    obtain ⟨xs, hsi, h0, ha, hl, hds⟩ := lift_own he
    obtain ⟨ks, rfl, e2, e3⟩ := rows_ks hds
    refine ⟨.ref a, hsi, a, ks, rfl, SqL.of ha, fun p hp => by rw [hK]; exact (e3 p hp).1, by rw [e2]; exact hf, fun p hp => hne _ (by rw [← e2]; exact List.mem_map.mpr ⟨p, hp, rfl⟩), fun L r sub all nd pw hr => ?_⟩
    have hlen : (L.map fun p => V.ref p.1).length ≤ sizeLine := by
      have := FewR.len (ks := ks) (L := L) (by rw [e2]; exact hf) sub nd
      rw [List.length_map, sizeLine_eq]; omega
    have kp : ∀ b o, ¬ W.XB b → H b = some o → upd H r (.lst (L.map fun p => V.ref p.1)) b = some o := fun b o nb e => by rw [upd_ne (ne_of_none e hr)]; exact e
    refine kk r _ ((L.map (·.2)).map rowD) _ ((Step.refl W).new hr) hr upd_same hlen (denL_ks fun q hq2 => Den.keep kp (fun b hb => hb.imp id fun z => by rw [z]; exact hr) _ _ (e3 q (sub q hq2)).2) (hq _ nd (List.pairwise_map.mpr pw) fun r' => ⟨fun hr2 => ?_, fun hr2 => ?_⟩)
    · obtain ⟨p, hp, rfl⟩ := List.mem_map.mp hr2
      rw [← e2]; exact List.mem_map.mpr ⟨p, sub p hp, rfl⟩
    · rw [← e2] at hr2
      obtain ⟨p, hp, rfl⟩ := List.mem_map.mp hr2
      exact all p hp
/-- a new list, made while the own list in slot i is lent; what it holds is no list -/
def dLendF (i : Nat) (t : DA) : DT := fun ex env Q => ∃ a ds0, env[i]? = some (.own a ds0) ∧ t ex (env.set i (.val (.lst ds0))) fun ds => noLstL ds = true ∧ Q (.lst ds)
theorem de_lendF (i : Nat) {e : Expr} {c : Nat} {t : DA} (h : DF G E X c e t) : DE G E X c e (dLendF i t) := imp h fun σ H Q' hh => by
  obtain ⟨W, hn, Q, ⟨a0, ds0, he, ht⟩, kk⟩ := hh
  obtain ⟨W1, a, w1, w2, w3, w4, w5, w6, w7, hsi, h0, nt, x1, x2⟩ := wd_lend (v := .lst ds0) W he (.inl ⟨a0, ds0, rfl, rfl⟩)
  obtain ⟨xs0, hsi0, _, ha0, _, _⟩ := lift_own he
  have ea : a = a0 := by rw [hsi] at hsi0; cases hsi0; rfl
  subst ea
  refine ⟨W1, by rw [w3, w4]; exact hn, fun ds => noLstL ds = true ∧ Q (.lst ds), by rw [w1, w6]; exact ht, fun p H2 ds xs st hp h2 hl hd ⟨fl, hq⟩ => ?_⟩
  have st2 : Step W c H2 := ⟨by rw [← w2]; exact st.ext, by rw [← w2, ← w3]; exact st.good⟩
  have ha2 : H2 a = some (.lst xs0) := st2.ext a _ ha0 (lend_un W h0)
  have npa : p ≠ a := fun z => by rw [z, ha0] at hp; cases hp
  have hd2 : DenL G W.XB H2 ds xs := DenL.offLst (B := fun b => W1.XB b ∨ b = p) (fun b hb => by
    rcases x1 b hb with z | z
    · exact .inl (.inl z)
    · exact .inr ⟨xs0, by rw [z]; exact ha2⟩) _ _ fl hd
  exact kk (.ref p) H2 (.lst ds) st2 ⟨p, xs, rfl, W.fresh hp, h2, hl, hd2⟩ hq
end
end Kn
set_option Elab.async false
set_option linter.all false
set_option maxRecDepth 100000
set_option maxHeartbeats 2100000
namespace Kn
open PySem L2 RZ
section
variable {G : Gd} {E : XK} {X : Cx} {σ : List (Option V)} {H H' : Hp} {tg : Expr}
def fSl (te : DT) (tl th : DO) : DA := fun ex env Q => te ex env fun d => tl ex env fun l => th ex env fun u => ∃ ds, d = .lst ds ∧ Q (cutD ds l u)
theorem df_slL {e : Expr} {lo hi : Option Expr} {pos p2 : Pos} {c cl ch : Nat} {te : DT} {tl th : DO} (he : DE G E X c e te) (hl : PO X lo (liftO G E cl tl)) (hh : PO X hi (liftO G E ch th)) : DF G E X (c + (cl + ch)) (.Subscript e (.Slice lo hi none p2) pos) (fSl te tl th) :=
  imp (pe_slice sl_any he hl hh) fun σ H Q' h => by
    obtain ⟨W, hn, Q, ht, kk⟩ := h
    refine ⟨W, by omega, _, ht, fun v H1 d st hd hq => ⟨W.next st, by show W.m + cl ≤ W.n - c; omega, _, hq, fun l H2 st2 hq2 => ⟨(W.next st).next st2, by show W.m + ch ≤ W.n - c - cl; omega, _, hq2, fun u H3 st3 ⟨ds, ed, hq3⟩ => ?_⟩⟩⟩
    subst ed
    have st13 : Step W (c + (cl + ch)) H3 := st.trans (st2.trans st3)
    have hd3 : Den G W.XB H3 (.lst ds) v := ((W.next st).next st2).den st3 ((W.next st).den st2 hd)
    obtain ⟨a, xs, rfl, na, ha, la, da⟩ := hd3
    refine .inl ⟨a, xs, rfl, SqL.of ha, fun p hp => ?_⟩
    exact kk p _ (cutD ds l u) _ (st13.new hp) (new_none st13 hp) upd_same (Nat.le_trans (cutV_length xs l u) la) (DenL.keep (fun b o nb e => by rw [upd_ne (ne_of_none e hp)]; exact e) (fun b hb => hb.imp id fun z => by rw [z]; exact hp) _ _ (denL_cut da)) hq3
end
end Kn
set_option Elab.async false
set_option linter.all false
set_option maxRecDepth 100000
set_option maxHeartbeats 4100000
namespace Pg
open PySem L2 RZ Kn
section
variable {G : Gd} {P : Program} {w : World} {mg : Str → Option Value} {base : Heap} {f : Addr} {fd : FuncData}
theorem all_mem {n : Nat} : ∀ {m : Nat} {r : List Int}, r.length = m → (∀ i ∈ r, 0 ≤ i ∧ i < (n : Int)) → r ∈ allRows n m
  | 0, r, hl, _ => by rw [List.length_eq_zero_iff.mp hl]; exact List.mem_singleton_self _
  | m + 1, r, hl, hv => by
    have hne : r ≠ [] := fun z => by rw [z] at hl; cases hl
    have e : r = r.dropLast ++ [r.getLast hne] := (List.dropLast_concat_getLast hne).symm
    have hx := hv _ (List.getLast_mem hne)
    unfold allRows
    refine List.mem_flatMap.mpr ⟨r.dropLast, all_mem (by rw [List.length_dropLast]; omega) fun i hi => hv i (List.dropLast_subset r hi), List.mem_map.mpr ⟨(r.getLast hne).toNat, List.mem_range.mpr (by omega), ?_⟩⟩
    rw [Int.toNat_of_nonneg hx.1]
    exact e.symm
theorem lex_app {x y : List Int} : ∀ {r s : List Int}, r.length = s.length → lexL r s = true → lexL (r ++ x) (s ++ y) = true
  | [], [], _, h => by cases h
  | [], _ :: _, h, _ =>
        by cases h
  | _ :: _, [], h, _ =>
        by cases h
  | a :: r, b :: s, hl, h => by
    unfold lexL at h
    show lexL (a :: (r ++ x)) (b :: (s ++ y)) = true
    unfold lexL
    by_cases e : a = b
    · rw [if_pos e] at h ⊢
      exact lex_app (by simpa using hl) h
    · rw [if_neg e] at h ⊢
      exact h
theorem lex_last {a b : Int} (h : a < b) : ∀ r : List Int, lexL (r ++ [a]) (r ++ [b]) = true
  | [] => by
    show lexL [a] [b] = true
    unfold lexL
    rw [if_neg (by omega)]
    exact decide_eq_true h
  | x :: r => by
    show lexL (x :: (r ++ [a])) (x :: (r ++ [b])) = true
    unfold lexL
    rw [if_pos rfl]
    exact lex_last h r
theorem rows_lt (n : Nat) : ∀ m, (allRows n m).Pairwise fun x y => lexL x y = true
  | 0 => List.pairwise_singleton _ _
  | m + 1 => by
    unfold allRows
    refine List.pairwise_flatMap.mpr ⟨fun r _ => ?_, (rows_lt n m).imp_of_mem fun {r s} hr hs h => fun x hx y hy => ?_⟩
    · refine List.pairwise_map.mpr (List.pairwise_lt_range.imp fun {a b} h => lex_last (by omega) r)
    · obtain ⟨a, _, rfl⟩ := List.mem_map.mp hx
      obtain ⟨b, _, rfl⟩ := List.mem_map.mp hy; exact lex_app (by rw [allRows_row n m r hr, allRows_row n m s hs]) h
theorem lex_irr : ∀ x : List Int, lexL x x = false
  | [] => rfl
  | a :: x => by unfold lexL; rw [if_pos rfl]; exact lex_irr x
theorem lt_nd {xs : List (List Int)} (h : xs.Pairwise fun x y => lexL x y = true) : xs.Nodup := h.imp fun {a b} hab e => by
  rw [e, lex_irr] at hab; cases hab
theorem lex_eq : ∀ {x y : List Int}, lexL x y = false → lexL y x = false → x = y
  | [], [], _, _ => rfl
  | [], _ :: _, h, _ =>
        by cases h
  | _ :: _, [], _, h =>
        by cases h
  | x :: xs, y :: ys, h1, h2 => by
    unfold lexL at h1 h2
    by_cases e : x = y
    · subst e
      rw [if_pos rfl] at h1 h2
      rw [lex_eq h1 h2]
    · rw [if_neg e] at h1
      rw [if_neg fun z => e z.symm] at h2
      have a1 := of_decide_eq_false h1
      have a2 := of_decide_eq_false h2
      omega
theorem asc_uniq {out ys : List (List Int)} (nd : out.Nodup) (hs : out.Pairwise fun x y => lexL y x = false) (hy : ys.Pairwise fun x y => lexL x y = true) (hm : ∀ r, r ∈ out ↔ r ∈ ys) : out = ys :=
  List.Perm.eq_of_pairwise (le := fun x y => lexL y x = false) (fun _ _ _ _ q1 q2 => lex_eq q2 q1) hs (hy.imp fun {a b} h => lexL_asym a b h) ((List.perm_ext_iff_of_nodup nd (lt_nd hy)).mpr hm)
/-- what comes of some rows of n things, one behind another -/
inductive Reach (gs : List (List Int)) (n : Nat) : List Int → Prop
  | idle : Reach gs n (idx n)
  | step {r g : List Int} : Reach gs n r → g ∈ gs → Reach gs n (r.map (atR g))
theorem at_row {n : Nat} {g : List Int} (hg : RowIn n n g) {i : Int} (h0 : 0 ≤ i) (h1 : i < (n : Int)) : 0 ≤ atR g i ∧ atR g i < (n : Int) := (atR_in h0 (by rw [hg.1]; exact h1) hg.2).2
theorem beh_row {n : Nat} {r g : List Int} (hr : RowIn n n r) (hg : RowIn n n g) : RowIn n n (r.map (atR g)) := ⟨by rw [List.length_map]; exact hr.1, fun i hi => by
  obtain ⟨j, hj, rfl⟩ := List.mem_map.mp hi
  exact at_row hg (hr.2 j hj).1 (hr.2 j hj).2⟩
theorem idx_row0 (n : Nat) : RowIn n n (idx n) := ⟨idx_len n, fun i hi => idx_val hi⟩
theorem reach_row {gs : List (List Int)} {n : Nat} (hg : ∀ g ∈ gs, RowIn n n g) {r : List Int} (h : Reach gs n r) : RowIn n n r := by
  induction h with
  | idle => exact idx_row0 n
  | step h hm ih => exact beh_row ih (hg _ hm)
/-- all of them, ascending -/
noncomputable abbrev reachB (gs : List (List Int)) (n : Nat) (r : List Int) : Bool := @decide (Reach gs n r) (Classical.propDecidable _)
noncomputable abbrev closL (gs : List (List Int)) (n : Nat) : List (List Int) := (allRows n n).filter (reachB gs n)
theorem clos_mem {gs : List (List Int)} {n : Nat} (hg : ∀ g ∈ gs, RowIn n n g) {r : List Int} : r ∈ closL gs n ↔ Reach gs n r := by
  rw [List.mem_filter]
  have e : reachB gs n r = true ↔ Reach gs n r := @decide_eq_true_iff _ (Classical.propDecidable _)
  rw [e]
  exact ⟨fun h => h.2, fun h => ⟨all_mem (reach_row hg h).1 (reach_row hg h).2, h⟩⟩
theorem clos_lt (gs : List (List Int)) (n : Nat) : (closL gs n).Pairwise fun x y => lexL x y = true := (rows_lt n n).filter _
theorem clos_len (gs : List (List Int)) (n : Nat) : (closL gs n).length ≤ (allRows n n).length := List.length_filter_le _ _
/-- between two turns: found are ks, still to be gone on from are w -/
structure Dfs (gs : List (List Int)) (n : Nat) (ks w : List (List Int)) : Prop where
  nd : ks.Nodup
  re : ∀ k ∈ ks, Reach gs n k
  id : idx n ∈ ks
  sub : ∀ k ∈ w, k ∈ ks
  cl : ∀ k ∈ ks, k ∈ w ∨ ∀ g ∈ gs, k.map (atR g) ∈ ks
/-- and while it is gone on from r -/
structure DfsI (gs : List (List Int)) (n : Nat) (r : List Int) (j : Nat) (ks w : List (List Int)) : Prop where
  nd : ks.Nodup
  re : ∀ k ∈ ks, Reach gs n k
  id : idx n ∈ ks
  rin : r ∈ ks
  sub : ∀ k ∈ w, k ∈ ks
  cl : ∀ k ∈ ks, k ∈ w ∨ k = r ∨ ∀ g ∈ gs, k.map (atR g) ∈ ks
  did : ∀ g ∈ gs.take j, r.map (atR g) ∈ ks
theorem Dfs.start (gs : List (List Int)) (n : Nat) : Dfs gs n [idx n] [idx n] := ⟨by simp, fun k hk => by rw [List.mem_singleton.mp hk]; exact .idle, by simp, fun k hk => hk, fun k hk => .inl hk⟩
theorem Dfs.len {gs ks w : List (List Int)} {n : Nat} (hg : ∀ g ∈ gs, RowIn n n g) (D : Dfs gs n ks w) : ks.length ≤ (allRows n n).length := nd_sub D.nd fun k hk => all_mem (reach_row hg (D.re k hk)).1 (reach_row hg (D.re k hk)).2
theorem DfsI.len {gs ks w : List (List Int)} {n j : Nat} {r : List Int} (hg : ∀ g ∈ gs, RowIn n n g) (D : DfsI gs n r j ks w) : ks.length ≤ (allRows n n).length := nd_sub D.nd fun k hk => all_mem (reach_row hg (D.re k hk)).1 (reach_row hg (D.re k hk)).2
theorem Dfs.pop {gs ks w : List (List Int)} {n : Nat} {r : List Int} (D : Dfs gs n ks (w ++ [r])) : DfsI gs n r 0 ks w :=
  ⟨D.nd, D.re, D.id, D.sub r (by simp), fun k hk => D.sub k (by simp [hk]), fun k hk => by
    rcases D.cl k hk with h | h
    · rcases List.mem_append.mp
          h with h | h
      · exact .inl h
      · exact .inr (.inl (List.mem_singleton.mp h))
    · exact .inr (.inr h), fun g hg => by simp at hg⟩
theorem DfsI.old {gs ks w : List (List Int)} {n j : Nat} {r g : List Int} (D : DfsI gs n r j ks w) (hj : gs[j]? = some g) (h : r.map (atR g) ∈ ks) : DfsI gs n r (j + 1) ks w :=
  ⟨D.nd, D.re, D.id, D.rin, D.sub, D.cl, fun q hq => by
    rw [take_one hj] at hq; rcases List.mem_append.mp hq with hq | hq
    · exact D.did q hq
    · rw [List.mem_singleton.mp hq]; exact h⟩
theorem DfsI.new {gs ks w : List (List Int)} {n j : Nat} {r g : List Int} (D : DfsI gs n r j ks w) (hj : gs[j]? = some g) (h : r.map (atR g) ∉ ks) : DfsI gs n r (j + 1) (ks ++ [r.map (atR g)]) (w ++ [r.map (atR g)]) := by
  have up : ∀ {k}, k ∈ ks → k ∈ ks ++ [r.map (atR g)] := fun hk => List.mem_append_left _ hk
  refine ⟨List.nodup_append.mpr ⟨D.nd, by simp, fun x hx y hy e => h (by rw [← List.mem_singleton.mp hy, ← e]; exact hx)⟩, fun k hk => ?_, up D.id, up D.rin, fun k hk => ?_, fun k hk => ?_, fun q hq => ?_⟩
  · rcases List.mem_append.mp hk with hk | hk
    · exact D.re k hk
    · rw [List.mem_singleton.mp hk]; exact .step (D.re r D.rin) (List.mem_of_getElem? hj)
  · rcases List.mem_append.mp hk with hk | hk
    · exact up (D.sub k hk)
    · exact List.mem_append_right _ hk
  · rcases List.mem_append.mp hk with hk | hk
    · rcases D.cl k hk with z | z | z
      · exact .inl (List.mem_append_left _ z)
      · exact .inr (.inl z)
      · exact .inr (.inr fun q hq => up (z q hq))
    · exact .inl (List.mem_append_right _ hk)
  · rw [take_one hj] at hq
    rcases List.mem_append.mp
          hq with hq | hq
    · exact up (D.did q hq)
    · rw [List.mem_singleton.mp hq]; simp
theorem DfsI.over {gs ks w : List (List Int)} {n : Nat} {r : List Int} (D : DfsI gs n r gs.length ks w) : Dfs gs n ks w :=
  ⟨D.nd, D.re, D.id, D.sub, fun k hk => by
    rcases D.cl k hk with z | z | z
    · exact .inl z
    · exact .inr fun g hg => by rw [z]; exact D.did g (by rw [List.take_length]; exact hg)
    · exact .inr z⟩
theorem Dfs.done {gs ks : List (List Int)} {n : Nat} (hg : ∀ g ∈ gs, RowIn n n g) (D : Dfs gs n ks []) : ∀ r, r ∈ ks ↔ r ∈ closL gs n := fun r => by
  rw [clos_mem hg]
  refine ⟨D.re r, fun h => ?_⟩
  induction h with
  | idle => exact D.id
  | step h hm ih =>
    rcases D.cl _ ih with z | z
    · cases z
    · exact z _ hm
theorem out_clos {gs ks out : List (List Int)} {n : Nat} (hg : ∀ g ∈ gs, RowIn n n g) (D : Dfs gs n ks []) (hp : out.Perm ks) (hs : out.Pairwise fun x y => lexL y x = false) : out = closL gs n :=
  asc_uniq (hp.nodup_iff.mpr D.nd) hs (clos_lt gs n) fun r => (hp.mem_iff).trans (D.done hg r)
theorem row_ne {n : Nat} {r : List Int} (h : RowIn n n r) (h1 : 1 ≤ n) : r ≠ [] := fun z => by
  have := h.1
  rw [z] at this
  simp at this
  omega
theorem put_new {ks : List (List Int)} {r : List Int} (h : r ∉ ks) : putKs ks r = ks ++ [r] := by unfold putKs; rw [if_neg h]
theorem putD_new {ks : List (List Int)} {ds : List D} {r : List Int} {d : D} (h : r ∉ ks) : putDs ks ds r d = ds ++ [d] := by unfold putDs; rw [if_neg h]
end
end Pg
set_option Elab.async false
set_option linter.all false
set_option maxRecDepth 100000
set_option maxHeartbeats 4100000
namespace Pg
open PySem L2 RZ Kn
section
variable {G : Gd} {P : Program} {w : World} {mg : Str → Option Value} {base : Heap} {f : Addr} {fd : FuncData}
def sClosedR : FSpec := fun ds R _ => ∃ (n : Nat) (gs : List (List Int)), ds = [.lst (gs.map rowD), .int n] ∧ 1 ≤ n ∧ n ≤ 5 ∧ (∀ g ∈ gs, RowIn n n g) ∧ gs.length ≤ 100000 ∧ R (.lst ((closL gs n).map rowD))
theorem many_rows5 {n : Nat} (h : n ≤ 5) : (allRows n n).length ≤ 3125 := by
  rw [allRows_len]
  have h1 : n ^ n ≤ 5 ^ n := Nat.pow_le_pow_left h n
  have h2 : (5 : Nat) ^ n ≤ 5 ^ 5 := Nat.pow_le_pow_right (by omega) h
  omega
theorem row_behind {row later : List Int} {n : Nat} {env : List Sl} {i j k : Nat} {ex : Exc → Prop} {Q : D → Prop} (hr : RowIn n n row) (hg : RowIn n n later) (hi : env[i]? = some (.val (rowD row))) (hj : (inEnv env [k])[j]? = some (.val (rowD later))) (hk : k < env.length) (hjk : j ≠ k) (hq : Q (rowD (row.map (atR later)))) :
    dBi (g1 gTuple) (aCons (dComp [k] (iSeq (dVar i)) (tgName k) bYes (dOp gIx (dVar j) (dVar k))) aNil) ex env Q := by
  refine ⟨_, hi, ?_⟩
  refine compL_of D.int (fun i => .int (atR later i)) (fun i hi2 K hK => ?_) ?_
  · have e1 : ((inEnv env [k]).set k (.val (.int i)))[j]? = some (.val (rowD later)) := by rw [List.getElem?_set_ne (Ne.symm hjk)]; exact hj
    have e2 : ((inEnv env [k]).set k (.val (.int i)))[k]? = some (.val (.int i)) := by
      rw [List.getElem?_set_self]
      unfold inEnv
      rw [wipeE_len, List.length_map]; exact hk
    exact ⟨_, e1, _, e2, _, (atR_in (hr.2 i hi2).1 (by rw [hg.1]; exact (hr.2 i hi2).2) hg.2).1, hK⟩
  · rw [List.nil_append]
    refine nilT ?_
    have e : (.tup (row.map fun i => D.int (atR later i)) : D) = rowD (row.map (atR later)) := by unfold rowD; rw [List.map_map]; rfl
    rw [e]
    exact hq
abbrev s_closed_rows : Stmt := topS 32
theorem sc_closed_rows : FnScope ["rows", "things", "first", "found", "new", "row", "other", "behind", "thing"] ["rows", "things"] (defScope s_closed_rows) := ⟨rfl, rfl, rfl, by decide +kernel, rfl, by decide +kernel, by decide +kernel⟩
theorem ok_closed_rows (F : Fun G.K "closed_rows" "closed_rows" s_closed_rows f fd) (bn : Bn mg)  : FnD G P w mg base 1 f fd ["rows", "things"] 0 sClosedR := by
  refine FnD.more (fnd_of F sc_closed_rows (fun cdv A outer s H E hr hg => have xk := xk_def (E := E) hr hg; (ds_cons (ds_set (i := 2) sc_closed_rows.nd rfl (Or.inl rfl) (de_tupleRange xk.calm bn.tuple bn.range (dv 1))) (ds_cons (ds_dic (i := 3) sc_closed_rows.nd rfl (Or.inl rfl) (dk_one xk.K (xk.u (n := 1)) (dv 2) de_bl)) (ds_cons (ds_own (i := 4) sc_closed_rows.nd rfl (Or.inl rfl) (df_lst (da_cons (dv 2) da_nil))) (ds_cons (ds_while po_def (dt_own (i := 4) rfl) (ds_cons (ds2_set (i := 5) sc_closed_rows.nd rfl (Or.inl rfl) (d2_pop0 (i := 4) rfl)) (ds_one (ds_for xk po_def (di_seq xk.K (dv 0)) (dg_name (i := 6) sc_closed_rows.nd rfl (Or.inr rfl)) (ds_cons (ds_set (i := 7) sc_closed_rows.nd rfl (Or.inl rfl) (de_ty (c_tuple xk.K) bn.tuple (da_cons (de_comp (own := [("thing", 8)]) xk sc_closed_rows.nd (di_seq xk.K (dv 5)) (blkOk_by (N := ["rows", "things", "first", "found", "new", "row", "other", "behind", "thing"]) (sc := defScope s_closed_rows) (by decide +kernel)) (fun s H C cl fp => (dg_name (i := 8) sc_closed_rows.nd rfl (Or.inl rfl))) (fun s H C cl fp => dts_nil) (fun s H C cl fp => (de_ix (Xk.blk xk _ _ _ _ _).K (dv 6) (dv 8) (fun _ _ => rfl))) (by simp)) da_nil))) (ds_one (ds_if (dt_lend 3 (dt_cmp (o_niD xk.K (xk.u (n := 1))) (dv 7) (dv 3) (by rfl))) (ds_cons (ds_dput (i := 3) xk.K (xk.u (n := 1)) rfl de_bl (dv 7)) (ds_one (ds_app (i := 4) rfl (dv 7)))) ds_nil))))))) (ds_freezeD (i := 3) (ds_one (ds_ret (de_bi (c_sortDT xk.K xk.calm) bn.sorted (da_cons (dv 3) da_nil)))))))))) ?_) (by decide)
  rintro ds R ex hl ⟨n, gs, rfl, n1, n5, hg, hgl, hr⟩
  have hN := many_rows5 n5
  refine seq_to (fun env' => env' = [.val (.lst (gs.map rowD)), .val (.int n), .val (rowD (idx n)), .emp, .emp, .emp, .emp, .emp, .emp]) (fun de' hnx hrt => ?_) (fun env' e => ?_)
  · refine ⟨_, rfl, n, rfl, by omega, by omega, ?_⟩
    rw [Int.toNat_natCast, range_idx]
    exact hnx _ rfl
  subst e
  refine seq_to (fun env' => ∃ a, env' = [.val (.lst (gs.map rowD)), .val (.int n), .val (rowD (idx n)), .dic a [idx n] [.bl true], .emp, .emp, .emp, .emp, .emp]) (fun de' hnx hrt => ?_) (fun env' e => ?_)
  · exact ⟨_, rfl, idx n, rowK_t, rfl, fun a => hnx _ ⟨a, rfl⟩⟩
  obtain ⟨a, rfl⟩ := e
  refine seq_to (fun env' => ∃ a b, env' = [.val (.lst (gs.map rowD)), .val (.int n), .val (rowD (idx n)), .dic a [idx n] [.bl true], .own b [rowD (idx n)], .emp, .emp, .emp, .emp]) (fun de' hnx hrt => ?_) (fun env' e => ?_)
  · exact ⟨_, rfl, small (by simp), fun b => hnx _ ⟨a, b, rfl⟩⟩
  obtain ⟨a, b, rfl⟩ := e
  refine seq_to (fun env' => ∃ a ks b s5 s6 s7, Dfs gs n ks [] ∧ env' = [.val (.lst (gs.map rowD)), .val (.int n), .val (rowD (idx n)), .dic a ks (ks.map fun _ => .bl true), .own b [], s5, s6, s7, .emp]) (fun de' hnx hrt => ?_) (fun env' e => ?_)
  · refine ⟨fun m env => ∃ a ks b w s5 s6 s7, Dfs gs n ks w ∧ 2 * ((allRows n n).length - ks.length) + w.length ≤ m ∧ m ≤ 6251 ∧ env = [.val (.lst (gs.map rowD)), .val (.int n), .val (rowD (idx n)), .dic a ks (ks.map fun _ => .bl true), .own b (w.map rowD), s5, s6, s7, .emp], ⟨2 * 3125 + 1, by omega, a, [idx n], b, [idx n], _, _, _, Dfs.start gs n, by simp; omega, Nat.le_refl _, rfl⟩, ?_⟩
    rintro m env ⟨a, ks, b, w, s5, s6, s7, D, hm, hm0, rfl⟩
    refine ⟨b, _, rfl, ite_of (fun hb => ?_) (fun hb => ?_)⟩
    · have hw : w ≠ [] := fun z => by rw [z] at hb; simp at hb
      obtain ⟨w0, r, rfl⟩ : ∃ w0 r, w = w0 ++ [r] := ⟨w.dropLast, w.getLast hw, (List.dropLast_concat_getLast hw).symm⟩
      have hrr : RowIn n n r := reach_row hg (D.re r (D.sub r (by simp)))
      rw [List.length_append, List.length_singleton] at hm
      refine seq_to (fun env' => env' = [.val (.lst (gs.map rowD)), .val (.int n), .val (rowD (idx n)), .dic a ks (ks.map fun _ => .bl true), .own b (w0.map rowD), .val (rowD r), s6, s7, .emp]) (fun de2 hnx2 hrt2 => ?_) (fun env' e => ?_)
      · exact ⟨b, w0.map rowD, rowD r, by rw [List.map_append]; rfl, hnx2 _ rfl⟩
      subst e
      refine ⟨_, rfl, ?_⟩
      refine sForL_of rowD (fun j env => ∃ a ks b w s6 s7, DfsI gs n r j ks w ∧ 2 * ((allRows n n).length - ks.length) + w.length + 1 ≤ m ∧ env = [.val (.lst (gs.map rowD)), .val (.int n), .val (rowD (idx n)), .dic a ks (ks.map fun _ => .bl true), .own b (w.map rowD), .val (rowD r), s6, s7, .emp]) ⟨a, ks, b, w0, s6, s7, D.pop, by omega, rfl⟩ (fun j g env hj hI nx hn2 => ?_) (fun env hI => ?_)
      · obtain ⟨a, ks, b, w, s6, s7, DI, hm2, rfl⟩ := hI
        have hgg := hg g (List.mem_of_getElem? hj)
        have hkl := DI.len hg
        refine seq_to (fun env' => env' = [.val (.lst (gs.map rowD)), .val (.int n), .val (rowD (idx n)), .dic a ks (ks.map fun _ => .bl true), .own b (w.map rowD), .val (rowD r), .val (rowD g), .val (rowD (r.map (atR g))), .emp]) (fun de3 hnx3 hrt3 => ?_) (fun env' e => ?_)
        · exact row_behind (i := 5) (j := 6) (k := 8) hrr hgg rfl rfl (by show 8 < 9; omega) (by decide) (hnx3 _ rfl)
        subst e
        refine ⟨_, _, rfl, .inr (.inr ⟨_, _, _, rfl, rfl⟩), _, rfl, _, rfl, ks, _, r.map (atR g), rowK_t, rfl, _, rfl, ite_of (fun hb => ?_) (fun hb => ?_)⟩
        · have hnk : r.map (atR g) ∉ ks := by simpa using hb
          have DN := DI.new hj hnk
          have hkl2 := DN.len hg
          rw [List.length_append, List.length_singleton] at hkl2
          refine seq_to (fun env' => ∃ a, env' = [.val (.lst (gs.map rowD)), .val (.int n), .val (rowD (idx n)), .dic a (ks ++ [r.map (atR g)]) ((ks ++ [r.map (atR g)]).map fun _ => .bl true), .own b (w.map rowD), .val (rowD r), .val (rowD g), .val (rowD (r.map (atR g))), .emp]) (fun de4 hnx4 hrt4 => ?_) (fun env' e => ?_)
          · refine ⟨⟨_, _, _, rfl⟩, _, rfl, _, _, _, r.map (atR g), rfl, rowK_t, small (by omega), hnx4 _ ⟨a, ?_⟩⟩
            rw [put_new hnk, putD_new hnk, List.map_append]
            rfl
          obtain ⟨a, rfl⟩ := e
          refine ⟨b, _, rfl, _, rfl, ?_, hn2 _ ⟨a, _, b, w ++ [r.map (atR g)], .val (rowD g), .val (rowD (r.map (atR g))), DN, ?_, ?_⟩⟩
          · exact small (by rw [List.length_map]; omega)
          · rw [List.length_append, List.length_append, List.length_singleton]
            omega
          · rw [show (w ++ [r.map (atR g)]).map rowD = w.map rowD ++ [rowD (r.map (atR g))] from List.map_append]
            rfl
        · have hnk : r.map (atR g) ∈ ks := by simpa using hb
          exact hn2 _ ⟨a, ks, b, w, _, _, DI.old hj hnk, hm2, rfl⟩
      · obtain ⟨a, ks, b, w, s6, s7, DI, hm2, rfl⟩ := hI
        exact ⟨2 * ((allRows n n).length - ks.length) + w.length, by omega, a, ks, b, w, _, _, _, DI.over, Nat.le_refl _, by omega, rfl⟩
    · have hw : w = [] := by cases w with
        | nil => rfl
        | cons x w => simp at hb
      subst hw
      exact hnx _ ⟨a, ks, b, _, _, _, D, rfl⟩
  obtain ⟨a, ks, b, s5, s6, s7, D, rfl⟩ := e
  refine ⟨a, ks, _, rfl, _, rfl, ks, _, rfl, fun r hr2 => row_ne (reach_row hg (D.re r hr2)) n1, fun out hp hs => ?_⟩
  rw [out_clos hg D hp hs]
  exact hr
def sUnlike : FSpec := fun ds R _ => ∃ (n : Nat) (d : D) (ps : List (Nat × List Int)), ds = [d] ∧ d.items? = some (leadsD ps) ∧ OneW n ps ∧ (∀ p ∈ ps, RowIn n n p.2) ∧ ∀ out : List (List Int), out.Nodup → out.Pairwise (fun x y => lexL y x = false) → (∀ r, r ∈ out ↔ r ∈ ps.map (·.2)) → R (.lst (out.map rowD))
theorem few_all {n : Nat} (h : n = 2 ∨ n = 3) : (allRows n n).length < 63 := by
  rcases h with rfl | rfl <;> decide
abbrev s_unlike_rows : Stmt := topS 30
theorem sc_unlike_rows : FnScope ["leads", "lead"] ["leads"] (defScope s_unlike_rows) := ⟨rfl, rfl, rfl, by decide +kernel, rfl, by decide +kernel, by decide +kernel⟩
theorem ok_unlike_rows (F : Fun G.K "unlike_rows" "unlike_rows" s_unlike_rows f fd) (bn : Bn mg) (fo : Gk G) : FnD G P w mg base 1 f fd ["leads"] 0 sUnlike := by
  refine FnD.more (fnd_of F sc_unlike_rows (fun cdv A outer s H E hr hg => have xk := xk_def (E := E) hr hg; (ds_one (ds_ret (de_sortSc (own := [("lead", 1)]) xk bn.sorted sc_unlike_rows.nd (di_seq xk.K (dv 0)) (blkOk_by (N := ["leads", "lead"]) (sc := defScope s_unlike_rows) (by decide +kernel)) (fun s H C cl fp => (dg_name (i := 1) sc_unlike_rows.nd rfl (Or.inl rfl))) (fun s H C cl fp => dts_nil) (fun s H C cl fp => (de_fld (Xk.blk xk _ _ _ _ _).K fo.row (dv 1))) (by simp))))) ?_) (by decide)
  rintro ds R ex hl ⟨n, d, ps, rfl, hi, hW, hrr, hq⟩
  have key : ∀ (Q : D → Prop), (∀ out : List (List Int), out.Nodup → out.Pairwise (fun x y => lexL y x = false) → (∀ r, r ∈ out ↔ r ∈ ps.map (·.2)) → Q (.lst (out.map rowD))) → ∃ U : List (List Int), U.length < 63 ∧ compS U (tgName 1) bYes (dFld G "row" (dVar 1)) (fun rs => (∀ r ∈ rs, r ≠ []) ∧ ∀ out : List (List Int), out.Nodup → out.Pairwise (fun x y => lexL y x = false) → (∀ r, r ∈ out ↔ r ∈ rs) → Q (.lst (out.map rowD))) (inEnv (env0 ["leads", "lead"] [d]) [1]) (leadsD ps) [] := fun Q hQ => by
    refine ⟨allRows n n, few_all hW.1, ?_⟩
    refine compS_of leadP (fun p => p.2) ps [] (fun p hp K hK => ?_) ?_
    · obtain ⟨m1, m2, m3, i1, i2, i3⟩ := fld_lead fo (n := p.1) (r := p.2)
      exact ⟨_, rfl, 1, _, _, rfl, m3, i3, hK _ rowK_t (all_mem (hrr p hp).1 (hrr p hp).2)⟩
    · rw [List.nil_append]
      refine ⟨fun r hr => ?_, hQ⟩
      obtain ⟨p, hp, rfl⟩ := List.mem_map.mp hr
      exact row_ne (hrr p hp) (by rcases hW.1 with h | h <;> omega)
  refine ⟨d, rfl, ?_⟩
  cases d <;> cases hi
  · exact key _ hq
  · exact key _ hq
theorem gens_same {gs hs : List (List Int)} {n : Nat} (h : ∀ r, r ∈ gs ↔ r ∈ hs) : closL gs n = closL hs n := by
  have e : ∀ r, Reach gs n r ↔ Reach hs n r := fun r => by
    have one : ∀ {as bs : List (List Int)}, (∀ r, r ∈ as → r ∈ bs) → Reach as n r → Reach bs n r := fun {as bs} sub z => by
      induction z with
      | idle => exact .idle
      | step z hm ih => exact .step ih (sub _ hm)
    exact ⟨one fun r => (h r).mp, one fun r => (h r).mpr⟩
  refine List.filter_congr fun r _ => ?_
  have h1 : reachB gs n r = true ↔ Reach gs n r := @decide_eq_true_iff _ (Classical.propDecidable _)
  have h2 : reachB hs n r = true ↔ Reach hs n r := @decide_eq_true_iff _ (Classical.propDecidable _)
  rw [Bool.eq_iff_iff, h1, h2, e]
/-- what a told manner must be -/
def ManOk (n : Nat) (ps : List (Nat × List Int)) : Prop := OneW n ps ∧ ps ≠ [] ∧ ps.length ≤ 100000 ∧ ∀ p ∈ ps, RowIn n n p.2
theorem man_far {n : Nat} {ps : List (Nat × List Int)} (h : ManOk n ps) : farB ps = false := by
  obtain ⟨⟨h23, h1⟩, hne, _, _⟩ := h
  cases ps with
  | nil => exact absurd rfl hne
  | cons q r =>
    obtain ⟨q1, q2⟩ := h1 q List.mem_cons_self
    show (!(q.2.length == 2 || q.2.length == 3) || (q :: r).any fun p => !(p.2.length == q.2.length) || !(p.1 == q.2.length)) = false
    rw [Bool.or_eq_false_iff]
    refine ⟨by rw [q2]; rcases h23 with rfl | rfl <;> rfl, ?_⟩
    rw [List.any_eq_false]
    intro p hp z
    obtain ⟨p1, p2⟩ := h1 p hp
    rw [p1, p2, q2] at z
    simp at z
def rowsP (ps : List (Nat × List Int)) : List (List Int) := ps.map (·.2)
def sClosed : FSpec := fun ds R ex => ∃ d, ds = [d] ∧ ((∃ n ps, d.items? = some (leadsD ps) ∧ ManOk n ps ∧ R (.tup ((closL (rowsP ps) n).map (leadD n)))) ∨ (∃ ps, d.items? = some (leadsD ps) ∧ ps ≠ [] ∧ ps.length ≤ 100000 ∧ farB ps = true ∧ ex ⟨5, [.str "things"]⟩) ∨ (badLs d ∧ ex ⟨4, [.str "leads"]⟩))
abbrev s_closed : Stmt := topS 33
theorem sc_closed : FnScope ["leads", "things"] ["leads"] (defScope s_closed) := ⟨rfl, rfl, rfl, by decide +kernel, rfl, by decide +kernel, by decide +kernel⟩
theorem ok_closed (F : Fun G.K "closed" "closed" s_closed f fd) (bn : Bn mg) (fo : Gk G) (F_demand_told_manner : Fk G P w mg base 4 "demand_told_manner" ["leads"] 0 sDTM) (F_unlike_rows : Fk G P w mg base 1 "unlike_rows" ["leads"] 0 sUnlike) (F_closed_rows : Fk G P w mg base 1 "closed_rows" ["rows", "things"] 0 sClosedR) (F_leads_by : Fk G P w mg base 7 "leads_by" ["rows", "things"] 0 sLeadsBy) : FnD G P w mg base 8 f fd ["leads"] 0 sClosed := by
  refine FnD.more (fnd_of F sc_closed (fun cdv A outer s H E hr hg => have xk := xk_def (E := E) hr hg; (ds_cons (ds_expr (de_call F_demand_told_manner xk (da_cons (dv 0) da_nil))) (ds_cons (ds_set (i := 1) sc_closed.nd rfl (Or.inl rfl) (de_fld xk.K fo.into (de_ix xk.K (dv 0) de_int (fun _ _ => rfl)))) (ds_one (ds_ret (de_call F_leads_by xk (da_cons (de_call F_closed_rows xk (da_cons (de_call F_unlike_rows xk (da_cons (dv 0) da_nil)) (da_cons (dv 1) da_nil))) (da_cons (dv 1) da_nil)))))))) ?_) (by decide)
  rintro ds R ex hl ⟨d, rfl, h⟩
  rcases h with ⟨n, ps, hi, hM, hr⟩ | ⟨ps, hi, hne, hlen, hf, hx⟩ | ⟨hb, hx⟩
  · obtain ⟨hW, hne, hlen, hrr⟩ := id hM
    have n15 : 1 ≤ n ∧ n ≤ 5 := by rcases hW.1 with h | h <;> omega
    refine seq_to (fun env' => env' = [.val d, .emp]) (fun de' hnx hrt => ?_) (fun env' e => ?_)
    · exact ⟨_, rfl, rfl, d, rfl, .inl ⟨ps, hi, hne, hlen, fun _ => hnx _ rfl, fun z => by rw [man_far hM] at z; cases z⟩⟩
    subst e
    refine seq_to (fun env' => env' = [.val d, .val (.int n)]) (fun de' hnx hrt => ?_) (fun env' e => ?_)
    · cases ps with
      | nil => exact absurd rfl hne
      | cons q r =>
        obtain ⟨k1, k2, k3, j1, j2, j3⟩ := fld_lead fo (n := q.1) (r := q.2)
        have hq := (hW.2 q List.mem_cons_self).1
        have fin : de'.nx [.val d, .val (.int (q.1 : Nat))] := hnx _ (by rw [hq])
        cases d <;> cases hi
        · exact ⟨_, rfl, leadP q, atI_of (k := 0) rfl, 1, _, _, rfl, k2, j2, fin⟩
        · exact ⟨_, rfl, leadP q, atI_of (k := 0) rfl, 1, _, _, rfl, k2, j2, fin⟩
    subst e
    refine ⟨_, rfl, rfl, n, d, ps, rfl, hi, hW, hrr, fun out nd pw hm => ?_⟩
    have hg : ∀ g ∈ out, RowIn n n g := fun g hg2 => by
      obtain ⟨p, hp, rfl⟩ := List.mem_map.mp ((hm g).mp hg2)
      exact hrr p hp
    have hol : out.length ≤ 100000 := by
      have z := nd_sub (m := allRows n n) nd fun g hg2 => all_mem (hg g hg2).1 (hg g hg2).2
      have := few_all hW.1
      omega
    refine ⟨_, rfl, rfl, n, out, rfl, n15.1, n15.2, hg, hol, ?_⟩
    refine ⟨_, rfl, rfl, n, closL out n, rfl, n15.1, n15.2, fun r hr2 => ?_, ?_⟩
    · exact reach_row hg ((clos_mem hg).mp hr2)
    · rw [gens_same hm]
      exact hr
  · exact ⟨_, rfl, rfl, d, rfl, .inl ⟨ps, hi, hne, hlen, fun z => (by rw [hf] at z; cases z), fun _ => hx⟩⟩
  · exact ⟨_, rfl, rfl, d, rfl, .inr ⟨hb, hx⟩⟩
end
end Pg
set_option Elab.async false
set_option linter.all false
set_option maxRecDepth 100000
set_option maxHeartbeats 2100000
namespace GQ
open PySem
open PySem.Spec PyProof.Rows L2
open AutoSeq1
 (wpAny_loadPart')
open MeetsSeq
open MeetsSeq2 MeetsSeq3 SeqRoads2
section
variable {prog : Program} {w : World} {A
      : Around} {R : Result → Shared → Prop}
theorem eq_anyG (p q : Addr) (as bs : Array Value) (n n2 : Nat) (dd dd2 : Option Addr) (sl sl2 : Array (Option Value)) (J : Nat → Shared → Prop)
    (turn : ∀ k (u1 : k < as.size) (u2 : k < bs.size) s, J k s → wpAny (model prog w) A.in1 (eqBool as[k] bs[k]) (fun r s' => if r = true then J (k + 1) s' else R (.ok (.ret (.bool false))) s') (fun e s' => R (.error e) s') s)
    (fin : ∀ s, J (min as.size bs.size) s → R (.ok (.ret (.bool (as.size == bs.size)))) s) {s : Shared} (hp1 : s.heap.get? p = some { cls := .type "tuple", dict := dd, data := .seq as n, slots := sl }) (hq1 : s.heap.get? q = some { cls := .type "tuple", dict := dd2, data := .seq bs n2, slots := sl2 }) (h : J 0 s) :
    wpAny (model prog w) A.in1 (Builtin.«tuple.__eq__» ⟨[.ref p, .ref q], []⟩) (FinOf prog w A R) (fun e s' => R (.error e) s') s := by
  have f2 := AutoSeq1.sub_tuple_tuple; have hZ : (as.toList.zip bs.toList).length = min as.size bs.size := by simp
  have h0 := h; obtain ⟨hp, g, d, tk, os⟩ := s
  wp_walk using wpAny_loadPart' hp1, wpAny_loadPart' hq1, wpAny_forIn_list _ (fun rest b s' => (b.1 = none ∧ ∃ k, rest = (as.toList.zip bs.toList).drop k ∧ k ≤ min as.size bs.size ∧ J k s')) _
  case turn =>
    rintro ⟨y, x⟩ rest b s' ⟨e0, k, ez, hk, hJ⟩
    have lt : k < (as.toList.zip bs.toList).length := Nat.lt_of_not_le fun z => by rw [List.drop_of_length_le z] at ez; cases ez
    have u12 : k < min as.size bs.size := hZ ▸ lt
    have u1 : k < as.size := by omega
    have u2 : k < bs.size := by omega
    rw [List.drop_eq_getElem_cons lt] at ez
    injection ez with exy er
    obtain rfl : y = as[k] := by simpa using congrArg Prod.fst exy
    obtain rfl : x = bs[k] := by simpa using congrArg Prod.snd exy
    refine wpAny_bind (wpAny_mono (turn k u1 u2 s' hJ) (fun r s2 z => ?_) fun _ _ z => z)
    cases r with
    | true =>
      rw [if_pos rfl] at z
      wp_walk
      exact ⟨rfl, k + 1, er, u12, z⟩
    | false =>
      rw [if_neg Bool.false_ne_true] at z
      wp_walk
      exact z
  case fin =>
    rintro ⟨b1, b2⟩ s' ⟨e0, k, ez, hk, hJ⟩
    simp only at e0
    subst e0
    have ge : min as.size bs.size ≤ k := Nat.le_of_not_lt fun z => by
      have z' : k < (as.toList.zip bs.toList).length := hZ.symm ▸ z
      rw [List.drop_eq_getElem_cons z'] at ez; cases ez
    have hR : R (.ok (.ret (.bool (as.size == bs.size)))) s' := fin s' ((by omega : k = min as.size bs.size) ▸ hJ)
    wp_walk
    simpa [Builtin.Tuple.tupleCompareSizes] using hR
  case h =>
    exact ⟨rfl, 0, rfl,
          Nat.zero_le _, h0⟩
end
section
variable {prog : Program} {w : World} {A :
      Around} {E : Value → Shared → Prop} {s : Shared}
theorem rc_anyG {p q : Addr} {as bs : Array Value} {Q : Value → Shared → Prop} (hu : A.units < cLine) (J : Nat → Shared → Prop)
    (hl : s.heap.IsTuple p as) (hb : s.heap.IsTuple q bs)
    (turn : ∀ k (u1 : k < as.size) (u2 : k < bs.size) s, J k s → wpAny (model prog w) A.in1 (eqBool as[k] bs[k]) (fun r s' => if r = true then J (k + 1) s' else Q (.bool false) s') E s)
    (fin : ∀ s, J (min as.size bs.size) s → Q (.bool (as.size == bs.size)) s) (h : J 0 s) : wpAny (model prog w) A (richCompare .Eq (.ref p) (.ref q)) Q E s := by
  obtain ⟨⟨c1, dd, da1, sl⟩, ho, hc, n, hd⟩ := id hl
  obtain ⟨⟨c2, dd2, da2, sl2⟩, ho2, hc2, n2, hd2⟩ := id hb
  simp only at hc hd hc2 hd2
  subst hc hd hc2 hd2
  refine wpAny_richCompare_same_room (op := .Eq) ⟨_, ho, rfl⟩ ⟨_, ho2, rfl⟩ F.slot_tuple_eq (call_here F.slot_tuple_eq ⟨_, ho, rfl⟩ F.entry_tuple_eq (F.args_tuple_eq_2 _ _) ?_) hu; exact eq_anyG (R := wants (fun v s' => v ≠ .notImplemented ∧ Q v s') E) p q as bs n n2 dd dd2 sl sl2 J (fun k u1 u2 s' z => wpAny_mono (turn k u1 u2 s' z) (fun r s2 z => by
    cases r with
    | true => exact z
    | false => exact ⟨(fun x => nomatch x), z⟩) fun _ _ z => z) (fun s' z => ⟨(fun x => nomatch x), fin s' z⟩) ho ho2 h
end
end GQ
set_option Elab.async false
set_option linter.all false
set_option maxRecDepth 100000
set_option maxHeartbeats 2100000
namespace GQ
open PySem PySem.SeqAt PySem.Spec PyProof.Rows
open AutoSeq1
 (wpAny_loadPart')
open MeetsSeq
open MeetsSeq2 MeetsSeq3 SeqRoads2
section
variable {P : Program} {w : World} {A : Around}
      {E : Value → Shared → Prop} {s : Shared}
theorem ni_tupG {l : Addr} {its : Array Value} {x : Value} {Q : Value → Shared → Prop} (hl : s.heap.IsTuple l its) (I : Nat → Shared → Prop)
    (turn : ∀ i (h : i < its.size) s, I i s → wpAny (model P w) A.in1 (eqBool its[i] x) (fun r s' => if r = true then Q (.bool false) s' else I (i + 1) s') E s)
    (fin : ∀ s, I its.size s → Q (.bool true) s) (h : I 0 s) : wpAny (model P w) A (compareOp .NotIn x (.ref l)) Q E s := by
  obtain ⟨⟨cls, dd, data, sl⟩, ho, hc, n, hd⟩ := id hl; simp only at hc hd
  subst hc hd
  refine (?_ : wpAny _ A (do return .bool (!(← contains (.ref l) x))) Q E s)
  refine wpAny_bind (wpAny_contains_slot ⟨_, ho, rfl⟩ F.slot_tuple_contains (wpAny_mono (call_here (Q := fun v s' => ∃ b, v = .bool b ∧ Q (.bool (!b)) s') F.slot_tuple_contains ⟨_, ho, rfl⟩ F.entry_tuple_contains (F.args_tuple_contains_2 _ _) ?_) (fun v s' hv => ?_) fun _ _ e => e))
  · exact tup_hasG (R := wants (fun v s' => ∃ b, v = .bool b ∧ Q (.bool (!b)) s') E) l its n dd sl x I (fun i h1 s' q => wpAny_mono (turn i h1 s' q) (fun r s2 q2 => by
      cases r with
      | true => exact ⟨true, rfl, q2⟩
      | false => exact q2) fun _ _ z => z) (fun s' q => ⟨false, rfl, fin s' q⟩) ho h
  · obtain ⟨b, rfl, hq⟩ := hv
    exact wpAny_truthy_bool
      (wpAny_pure hq)
end
end GQ
namespace Kn
open PySem L2 RZ
section
variable {G : Gd} {E : XK} {X : Cx} {σ : List (Option V)} {H H' : Hp} {k : Nat}
def nQ (Q : D → Prop) : D → Prop := fun r => ∃ b, r = .bl b ∧ Q (.bl (!b))
theorem nq {Q : D → Prop} {b : Bool} (h : nQ Q (.bl b)) : Q (.bl (!b)) := by obtain ⟨b, e, h⟩ := h; cases e; exact h
def rNiI (G : Gd) (E : XK) (c : Nat) (S : FSpec) : R2 := fun x y H Q' => ∃ (u : Option Ur) (n : Nat) (B : Addr → Prop) (es ds : List D) (Q : D → Prop) (ex : Exc → Prop), u = G.u ∧ (∀ p, Pr u p → B p.1 ∧ B p.2) ∧ (∀ a, B a → H a ≠ none) ∧ Good u H n ∧
  Den G B H (.ins c es) x ∧ Den G B H (.tup ds) y ∧ inI c S (.ins c es) (nQ Q) ex ds ∧ (∀ r H' rd, Ext u H H' → Good u H' n → Den G B H' rd r → Q rd → Q' r H') ∧ (∀ z C d H', Ext u H H' → Good u H' n → ExcIs G B H' z C d → ex z → E C d H')
theorem op_niI {j c : Nat} {S : FSpec} (F : Fq G X.prog X.w X.mg X.base j c 0 S) (xk : Xk G E k X) (hj : j + 1 ≤ k := by decide) : OpR X (compareOp .NotIn) (rNiI G E c S) := by
  intro pins s σ H x y v u Q' I rx ry h
  obtain ⟨uu, n, B, es, ds, Q, ex, hug, hu, hB, hg, hx, hy, hin, kQ, kE⟩ := h
  obtain ⟨f, fd, ps, hF0, hs, hf, hbd, hp2⟩ := F.ex
  rw [← xk.K] at hs hf hbd
  have huB : ∀ p, Pr uu p → B p.1 := fun p e => (hu p e).1
  obtain ⟨ax, dx, fx, rfl, nax, hax, lax, dax⟩ := id hx
  obtain ⟨at', xs, rfl, nat', hat', lat', dat'⟩ := id hy
  cases rx
  cases ry
  rw [← xk.K] at hat'
  obtain ⟨its, r1, p1, hz⟩ := I.tuple hat'
  have hlen : its.toArray.size = ds.length := by rw [List.size_toArray, ← r1.length, dat'.length]
  have room1 : Room j X.A.in1 := (xk.room.mono hj).in1
  refine GQ.ni_tupG p1 (fun i s' => ∃ H', Inv X pins σ H' s' ∧ Ext uu H H' ∧ Good uu H' n ∧ inI c S (.ins c es) (nQ Q) ex (ds.drop i)) (fun i h1 s' hI => ?_) (fun s' hI => ?_) ⟨H, I, Ext.refl _ _, hg, hin⟩
  · obtain ⟨H1, I1, e1, g1, hin1⟩ := hI
    have hi : i < ds.length := by rw [← hlen]; exact h1
    rw [List.drop_eq_getElem_cons hi] at hin1
    obtain ⟨fs, ed, qt, hS⟩ := hin1
    have dd1 : DenL G B H1 ds xs := dat'.ext e1 huB
    obtain ⟨v1, hv1, dv1⟩ := dd1.get (List.getElem?_eq_getElem hi)
    rw [ed] at dv1
    obtain ⟨ai, di, fi, rfl, nai, hai, lai, dai⟩ := id dv1
    obtain ⟨ui, hui, rui⟩ := r1.get hv1
    have hax1 := ext_nb e1 huB nax hax
    have dx1 : Den G B H1 (.ins c es) (.ref ax) := hx.ext e1 huB
    have eit : its.toArray[i] = .ref ai := by
      have z := (List.getElem?_eq_some_iff.mp hui).2
      have rr : ui = .ref ai := rui
      rw [← rr, ← z]; simp
    rw [eit]
    by_cases hab : ai = ax
    · subst hab
      refine SeqAt.EqAt.same (A := X.A.in1) (s := s') (.ref ai) X.prog X.w X.xe _ ?_
      rw [if_pos rfl]
      exact ⟨.bl false, H1, I1, rfl, kQ _ H1 (.bl false) e1 g1 (den_bl _) (nq qt)⟩
    · refine GQ.eqBool_refG hab ?_
      obtain ⟨mA, J, _⟩ := ins_get I1.hok hai
      obtain ⟨mB, J', _⟩ := ins_get I1.hok hax1
      obtain ⟨od, J, _⟩ := J.look
      obtain ⟨od', J', _⟩ := J'.look; obtain ⟨m, hFr⟩ := I1.fr
      have hB1 : ∀ a, B a → H1 a ≠ none := fun a ha z => by
        cases q : H a with
        | none => exact hB a ha q
        | some o =>
          rcases NU.em (u := uu) (b := a) with hua | ⟨r, hr, rfl⟩
          · rw [e1 a o q hua] at z; cases z
          · obtain ⟨⟨_, z1⟩, _⟩ := g1.there hr
            rw [z1] at z; cases z
      have hl : liftF G 0 S [.ref ai, .ref ax] H1 (fun v H2 => ∃ b, v = .bl b ∧ Ext uu H H2 ∧ Good uu H2 n ∧ (b = false → inI c S (.ins c es) (nQ Q) ex (ds.drop (i + 1)))) E :=
        ⟨uu, n, B, [.ins c fs, .ins c es], fun r => ∃ b, r = .bl b ∧ (b = false → inI c S (.ins c es) (nQ Q) ex (ds.drop (i + 1))), ex, hug, Nat.zero_le _, hu, hB1, g1, ⟨_, _, rfl, dv1, _, _, rfl, dx1, rfl⟩, by rw [ed] at hS; exact hS, fun v H2 d e2 g2 hd ⟨b, eb, hb⟩ => by
          subst eb
          cases hd
          exact ⟨b, rfl, e1.trans e2, g2, hb⟩, fun z C d H2 e2 g2 hz hq => kE z C d H2 (e1.trans e2) g2 hz hq⟩
      refine PySem.W.cmp_K (op := .Eq) (tb := .ref (G.cl c)) room1.units0 hFr I1.ok.mod.kin J J'.type (by simp [PySem.W.notFirst]) hs hf (wpAny_call (codeAny_mono (hF0.run X.A.in1 X.stack s' H1 ⟨[.ref ai, .ref ax], []⟩ [.ref ai, .ref ax] [.ref ai, .ref ax] _ E room1 xk.gd (by rw [← xk.K]; exact I1.env0.in1) ?_ (.cons rfl (.cons rfl .nil)) hp2.symm hl) fun r s2 hq => ?_))
      · have z := hbd s' [.ref ai, .ref ax] I1.kIn (by rw [List.append_nil]; exact hp2.symm)
        rw [List.append_nil] at z
        exact z
      · cases r with
        | error e => exact xk.pass pins σ H1 s' e s2 I1 hq
        | ok fl =>
          cases fl with
          | ret w' =>
            obtain ⟨z, H2, I2, rz, b, eb, e2, g2, hb⟩ := I1.after hq
            subst eb
            refine SlX.cmpback rz ⟨b, ?_, ?_⟩
            · exact rz
            · cases b with
              | true => rw [if_pos rfl]; exact ⟨.bl false, H2, I2, rfl, kQ _ H2 (.bl false) e2 g2 (den_bl _) (nq qt)⟩
              | false => rw [if_neg Bool.false_ne_true]; exact ⟨H2, I2, e2, g2, hb rfl⟩
          | next => exact hq.elim
          | brk => exact hq.elim
          | cont => exact hq.elim
  · obtain ⟨H1, I1, e1, g1, hin1⟩ := hI
    rw [hlen, List.drop_length] at hin1
    exact ⟨.bl true, H1, I1, rfl, kQ _ H1 (.bl true) e1 g1 (den_bl _) (nq hin1)⟩
def dNiI (c : Nat) (S : FSpec) (ta tb : DT) : DT := fun ex env Q => ta ex env fun d => tb ex env fun e => ∃ es ds, d = .ins c es ∧ e = .tup ds ∧ inI c S d (nQ Q) ex ds
theorem lift_niI {c ca cb : Nat} {S : FSpec} {ta tb : DT} {Q' : VK} (h : lift G E (ca + cb) (dNiI c S ta tb) σ H Q') : tOp (rNiI G E c S) (lift G E ca ta) (lift G E cb tb) σ H Q' := by
    obtain ⟨W, hn, Q, ht, kk⟩ := h
    refine ⟨W, by omega, _, ht, fun v H1 d st hd hq => ⟨W.next st, by show W.m + cb ≤ W.n - ca; omega, _, hq, fun v2 H2 e st2 he ⟨es, ds, e1, e2, hs⟩ => ?_⟩⟩
    subst e1 e2
    have s12 := st.trans st2
    have hd2 : Den G W.XB H2 (.ins c es) v := (W.next st).den st2 hd
    refine ⟨W.u, W.n - (ca + cb), W.XB, es, ds, Q, W.ex, W.ug, fun p e => ⟨.inl (W.hu p e).1, .inl (W.hu p e).2⟩, fun q hq0 z => (W.next s12).fresh z hq0, s12.good, hd2, he, hs, fun r H' rd e g hr hq2 => kk r H' rd ⟨s12.ext.trans e, g⟩ hr hq2, fun z C d H' e g hz hq2 => ?_⟩
    obtain ⟨z1, dd, xs, z2, zn, z3, z4, z5⟩ := hz
    exact W.exc z C d H' ((W.fr.trans s12.ext).trans e) (g.less (by omega)) ⟨z1, dd, xs, z2, fun q => zn (.inl q), z3, z4, z5.fewer fun b z => .inl z⟩ hq2
theorem dt_niI {a b : Expr} {pos : Pos} {j c ca cb : Nat} {S : FSpec} {ta tb : DT} (F : Fq G X.prog X.w X.mg X.base j c 0 S) (xk : Xk G E k X) (ha : DE G E X ca a ta) (hb : DE G E X cb b tb) (hm : behindInMarks .NotIn b = false) (hj : j + 1 ≤ k := by decide) : DPt G E X (ca + cb) (.Compare a [.NotIn] [b] pos) (dTrue (dNiI c S ta tb)) :=
  impT (pt_cmpR (op_niI F xk hj) ha hb hm) fun _ _ _ h => lift_niI (lift_true h)
/-- determined by the value: a leaf or a tuple of leaves -/
def Sh1 (d : D) : Prop := leafEq d d ∨ ∃ is : List D, d = .tup is ∧ ∀ i ∈ is, leafEq i i
theorem leaf_det {B : Addr → Prop} {d e : D} {v : V} (h1 : leafEq d d) (h2 : leafEq e e) (hd : Den G B H d v) (he : Den G B H e v) : d = e := by
  cases d <;> cases e <;> first | exact h1.elim | exact h2.elim | skip
  all_goals
    have a : _ = _ := hd
    have b : _ = _ := he
    rw [a] at b
    try (first | exact rfl | (cases b <;> exact rfl))
theorem leafs_det {B : Addr → Prop} : ∀ {ds es : List D} {xs : List V}, (∀ i ∈ ds, leafEq i i) → (∀ i ∈ es, leafEq i i) → DenL G B H ds xs → DenL G B H es xs → ds = es
  | [], [], _, _, _, _, _ =>
        rfl
  | [], e :: es, xs, _, _, hd, he => by obtain ⟨x, r, e1, _⟩ := he; rw [show xs = [] from hd] at e1; cases e1
  | d :: ds, [], xs, _, _, hd, he => by obtain ⟨x, r, e1, _⟩ := hd; rw [show xs = [] from he] at e1; cases e1
  | d :: ds, e :: es, xs, h1, h2, hd, he => by
    obtain ⟨x, r, rfl, a, b⟩ := hd
    obtain ⟨x2, r2, e1, a2, b2⟩ := he
    cases e1
    rw [leaf_det (h1 d List.mem_cons_self) (h2 e List.mem_cons_self) a a2, leafs_det (fun i hi => h1 i (List.mem_cons_of_mem _ hi)) (fun i hi => h2 i (List.mem_cons_of_mem _ hi)) b b2]
theorem sh_det {pins : List (Addr × Obj)} {s : Shared} {B : Addr → Prop} {d e : D} {v : V} (hK : X.K = G.K) (I : Inv X pins σ H s) (h1 : Sh1 d) (h2 : Sh1 e) (hd : Den G B H d v) (he : Den G B H e v) : d = e := by
  rcases h1 with h1 | ⟨ds, rfl, h1⟩
  · rcases h2 with h2 | ⟨es, rfl, h2⟩
    · exact leaf_det h1 h2 hd he
    · obtain ⟨a, xs, rfl, _⟩ := he
      cases d <;> first | exact h1.elim | skip
      all_goals
        have z : _ = _ := hd
        cases z
  · obtain ⟨a, xs, rfl, _, ha, _, da⟩ := hd
    rcases h2 with h2 | ⟨es, rfl, h2⟩
    · cases e <;> first | exact h2.elim | skip
      all_goals
        have z : _ = _ := he
        cases z
    · obtain ⟨b, ys, e1, _, hb, _, db⟩ := he
      cases e1
      rw [← hK] at ha hb
      rw [I.tuple_inj ha hb] at da
      rw [leafs_det h1 h2 da db]
theorem shs_det {pins : List (Addr × Obj)} {s : Shared} {B : Addr → Prop} (hK : X.K = G.K) (I : Inv X pins σ H s) : ∀ {ds es : List D} {xs : List V}, (∀ i ∈ ds, Sh1 i) → (∀ i ∈ es, Sh1 i) → DenL G B H ds xs → DenL G B H es xs → ds = es
  | [], [], _, _, _, _, _ =>
        rfl
  | [], e :: es, xs, _, _, hd, he => by obtain ⟨x, r, e1, _⟩ := he; rw [show xs = [] from hd] at e1; cases e1
  | d :: ds, [], xs, _, _, hd, he => by obtain ⟨x, r, e1, _⟩ := hd; rw [show xs = [] from he] at e1; cases e1
  | d :: ds, e :: es, xs, h1, h2, hd, he => by
    obtain ⟨x, r, rfl, a, b⟩ := hd
    obtain ⟨x2, r2, e1, a2, b2⟩ := he
    cases e1
    rw [sh_det hK I (h1 d List.mem_cons_self) (h2 e List.mem_cons_self) a a2, shs_det hK I (fun i hi => h1 i (List.mem_cons_of_mem _ hi)) (fun i hi => h2 i (List.mem_cons_of_mem _ hi)) b b2]
theorem ins_det {pins : List (Addr × Obj)} {s : Shared} {B : Addr → Prop} {c : Nat} {fs gs : List D} {v : V} (hK : X.K = G.K) (I : Inv X pins σ H s) (h1 : ∀ i ∈ fs, Sh1 i) (h2 : ∀ i ∈ gs, Sh1 i) (hd : Den G B H (.ins c fs) v) (he : Den G B H (.ins c gs) v) : fs = gs := by
  obtain ⟨a, dx, xs, rfl, _, ha, la, da⟩ := hd
  obtain ⟨b, dy, ys, e1, _, hb, lb, db⟩ := he
  cases e1
  rw [ha] at hb
  have e2 := Option.some.inj hb
  injection e2 with _ _ e3
  have e4 : xs = ys := by
    have := congrArg (List.map Prod.snd) e3
    rwa [List.map_snd_zip (by omega), List.map_snd_zip (by omega)] at this
  rw [e4] at da
  exact shs_det hK I h1 h2 da db
/-- pair by pair, the own == whatever it says -/
def eqP (c : Nat) (S : FSpec) (Q : D → Prop) (ex : Exc → Prop) : List D → List D → Prop
  | [], [] => Q (.bl true)
  | d :: ds, e :: es => ∃ fs gs, d = .ins c fs ∧ e = .ins c gs ∧ (∀ i ∈ fs, Sh1 i) ∧ (∀ i ∈ gs, Sh1 i) ∧ (fs = gs → eqP c S Q ex ds es) ∧ S [d, e] (fun r => ∃ b, r = .bl b ∧ (b = true → eqP c S Q ex ds es) ∧ (b = false → Q (.bl false))) ex
  | _, _ => Q (.bl false)
def rEqP (G : Gd) (E : XK) (c : Nat) (S : FSpec) : R2 := fun x y H Q' => ∃ (n : Nat) (B : Addr → Prop) (ds es : List D) (Q : D → Prop) (ex : Exc → Prop), Fr G E B n ex H ∧ Den G B H (.tup ds) x ∧ Den G B H (.tup es) y ∧ eqP c S Q ex ds es ∧ (∀ b H', Ext G.u H H' → Good G.u H' n → Q (.bl b) → Q' (.bl b) H')
theorem op_eqP {j c : Nat} {S : FSpec} (F : Fq G X.prog X.w X.mg X.base j c 0 S) (xk : Xk G E k X) (hj : j + 1 ≤ k := by decide) : OpR X (compareOp .Eq) (rEqP G E c S) := by
  intro pins s σ H x y v u Q' I rx ry h
  obtain ⟨n, B, ds, es, Q, ex, fr, hx, hy, hin, kQ⟩ := h
  obtain ⟨f, fd, ps, hF0, hs, hf, hbd, hp2⟩ := F.ex
  rw [← xk.K] at hs hf hbd
  obtain ⟨a, xs, rfl, na, ha, la, da⟩ := hx
  obtain ⟨b, ys, rfl, nb, hb, lb, db⟩ := hy
  cases rx
  cases ry
  rw [← xk.K] at ha hb
  obtain ⟨its, r1, p1, z1⟩ := I.tuple ha
  obtain ⟨its2, r2, p2, z2⟩ := I.tuple hb
  have l1 : its.toArray.size = ds.length := by rw [List.size_toArray, ← r1.length, da.length]
  have l2 : its2.toArray.size = es.length := by rw [List.size_toArray, ← r2.length, db.length]
  have room1 : Room j X.A.in1 := (xk.room.mono hj).in1
  refine (?_ : wpAny (model X.prog X.w) X.A (richCompare .Eq _ _) (EP X pins σ Q') X.xe s)
  refine GQ.rc_anyG xk.room.units0 (fun i s' => ∃ H', Inv X pins σ H' s' ∧ Ext G.u H H' ∧ Good G.u H' n ∧ eqP c S Q ex (ds.drop i) (es.drop i)) p1 p2 (fun i h1 h2 s' hI => ?_) (fun s' hI => ?_) ⟨H, I, Ext.refl _ _, fr.good, hin⟩
  · obtain ⟨H1, I1, e1, g1, hin1⟩ := hI
    have fr1 := fr.next e1 g1
    have hi1 : i < ds.length := by rw [← l1]; exact h1
    have hi2 : i < es.length := by rw [← l2]; exact h2
    rw [List.drop_eq_getElem_cons hi1, List.drop_eq_getElem_cons hi2] at hin1
    obtain ⟨fs, gs, ed, ee, s1, s2, same, hS⟩ := hin1
    have dd1 : DenL G B H1 ds xs := da.ext e1 fun p e => (fr.hu p e).1
    have dd2 : DenL G B H1 es ys := db.ext e1 fun p e => (fr.hu p e).1
    obtain ⟨v1, hv1, dv1⟩ := dd1.get (List.getElem?_eq_getElem hi1)
    obtain ⟨v2, hv2, dv2⟩ := dd2.get (List.getElem?_eq_getElem hi2)
    rw [ed] at dv1
    rw [ee] at dv2
    obtain ⟨ai, di, fi, rfl, nai, hai, lai, dai⟩ := id dv1
    obtain ⟨bi, ei, gi, rfl, nbi, hbi, lbi, dbi⟩ := id dv2
    obtain ⟨u1, hu1, ru1⟩ := r1.get hv1
    obtain ⟨u2, hu2, ru2⟩ := r2.get hv2
    have eit : its.toArray[i] = .ref ai := by
      have z := (List.getElem?_eq_some_iff.mp hu1).2
      have rr : u1 = .ref ai := ru1
      rw [← rr, ← z]; simp
    have eit2 : its2.toArray[i] = .ref bi := by
      have z := (List.getElem?_eq_some_iff.mp hu2).2
      have rr : u2 = .ref bi := ru2
      rw [← rr, ← z]; simp
    rw [eit, eit2]
    by_cases hab : ai = bi
    · subst hab
      refine SeqAt.EqAt.same (A := X.A.in1) (s := s') (.ref ai) X.prog X.w X.xe _ ?_
      rw [if_pos rfl]
      exact ⟨H1, I1, e1, g1, same (ins_det xk.K I1 s1 s2 dv1 dv2)⟩
    · refine GQ.eqBool_refG hab ?_
      obtain ⟨mA, J, _⟩ := ins_get I1.hok hai
      obtain ⟨mB, J', _⟩ := ins_get I1.hok hbi
      obtain ⟨od, J, _⟩ := J.look
      obtain ⟨od', J', _⟩ := J'.look; obtain ⟨m, hFr⟩ := I1.fr
      have hl : liftF G 0 S [.ref ai, .ref bi] H1 (fun v H2 => ∃ b, v = .bl b ∧ Ext G.u H H2 ∧ Good G.u H2 n ∧ (b = true → eqP c S Q ex (ds.drop (i + 1)) (es.drop (i + 1))) ∧ (b = false → Q (.bl false))) E := by
        refine liftF_of fr1 (Q := fun r => ∃ b, r = .bl b ∧ (b = true → eqP c S Q ex (ds.drop (i + 1)) (es.drop (i + 1))) ∧ (b = false → Q (.bl false))) (ds := [.ins c fs, .ins c gs]) ⟨_, _, rfl, dv1, _, _, rfl, dv2, rfl⟩ (by rw [ed, ee] at hS; exact hS) fun v H2 d e2 g2 hd ⟨b, eb, hb1, hb2⟩ => ?_
        subst eb
        cases hd
        exact ⟨b, rfl, e1.trans e2, g2, hb1, hb2⟩
      refine PySem.W.cmp_K (op := .Eq) (tb := .ref (G.cl c)) room1.units0 hFr I1.ok.mod.kin J J'.type (by simp [PySem.W.notFirst]) hs hf (wpAny_call (codeAny_mono (hF0.run X.A.in1 X.stack s' H1 ⟨[.ref ai, .ref bi], []⟩ [.ref ai, .ref bi] [.ref ai, .ref bi] _ E room1 xk.gd (by rw [← xk.K]; exact I1.env0.in1) ?_ (.cons rfl (.cons rfl .nil)) hp2.symm hl) fun r s2 hq => ?_))
      · have z := hbd s' [.ref ai, .ref bi] I1.kIn (by rw [List.append_nil]; exact hp2.symm)
        rw [List.append_nil] at z
        exact z
      · cases r with
        | error e => exact xk.pass pins σ H1 s' e s2 I1 hq
        | ok fl =>
          cases fl with
          | ret w' =>
            obtain ⟨z, H2, I2, rz, b, eb, e2, g2, hb1, hb2⟩ := I1.after hq
            subst eb
            refine SlX.cmpback rz ⟨b, ?_, ?_⟩
            · exact rz
            · cases b with
              | true => rw [if_pos rfl]; exact ⟨H2, I2, e2, g2, hb1 rfl⟩
              | false => rw [if_neg Bool.false_ne_true]; exact ⟨.bl false, H2, I2, rfl, kQ _ H2 e2 g2 (hb2 rfl)⟩
          | next => exact hq.elim
          | brk => exact hq.elim
          | cont => exact hq.elim
  · obtain ⟨H1, I1, e1, g1, hin1⟩ := hI
    rw [l1, l2] at hin1 ⊢
    refine ⟨.bl (ds.length == es.length), H1, I1, rfl, kQ _ H1 e1 g1 ?_⟩
    rcases Nat.lt_trichotomy ds.length es.length with h | h | h
    · rw [show min ds.length es.length = ds.length by omega, List.drop_length, List.drop_eq_getElem_cons h] at hin1
      rw [show (ds.length == es.length) = false by simp; omega]
      exact hin1
    · rw [show min ds.length es.length = ds.length by omega, List.drop_length, List.drop_of_length_le (by omega)] at hin1
      rw [show (ds.length == es.length) = true by simp; omega]
      exact hin1
    · rw [show min ds.length es.length = es.length by omega, List.drop_length, List.drop_eq_getElem_cons h] at hin1
      rw [show (ds.length == es.length) = false by simp; omega]
      exact hin1
def dEqP (c : Nat) (S : FSpec) (ta tb : DT) : DT := fun ex env Q => ta ex env fun d => tb ex env fun e => ∃ ds es, d = .tup ds ∧ e = .tup es ∧ eqP c S Q ex ds es
theorem lift_eqP {c ca cb : Nat} {S : FSpec} {ta tb : DT} {Q' : VK} (h : lift G E (ca + cb) (dEqP c S ta tb) σ H Q') : tOp (rEqP G E c S) (lift G E ca ta) (lift G E cb tb) σ H Q' := by
  obtain ⟨W, hn, Q, ht, kk⟩ := h
  refine ⟨W, by omega, _, ht, fun v H1 d st hd hq => ⟨W.next st, by show W.m + cb ≤ W.n - ca; omega, _, hq, fun v2 H2 e st2 he ⟨ds, es, e1, e2, hs⟩ => ?_⟩⟩
  subst e1
  subst e2
  have hd2 : Den G W.XB H2 (.tup ds) v := (W.next st).den st2 hd
  have he2 : Den G W.XB H2 (.tup es) v2 := he
  have st3 := st.trans st2
  have ug := W.ug
  refine ⟨W.n - (ca + cb), W.XB, ds, es, Q, W.ex, ⟨fun p e => ?_, fun a ha z => (W.next st3).fresh z ha, ?_, fun x C d H' e g hx q => ?_⟩, hd2, he2, hs, fun b H' e g hq => ?_⟩
  · rw [← ug] at e
    exact ⟨.inl (W.hu p e).1, .inl (W.hu p e).2⟩
  · rw [← ug]; exact st3.good
  · rw [← ug] at e g
    refine W.exc x C d H' ((W.fr.trans st3.ext).trans e) (g.less (by omega)) ?_ q
    obtain ⟨e1, dd, xs, e2, nd, e3, e4, e5⟩ := hx
    exact ⟨e1, dd, xs, e2, fun z => nd (.inl z), e3, e4, e5.fewer fun b z => .inl z⟩
  · rw [← ug] at e g
    exact kk _ H' (.bl _) ⟨st3.ext.trans e, g⟩ (den_bl _) hq
theorem de_eqP {a b : Expr} {pos : Pos} {j c ca cb : Nat} {S : FSpec} {ta tb : DT} (F : Fq G X.prog X.w X.mg X.base j c 0 S) (xk : Xk G E k X) (ha : DE G E X ca a ta) (hb : DE G E X cb b tb) (hm : behindInMarks .Eq b = false) (hj : j + 1 ≤ k := by decide) : DE G E X (ca + cb) (.Compare a [.Eq] [b] pos) (dEqP c S ta tb) :=
  imp (pe_cmpR (op_eqP F xk hj) ha hb hm) fun _ _ _ h => lift_eqP h
end
end Kn
set_option Elab.async false
set_option linter.all false
set_option maxRecDepth 100000
set_option maxHeartbeats 2100000
namespace Kn
open PySem L2 RZ
section
variable {G : Gd} {E : XK} {X : Cx} {σ : List (Option V)} {H H' : Hp}
theorem ds_cellVF {i j : Nat} {x y : Str} {a f : Expr} {te : DT} {u : DA} {c c2 : Nat} {px py pt pos : Pos} {kt k2 pt2} (hc : X.calm = true) (g1 : PG X (.Name x px) (gName i)) (g2 : PG X (.Name y py) (gName j))
    (ha : DE G E X c a te) (hf : DF G E X c2 f u) (hs1 : starEach [a, f] X.env = (false, eval a X.env) :: starEach [f] X.env := by rfl) (hs2 : starEach [f] X.env = (false, eval f X.env) :: starEach [] X.env := by rfl)
    (hs : swapsWithSole [.Tuple [.Name x px, .Name y py] kt pt] (.Tuple [a, f] k2 pt2) pos.line X.env = pure false := by rfl) (hw : swappedStores [.Tuple [.Name x px, .Name y py] kt pt] (.Tuple [a, f] k2 pt2) X.env = pure none := by with_unfolding_all rfl)
    (h1 : (assignEach [.Tuple [.Name x px, .Name y py] kt pt] X.env).map (·.2) = [assign (.Tuple [.Name x px, .Name y py] kt pt) X.env] := by rfl) : DSt G E X (c + c2) (.Assign [.Tuple [.Name x px, .Name y py] kt pt] (.Tuple [a, f] k2 pt2) pos) (sParVF i j te u) :=
  impS (ps_asg (pe_tup (pa_cons ha (pa_cons hf pa_nil hs2) hs1)) (pg_tup (n := 2) hc (pgs_cons g1 (pgs_cons g2 pgs_nil))) hs hw h1) fun Dn σ H h => by
    obtain ⟨W, hn, de, ht, k1, k2, k3, k4⟩ := h
    refine ⟨W, by omega, _, ht, fun v H1 d st hd hq => ?_⟩
    refine ⟨W.next st, by show W.m + c2 ≤ W.n - c; omega, fun ds => ∀ a, de.nx ((W.env.set i (.val d)).set j (.own a ds)), hq, fun p H2 ds xs st2 hp h2 hl hd2 hq2 => ?_⟩
    refine ⟨small (by simp), fun q hq0 => ?_⟩
    refine ⟨q, [v, .ref p], rfl, SqT.of upd_same, rfl, v, [.ref p], rfl, .ref p, [], rfl, rfl, ?_⟩
    have hd' : Den G (W.next st).XB H1 d v := hd
    let W1 := (W.next st).put i hd'
    have st3 : Step W1 c2 H2 := ⟨st2.ext, st2.good⟩
    have st4 : Step W1 c2 (upd H2 q (.tup [v, .ref p])) := st3.new hq0
    have hdp : DenL G (fun a => W1.XB a ∨ a = p) H2 ds xs := hd2.fewer fun b hb => hb.imp (fun z => xb_val (W.next st).len z) id
    have npq : p ≠ q := fun z => by rw [z, hq0] at h2; cases h2
    obtain ⟨W', l1, l2⟩ := wd_own W1 st4 (i := j) hp (by rw [upd_ne npq]; exact h2) hl (denL_upd hq0 hdp)
    exact k1 _ _ W' ((((Later.next st).trans (Later.put _ i hd')).trans l1).more (by omega)) (by rw [l2]; exact hq2 p)
theorem ds_cellFV {i j : Nat} {x y : Str} {f b : Expr} {t : DA} {te : DT} {c c2 : Nat} {px py pt pos : Pos} {kt k2 pt2} (hc : X.calm = true) (g1 : PG X (.Name x px) (gName i)) (g2 : PG X (.Name y py) (gName j))
    (hf : DF G E X c f t) (hb : DE G E X c2 b te) (hs1 : starEach [f, b] X.env = (false, eval f X.env) :: starEach [b] X.env := by rfl) (hs2 : starEach [b] X.env = (false, eval b X.env) :: starEach [] X.env := by rfl)
    (hs : swapsWithSole [.Tuple [.Name x px, .Name y py] kt pt] (.Tuple [f, b] k2 pt2) pos.line X.env = pure false := by rfl) (hw : swappedStores [.Tuple [.Name x px, .Name y py] kt pt] (.Tuple [f, b] k2 pt2) X.env = pure none := by with_unfolding_all rfl)
    (h1 : (assignEach [.Tuple [.Name x px, .Name y py] kt pt] X.env).map (·.2) = [assign (.Tuple [.Name x px, .Name y py] kt pt) X.env] := by rfl) : DSt G E X (c + c2) (.Assign [.Tuple [.Name x px, .Name y py] kt pt] (.Tuple [f, b] k2 pt2) pos) (sParFV i j t te) :=
  impS (ps_asg (pe_tup (pa_cons hf (pa_cons hb pa_nil hs2) hs1)) (pg_tup (n := 2) hc (pgs_cons g1 (pgs_cons g2 pgs_nil))) hs hw h1) fun Dn σ H h => by
    obtain ⟨W, hn, de, ht, k1, k2, k3, k4⟩ := h
    refine ⟨W, by omega, _, ht, fun p H1 ds xs st hp h1 hl hd hq => ?_⟩
    refine ⟨W.next st, by show W.m + c2 ≤ W.n - c; omega, _, hq, fun v2 H2 e2 st2 he2 ⟨n, e, hnx⟩ => ?_⟩
    subst e
    cases he2
    refine ⟨small (by simp), fun q hq0 => ?_⟩
    refine ⟨q, [.ref p, .int n], rfl, SqT.of upd_same, rfl, .ref p, [.int n], rfl, .int n, [], rfl, rfl, ?_⟩
    have nup : NU W.u p := W.nuX (W.fresh hp)
    have h2 : H2 p = some (.lst xs) := st2.ext p _ h1 nup
    have npq : p ≠ q := fun z => by rw [z, hq0] at h2; cases h2
    have hd2 : DenL G (fun a => W.XB a ∨ a = p) H2 ds xs := hd.ext st2.ext fun r e => .inl (W.huX r e)
    obtain ⟨W1, l1, l2⟩ := wd_own W ((st.trans st2).new (o := .tup [.ref p, .int n]) hq0) (i := i) hp (by rw [upd_ne npq]; exact h2) hl (denL_upd hq0 hd2)
    have hi' : Den G W1.XB (upd H2 q (.tup [.ref p, .int n])) (.int n) (.int n) := den_int n
    exact k1 _ _ (W1.put j hi') ((l1.trans (Later.put W1 j hi')).more (by omega)) (by show de.nx (W1.env.set j _); rw [l2]; exact hnx p)
end
end Kn
set_option Elab.async false
set_option linter.all false
set_option maxRecDepth 100000
set_option maxHeartbeats 4100000
namespace Pg
open PySem L2 RZ Kn
section
variable {P : Program} {w : World} {K : PySem.W.Frag} {mg : Str → Option Value} {base : Heap} {f : Addr} {fd : FuncData}
abbrev s_law_pen : Stmt := topS 35
theorem sc_law_pen : FnScope ["script", "cell"] ["script"] (defScope s_law_pen) := ⟨rfl, rfl, rfl, by decide +kernel, rfl, by decide +kernel, by decide +kernel⟩
theorem ok_law_pen (F : Fun K "_law_pen" "_law_pen" s_law_pen f fd) (bi : mg "int" = none) : FnOk P w K mg base (L2.CX P w) 1 f fd ["script"] (spPen K) := by
  refine F.okX sc_law_pen (fun vs H Q E h => ?_) (fun cdv A outer s H vs Q E hr h => ?_)
  · obtain ⟨a, ns, rfl, _⟩ := h
    rfl
  obtain ⟨a, ns, rfl, hS, hlen, q⟩ := h
  refine ⟨_, pss_one (ps_ret (pe_lst (pa_cons (pe_lc (own := [("cell", 1)]) rfl sc_law_pen.nd (pi_sq (pe_slice sl_list (pe_var (i := 0) rfl (by first | exact Or.inl rfl | exact Or.inr (Or.inl rfl) | exact Or.inr (Or.inr rfl)) (by decide) (by decide)) po_none (po_some pe_int))) (blkOk_by (N := ["script", "cell"]) (sc := defScope s_law_pen) (by decide +kernel))
    (fun s H C cl fp => pg_name (i := 1) sc_law_pen.nd rfl (Or.inl rfl)) (fun s H C cl fp => pts_nil) (fun s H C cl fp => pe_callTy call_int1 rfl bi (by decide +kernel) (pa_cons (pe_var (i := 1) rfl (by first | exact Or.inl rfl | exact Or.inr (Or.inl rfl) | exact Or.inr (Or.inr rfl)) (by decide) (by decide)) pa_nil) (by decide) (by decide) rfl rfl)) (pa_cons pe_int (pa_cons pe_int pa_nil))))), ?_⟩
  refine ⟨.ref a, rfl, 60, rfl, a, _, rfl, hS, fun c hc => ?_⟩
  have hn60 : (ns.take 60).length ≤ 60 := by rw [List.length_take]; omega
  have k1 : ∀ b o, H b = some o → upd H c (.lst (cutV (ns.map V.int) none (some 60))) b = some o := fun b o e => by rw [upd_ne (ne_of_none e hc)]; exact e
  have hcl : upd H c (.lst (cutV (ns.map V.int) none (some 60))) c = some (.lst ((ns.take 60).map V.int)) := by rw [upd_same, cut_ints]
  generalize upd H c (.lst (cutV (ns.map V.int) none (some 60))) = H1 at *
  generalize ns.take 60 = cs at *
  refine ⟨c, rfl, .inl ⟨⟨_, SqL.of hcl⟩, fun D hD => ?_⟩⟩
  have hDc : c ≠ D := ne_of_none hcl hD
  refine ⟨fun i m H2 => i ≤ cs.length ∧ m = cs.length - i ∧ (∀ b o, H1 b = some o → H2 b = some o) ∧ H2 D = some (.lst ((cs.take i).map V.int)), ⟨_, Nat.zero_le _, rfl, fun b o e => by rw [upd_ne (ne_of_none e hD)]; exact e, by rw [upd_same]; rfl⟩, fun i m H2 hW => ?_⟩
  obtain ⟨hi, rfl, k2, hD2⟩ := hW
  have hc2 := SqL.of (K := K) (k2 _ _ hcl)
  by_cases hlt : i < cs.length
  · refine .inr ⟨⟨_, .int (cs[i]), hc2, by rw [List.getElem?_map, List.getElem?_eq_getElem hlt]; rfl⟩, fun H3 => (∀ b o, H1 b = some o → H3 b = some o) ∧ H3 D = some (.lst ((cs.take (i + 1)).map V.int)), fun H3 ⟨e1, e2⟩ => ⟨cs.length - (i + 1), by omega, hlt, rfl, e1, e2⟩, fun x H3 hy => ?_⟩
    obtain ⟨rfl, hx⟩ := hy
    have ex : x = .int (cs[i]) := by
      have := hx _ hc2
      rw [List.getElem?_map, List.getElem?_eq_getElem hlt] at this; exact (Option.some.inj this).symm
    subst ex
    refine ⟨rfl, ?_⟩
    refine ⟨_, rfl, .inl ⟨_, rfl, _, hD2, by rw [List.length_map, List.length_take, sizeLine_eq]; omega, fun b o e => ?_, ?_⟩⟩
    · rw [upd_ne (ne_of_none e hD)]; exact k2 b o e
    · rw [upd_same, List.take_succ, List.getElem?_eq_getElem hlt, List.map_append]
      rfl
  · have e : i = cs.length := by omega
    refine .inl ⟨⟨_, hc2, by rw [List.length_map]; omega⟩, ?_⟩
    refine ⟨small (by simp), fun p hp => ?_⟩
    have hpD : D ≠ p := ne_of_none hD2 hp
    refine q _ p D cs (fun b o e _ => ?_) ?_ ?_ (Ne.symm hpD) (by omega) upd_same ?_
    · have e2 := k2 b o (k1 b o e)
      rw [upd_ne (ne_of_none e2 hp)]; exact e2
    · cases hq : H p with
      | none => rfl
      | some o => rw [k2 p o (k1 p o hq)] at hp; cases hp
    · cases hq : H D with
      | none => rfl
      | some o => rw [k1 D o hq] at hD; cases hD
    · rw [upd_ne hpD, hD2, e, List.take_length]
end
section
variable {G : Gd} {P : Program} {w : World} {mg : Str → Option Value} {base : Heap} {f : Addr} {fd : FuncData}
abbrev s_law_draw : Stmt := topS 36
theorem sc_law_draw : FnScope ["pen", "many", "rest", "at", "cell", "mixed"] ["pen", "many"] (defScope s_law_draw) := ⟨rfl, rfl, rfl, by decide +kernel, rfl, by decide +kernel, by decide +kernel⟩
theorem ok_law_draw (F : Fun G.K "_law_draw" "_law_draw" s_law_draw f fd) (bn : Bn mg) : FnD G P w mg base 1 f fd ["pen", "many"] 1 sDraw := by
  refine draw_of F sc_law_draw rfl (fun cdv A outer s H E hr hg => have xk := xk_def (G := { G with u := none }) (E := E) hr hg; (ds_cons (ds_if (dt_cmp (o_gt) (de_oix (i := 0) rfl de_int (fun _ _ => rfl)) de_int (by rfl)) (ds_cons (ds_set (i := 2) sc_law_draw.nd rfl (Or.inl rfl) (de_ty (c_int) bn.int (da_cons (de_oix (i := 0) rfl de_int (fun _ _ => rfl)) da_nil))) (ds_cons (ds_setIx (i := 0) rfl (de_op (o_div) (dv 2) (dv 1)) de_int) (ds_one (ds_ret (de_op (o_mod) (de_ty (c_int) bn.int (da_cons (dv 2) da_nil)) (dv 1)))))) ds_nil) (ds_cons (ds_set (i := 3) sc_law_draw.nd rfl (Or.inl rfl) (de_oix (i := 0) rfl de_int (fun _ _ => rfl))) (ds_cons (ds_setIx (i := 0) rfl (de_op (o_add xk.K) (dv 3) de_int) de_int) (ds_cons (ds_set (i := 4) sc_law_draw.nd rfl (Or.inl rfl) (de_op (o_add xk.K) (de_op (o_mul) de_int (dv 3)) de_int)) (ds_cons (ds_if (dt_cmp (o_ne xk.K xk.u64) (de_oix (i := 0) rfl de_int (fun _ _ => rfl)) (de_lst da_nil) (by rfl)) (ds_one (ds_set (i := 4) sc_law_draw.nd rfl (Or.inl rfl) (de_ix xk.K (de_oix (i := 0) rfl de_int (fun _ _ => rfl)) (de_op (o_mod) (de_ty (c_int) bn.int (da_cons (dv 3) da_nil)) (de_bi (c_len xk.K) bn.len (da_cons (de_oix (i := 0) rfl de_int (fun _ _ => rfl)) da_nil))) (fun _ _ => rfl)))) ds_nil) (ds_cons (ds_if (dt_w (dw_and (dt_cmp (o_lt) (dv 3) (de_bi (c_len xk.K) bn.len (da_cons (de_oix (i := 0) rfl de_int (fun _ _ => rfl)) da_nil)) (by rfl)) (dw_and1 (dt_cmp (o_ge) (de_bi (c_abs) bn.abs (da_cons (dv 4) da_nil)) (de_op (o_pow) de_int de_int) (by rfl))))) (ds_cons (ds_set (i := 2) sc_law_draw.nd rfl (Or.inl rfl) (de_op (o_add xk.K) (de_op (o_mul) de_int (de_op (o_sub) (de_bi (c_abs) bn.abs (da_cons (dv 4) da_nil)) (de_op (o_pow) de_int de_int))) (de_ty (c_int) bn.int (da_cons (de_cmp (o_lt) (dv 4) de_int (by rfl)) da_nil)))) (ds_cons (ds_setIx (i := 0) rfl (de_op (o_div) (de_ty (c_int) bn.int (da_cons (dv 2) da_nil)) (dv 1)) de_int) (ds_one (ds_ret (de_op (o_mod) (de_ty (c_int) bn.int (da_cons (dv 2) da_nil)) (dv 1)))))) ds_nil) (ds_cons (ds_set (i := 5) sc_law_draw.nd rfl (Or.inl rfl) (de_op (o_mod) (de_ty (c_int) bn.int (da_cons (de_op (o_pow) (de_op (o_add xk.K) (de_op (o_add xk.K) (de_op (o_mod) (de_ty (c_int) bn.int (da_cons (dv 4) da_nil)) de_int) (de_op (o_mul) de_int (dv 3))) de_int) de_int) da_nil)) de_int)) (ds_cons (ds_set (i := 5) sc_law_draw.nd rfl (Or.inl rfl) (de_op (o_mod) (de_ty (c_int) bn.int (da_cons (de_op (o_pow) (de_op (o_add xk.K) (de_op (o_add xk.K) (de_op (o_mul) (dv 5) (de_op (o_add xk.K) (de_op (o_mul) de_int (dv 3)) de_int)) (de_op (o_mulW) (de_op (o_mul) de_int (dv 3)) (dv 3))) de_int) de_int) da_nil)) de_int)) (ds_one (ds_ret (de_op (o_mod) (de_ty (c_int) bn.int (da_cons (de_op (o_div) (dv 5) de_int) da_nil)) (dv 1))))))))))))) ?_
  intro cells at_ r many a b hc h0 h1 hr0 hm1 hm2
  have hpos : 0 < many := by omega
  have cdiv : CDiv r many := ⟨hpos, hm2⟩
  refine seq_to (fun env' => env' = Sl.own a [.at_ b (cells.map D.int), .int at_, .int r] :: Sl.val (.int many) :: List.replicate 4 Sl.emp) (fun de' hnx hrt => ?_) (fun env' e => ?_)
  · refine ⟨a, _, rfl, 2, .int r, rfl, rfl, trivial, _, rfl, ite_of (fun hb => ?_) fun hb => hnx _ rfl⟩
    have hr : 0 < r := of_decide_eq_true hb
    refine ⟨a, _, rfl, 2, .int r, rfl, rfl, ?_⟩
    refine ⟨.int r, rfl, .int many, rfl, ⟨hpos, hm2⟩, a, _, rfl, 2, 2, rfl, rfl, ?_⟩
    refine ⟨.int r, rfl, .int many, rfl, hpos, ?_⟩
    rw [hrt]
    exact ⟨r % many, at_, r / many, rfl, Int.emod_nonneg _ (by omega), Int.emod_lt_of_pos _ hpos, rfl, Int.ediv_nonneg hr0 (by omega), h0, by omega⟩
  subst e
  refine seq_to (fun env' => env' = [Sl.own a [.at_ b (cells.map D.int), .int at_, .int r], .val (.int many), .emp, .val (.int at_), .emp, .emp]) (fun de' hnx hrt => ?_) (fun env' e => ?_)
  · exact ⟨a, _, rfl, 1, .int at_, rfl, rfl, hnx _ rfl⟩
  subst e
  refine seq_to (fun env' => env' = [Sl.own a [.at_ b (cells.map D.int), .int (at_ + 1), .int r], .val (.int many), .emp, .val (.int at_), .emp, .emp]) (fun de' hnx hrt => ?_) (fun env' e => ?_)
  · exact ⟨.int at_, rfl, a, _, rfl, 1, 1, rfl, rfl, hnx _ rfl⟩
  subst e
  refine seq_to (fun env' => ∃ c : Int, env' = [Sl.own a [.at_ b (cells.map D.int), .int (at_ + 1), .int r], .val (.int many), .emp, .val (.int at_), .val (.int c), .emp]) (fun de' hnx hrt => ?_) (fun env' e => ?_)
  · exact ⟨.int at_, rfl, .inl ⟨by decide, by decide⟩, hnx _ ⟨_, rfl⟩⟩
  obtain ⟨c0, rfl⟩ := e
  refine seq_to (fun env' => ∃ c : Int, env' = [Sl.own a [.at_ b (cells.map D.int), .int (at_ + 1), .int r], .val (.int many), .emp, .val (.int at_), .val (.int c), .emp]) (fun de' hnx hrt => ?_) (fun env' e => ?_)
  · refine ⟨a, _, rfl, 0, _, rfl, rfl, small (by simp), ne_nil ⟨_, rfl, ite_of (fun hb => ?_) fun hb => hnx _ ⟨_, rfl⟩⟩⟩
    have hne : 0 < cells.length := by cases cells with
      | nil => cases hb
      | cons x l => simp
    have hne' : (0 : Int) < cells.length := by omega
    have e1 := atR_at (r := cells) (i := at_ % cells.length) (Int.emod_nonneg _ (by omega)) (Int.emod_lt_of_pos _ hne')
    refine ⟨a, _, rfl, 0, _, rfl, rfl, .int at_, rfl, a, _, rfl, 0, _, rfl, rfl, ?_⟩
    have hl : ((cells.map D.int).length : Int) = cells.length := by simp
    refine ⟨by rw [hl]; exact hne', .int (atR cells (at_ % cells.length)), by rw [hl]; exact e1, hnx _ ⟨_, rfl⟩⟩
  obtain ⟨c, rfl⟩ := e
  refine seq_to (fun env' => env' = [Sl.own a [.at_ b (cells.map D.int), .int (at_ + 1), .int r], .val (.int many), .emp, .val (.int at_), .val (.int c), .emp]) (fun de' hnx hrt => ?_) (fun env' e => ?_)
  · refine ⟨.int at_, rfl, a, _, rfl, 0, _, rfl, rfl, trivial, _, rfl, ite_of (fun hb => ?_) fun hb => hnx _ rfl⟩
    refine ⟨.int c, rfl, pow18, trivial, _, rfl, ite_of (fun hb2 => ?_) fun hb2 => hnx _ rfl⟩
    have hge : (10 : Int) ^ (18 : Int).toNat ≤ (if c < 0 then -c else c) := of_decide_eq_true hb2
    refine seq_to (fun env' => ∃ q : Int, 0 ≤ q ∧ env' = [Sl.own a [.at_ b (cells.map D.int), .int (at_ + 1), .int r], .val (.int many), .val (.int q), .val (.int at_), .val (.int c), .emp]) (fun de2 hnx2 hrt2 => ?_) (fun env' e => ?_)
    · refine ⟨.int c, rfl, pow18, trivial, .inl ⟨by decide, by decide⟩, .int c, rfl, trivial, hnx2 _ ⟨_, ?_, rfl⟩⟩
      by_cases hcn : c < 0
      · rw [if_pos hcn] at hge ⊢
        rw [if_pos (decide_eq_true hcn)]
        omega
      · rw [if_neg hcn] at hge ⊢
        rw [if_neg (by rw [decide_eq_false hcn]; decide)]
        omega
    obtain ⟨q, hq0, rfl⟩ := e
    refine ⟨.int q, rfl, .int many, rfl, ⟨hpos, hm2⟩, a, _, rfl, 2, 2, rfl, rfl, ?_⟩
    refine ⟨.int q, rfl, .int many, rfl, hpos, ?_⟩
    rw [hrt]
    exact ⟨q % many, at_ + 1, q / many, rfl, Int.emod_nonneg _ (by omega), Int.emod_lt_of_pos _ hpos, rfl, Int.ediv_nonneg hq0 (by omega), by omega, by omega⟩
  subst e
  refine seq_to (fun env' => ∃ x : Int, 0 ≤ x ∧ x < 2 ^ 62 ∧ env' = [Sl.own a [.at_ b (cells.map D.int), .int (at_ + 1), .int r], .val (.int many), .emp, .val (.int at_), .val (.int c), .val (.int x)]) (fun de' hnx hrt => ?_) (fun env' e => ?_)
  · refine ⟨.int c, rfl, pos_of (by decide), .int at_, rfl, .inl ⟨by decide, by decide⟩, ?_⟩
    refine ⟨draw_pow1 (Int.emod_nonneg _ (by decide)) (Int.lt_trans (Int.emod_lt_of_pos _ (by decide)) (by decide)) (by decide) (by decide) (by decide) (by decide) h0 h1, pos_of (by decide), hnx _ ⟨_, Int.emod_nonneg _ (by decide), Int.lt_trans (Int.emod_lt_of_pos _ (by decide)) (by decide), rfl⟩⟩
  obtain ⟨x, hx0, hx1, rfl⟩ := e
  refine seq_to (fun env' => ∃ y : Int, 0 ≤ y ∧ env' = [Sl.own a [.at_ b (cells.map D.int), .int (at_ + 1), .int r], .val (.int many), .emp, .val (.int at_), .val (.int c), .val (.int y)]) (fun de' hnx hrt => ?_) (fun env' e => ?_)
  · refine ⟨.int x, rfl, .int at_, rfl, .inl ⟨by decide, by decide⟩, .inl ⟨by omega, by omega⟩, .int at_, rfl, .inl ⟨by decide, by decide⟩, .int at_, rfl, draw_wide (by decide) (by decide) h0 h1, ?_⟩
    exact ⟨draw_pow2 hx0 hx1 (by decide) (by decide) (by decide) (by decide) (by decide) (by decide) (by decide) (by decide) h0 h1, pos_of (by decide), hnx _ ⟨_, Int.emod_nonneg _ (by decide), rfl⟩⟩
  obtain ⟨y, hy0, rfl⟩ := e
  refine ⟨.int y, rfl, ⟨by decide, by decide⟩, .int many, rfl, hpos, ?_⟩
  exact ⟨_, at_ + 1, r, rfl, Int.emod_nonneg _ (by omega), Int.emod_lt_of_pos _ hpos, rfl, hr0, by omega, by omega⟩
def sPick : FSpec := fun ds R _ => ∃ (d : D) (xs : List D), ds = [.urn, d] ∧ d.items? = some xs ∧ 1 ≤ xs.length ∧ xs.length ≤ 100000 ∧ ∀ (i : Nat) (x : D), xs[i]? = some x → R x
abbrev s_law_pick : Stmt := topS 37
theorem sc_law_pick : FnScope ["pen", "some"] ["pen", "some"] (defScope s_law_pick) := ⟨rfl, rfl, rfl, by decide +kernel, rfl, by decide +kernel, by decide +kernel⟩
theorem ok_law_pick (F : Fun G.K "_law_pick" "_law_pick" s_law_pick f fd) (bn : Bn mg) (F__law_draw : Fk G P w mg base 1 "_law_draw" ["pen", "many"] 1 sDraw) : FnD G P w mg base 2 f fd ["pen", "some"] 1 sPick := by
  refine FnD.more (fnd_of F sc_law_pick (fun cdv A outer s H E hr hg => have xk := xk_def (E := E) hr hg; (ds_one (ds_ret (de_ix xk.K (dv 1) (de_call F__law_draw xk (da_cons (dv 0) (da_cons (de_bi (c_len xk.K) bn.len (da_cons (dv 1) da_nil)) da_nil))) (fun _ _ => rfl))))) ?_) (by decide)
  rintro ds R ex hl ⟨d, xs, rfl, hx, h1, h2, hr⟩
  refine ⟨d, rfl, .urn, rfl, d, rfl, ?_⟩
  cases d <;> cases hx
  all_goals
    refine ⟨rfl, _, rfl, by omega, by omega, fun i b1 b2 => ?_⟩
    obtain ⟨j, rfl⟩ := Int.eq_ofNat_of_zero_le b1
    have hj : j < xs.length := by omega
    exact ⟨xs[j], atI_nat (List.getElem?_eq_getElem hj), hr j _ (List.getElem?_eq_getElem hj)⟩
theorem compL_draw {α : Type} {tg : DG} {te : DT} {Q : List D → Prop} {env : List Sl} (g : α → D) (r : α → Int → D) (P : Int → Prop) : ∀ {xs : List α} {acc : List D}, (∀ x ∈ xs, ∀ K : D → Prop, (∀ v, P v → K (r x v)) → tg (g x) env fun env2 => te noX env2 K) →
    (∀ vs : List Int, vs.length = xs.length → (∀ v ∈ vs, P v) → Q (acc ++ List.zipWith r xs vs)) → compL tg bYes te Q env (xs.map g) acc
  | [], acc, _, hq => by
    unfold compL
    simpa using hq [] rfl (fun v hv => nomatch hv)
  | x :: xs, acc, h, hq => by
    rw [List.map_cons]
    unfold compL
    refine h x List.mem_cons_self _ fun v hv => ?_
    refine compL_draw g r P (fun y hy => h y (List.mem_cons_of_mem _ hy)) fun vs hl hvs => ?_
    have := hq (v :: vs) (by simp [hl]) fun z hz => by
      rcases List.mem_cons.mp
            hz with rfl | hz
      · exact hv
      · exact hvs z hz
    simpa using this
theorem nil_seq {ex : Exc → Prop} {de : DEnds} {env : List Sl} (h : de.nx env) : sNil ex de env := h
theorem cut_from1 {xs : List D} : cutD xs (some 1) none = xs.drop 1 := cut_fromN (k := 1)
theorem compP_inv {tg : DG} {te : DT2} {i0 : Nat} {a : Addr} {Q : List D → List D → Prop} {base : List Sl} (J : List D → List D → List D → Prop)
    (step : ∀ d ds acc fs, J (d :: ds) acc fs → ∀ K : D → List D → Prop, (∀ y fs', J ds (acc ++ [y]) fs' → K y fs') → tg d (base.set i0 (.own a fs)) fun env2 => te noX env2 fun y env3 => ∃ fs', env3[i0]? = some (.own a fs') ∧ fs'.length ≤ sizeLine ∧ K y fs')
    (fin : ∀ acc fs, J [] acc fs → Q acc fs) : ∀ ds acc fs, J ds acc fs → compP G tg te i0 a Q base ds acc fs
  | [], acc, fs, h => fin acc fs h
  | d :: ds, acc, fs, h => step d ds acc fs h (fun y fs' => compP G tg te i0 a Q base ds (acc ++ [y]) fs') fun y fs' h2 => compP_inv J step fin ds (acc ++ [y]) fs' h2
theorem er_map {α β : Type} (f : α → β) (l : List α) (k : Nat) : (l.map f).eraseIdx k = (l.eraseIdx k).map f := by
  rw [List.eraseIdx_eq_take_drop_succ, List.eraseIdx_eq_take_drop_succ, List.map_append, List.map_take, List.map_drop]
theorem zip_snd {α β γ : Type} (f : β → γ) : ∀ (xs : List α) (ys : List β), ys.length = xs.length → List.zipWith (fun _ v => f v) xs ys = ys.map f
  | [], [], _ => rfl
  | [], y :: ys, h => by cases h
  | x :: xs, [], h => by cases h
  | x :: xs, y :: ys, h => by rw [List.zipWith_cons_cons, List.map_cons, zip_snd f xs ys (by simpa using h)]
def sRow : FSpec := fun ds R _ => ∃ n : Nat, ds = [.urn, .int n] ∧ 1 ≤ n ∧ n ≤ 5 ∧ ∀ r : List Int, RowIn n n r → R (rowD r)
theorem idx_in (n : Nat) : ∀ i ∈ idx n, 0 ≤ i ∧ i < (n : Int) := fun i hi => by
  unfold idx at hi
  obtain ⟨j, hj, rfl⟩ := List.mem_map.mp hi
  have := List.mem_range.mp hj
  omega
theorem rng_len (n : Nat) : (rangeD 0 n).length = n := by rw [range_idx, List.length_map, idx_len]
abbrev s_law_row : Stmt := topS 38
theorem sc_law_row : FnScope ["pen", "things", "way", "left", "row", "turn"] ["pen", "things"] (defScope s_law_row) := ⟨rfl, rfl, rfl, by decide +kernel, rfl, by decide +kernel, by decide +kernel⟩
theorem ok_law_row (F : Fun G.K "_law_row" "_law_row" s_law_row f fd) (bn : Bn mg) (F__law_draw : Fk G P w mg base 1 "_law_draw" ["pen", "many"] 1 sDraw) : FnD G P w mg base 2 f fd ["pen", "things"] 67108864 sRow := by
  refine FnD.more (fnd_of F sc_law_row (fun cdv A outer s H E hr hg => have xk := xk_def (E := E) hr hg; (ds_cons (ds_cellVF (i := 2) (j := 3) xk.calm (pg_name sc_law_row.nd rfl (Or.inl rfl)) (pg_name sc_law_row.nd rfl (Or.inr rfl)) (de_call F__law_draw xk (da_cons (dv 0) (da_cons de_int da_nil))) (df_listRange xk.calm bn.list bn.range (dv 1))) (ds_cons (ds_if (dt_cmp (o_eq xk.K xk.u64) (dv 2) de_int (by rfl)) (ds_one (ds2_ret (d2_tuple xk.K bn.tuple (d2_compP (i0 := 3) (own := [("turn", 5)]) xk sc_law_row.nd (di_range1 bn.range (da_cons (dv 1) da_nil)) (blkOk_by (N := ["pen", "things", "way", "left", "row", "turn"]) (sc := defScope s_law_row) (by decide +kernel)) (fun s H C cl fp => (dg_name (i := 5) sc_law_row.nd rfl (Or.inl rfl))) (fun s H C cl fp => (d2_pop (i := 3) rfl (de_call F__law_draw (Xk.blk xk _ _ _ _ _) (da_cons (dv 0) (da_cons (de_lend 3 (de_bi (c_len (Xk.blk xk _ _ _ _ _).K) bn.len (da_cons (dv 3) da_nil))) da_nil))))) (by simp) (by simp))))) ds_nil) (ds_cons (ds_setComp (i := 4) (own := [("turn", 5)]) xk sc_law_row.nd rfl rfl (sw_true rfl rfl rfl (by decide +kernel)) (di_range1 bn.range (da_cons (dv 1) da_nil)) (blkOk_by (N := ["pen", "things", "way", "left", "row", "turn"]) (sc := defScope s_law_row) (by decide +kernel)) (fun s H C cl fp => (dg_name (i := 5) sc_law_row.nd rfl (Or.inl rfl))) (fun s H C cl fp => dts_nil) (fun s H C cl fp => (de_call F__law_draw (Xk.blk xk _ _ _ _ _) (da_cons (dv 0) (da_cons (dv 1) da_nil)))) (by simp)) (ds_cons (ds_if (dt_cmp (o_eq xk.K xk.u64) (dv 2) de_int (by rfl)) (ds_one (ds_ret (de_ty (c_tuple xk.K) bn.tuple (da_cons (de_bi (c_sortA xk.K) bn.sorted (da_cons (dv 4) da_nil)) da_nil)))) ds_nil) (ds_one (ds_ret (de_ife (dt_cmp (o_eq xk.K xk.u64) (dv 2) de_int (by rfl)) (de_op (o_add xk.K) (de_tup (da_cons de_int da_nil)) (de_ty (c_tuple xk.K) bn.tuple (da_cons (de_sl xk.K (dv 4) (do_some de_int) do_none) da_nil))) (de_ty (c_tuple xk.K) bn.tuple (da_cons (dv 4) da_nil)))))))))) ?_) (by decide)
  rintro ds R ex hl ⟨n, rfl, n1, n5, hr⟩
  refine seq_to (fun env' => ∃ wv a, env' = [.val .urn, .val (.int n), .val (.int wv), .own a ((idx n).map D.int), .emp, .emp]) (fun de' hnx hrt => ?_) (fun env' e => ?_)
  · refine ⟨_, rfl, rfl, 4, rfl, by omega, by omega, fun v b1 b2 => ?_⟩
    refine ⟨_, rfl, n, rfl, by omega, fun a => ?_⟩
    rw [range_idx]
    exact hnx _ ⟨v, a, rfl⟩
  obtain ⟨wv, a, rfl⟩ := e
  refine sif_of (x := wv == 2) (fun K hK => ⟨_, rfl, by unfold dC; exact eq_int ⟨_, rfl, hK⟩⟩) (fun _ => ?_) (fun _ => ?_)
  · refine ⟨a, _, rfl, small (by rw [List.length_map, idx_len]; omega), ?_⟩
    refine ⟨_, rfl, (n : Int), rfl, by omega, by omega, ?_⟩
    rw [Int.toNat_natCast]
    refine compP_inv (fun ds acc fs => ∃ rs ws : List Int, acc = rs.map D.int ∧ fs = ws.map D.int ∧ rs.length + ws.length = n ∧ ds.length = ws.length ∧ (∀ i ∈ rs, 0 ≤ i ∧ i < (n : Int)) ∧ ∀ i ∈ ws, 0 ≤ i ∧ i < (n : Int)) (fun d ds acc fs hJ K hK => ?_) (fun acc fs hJ => ?_) _ _ _ ⟨[], idx n, rfl, rfl, by rw [idx_len]; simp, by rw [rng_len, idx_len], by simp, idx_in n⟩
    · obtain ⟨rs, ws, rfl, rfl, e1, e2, h1, h2⟩ := hJ
      rw [List.length_cons] at e2
      refine ⟨a, _, rfl, _, rfl, ⟨_, _, rfl, .inl ⟨_, _, rfl, rfl⟩, _, rfl, rfl, rfl, _, rfl, by rw [List.length_map]; omega, by rw [List.length_map]; omega, fun j b1 b2 => ?_⟩⟩
      obtain ⟨k, rfl⟩ := Int.eq_ofNat_of_zero_le b1
      rw [List.length_map] at b2
      have hk : k < ws.length := by omega
      have hy := h2 ws[k] (List.getElem_mem hk)
      refine ⟨k, .int ws[k], rfl, by rw [List.getElem?_map, List.getElem?_eq_getElem hk]; rfl, (ws.eraseIdx k).map D.int, by rw [← er_map]; rfl, small (by rw [List.length_map, List.length_eraseIdx_of_lt hk]; omega), ?_⟩
      refine hK _ _ ⟨rs ++ [ws[k]], ws.eraseIdx k, by rw [List.map_append]; rfl, rfl, ?_, ?_, fun i hi => ?_, fun i hi => h2 i (List.mem_of_mem_eraseIdx hi)⟩
      · rw [List.length_append, List.length_singleton, List.length_eraseIdx_of_lt hk]; omega
      · rw [List.length_eraseIdx_of_lt hk]; omega
      · rcases List.mem_append.mp hi with hi | hi
        · exact h1 i hi
        · rw [List.mem_singleton.mp hi]; exact hy
    · obtain ⟨rs, ws, rfl, rfl, e1, e2, h1, h2⟩ := hJ
      have e3 : ws = [] := List.length_eq_zero_iff.mp e2.symm
      subst e3
      exact hr rs ⟨by simpa using e1, h1⟩
  · refine nil_seq ?_
    dsimp only
    refine seq_to (fun env' => ∃ rs : List Int, RowIn n n rs ∧ env' = [.val .urn, .val (.int n), .val (.int wv), .own a ((idx n).map D.int), .val (.lst (rs.map D.int)), .emp]) (fun de' hnx hrt => ?_) (fun env' e => ?_)
    · refine ⟨_, rfl, (n : Int), rfl, by omega, by omega, ?_⟩
      rw [Int.toNat_natCast, range_idx]
      refine compL_draw D.int (fun _ v => .int v) (fun v => 0 ≤ v ∧ v < (n : Int)) (fun x hx K hK => ⟨_, rfl, _, rfl, rfl, n, rfl, by omega, by omega, fun v b1 b2 => hK v ⟨b1, b2⟩⟩) fun vs hl2 hv => ?_
      have e : List.zipWith (fun _ v => D.int v) (idx n) vs = vs.map D.int := zip_snd D.int _ _ hl2
      rw [List.nil_append, e]
      exact hnx _ ⟨vs, ⟨by rw [hl2, idx_len], hv⟩, rfl⟩
    obtain ⟨rs, hrs, rfl⟩ := e
    refine sif_of (x := wv == 1) (fun K hK => ⟨_, rfl, by unfold dC; exact eq_int ⟨_, rfl, hK⟩⟩) (fun _ => ?_) (fun _ => ?_)
    · refine ⟨_, rfl, rs, .inl rfl, fun ns hp _ => hr ns ⟨by rw [hp.length_eq]; exact hrs.1, fun i hi => hrs.2 i (hp.mem_iff.mp hi)⟩⟩
    · refine nil_seq ?_
      dsimp only
      refine ⟨_, rfl, ?_⟩
      unfold dC
      refine eq_int ⟨_, rfl, ite_of (fun _ => ?_) (fun _ => ?_)⟩
      · refine ⟨small (by simp), _, rfl, 1, rfl, ?_⟩
        unfold oNone
        dsimp only [gSl, aNil, g1]
        rw [cut_from1]
        obtain ⟨h1, h2⟩ := hrs
        cases rs with
        | nil => simp at h1; omega
        | cons r0 t =>
          refine ⟨small (by simp at h1 ⊢; omega), ?_⟩
          refine hr (0 :: t) ⟨h1, fun i hi => ?_⟩
          rcases List.mem_cons.mp hi with rfl | hi
          · omega
          · exact h2 i (List.mem_cons_of_mem _ hi)
      · exact ⟨_, rfl, hr rs hrs⟩
end
end Pg
set_option Elab.async false
set_option linter.all false
set_option maxRecDepth 100000
set_option maxHeartbeats 4100000
namespace Pg
open PySem L2 RZ Kn
section
variable {G : Gd} {P : Program} {w : World} {mg : Str → Option Value} {base : Heap} {f : Addr} {fd : FuncData}
def sLClosed : FSpec := fun ds R _ => ∃ (n : Nat) (gs : List (List Int)), ds = [.lst (gs.map rowD), .int n] ∧ 1 ≤ n ∧ n ≤ 3 ∧ (∀ g ∈ gs, RowIn n n g) ∧ gs.length ≤ 100 ∧ R (.lst ((closL gs n).map rowD))
/-- found, before a pass -/
structure Pass0 (gs : List (List Int)) (n : Nat) (fs : List (List Int)) (many : Nat) : Prop where
  nd : fs.Nodup
  re : ∀ r ∈ fs, Reach gs n r
  id : idx n ∈ fs
  srt : fs.Pairwise fun x y => lexL y x = false
  old : ∃ F : List (List Int), F.Nodup ∧ (∀ r ∈ F, r ∈ fs) ∧ F.length = many ∧ ∀ r ∈ F, ∀ g ∈ gs, r.map (atR g) ∈ fs
theorem Pass0.start (gs : List (List Int)) (n : Nat) : Pass0 gs n [idx n] 0 :=
  ⟨by simp, fun r hr => by rw [List.mem_singleton.mp hr]; exact .idle, by simp, by simp, [], by simp, by simp, rfl, by simp⟩
theorem Pass0.done {gs fs : List (List Int)} {n many : Nat} (hg : ∀ g ∈ gs, RowIn n n g) (h : Pass0 gs n fs many) (le : fs.length ≤ many) : fs = closL gs n := by
  obtain ⟨F, nd, sub, hl, steps⟩ := h.old
  have all : ∀ r ∈ fs, r ∈ F := fun r hr => Classical.byContradiction fun z => by
    have := nd_sub (l := r :: F) (m := fs) (List.nodup_cons.mpr ⟨z, nd⟩) fun x hx => by
      rcases List.mem_cons.mp
            hx with rfl | hx
      · exact hr
      · exact sub x hx
    rw [List.length_cons] at this
    omega
  refine asc_uniq h.nd h.srt (clos_lt gs n) fun r => ⟨fun hr => (clos_mem hg).mpr (h.re r hr), fun hr => ?_⟩
  have z := (clos_mem hg).mp hr
  clear hr
  induction z with
  | idle => exact h.id
  | step _ hm ih => exact steps _ (all _ ih) _ hm
/-- found, within a pass: the first j are seen -/
structure PassI (gs : List (List Int)) (n : Nat) (fs : List (List Int)) (j : Nat) (ds : List (List Int)) : Prop where
  sub : ∀ r ∈ fs, r ∈ ds
  re : ∀ r ∈ ds, Reach gs n r
  seen : ∀ i r, i < j → fs[i]? = some r → ∀ g ∈ gs, r.map (atR g) ∈ ds
  len : ds.length ≤ fs.length + 100 * j
theorem PassI.next {gs fs ds : List (List Int)} {n j : Nat} {r : List Int} (h : PassI gs n fs j ds) (hgl : gs.length ≤ 100) (hj : fs[j]? = some r) : PassI gs n fs (j + 1) (ds ++ ((gs.map fun g => r.map (atR g)).filter fun x => !ds.any (· == x))) := by
  have hr : r ∈ ds := h.sub r (List.mem_of_getElem? hj)
  refine ⟨fun x hx => List.mem_append_left _ (h.sub x hx), fun x hx => ?_, fun i x hi hx g hm => ?_, ?_⟩
  · rcases List.mem_append.mp
        hx with hx | hx
    · exact h.re x hx
    · obtain ⟨g, hm, rfl⟩ := List.mem_map.mp (List.mem_filter.mp hx).1
      exact .step (h.re r hr) hm
  · by_cases e : i < j
    · exact List.mem_append_left _ (h.seen i x e hx g hm)
    · have : i = j := by omega
      subst this
      rw [hj] at hx
      cases hx
      by_cases z : r.map (atR g) ∈ ds
      · exact List.mem_append_left _ z
      · refine List.mem_append_right _ (List.mem_filter.mpr ⟨List.mem_map_of_mem hm, ?_⟩)
        rw [Bool.not_eq_true', List.any_eq_false]
        intro y hy e
        exact z (by rw [← eq_of_beq e]; exact hy)
  · have h1 := h.len
    have h2 := List.length_filter_le (fun x => !ds.any (· == x)) (gs.map fun g => r.map (atR g))
    rw [List.length_map] at h2
    rw [List.length_append]
    omega
theorem few_all3 {n : Nat} (h1 : 1 ≤ n) (h : n ≤ 3) : (allRows n n).length < 63 := by
  have : n = 1 ∨ n = 2 ∨ n = 3 := by omega
  rcases this with rfl | rfl | rfl <;> decide
theorem PassI.over {gs fs ds out : List (List Int)} {n : Nat} (h : PassI gs n fs fs.length ds) (h0 : fs.Nodup) (hid : idx n ∈ fs) (nd : out.Nodup) (hs : out.Pairwise fun x y => lexL y x = false) (hm : ∀ r, r ∈ out ↔ r ∈ ds) : Pass0 gs n out fs.length :=
  ⟨nd, fun r hr => h.re r ((hm r).mp hr), (hm _).mpr (h.sub _ hid), hs, fs, h0, fun r hr => (hm r).mpr (h.sub r hr), rfl, fun r hr g hg => by
    obtain ⟨i, hi, e⟩ := List.mem_iff_getElem.mp hr
    exact (hm _).mpr (h.seen i r hi (by rw [List.getElem?_eq_getElem hi, e]) g hg)⟩
theorem noLst_rows (rs : List (List Int)) : noLstL (rs.map rowD) = true := by
  induction rs with
  | nil => rfl
  | cons r rs ih =>
    rw [List.map_cons]
    show (noLstL (r.map D.int) && noLstL (rs.map rowD)) = true
    rw [ih, Bool.and_true]
    induction r with
    | nil => rfl
    | cons i r ih2 => exact ih2
theorem reach_small {gs : List (List Int)} {n : Nat} {r : List Int} (hg : ∀ g ∈ gs, RowIn n n g) (n3 : n ≤ 5) (h : Reach gs n r) : Small r := by
  obtain ⟨h1, h2⟩ := reach_row hg h
  exact ⟨by omega, fun i hi => by have := h2 i hi; omega⟩
abbrev s_law_closed : Stmt := topS 40
theorem sc_law_closed : FnScope ["rows", "things", "found", "many", "row", "each", "later"] ["rows", "things"] (defScope s_law_closed) := ⟨rfl, rfl, rfl, by decide +kernel, rfl, by decide +kernel, by decide +kernel⟩
theorem ok_law_closed (F : Fun G.K "_law_closed" "_law_closed" s_law_closed f fd) (bn : Bn mg) (F__law_behind : Fk G P w mg base 1 "_law_behind" ["row", "later"] 0 sBehind) : FnD G P w mg base 2 f fd ["rows", "things"] 0 sLClosed := by
  refine FnD.more (fnd_of F sc_law_closed (fun cdv A outer s H E hr hg => have xk := xk_def (E := E) hr hg; (ds_cons (ds_cellFV (i := 2) (j := 3) xk.calm (pg_name sc_law_closed.nd rfl (Or.inr rfl)) (pg_name sc_law_closed.nd rfl (Or.inl rfl)) (df_lst (da_cons (de_tupleRange xk.calm bn.tuple bn.range (dv 1)) da_nil)) de_int) (ds_cons (ds_while po_def (dt_cmp (o_lt) (dv 3) (de_lend 2 (de_bi (c_len xk.K) bn.len (da_cons (dv 2) da_nil))) (by rfl)) (ds_cons (ds_set (i := 3) sc_law_closed.nd rfl (Or.inl rfl) (de_lend 2 (de_bi (c_len xk.K) bn.len (da_cons (dv 2) da_nil)))) (ds_cons (ds_for xk po_def (di_seq xk.K (de_lendF 2 (df_slL (dv 2) do_none (do_some (dv 3))))) (dg_name (i := 4) sc_law_closed.nd rfl (Or.inr rfl)) (ds_one (ds_ext (i := 2) rfl (de_lendF 2 (df_comp (own := [("each", 5)]) xk sc_law_closed.nd (di_seq xk.K (de_comp (own := [("later", 6)]) xk sc_law_closed.nd (di_seq xk.K (dv 0)) (blkOk_by (N := ["rows", "things", "found", "many", "row", "each", "later"]) (sc := defScope s_law_closed) (by decide +kernel)) (fun s H C cl fp => (dg_name (i := 6) sc_law_closed.nd rfl (Or.inl rfl))) (fun s H C cl fp => dts_nil) (fun s H C cl fp => (de_call F__law_behind (Xk.blk xk _ _ _ _ _) (da_cons (dv 4) (da_cons (dv 6) da_nil)))) (by simp))) (blkOk_by (N := ["rows", "things", "found", "many", "row", "each", "later"]) (sc := defScope s_law_closed) (by decide +kernel)) (fun s H C cl fp => (dg_name (i := 5) sc_law_closed.nd rfl (Or.inl rfl))) (fun s H C cl fp => (dts_one (dt_cmp (o_ni (Xk.blk xk _ _ _ _ _).K (Xk.blk xk _ _ _ _ _).u65) (dv 5) (dv 2) (by rfl)))) (fun s H C cl fp => (dv 5)) (by simp)))))) (ds_one (ds_own (i := 2) sc_law_closed.nd rfl (Or.inr rfl) (df_sortOwn (i := 2) xk.K xk.calm (xk.u (n := 64)) bn.sorted bn.set rfl)))))) (ds_freeze (i := 2) (ds_one (ds_ret (dv 2))))))) ?_) (by decide)
  rintro ds R ex hl ⟨n, gs, rfl, n1, n5, hg, hgl, hr⟩
  have hN := few_all3 n1 n5
  refine seq_to (fun env' => ∃ a, env' = [.val (.lst (gs.map rowD)), .val (.int n), .own a [rowD (idx n)], .val (.int 0), .emp, .emp, .emp]) (fun de' hnx hrt => ?_) (fun env' e => ?_)
  · refine ⟨_, rfl, n, rfl, by omega, by omega, ?_⟩
    rw [Int.toNat_natCast, range_idx]
    exact ⟨small (by simp), 0, rfl, fun a => hnx _ ⟨a, rfl⟩⟩
  obtain ⟨a, rfl⟩ := e
  refine seq_to (fun env' => ∃ a m s4 s5 s6, env' = [.val (.lst (gs.map rowD)), .val (.int n), .own a ((closL gs n).map rowD), .val (.int m), s4, s5, s6]) (fun de' hnx hrt => ?_) (fun env' e => ?_)
  · refine ⟨fun m env => ∃ a fs many s4 s5 s6, Pass0 gs n fs many ∧ (allRows n n).length - many ≤ m ∧ env = [.val (.lst (gs.map rowD)), .val (.int n), .own a (fs.map rowD), .val (.int (many : Nat)), s4, s5, s6], ⟨63, by omega, a, [idx n], 0, _, _, _, Pass0.start gs n, by omega, rfl⟩, ?_⟩
    rintro m env ⟨a, fs, many, s4, s5, s6, C, hm, rfl⟩
    have hfl : fs.length ≤ (allRows n n).length := nd_sub C.nd fun k hk => all_mem (reach_row hg (C.re k hk)).1 (reach_row hg (C.re k hk)).2
    refine ⟨_, rfl, _, _, rfl, .inl ⟨_, _, rfl, rfl⟩, _, rfl, ?_⟩
    refine ⟨rfl, trivial, _, rfl, ite_of (fun hb => ?_) (fun hb => ?_)⟩
    · have lt : many < fs.length := by simpa using hb
      refine seq_to (fun env' => env' = [.val (.lst (gs.map rowD)), .val (.int n), .own a (fs.map rowD), .val (.int (fs.length : Nat)), s4, s5, s6]) (fun de2 hnx2 hrt2 => ?_) (fun env' e => ?_)
      · refine ⟨_, _, rfl, .inl ⟨_, _, rfl, rfl⟩, _, rfl, rfl, ?_⟩
        rw [List.length_map]
        exact hnx2 _ rfl
      subst e
      refine seq_to (fun env' => ∃ a ds s4 s5 s6, PassI gs n fs fs.length ds ∧ env' = [.val (.lst (gs.map rowD)), .val (.int n), .own a (ds.map rowD), .val (.int (fs.length : Nat)), s4, s5, s6]) (fun de2 hnx2 hrt2 => ?_) (fun env' e => ?_)
      · refine ⟨a, _, rfl, _, rfl, _, rfl, fs.length, rfl, _, rfl, ?_⟩
        have ec : cutD (fs.map rowD) none (some (fs.length : Int)) = fs.map rowD := by rw [cut_toN]; exact List.take_of_length_le (by rw [List.length_map]; exact Nat.le_refl _)
        rw [ec]
        refine ⟨noLst_rows fs, ?_⟩
        refine sForL_of rowD (fun j env => ∃ a ds s4 s5 s6, PassI gs n fs j ds ∧ env = [.val (.lst (gs.map rowD)), .val (.int n), .own a (ds.map rowD), .val (.int (fs.length : Nat)), s4, s5, s6]) ⟨a, fs, s4, s5, s6, ⟨fun r h => h, C.re, fun i r hi => absurd hi (by omega), by omega⟩, rfl⟩ (fun j r env hj hI nx hn2 => ?_) (fun env hI => hnx2 _ hI)
        obtain ⟨a, ds, s4, s5, s6, CI, rfl⟩ := hI
        have hjl : j < fs.length := (List.getElem?_eq_some_iff.mp hj).1
        have hrr := reach_row hg (C.re r (List.mem_of_getElem? hj))
        refine ⟨a, _, rfl, a, _, rfl, _, rfl, ?_⟩
        refine compL_of rowD (fun g => rowD (r.map (atR g))) (fun g hg2 K hK => ?_) ?_
        · refine ⟨_, rfl, _, rfl, rfl, n, r, g, rfl, (hg g hg2).1, hrr.2, (hg g hg2).2, hK⟩
        · rw [List.nil_append]
          have em : (gs.map fun g => rowD (r.map (atR g))) = (gs.map fun g => r.map (atR g)).map rowD := by rw [List.map_map]; rfl
          rw [em]
          refine compL_ofF rowD rowD (fun x => !ds.any (· == x)) (fun x hx K K' h1 h2 => ?_) ?_
          · refine ⟨_, rfl, _, rfl, ni_rows (fun y hy => reach_small hg (by omega) (CI.re y hy)) ⟨_, rfl, ite_of (fun hb => ⟨_, rfl, h1 hb⟩) (fun hb => h2 hb)⟩⟩
          · rw [List.nil_append]
            have CN := CI.next hgl hj
            have h2 := CN.len
            refine ⟨noLst_rows _, _, rfl, small ?_, hn2 _ ⟨a, _, .val (rowD r), s5, s6, CN, ?_⟩⟩
            · rw [List.length_map, List.length_map, ← List.length_append]
              have : 100 * (j + 1) ≤ 100 * 63 := Nat.mul_le_mul_left _ (by omega)
              omega
            · rw [List.map_append]
              rfl
      obtain ⟨a, ds, s4, s5, s6, CI, rfl⟩ := e
      refine ⟨a, ds, rfl, ⟨allRows n n, hN, fun r hr2 => all_mem (reach_row hg (CI.re r hr2)).1 (reach_row hg (CI.re r hr2)).2⟩, fun r hr2 => row_ne (reach_row hg (CI.re r hr2)) n1, fun out nd hs hm2 a => ?_⟩
      exact ⟨(allRows n n).length - fs.length, by omega, a, out, fs.length, _, _, _, CI.over C.nd C.id nd hs hm2, Nat.le_refl _, rfl⟩
    · have le : fs.length ≤ many := by simpa using hb
      rw [Pass0.done hg C le] at *
      exact hnx _ ⟨a, many, s4, s5, s6, rfl⟩
  obtain ⟨a, m, s4, s5, s6, rfl⟩ := e
  exact ⟨a, _, rfl, _, rfl, hr⟩
end
end Pg
set_option Elab.async false
set_option linter.all false
set_option maxRecDepth 100000
set_option maxHeartbeats 4100000
namespace Pg
open PySem L2 RZ Kn
section
variable {G : Gd} {P : Program} {w : World} {mg : Str → Option Value} {base : Heap} {f : Addr} {fd : FuncData}
abbrev s_law_heard : Stmt := topS 41
theorem sc_law_heard : FnScope ["ask", "error"] ["ask"] (defScope s_law_heard) := ⟨rfl, rfl, rfl, by decide +kernel, rfl, by decide +kernel, by decide +kernel⟩
/-- the errors of the law: class 4 is BadLead, 5 Misfit -/
structure XcP (G : Gd) : Prop where
  f44 : PySem.W.exmOne G.K (.ref (G.cl 4)) (.ref (G.cl 4)) = some true
  f54 : PySem.W.exmOne G.K (.ref (G.cl 5)) (.ref (G.cl 4)) = some false
  f55 : PySem.W.exmOne G.K (.ref (G.cl 5)) (.ref (G.cl 5)) = some true
  p4 : XfF G.K (G.cl 4) "part"
  p5 : XfF G.K (G.cl 5) "part"
/-- what is handed raises an error of class 4 or 5 -/
def sHeard : LSpec := fun T R => ∃ p : D, ((∀ (Q0 : D → Prop) (ex0 : Exc → Prop), ex0 ⟨4, [p]⟩ → T Q0 ex0) ∧ R (.tup [.str "lead", p])) ∨ ((∀ (Q0 : D → Prop) (ex0 : Exc → Prop), ex0 ⟨5, [p]⟩ → T Q0 ex0) ∧ R (.tup [.str "misfit", p]))
theorem ok_law_heard {g : Addr} (F : Fun G.K "_law_heard" "_law_heard" s_law_heard g fd) (fo : Gk G) (xp : XcP G) (r_BadLead : mg "BadLead" = some (.ref (G.cl 4))) (r_Misfit : mg "Misfit" = some (.ref (G.cl 5))) : FnL G P w mg base 2 g fd ["ask", "error"] "_law_heard" (defScope s_law_heard) "ask" 0 sHeard := by
  refine fnl_two (k := 1) (j1 := 1) (j2 := 1) (c1 := 4) (c2 := 5) (S := sHeard) F sc_law_heard rfl rfl (Or.inl rfl) rfl rfl rfl rfl (by decide) (by decide) rfl r_BadLead rfl r_Misfit (by decide) (by decide) ⟨by decide, by decide⟩ ⟨by decide, by decide⟩ xp.p4 xp.p5 xp.f44 xp.f54 xp.f55
    (fun cdv A outer s H hr hg => (ds_one (ds_ret de_non))) ?_
  have hf4 : ∀ p : D, ("part" : Str) ∈ G.fl 4 ∧ [p][(G.fl 4).idxOf ("part" : Str)]? = some p := fun p => by
    rw [fo.fl4]
    exact ⟨by decide +kernel, by rw [show ([Str.ofString "part"] : List Str).idxOf ("part" : Str) = 0 by decide +kernel]; rfl⟩
  have hf5 : ∀ p : D, ("part" : Str) ∈ G.fl 5 ∧ [p][(G.fl 5).idxOf ("part" : Str)]? = some p := fun p => by
    rw [fo.fl5]
    exact ⟨by decide +kernel, by rw [show ([Str.ofString "part"] : List Str).idxOf ("part" : Str) = 0 by decide +kernel]; rfl⟩
  rintro f T R ⟨p, ⟨ht, hr⟩ | ⟨ht, hr⟩⟩
  · exact ht _ _ (.inl ⟨rfl, (hf4 p).1, p, (hf4 p).2, hr⟩)
  · exact ht _ _ (.inr ⟨rfl, (hf5 p).1, p, (hf5 p).2, hr⟩)
end
end Pg
set_option Elab.async false
set_option linter.all false
set_option maxRecDepth 100000
set_option maxHeartbeats 2100000
namespace Kn
open PySem L2 RZ
section
variable {G : Gd} {E : XK} {X : Cx} {σ : List (Option V)} {H H' : Hp} {k : Nat}
def inP (c : Nat) (S : FSpec) (es : List D) (Q : D → Prop) (ex : Exc → Prop) : List D → Prop
  | [] => Q (.bl false)
  | d :: ds => ∃ fs, d = .ins c fs ∧ (∀ i ∈ fs, Sh1 i) ∧ (∀ i ∈ es, Sh1 i) ∧ (fs = es → Q (.bl true)) ∧ S [d, .ins c es] (fun r => ∃ b, r = .bl b ∧ (b = true → Q (.bl true)) ∧ (b = false → inP c S es Q ex ds)) ex
def rInP (G : Gd) (E : XK) (c : Nat) (S : FSpec) : R2 := fun x y H Q' => ∃ (u : Option Ur) (n : Nat) (B : Addr → Prop) (es ds : List D) (Q : D → Prop) (ex : Exc → Prop), u = G.u ∧ (∀ p, Pr u p → B p.1 ∧ B p.2) ∧ (∀ a, B a → H a ≠ none) ∧ Good u H n ∧
  Den G B H (.ins c es) x ∧ Den G B H (.tup ds) y ∧ inP c S es Q ex ds ∧ (∀ r H' rd, Ext u H H' → Good u H' n → Den G B H' rd r → Q rd → Q' r H') ∧ (∀ z C d H', Ext u H H' → Good u H' n → ExcIs G B H' z C d → ex z → E C d H')
theorem op_inP {j c : Nat} {S : FSpec} (F : Fq G X.prog X.w X.mg X.base j c 0 S) (xk : Xk G E k X) (hj : j + 1 ≤ k := by decide) : OpR X (compareOp .In) (rInP G E c S) := by
  intro pins s σ H x y v u Q' I rx ry h
  obtain ⟨uu, n, B, es, ds, Q, ex, hug, hu, hB, hg, hx, hy, hin, kQ, kE⟩ := h
  obtain ⟨f, fd, ps, hF0, hs, hf, hbd, hp2⟩ := F.ex
  rw [← xk.K] at hs hf hbd
  have huB : ∀ p, Pr uu p → B p.1 := fun p e => (hu p e).1
  obtain ⟨ax, dx, fx, rfl, nax, hax, lax, dax⟩ := id hx
  obtain ⟨at', xs, rfl, nat', hat', lat', dat'⟩ := id hy
  cases rx
  cases ry
  rw [← xk.K] at hat'
  obtain ⟨its, r1, p1, hz⟩ := I.tuple hat'
  have hlen : its.toArray.size = ds.length := by rw [List.size_toArray, ← r1.length, dat'.length]
  have room1 : Room j X.A.in1 := (xk.room.mono hj).in1
  refine GQ.in_tupG p1 (fun i s' => ∃ H', Inv X pins σ H' s' ∧ Ext uu H H' ∧ Good uu H' n ∧ inP c S es Q ex (ds.drop i)) (fun i h1 s' hI => ?_) (fun s' hI => ?_) ⟨H, I, Ext.refl _ _, hg, hin⟩
  · obtain ⟨H1, I1, e1, g1, hin1⟩ := hI
    have hi : i < ds.length := by rw [← hlen]; exact h1
    rw [List.drop_eq_getElem_cons hi] at hin1
    obtain ⟨fs, ed, sh1, sh2, qt, hS⟩ := hin1
    have dd1 : DenL G B H1 ds xs := dat'.ext e1 huB
    obtain ⟨v1, hv1, dv1⟩ := dd1.get (List.getElem?_eq_getElem hi)
    rw [ed] at dv1
    obtain ⟨ai, di, fi, rfl, nai, hai, lai, dai⟩ := id dv1
    obtain ⟨ui, hui, rui⟩ := r1.get hv1
    have hax1 := ext_nb e1 huB nax hax
    have dx1 : Den G B H1 (.ins c es) (.ref ax) := hx.ext e1 huB
    have eit : its.toArray[i] = .ref ai := by
      have z := (List.getElem?_eq_some_iff.mp hui).2
      have rr : ui = .ref ai := rui
      rw [← rr, ← z]; simp
    rw [eit]
    by_cases hab : ai = ax
    · subst hab
      refine SeqAt.EqAt.same (A := X.A.in1) (s := s') (.ref ai) X.prog X.w X.xe _ ?_
      rw [if_pos rfl]
      exact ⟨.bl true, H1, I1, rfl, kQ _ H1 (.bl true) e1 g1 (den_bl _) (qt (ins_det xk.K I1 sh1 sh2 dv1 dx1))⟩
    · refine GQ.eqBool_refG hab ?_
      obtain ⟨mA, J, _⟩ := ins_get I1.hok hai
      obtain ⟨mB, J', _⟩ := ins_get I1.hok hax1
      obtain ⟨od, J, _⟩ := J.look
      obtain ⟨od', J', _⟩ := J'.look; obtain ⟨m, hFr⟩ := I1.fr
      have hB1 : ∀ a, B a → H1 a ≠ none := fun a ha z => by
        cases q : H a with
        | none => exact hB a ha q
        | some o =>
          rcases NU.em (u := uu) (b := a) with hua | ⟨r, hr, rfl⟩
          · rw [e1 a o q hua] at z; cases z
          · obtain ⟨⟨_, z1⟩, _⟩ := g1.there hr
            rw [z1] at z; cases z
      have hl : liftF G 0 S [.ref ai, .ref ax] H1 (fun v H2 => ∃ b, v = .bl b ∧ Ext uu H H2 ∧ Good uu H2 n ∧ (b = true → Q (.bl true)) ∧ (b = false → inP c S es Q ex (ds.drop (i + 1)))) E :=
        ⟨uu, n, B, [.ins c fs, .ins c es], fun r => ∃ b, r = .bl b ∧ (b = true → Q (.bl true)) ∧ (b = false → inP c S es Q ex (ds.drop (i + 1))), ex, hug, Nat.zero_le _, hu, hB1, g1, ⟨_, _, rfl, dv1, _, _, rfl, dx1, rfl⟩, by rw [ed] at hS; exact hS, fun v H2 d e2 g2 hd ⟨b, eb, ht, hb⟩ => by
          subst eb
          cases hd
          exact ⟨b, rfl, e1.trans e2, g2, ht, hb⟩, fun z C d H2 e2 g2 hz hq => kE z C d H2 (e1.trans e2) g2 hz hq⟩
      refine PySem.W.cmp_K (op := .Eq) (tb := .ref (G.cl c)) room1.units0 hFr I1.ok.mod.kin J J'.type (by simp [PySem.W.notFirst]) hs hf (wpAny_call (codeAny_mono (hF0.run X.A.in1 X.stack s' H1 ⟨[.ref ai, .ref ax], []⟩ [.ref ai, .ref ax] [.ref ai, .ref ax] _ E room1 xk.gd (by rw [← xk.K]; exact I1.env0.in1) ?_ (.cons rfl (.cons rfl .nil)) hp2.symm hl) fun r s2 hq => ?_))
      · have z := hbd s' [.ref ai, .ref ax] I1.kIn (by rw [List.append_nil]; exact hp2.symm)
        rw [List.append_nil] at z
        exact z
      · cases r with
        | error e => exact xk.pass pins σ H1 s' e s2 I1 hq
        | ok fl =>
          cases fl with
          | ret w' =>
            obtain ⟨z, H2, I2, rz, b, eb, e2, g2, ht, hb⟩ := I1.after hq
            subst eb
            refine SlX.cmpback rz ⟨b, ?_, ?_⟩
            · exact rz
            · cases b with
              | true => rw [if_pos rfl]; exact ⟨.bl true, H2, I2, rfl, kQ _ H2 (.bl true) e2 g2 (den_bl _) (ht rfl)⟩
              | false => rw [if_neg Bool.false_ne_true]; exact ⟨H2, I2, e2, g2, hb rfl⟩
          | next => exact hq.elim
          | brk => exact hq.elim
          | cont => exact hq.elim
  · obtain ⟨H1, I1, e1, g1, hin1⟩ := hI
    rw [hlen, List.drop_length] at hin1
    exact ⟨.bl false, H1, I1, rfl, kQ _ H1 (.bl false) e1 g1 (den_bl _) hin1⟩
def dInP (c : Nat) (S : FSpec) (ta tb : DT) : DT := fun ex env Q => ta ex env fun d => tb ex env fun e => ∃ es ds, d = .ins c es ∧ e = .tup ds ∧ inP c S es Q ex ds
theorem de_inP {a b : Expr} {pos : Pos} {j c ca cb : Nat} {S : FSpec} {ta tb : DT} (F : Fq G X.prog X.w X.mg X.base j c 0 S) (xk : Xk G E k X) (ha : DE G E X ca a ta) (hb : DE G E X cb b tb) (hm : behindInMarks .In b = false) (hj : j + 1 ≤ k := by decide) : DE G E X (ca + cb) (.Compare a [.In] [b] pos) (dInP c S ta tb) :=
  imp (pe_cmpR (op_inP F xk hj) ha hb hm) fun σ H Q' h => by
    obtain ⟨W, hn, Q, ht, kk⟩ := h
    refine ⟨W, by omega, _, ht, fun v H1 d st hd hq => ⟨W.next st, by show W.m + cb ≤ W.n - ca; omega, _, hq, fun v2 H2 e st2 he ⟨es, ds, e1, e2, hs⟩ => ?_⟩⟩
    subst e1 e2
    have s12 := st.trans st2
    have hd2 : Den G W.XB H2 (.ins c es) v := (W.next st).den st2 hd
    refine ⟨W.u, W.n - (ca + cb), W.XB, es, ds, Q, W.ex, W.ug, fun p e => ⟨.inl (W.hu p e).1, .inl (W.hu p e).2⟩, fun q hq0 z => (W.next s12).fresh z hq0, s12.good, hd2, he, hs, fun r H' rd e g hr hq2 => kk r H' rd ⟨s12.ext.trans e, g⟩ hr hq2, fun z C d H' e g hz hq2 => ?_⟩
    obtain ⟨z1, dd, xs, z2, zn, z3, z4, z5⟩ := hz
    exact W.exc z C d H' ((W.fr.trans s12.ext).trans e) (g.less (by omega)) ⟨z1, dd, xs, z2, fun q => zn (.inl q), z3, z4, z5.fewer fun b z => .inl z⟩ hq2
end
end Kn
set_option Elab.async false
set_option linter.all false
set_option maxRecDepth 100000
set_option maxHeartbeats 4100000
namespace Pg
open PySem L2 RZ Kn
section
variable {G : Gd} {P : Program} {w : World} {mg : Str → Option Value} {base : Heap} {f : Addr} {fd : FuncData}
def sEqLead : FSpec := fun ds R _ => ∃ (n n2 : Int) (r r2 : List Int), ds = [leadD n r, leadD n2 r2] ∧ R (.bl (n == n2 && r == r2))
abbrev s_Lead___eq__ : Stmt := inClass (topS 23) 1
theorem sc_Lead___eq__ : FnScope ["self", "other"] ["self", "other"] (defScope s_Lead___eq__) := ⟨rfl, rfl, rfl, by decide +kernel, rfl, by decide +kernel, by decide +kernel⟩
theorem ok_Lead___eq__ (F : Fun G.K "__eq__" "Lead.__eq__" s_Lead___eq__ f fd) (bn : Bn mg) (fo : Gk G) (r_Lead : mg "Lead" = some (.ref (G.cl 1))) : FnD G P w mg base 1 f fd ["self", "other"] 0 sEqLead := by
  refine FnD.more (fnd_of F sc_Lead___eq__ (fun cdv A outer s H E hr hg => have xk := xk_def (E := E) hr hg; (ds_one (ds_ret (de_and (de_cmp (o_isC) (de_ty (c_type) bn.type (da_cons (dv 1) da_nil)) (de_ref r_Lead) (by rfl)) (de_and (de_cmp (o_eq xk.K xk.u64) (de_fld xk.K fo.into (dv 0)) (de_fld xk.K fo.into (dv 1)) (by rfl)) (de_one (de_cmp (o_eq xk.K xk.u64) (de_fld xk.K fo.row (dv 0)) (de_fld xk.K fo.row (dv 1)) (by rfl)))))))) ?_) (by decide)
  rintro ds R ex hl ⟨n, n2, r, r2, rfl, hr⟩
  obtain ⟨m1, m2, m3, i1, i2, i3⟩ := fld_lead fo (n := n) (r := r)
  obtain ⟨_, _, _, j1, j2, j3⟩ := fld_lead fo (n := n2) (r := r2)
  refine ⟨_, rfl, 1, _, rfl, G.cl 1, rfl, rfl, true, rfl, ?_⟩
  refine ⟨leadD n r, rfl, 1, _, _, rfl, m2, i2, leadD n2 r2, rfl, 1, _, _, rfl, m2, j2, ?_⟩
  refine eq_int ?_
  refine ⟨n == n2, rfl, ite_of (fun hb => ?_) fun hb => ?_⟩
  · rw [hb] at hr
    refine ⟨leadD n r, rfl, 1, _, _, rfl, m3, i3, leadD n2 r2, rfl, 1, _, _, rfl, m3, j3, ?_⟩
    exact eq_row shaped_row hr
  · rw [hb] at hr
    exact hr
theorem eqfL (N : Fqn G P w mg base 1 1 0 sEqLead) : EqF G P w mg base 1 (fun c ds es => c = 1 ∧ ∃ n l, D.ins 1 ds = leadD n l ∧ es = ds) :=
  EqF.one N fun ds es ⟨n, l, e1, e2⟩ R ex hR => by
    subst e2
    rw [e1]
    exact ⟨n, n, l, l, rfl, by rw [beq_self_eq_true, beq_self_eq_true]; exact hR⟩
theorem eqvAll_rows : ∀ as bs : List (List Int), PyData.eqvAll (as.map rowP) (bs.map rowP) = (as == bs)
  | [], [] => rfl
  | [], b :: bs => rfl
  | a :: as, [] => rfl
  | a :: as, b :: bs => by
    rw [List.map_cons, List.map_cons]; show (PyData.eqv (rowP a) (rowP b) && PyData.eqvAll (as.map rowP) (bs.map rowP)) = (a == b && as == bs)
    rw [eqv_row, eqvAll_rows as bs]
theorem ne_rowsL {as bs : List (List Int)} {Q : D → Prop} (h1 : ∀ r ∈ as, Small r) (h2 : ∀ r ∈ bs, Small r) (h : Q (.bl (!(as == bs)))) : gNe (.lst (as.map rowD)) (.lst (bs.map rowD)) Q :=
  ⟨.list (as.map rowP), .list (bs.map rowP), by show (pdL (as.map rowD)).map PyData.list = _; rw [pd_rows]; rfl, by show (pdL (bs.map rowD)).map PyData.list = _; rw [pd_rows]; rfl, shaped_rowsL h1, shaped_rowsL h2, by rw [show PyData.eqv (.list (as.map rowP)) (.list (bs.map rowP)) = PyData.eqvAll (as.map rowP) (bs.map rowP) from rfl, eqvAll_rows]; exact h⟩
theorem lead_sh (n : Int) (r : List Int) : ∀ i ∈ [D.int r.length, .int n, .tup (r.map D.int)], Sh1 i := fun i hi => by
  simp only [List.mem_cons, List.not_mem_nil, or_false] at hi
  rcases hi with rfl | rfl | rfl
  · exact .inl rfl
  · exact .inl rfl
  · exact .inr ⟨_, rfl, leaf_int⟩
theorem lead_inj {n : Int} {r t : List Int} (h : [D.int r.length, .int n, .tup (r.map D.int)] = [D.int t.length, .int n, .tup (t.map D.int)]) : r = t := by
  injection h with _ h
  injection h with _ h
  injection h with h _
  injection h with h
  exact (List.map_inj_right fun a b e => by injection e).mp h
theorem eqP_leads {n : Int} {Q : D → Prop} {ex : Exc → Prop} : ∀ {rs ts : List (List Int)}, Q (.bl (rs == ts)) → eqP 1 sEqLead Q ex (rs.map (leadD n)) (ts.map (leadD n))
  | [], [], h => h
  | [], t :: ts, h => h
  | r :: rs, [], h => h
  | r :: rs, t :: ts, h => by
    have e : ∀ b : Bool, (r == t) = b → Q (.bl (b && rs == ts)) := fun b e => by rw [← e]; exact h
    refine ⟨_, _, rfl, rfl, lead_sh n r, lead_sh n t, fun z => eqP_leads ?_, n, n, r, t, rfl, _, rfl, fun z => eqP_leads ?_, fun z => ?_⟩
    · have := e true (by rw [lead_inj z]; exact beq_self_eq_true t)
      rwa [Bool.true_and] at this
    · rw [beq_self_eq_true, Bool.true_and] at z
      have := e true z
      rwa [Bool.true_and] at this
    · rw [beq_self_eq_true, Bool.true_and] at z
      have := e false z
      rwa [Bool.false_and] at this
theorem inP_leads {n : Int} {r : List Int} {Q : D → Prop} {ex : Exc → Prop} : ∀ {ts : List (List Int)}, (r ∈ ts → Q (.bl true)) → (r ∉ ts → Q (.bl false)) → inP 1 sEqLead [D.int r.length, .int n, .tup (r.map D.int)] Q ex (ts.map (leadD n))
  | [], _, h => h (by simp)
  | t :: ts, h1, h2 => by
    refine ⟨_, rfl, lead_sh n t, lead_sh n r, fun z => h1 (by rw [lead_inj z]; exact List.mem_cons_self), n, n, t, r, rfl, _, rfl, fun z => ?_, fun z => ?_⟩
    · rw [beq_self_eq_true, Bool.true_and] at z
      exact h1 (by rw [eq_of_beq z]; exact List.mem_cons_self)
    · rw [beq_self_eq_true, Bool.true_and] at z
      refine inP_leads (fun m => h1 (List.mem_cons_of_mem _ m)) fun m => h2 fun m2 => ?_
      rcases List.mem_cons.mp m2 with e | m2
      · rw [e] at z; simp at z
      · exact m m2
theorem inI_leads {n : Int} {r : List Int} {Q : D → Prop} {ex : Exc → Prop} (hq : Q (.bl true)) : ∀ {ts : List (List Int)}, r ∈ ts → inI 1 sEqLead (leadD n r) Q ex (ts.map (leadD n))
  | [], h => nomatch h
  | t :: ts, h => by
    refine ⟨_, rfl, hq, n, n, t, r, rfl, _, rfl, fun z => ?_⟩
    rw [beq_self_eq_true, Bool.true_and] at z
    refine inI_leads hq ?_; rcases List.mem_cons.mp h with e | m
    · rw [e] at z; simp at z
    · exact m
theorem reach_mono {gs hs : List (List Int)} {n : Nat} (h : ∀ r, r ∈ gs → Reach hs n r) (hh : ∀ x r, Reach hs n x → Reach hs n r → Reach hs n (x.map (atR r))) {r : List Int} (z : Reach gs n r) : Reach hs n r := by
  induction z with
  | idle => exact .idle
  | step _ hm ih => exact hh _ _ ih (h _ hm)
theorem map_idx {n : Nat} {x : List Int} (hx : ∀ i ∈ x, 0 ≤ i ∧ i < (n : Int)) : x.map (atR (idx n)) = x := by
  induction x with
  | nil => rfl
  | cons i x ih => rw [List.map_cons, atR_idx (hx i List.mem_cons_self).1 (hx i List.mem_cons_self).2, ih fun j hj => hx j (List.mem_cons_of_mem _ hj)]
theorem reach_comp {gs : List (List Int)} {n : Nat} (hg : ∀ g ∈ gs, RowIn n n g) (x r : List Int) (hx : Reach gs n x) (hr : Reach gs n r) : Reach gs n (x.map (atR r)) := by
  have hxr := reach_row hg hx
  induction hr with
  | idle => rw [map_idx hxr.2]; exact hx
  | @step r' g hr' hm ih =>
    have hr2 := reach_row hg hr'
    have e : x.map (atR (r'.map (atR g))) = (x.map (atR r')).map (atR g) := by
      rw [List.map_map]
      refine List.map_congr_left fun i hi => ?_
      have := hxr.2 i hi
      exact atR_map this.1 (by rw [hr2.1]; exact this.2)
    rw [e]
    exact .step ih hm
theorem idx_map {n : Nat} {g : List Int} (hg : g.length = n) : (idx n).map (atR g) = g := by
  refine List.ext_getElem (by rw [List.length_map, idx_len, hg]) fun k h1 h2 => ?_
  unfold idx atR
  simp [List.getD_eq_getElem?_getD, h2]
theorem reach_one {gs : List (List Int)} {n : Nat} (hg : ∀ g ∈ gs, RowIn n n g) {g : List Int} (hm : g ∈ gs) : Reach gs n g := by
  have z : Reach gs n ((idx n).map (atR g)) := .step .idle hm
  rwa [idx_map (hg g hm).1] at z
theorem reach_same {gs hs : List (List Int)} {n : Nat} (e : ∀ r, Reach gs n r ↔ Reach hs n r) : closL gs n = closL hs n := by
  refine List.filter_congr fun r _ => ?_
  have h1 : reachB gs n r = true ↔ Reach gs n r := @decide_eq_true_iff _ (Classical.propDecidable _)
  have h2 : reachB hs n r = true ↔ Reach hs n r := @decide_eq_true_iff _ (Classical.propDecidable _)
  rw [Bool.eq_iff_iff, h1, h2, e]
theorem clos_row {gs : List (List Int)} {n : Nat} (hg : ∀ g ∈ gs, RowIn n n g) : ∀ r ∈ closL gs n, RowIn n n r := fun r h => reach_row hg ((clos_mem hg).mp h)
theorem clos_clos {gs : List (List Int)} {n : Nat} (hg : ∀ g ∈ gs, RowIn n n g) : closL (closL gs n) n = closL gs n := by
  have hg2 := clos_row hg
  exact reach_same fun r => ⟨reach_mono (fun r h => (clos_mem hg).mp h) (reach_comp hg), reach_mono (fun g h => reach_one hg2 ((clos_mem hg).mpr (reach_one hg h))) (reach_comp hg2)⟩
theorem clos_more {gs : List (List Int)} {n : Nat} {r : List Int} (hg : ∀ g ∈ gs, RowIn n n g) (hr : RowIn n n r) : (r ∈ closL gs n ↔ closL (gs ++ [r]) n = closL gs n) ∧ ∀ x ∈ closL gs n, x ∈ closL (gs ++ [r]) n := by
  have hg2 : ∀ g ∈ gs ++ [r], RowIn n n g := fun g h => by
    rcases List.mem_append.mp
          h with h | h
    · exact hg g h
    · rw [List.mem_singleton.mp h]; exact hr
  have up : ∀ {x}, Reach gs n x → Reach (gs ++ [r]) n x := fun {x} z => reach_mono (fun g h => reach_one hg2 (List.mem_append_left _ h)) (reach_comp hg2) z
  refine ⟨⟨fun h => reach_same fun x => ⟨reach_mono (fun g h2 => ?_) (reach_comp hg), up⟩, fun h => ?_⟩, fun x h => (clos_mem hg2).mpr (up ((clos_mem hg).mp h))⟩
  · rcases List.mem_append.mp h2 with h2 | h2
    · exact reach_one hg h2
    · rw [List.mem_singleton.mp h2]; exact (clos_mem hg).mp h
  · rw [← h]
    exact (clos_mem hg2).mpr (reach_one hg2 (List.mem_append_right _ (List.mem_singleton_self r)))
theorem man_of {gs : List (List Int)} {n : Nat} (hn : n = 2 ∨ n = 3) (hg : ∀ g ∈ gs, RowIn n n g) (ne : gs ≠ []) (hl : gs.length ≤ 100000) : ManOk n (gs.map fun r => (n, r)) := by
  refine ⟨⟨hn, fun p hp => ?_⟩, fun z => ne (List.map_eq_nil_iff.mp z), by rw [List.length_map]; exact hl, fun p hp => ?_⟩
  · obtain ⟨r, hr, rfl⟩ := List.mem_map.mp hp
    exact ⟨rfl, (hg r hr).1⟩
  · obtain ⟨r, hr, rfl⟩ := List.mem_map.mp hp
    exact hg r hr
theorem leads_of (gs : List (List Int)) (n : Nat) : leadsD (gs.map fun r => (n, r)) = gs.map (leadD n) := by
  unfold leadsD
  rw [List.map_map]
  rfl
theorem rows_of (gs : List (List Int)) (n : Nat) : rowsP (gs.map fun r => (n, r)) = gs := by
  unfold rowsP
  rw [List.map_map]
  exact List.map_id gs
theorem closed_call {gs : List (List Int)} {n : Nat} {d : D} {R : D → Prop} {ex : Exc → Prop} (hn : n = 2 ∨ n = 3) (hg : ∀ g ∈ gs, RowIn n n g) (ne : gs ≠ []) (hl : gs.length ≤ 100000) (hd : d.items? = some (gs.map (leadD n))) (hr : R (.tup ((closL gs n).map (leadD n)))) : sClosed [d] R ex :=
  ⟨d, rfl, .inl ⟨n, gs.map fun r => (n, r), by rw [leads_of]; exact hd, man_of hn hg ne hl, by rw [rows_of]; exact hr⟩⟩
theorem rows_all {P : List Int → Prop} : ∀ {rs : List D}, (∀ r ∈ rs, ∃ row, P row ∧ r = rowD row) → ∃ gs : List (List Int), rs = gs.map rowD ∧ ∀ g ∈ gs, P g
  | [], _ => ⟨[], rfl, by simp⟩
  | r :: rs, h => by
    obtain ⟨row, p, e⟩ := h r List.mem_cons_self
    obtain ⟨gs, e2, p2⟩ := rows_all fun x hx => h x (List.mem_cons_of_mem _ hx)
    refine ⟨row :: gs, by rw [e, e2]; rfl, fun g hg => ?_⟩
    rcases List.mem_cons.mp
          hg with rfl | hg
    · exact p
    · exact p2 g hg
theorem idx_clos (gs : List (List Int)) (n : Nat) (hg : ∀ g ∈ gs, RowIn n n g) : idx n ∈ closL gs n := (clos_mem hg).mpr .idle
def sTrue : FSpec := fun ds R _ => ds = [.urn] ∧ R (.bl true)
end
end Pg
set_option Elab.async false
set_option linter.all false
set_option maxRecDepth 100000
set_option maxHeartbeats 4100000
namespace Pg
open PySem L2 RZ Kn
section
variable {G : Gd} {P : Program} {w : World} {mg : Str → Option Value} {base : Heap} {f : Addr} {fd : FuncData}
def sIdleL : FSpec := fun ds R _ => ∃ n : Nat, ds = [.int n] ∧ 1 ≤ n ∧ n ≤ 5 ∧ R (leadD n ((List.range n).map fun (i : Nat) => (i : Int)))
theorem range_ints (n : Nat) : rangeD 0 n = ((List.range n).map fun (i : Nat) => (i : Int)).map D.int := by
  unfold rangeD
  rw [List.map_map]
  congr 1
  funext i
  simp
abbrev s_idle : Stmt := topS 24
theorem sc_idle : FnScope ["things"] ["things"] (defScope s_idle) := ⟨rfl, rfl, rfl, by decide +kernel, rfl, by decide +kernel, by decide +kernel⟩
theorem ok_idle (F : Fun G.K "idle" "idle" s_idle f fd) (bn : Bn mg) (F_demand_world : Fk G P w mg base 4 "demand_world" ["things", "part"] 0 sDemWorldL) (C_Lead : Fc G P w mg base 5 "Lead" 1 ["self", "into", "row"] 0 sLeadInitL) : FnD G P w mg base 7 f fd ["things"] 0 sIdleL := by
  refine FnD.more (fnd_of F sc_idle (fun cdv A outer s H E hr hg => have xk := xk_def (E := E) hr hg; (ds_cons (ds_expr (de_call F_demand_world xk (da_cons (dv 0) (da_cons de_str da_nil)))) (ds_one (ds_ret (de_make C_Lead xk (da_cons (dv 0) (da_cons (de_listRange xk.calm bn.list bn.range (dv 0)) da_nil))))))) ?_) (by decide)
  rintro ds R ex hl ⟨n, rfl, h1, h5, hr⟩
  refine ⟨.int n, rfl, rfl, n, _, rfl, by omega, by omega, ?_⟩
  refine ⟨.int n, rfl, .int n, rfl, n, rfl, by omega, by omega, rfl, n, _, (List.range n).map fun (i : Nat) => (i : Int), rfl, ?_, by omega, by omega, by simp; omega, by simp; omega, ?_, hr⟩
  · show some (rangeD 0 (n : Int).toNat) = _
    rw [Int.toNat_natCast, range_ints]
  · intro i hi
    obtain ⟨j, hj, rfl⟩ := List.mem_map.mp hi
    have := List.mem_range.mp hj
    omega
theorem ne_rowT {is js : List Int} {Q : D → Prop} (h : Q (.bl (!(is == js)))) : gNe (.tup (is.map D.int)) (.tup (js.map D.int)) Q :=
  ⟨_, _, by simp [pd, pdL_int], by simp [pd, pdL_int], shaped_row is, shaped_row js, by rw [show PyData.eqv (.tuple (is.map PyData.int)) (.tuple (js.map PyData.int)) = PyData.eqvAll (is.map PyData.int) (js.map PyData.int) from rfl, eqvAll_int]; exact h⟩
theorem sim_leads {n : Int} {rs : List (List Int)} : PrsD (simN (fun c ds es => c = 1 ∧ ∃ n l, D.ins 1 ds = leadD n l ∧ es = ds) 1) (rs.map (leadD n)) (rs.map (leadD n)) :=
  .same fun d hd => by
    obtain ⟨r, _, rfl⟩ := List.mem_map.mp hd
    exact sim_ins ⟨rfl, n, r, rfl, rfl⟩ 1
theorem rev_add (gs : List (List Int)) (n : Int) : (gs.map (leadD n)).reverse ++ cutD (gs.map (leadD n)) none (some 1) = (gs.reverse ++ gs.take 1).map (leadD n) := by
  rw [show (some (1 : Int)) = some ((1 : Nat) : Int) from rfl, cut_toN, List.map_append, List.map_reverse, List.map_take]
abbrev s_law_closed_right : Stmt := topS 42
theorem sc_law_closed_right : FnScope ["pen", "things", "rows", "made", "told", "due", "more", "later", "turn", "row", "lead"] ["pen"] (defScope s_law_closed_right) := ⟨rfl, rfl, rfl, by decide +kernel, rfl, by decide +kernel, by decide +kernel⟩
theorem ok_law_closed_right (F : Fun G.K "_law_closed_right" "_law_closed_right" s_law_closed_right f fd) (bn : Bn mg) (fo : Gk G) (lf : LfL G) (k11 : PySem.W.kitOne G.K (.ref (G.cl 1)) (.ref (G.cl 1)) = some true) (F__law_draw : Fk G P w mg base 1 "_law_draw" ["pen", "many"] 1 sDraw) (F__law_pick : Fk G P w mg base 2 "_law_pick" ["pen", "some"] 1 sPick) (F__law_row : Fk G P w mg base 2 "_law_row" ["pen", "things"] 67108864 sRow) (F__law_closed : Fk G P w mg base 2 "_law_closed" ["rows", "things"] 0 sLClosed) (F_closed : Fk G P w mg base 8 "closed" ["leads"] 0 sClosed) (K_closed : FkK G P w mg base 8 "closed" ["leads"] ["leads"] [0] 0 sClosed) (C_Lead : Fc G P w mg base 5 "Lead" 1 ["self", "into", "row"] 0 sLeadInitL) (r_Lead : mg "Lead" = some (.ref (G.cl 1))) (N_Lead : Fqn G P w mg base 1 1 0 sEqLead) (Q_Lead : Fq G P w mg base 1 1 0 sEqLead) : FnD G P w mg base 10 f fd ["pen"] 1152921504606846976 sTrue := by
  refine FnD.more (fnd_of F sc_law_closed_right (fun cdv A outer s H E hr hg => have xk := xk_def (E := E) hr hg; (ds_cons (ds_set (i := 1) sc_law_closed_right.nd rfl (Or.inr rfl) (de_op (o_add xk.K) de_int (de_ty (c_int) bn.int (da_cons (de_cmp (o_gt) (de_call F__law_draw xk (da_cons (dv 0) (da_cons de_int da_nil))) de_int (by rfl)) da_nil)))) (ds_cons (ds_setComp (i := 2) (own := [("turn", 8)]) xk sc_law_closed_right.nd rfl rfl (sw_true rfl rfl rfl (by decide +kernel)) (di_range1 bn.range (da_cons (de_call F__law_pick xk (da_cons (dv 0) (da_cons (de_lst (da_cons de_int (da_cons de_int (da_cons de_int (da_cons de_int da_nil))))) da_nil))) da_nil)) (blkOk_by (N := ["pen", "things", "rows", "made", "told", "due", "more", "later", "turn", "row", "lead"]) (sc := defScope s_law_closed_right) (by decide +kernel)) (fun s H C cl fp => (dg_name (i := 8) sc_law_closed_right.nd rfl (Or.inl rfl))) (fun s H C cl fp => dts_nil) (fun s H C cl fp => (de_call F__law_row (Xk.blk xk _ _ _ _ _) (da_cons (dv 0) (da_cons (dv 1) da_nil)))) (by simp)) (ds_cons (ds_setComp (i := 3) (own := [("row", 9)]) xk sc_law_closed_right.nd rfl rfl (sw_true rfl rfl rfl (by decide +kernel)) (di_seq xk.K (dv 2)) (blkOk_by (N := ["pen", "things", "rows", "made", "told", "due", "more", "later", "turn", "row", "lead"]) (sc := defScope s_law_closed_right) (by decide +kernel)) (fun s H C cl fp => (dg_name (i := 9) sc_law_closed_right.nd rfl (Or.inl rfl))) (fun s H C cl fp => dts_nil) (fun s H C cl fp => (de_make C_Lead (Xk.blk xk _ _ _ _ _) (da_cons (dv 1) (da_cons (de_ty (c_list (Xk.blk xk _ _ _ _ _).K) bn.list (da_cons (dv 9) da_nil)) da_nil)))) (by simp)) (ds_cons (ds_par (i := 4) (j := 5) xk.calm sc_law_closed_right.nd rfl rfl (by decide) rfl rfl (da_cons (de_callk K_closed xk (dk_cons (de_ife (dt_cmp (o_eq xk.K xk.u64) (de_call F__law_draw xk (da_cons (dv 0) (da_cons de_int da_nil))) de_int (by rfl)) (de_ty (c_tuple xk.K) bn.tuple (da_cons (dv 3) da_nil)) (dv 3)) dk_nil)) (da_cons (de_call F__law_closed xk (da_cons (dv 2) (da_cons (dv 1) da_nil))) da_nil)) (hw := (by with_unfolding_all rfl))) (ds_cons (ds_if (dt_w (dw_or (dt_not (dt_val (de_bi (c_isi xk.K) bn.isinstance (da_cons (dv 4) (da_cons (de_tyn (n := "tuple") bn.tuple) da_nil))))) (dw_or1 (dt_cmp (o_ne xk.K xk.u64) (de_comp (own := [("lead", 10)]) xk sc_law_closed_right.nd (di_seq xk.K (dv 4)) (blkOk_by (N := ["pen", "things", "rows", "made", "told", "due", "more", "later", "turn", "row", "lead"]) (sc := defScope s_law_closed_right) (by decide +kernel)) (fun s H C cl fp => (dg_name (i := 10) sc_law_closed_right.nd rfl (Or.inl rfl))) (fun s H C cl fp => dts_nil) (fun s H C cl fp => (de_fld (Xk.blk xk _ _ _ _ _).K fo.row (dv 10))) (by simp)) (dv 5) (by rfl))))) (ds_one (ds_ret de_bl)) ds_nil) (ds_cons (ds_if (dt_cmp (o_ne xk.K xk.u64) (de_comp (own := [("lead", 10)]) xk sc_law_closed_right.nd (di_seq xk.K (dv 4)) (blkOk_by (N := ["pen", "things", "rows", "made", "told", "due", "more", "later", "turn", "row", "lead"]) (sc := defScope s_law_closed_right) (by decide +kernel)) (fun s H C cl fp => (dg_name (i := 10) sc_law_closed_right.nd rfl (Or.inl rfl))) (fun s H C cl fp => (dts_one (dt_w (dw_or (dt_not (dt_val (de_bi (c_isiC (Xk.blk xk _ _ _ _ _).K) bn.isinstance (da_cons (dv 10) (da_cons (de_ref r_Lead) da_nil))))) (dw_or1 (dt_cmp (o_ne (Xk.blk xk _ _ _ _ _).K (Xk.blk xk _ _ _ _ _).u64) (de_tup (da_cons (de_fld (Xk.blk xk _ _ _ _ _).K fo.begin (dv 10)) (da_cons (de_fld (Xk.blk xk _ _ _ _ _).K fo.into (dv 10)) da_nil))) (de_tup (da_cons (dv 1) (da_cons (dv 1) da_nil))) (by rfl))))))) (fun s H C cl fp => (dv 10)) (by simp)) (de_lst da_nil) (by rfl)) (ds_one (ds_ret de_bl)) ds_nil) (ds_cons (ds_if (dt_w (dw_or (dt_neS 1 (eqfL N_Lead) xk (de_call F_closed xk (da_cons (dv 4) da_nil)) (dv 4) (by rfl)) (dw_or (dt_neS 1 (eqfL N_Lead) xk (de_call F_closed xk (da_cons (de_op (o_add xk.K) (de_revL (dv 3)) (de_sl xk.K (dv 3) do_none (do_some de_int))) da_nil)) (dv 4) (by rfl)) (dw_or1 (dt_cmp (o_ne xk.K xk.u64) (de_comp (own := [("lead", 10)]) xk sc_law_closed_right.nd (di_seq xk.K (dv 3)) (blkOk_by (N := ["pen", "things", "rows", "made", "told", "due", "more", "later", "turn", "row", "lead"]) (sc := defScope s_law_closed_right) (by decide +kernel)) (fun s H C cl fp => (dg_name (i := 10) sc_law_closed_right.nd rfl (Or.inl rfl))) (fun s H C cl fp => dts_nil) (fun s H C cl fp => (de_fld (Xk.blk xk _ _ _ _ _).K fo.row (dv 10))) (by simp)) (dv 2) (by rfl)))))) (ds_one (ds_ret de_bl)) ds_nil) (ds_cons (ds_set (i := 6) sc_law_closed_right.nd rfl (Or.inl rfl) (de_make C_Lead xk (da_cons (dv 1) (da_cons (de_call F__law_row xk (da_cons (dv 0) (da_cons (dv 1) da_nil))) da_nil)))) (ds_cons (ds_set (i := 7) sc_law_closed_right.nd rfl (Or.inr rfl) (de_call F_closed xk (da_cons (de_op (o_add xk.K) (dv 3) (de_lst (da_cons (dv 6) da_nil))) da_nil))) (ds_cons (ds_if (dt_cmp (o_ne xk.K xk.u64) (de_comp (own := [("lead", 10)]) xk sc_law_closed_right.nd (di_seq xk.K (dv 7)) (blkOk_by (N := ["pen", "things", "rows", "made", "told", "due", "more", "later", "turn", "row", "lead"]) (sc := defScope s_law_closed_right) (by decide +kernel)) (fun s H C cl fp => (dg_name (i := 10) sc_law_closed_right.nd rfl (Or.inl rfl))) (fun s H C cl fp => dts_nil) (fun s H C cl fp => (de_fld (Xk.blk xk _ _ _ _ _).K fo.row (dv 10))) (by simp)) (de_call F__law_closed xk (da_cons (de_op (o_add xk.K) (dv 2) (de_lst (da_cons (de_fld xk.K fo.row (dv 6)) da_nil))) (da_cons (dv 1) da_nil))) (by rfl)) (ds_one (ds_ret de_bl)) ds_nil) (ds_one (ds_ret (de_and (de_cmp (o_eq xk.K xk.u64) (de_comp (own := [("lead", 10)]) xk sc_law_closed_right.nd (di_seq xk.K (dv 4)) (blkOk_by (N := ["pen", "things", "rows", "made", "told", "due", "more", "later", "turn", "row", "lead"]) (sc := defScope s_law_closed_right) (by decide +kernel)) (fun s H C cl fp => (dg_name (i := 10) sc_law_closed_right.nd rfl (Or.inl rfl))) (fun s H C cl fp => (dts_one (dt_niI Q_Lead (Xk.blk xk _ _ _ _ _) (dv 10) (dv 7) (by rfl)))) (fun s H C cl fp => (dv 10)) (by simp)) (de_lst da_nil) (by rfl)) (de_one (de_cmp (o_eq xk.K xk.u64) (de_inP Q_Lead xk (dv 6) (dv 4) (by rfl)) (de_eqP Q_Lead xk (dv 7) (dv 4) (by rfl)) (by rfl))))))))))))))))) ?_) (by decide)
  rintro ds R ex hl ⟨rfl, hr⟩
  refine seq_to (fun env' => ∃ n : Nat, (n = 2 ∨ n = 3) ∧ env' = [.val .urn, .val (.int n), .emp, .emp, .emp, .emp, .emp, .emp, .emp, .emp, .emp]) (fun de' hnx hrt => ?_) (fun env' e => ?_)
  · refine ⟨_, rfl, rfl, 3, rfl, by omega, by omega, fun v b1 b2 => ⟨trivial, ?_⟩⟩
    dsimp only
    by_cases h : 0 < v
    · rw [decide_eq_true h]
      exact hnx _ ⟨3, .inr rfl, rfl⟩
    · rw [decide_eq_false h]
      exact hnx _ ⟨2, .inl rfl, rfl⟩
  obtain ⟨n, hn, rfl⟩ := e
  refine seq_to (fun env' => ∃ gs, (∀ g ∈ gs, RowIn n n g) ∧ gs ≠ [] ∧ gs.length ≤ 4 ∧ env' = [.val .urn, .val (.int n), .val (.lst (gs.map rowD)), .emp, .emp, .emp, .emp, .emp, .emp, .emp, .emp]) (fun de' hnx hrt => ?_) (fun env' e => ?_)
  · refine ⟨_, rfl, small (by simp), rfl, _, _, rfl, rfl, by simp, by simp, fun i x hx => ?_⟩
    have hk : ∃ k : Nat, x = .int k ∧ 1 ≤ k ∧ k ≤ 4 := by
      have hm := List.mem_of_getElem? hx
      simp only [List.mem_cons, List.not_mem_nil, or_false] at hm; rcases hm with rfl | rfl | rfl | rfl
      · exact ⟨2, rfl, by omega, by omega⟩
      · exact ⟨1, rfl, by omega, by omega⟩
      · exact ⟨3, rfl, by omega, by omega⟩
      · exact ⟨4, rfl, by omega, by omega⟩
    obtain ⟨k, rfl, k1, k4⟩ := hk
    refine ⟨k, rfl, by omega, by omega, ?_⟩
    rw [Int.toNat_natCast]
    refine compL_any (fun _ r => ∃ row, RowIn n n row ∧ r = rowD row) (fun d hd K hK => ⟨_, rfl, _, rfl, rfl, n, rfl, by omega, by omega, fun r hr2 => hK _ ⟨r, hr2, rfl⟩⟩) fun rs hl2 hrs => ?_
    rw [rng_len] at hl2
    obtain ⟨gs, rfl, hg⟩ := rows_all (P := RowIn n n) (rs := rs) fun r hr2 => by
      obtain ⟨i, hi, e⟩ := List.mem_iff_getElem.mp hr2
      exact hrs i ((rangeD 0 k)[i]'(by rw [rng_len]; omega)) r (List.getElem?_eq_getElem _) (by rw [List.getElem?_eq_getElem hi, e])
    rw [List.length_map] at hl2
    refine hnx _ ⟨gs, hg, fun z => ?_, by omega, rfl⟩
    rw [z] at hl2
    simp at hl2
    omega
  obtain ⟨gs, hg, hne, hgl, rfl⟩ := e
  have n15 : 1 ≤ n ∧ n ≤ 3 := by rcases hn with h | h <;> omega
  have hid := idx_clos gs n hg
  have hcr := clos_row hg
  have hcn : closL gs n ≠ [] := fun z => by rw [z] at hid; cases hid
  have hN := few_all hn
  have hcl : (closL gs n).length ≤ 63 := Nat.le_trans (clos_len gs n) (by omega)
  have sm : ∀ {rs : List (List Int)}, (∀ r ∈ rs, RowIn n n r) → ∀ r ∈ rs, Small r := fun {rs} h r hr2 => ⟨by have := (h r hr2).1; omega, fun i hi => by have := (h r hr2).2 i hi; omega⟩
  refine seq_to (fun env' => env' = [.val .urn, .val (.int n), .val (.lst (gs.map rowD)), .val (.lst (gs.map (leadD n))), .emp, .emp, .emp, .emp, .emp, .emp, .emp]) (fun de' hnx hrt => ?_) (fun env' e => ?_)
  · refine ⟨_, rfl, ?_⟩
    refine compL_of rowD (fun r => leadD n r) (fun r hr2 K hK => ?_) ?_
    · obtain ⟨h1, h2⟩ := hg r hr2
      exact ⟨_, rfl, _, rfl, rfl, n, _, r, rfl, rfl, by omega, by omega, by omega, by omega, h2, hK⟩
    · rw [List.nil_append]
      exact hnx _ rfl
  subst e
  refine seq_to (fun env' => env' = [.val .urn, .val (.int n), .val (.lst (gs.map rowD)), .val (.lst (gs.map (leadD n))), .val (.tup ((closL gs n).map (leadD n))), .val (.lst ((closL gs n).map rowD)), .emp, .emp, .emp, .emp, .emp]) (fun de' hnx hrt => ?_) (fun env' e => ?_)
  · have go : ∀ {d : D} {Q : D → Prop}, d.items? = some (gs.map (leadD n)) → Q (.tup ((closL gs n).map (leadD n))) → sClosed [d] Q ex := fun {d Q} hd hq => closed_call hn hg hne (by omega) hd hq
    refine ⟨_, rfl, rfl, 2, rfl, by omega, by omega, fun v b1 b2 => ?_⟩
    unfold dC
    refine eq_int ⟨_, rfl, ite_of (fun _ => ?_) (fun _ => ?_)⟩
    · refine ⟨_, rfl, rfl, go rfl ?_⟩
      exact ⟨_, rfl, _, rfl, rfl, n, gs, rfl, by omega, by omega, hg, by omega, _, _, rfl, hnx _ rfl⟩
    · refine ⟨_, rfl, rfl, go rfl ?_⟩
      exact ⟨_, rfl, _, rfl, rfl, n, gs, rfl, by omega, by omega, hg, by omega, _, _, rfl, hnx _ rfl⟩
  subst e
  have rowsOf : ∀ {env : List Sl} {rs : List (List Int)} {Q : List D → Prop}, 10 < env.length → Q (rs.map rowD) → compL (tgName 10) bYes (dFld G "row" (dVar 10)) Q env (rs.map (leadD n)) [] := fun {env rs Q} he hq => by
    refine compL_of (fun r => leadD n r) rowD (fun r _ K hK => ?_) ?_
    · obtain ⟨m1, m2, m3, i1, i2, i3⟩ := fld_lead fo (n := n) (r := r)
      have e1 : (env.set 10 (.val (leadD n r)))[10]? = some (.val (leadD n r)) := List.getElem?_set_self he
      exact ⟨_, e1, 1, _, _, rfl, m3, i3, hK⟩
    · rw [List.nil_append]; exact hq
  refine sif_of (x := false) (fun K hK => ?_) (fun hb => by cases hb) (fun _ => ?_)
  · refine ⟨_, rfl, "tuple", true, rfl, rfl, _, rfl, ite_of (fun hb => by cases hb) (fun _ => ?_)⟩
    refine ⟨_, rfl, ?_⟩
    refine rowsOf (by show 10 < 11; omega) ?_
    refine ⟨_, rfl, ?_⟩
    refine ne_rowsL (sm hcr) (sm hcr) ⟨_, rfl, ?_⟩
    rw [beq_self_eq_true]
    exact hK
  refine nil_seq ?_
  dsimp only
  refine sif_of (x := false) (fun K hK => ?_) (fun hb => by cases hb) (fun _ => ?_)
  · refine ⟨_, rfl, ?_⟩
    refine compL_ofF (fun r => leadD n r) (fun r => leadD n r) (fun _ => false) (fun r hr2 K2 K3 h1 h2 => ?_) ?_
    · obtain ⟨m1, m2, m3, i1, i2, i3⟩ := fld_lead fo (n := n) (r := r)
      refine ⟨_, rfl, _, .ref (G.cl 1), .ref (G.cl 1), true, rfl, .own _, .inr (.inr ⟨1, _, rfl, lf.inc, rfl⟩), k11, _, rfl, ite_of (fun hb => by cases hb) (fun _ => ?_)⟩
      refine ⟨_, rfl, 1, _, _, rfl, m1, i1, _, rfl, 1, _, _, rfl, m2, i2, small (by simp), _, rfl, _, rfl, small (by simp), ?_⟩
      refine ne_rowT (is := [(r.length : Int), (n : Int)]) (js := [(n : Int), (n : Int)]) ⟨_, rfl, ?_⟩
      rw [(hcr r hr2).1, beq_self_eq_true]
      exact h2 rfl
    · have e : ((closL gs n).filter fun _ => false) = [] := List.filter_eq_nil_iff.mpr (by simp)
      rw [e]
      exact ⟨small (by simp), ne_lst (is := []) (js := []) ⟨_, rfl, hK⟩⟩
  refine nil_seq ?_
  dsimp only
  refine sif_of (x := false) (fun K hK => ?_) (fun hb => by cases hb) (fun _ => ?_)
  · refine ⟨_, rfl, rfl, closed_call hn hcr hcn (by omega) rfl ?_⟩
    rw [clos_clos hg]
    refine ⟨_, rfl, _, _, rfl, rfl, sim_leads, _, rfl, ite_of (fun hb => by cases hb) (fun _ => ?_)⟩
    refine ⟨_, rfl, _, rfl, _, rfl, 1, rfl, ?_⟩
    refine ⟨small (by rw [show (some (1 : Int)) = some ((1 : Nat) : Int) from rfl, cut_toN, List.length_reverse, List.length_take, List.length_map]; omega), ?_⟩
    rw [rev_add]
    have hg3 : ∀ g, g ∈ gs.reverse ++ gs.take 1 ↔ g ∈ gs := fun g => by
      rw [List.mem_append, List.mem_reverse]
      exact ⟨fun h => h.elim id fun h => List.mem_of_mem_take h, fun h => .inl h⟩
    refine ⟨rfl, closed_call (gs := gs.reverse ++ gs.take 1) hn (fun g h => hg g ((hg3 g).mp h)) (fun z => hne (by simpa using z)) (by rw [List.length_append, List.length_reverse, List.length_take]; omega) rfl ?_⟩
    rw [gens_same hg3]
    refine ⟨_, rfl, _, _, rfl, rfl, sim_leads, _, rfl, ite_of (fun hb => by cases hb) (fun _ => ?_)⟩
    refine ⟨_, rfl, ?_⟩
    refine rowsOf (by show 10 < 11; omega) ?_
    refine ⟨_, rfl, ?_⟩
    refine ne_rowsL (sm hg) (sm hg) ⟨_, rfl, ?_⟩
    rw [beq_self_eq_true]
    exact hK
  refine nil_seq ?_
  dsimp only
  refine seq_to (fun env' => ∃ r, RowIn n n r ∧ env' = [.val .urn, .val (.int n), .val (.lst (gs.map rowD)), .val (.lst (gs.map (leadD n))), .val (.tup ((closL gs n).map (leadD n))), .val (.lst ((closL gs n).map rowD)), .val (leadD n r), .emp, .emp, .emp, .emp]) (fun de' hnx hrt => ?_) (fun env' e => ?_)
  · exact ⟨_, rfl, _, rfl, _, rfl, rfl, n, rfl, by omega, by omega, fun r hr2 => ⟨rfl, n, _, r, rfl, rfl, by omega, by omega, by rw [hr2.1]; omega, by rw [hr2.1]; omega, hr2.2, hnx _ ⟨r, hr2, rfl⟩⟩⟩
  obtain ⟨r, hr3, rfl⟩ := e
  obtain ⟨hmore, hsub⟩ := clos_more hg hr3
  have hg2 : ∀ g ∈ gs ++ [r], RowIn n n g := fun g h => by
    rcases List.mem_append.mp
          h with h | h
    · exact hg g h
    · rw [List.mem_singleton.mp h]; exact hr3
  have hcr2 := clos_row hg2
  refine seq_to (fun env' => env' = [.val .urn, .val (.int n), .val (.lst (gs.map rowD)), .val (.lst (gs.map (leadD n))), .val (.tup ((closL gs n).map (leadD n))), .val (.lst ((closL gs n).map rowD)), .val (leadD n r), .val (.tup ((closL (gs ++ [r]) n).map (leadD n))), .emp, .emp, .emp]) (fun de' hnx hrt => ?_) (fun env' e => ?_)
  · refine ⟨_, rfl, _, rfl, small (by simp), small (by simp; omega), rfl, closed_call (gs := gs ++ [r]) hn hg2 (by simp) (by simp; omega) (by rw [List.map_append]; rfl) (hnx _ rfl)⟩
  subst e
  refine sif_of (x := false) (fun K hK => ?_) (fun hb => by cases hb) (fun _ => ?_)
  · refine ⟨_, rfl, ?_⟩
    refine rowsOf (by show 10 < 11; omega) ?_
    obtain ⟨m1, m2, m3, i1, i2, i3⟩ := fld_lead fo (n := n) (r := r)
    refine ⟨_, rfl, _, rfl, 1, _, _, rfl, m3, i3, small (by simp), small (by simp; omega), _, rfl, rfl, n, gs ++ [r], ?_, by omega, by omega, hg2, by simp; omega, ?_⟩
    · rw [List.map_append]; rfl
    · refine ne_rowsL (sm hcr2) (sm hcr2) ⟨_, rfl, ?_⟩
      rw [beq_self_eq_true]
      exact hK
  refine nil_seq ?_
  dsimp only
  refine ⟨_, rfl, ?_⟩
  refine compL_ofF (fun r => leadD n r) (fun r => leadD n r) (fun _ => false) (fun x hx K2 K3 h1 h2 => ?_) ?_
  · exact ⟨_, rfl, _, rfl, _, _, rfl, rfl, inI_leads ⟨true, rfl, _, rfl, ite_of (fun hb => by cases hb) (fun _ => h2 rfl)⟩ (hsub x hx)⟩
  · have e : ((closL gs n).filter fun _ => false) = [] := List.filter_eq_nil_iff.mpr (by simp)
    rw [e]
    refine ⟨small (by simp), ?_⟩
    refine eq_rows0 (rows := []) (by simp) ⟨true, rfl, ?_⟩
    rw [if_pos rfl]
    refine ⟨_, rfl, _, rfl, _, _, rfl, rfl, inP_leads (fun hm => ?_) (fun hm => ?_)⟩
    · refine ⟨_, rfl, _, rfl, _, _, rfl, rfl, eqP_leads (eq_bl ?_)⟩
      rw [hmore.mp hm, beq_self_eq_true]
      exact hr
    · refine ⟨_, rfl, _, rfl, _, _, rfl, rfl, eqP_leads (eq_bl ?_)⟩
      rw [beq_eq_false_iff_ne.mpr fun z => hm (hmore.mpr z)]
      exact hr
end
end Pg
set_option Elab.async false
set_option linter.all false
set_option maxRecDepth 100000
set_option maxHeartbeats 4100000
namespace Pg
open PySem L2 RZ Kn
open PyProof.Rows (envOfC)
section
variable {G : Gd} {P : Program} {w : World} {mg : Str → Option Value} {fa a : Addr} {fd : FuncData} {s₁ : Shared} {ns : List Int}
def idle0 (n : Nat) : D := leadD n ((List.range n).map fun (i : Nat) => (i : Int))
def oddsL : List D := [.non, .int 5, .str "0 1 : 2", .tup [], .lst [], .lst [idle0 2, .non], .lst [.tup [.int 0, .int 1]], .dic [] [], idle0 2, .bl true, .lst [.int 5]]
def idleP (n : Nat) : Nat × List Int := (n, (List.range n).map fun (i : Nat) => (i : Int))
def upP : Nat × List Int := (3, [0, 2])
def downP : Nat × List Int := (2, [0, 1, 1])
def farsL : List D := [.lst (leadsD [upP]), .lst (leadsD [downP]), .lst (leadsD [upP, downP]), .lst (leadsD [idleP 1]), .lst (leadsD [idleP 4]), .lst (leadsD [idleP 5]), .lst (leadsD [idleP 2, idleP 3]), .tup (leadsD [idleP 3, idleP 2]), .lst (leadsD [idleP 3, upP])]
theorem odds_bad : ∀ d ∈ oddsL, badLs d := by
  intro d hd
  unfold oddsL at hd
  simp only [List.mem_cons, List.not_mem_nil, or_false] at hd
  rcases hd with rfl | rfl | rfl | rfl | rfl | rfl | rfl | rfl | rfl | rfl | rfl
  · exact .inr (.inl ⟨rfl, rfl⟩)
  · exact .inr (.inl ⟨rfl, rfl⟩)
  · exact .inr (.inl ⟨rfl, rfl⟩)
  · exact .inl ⟨[], rfl, by simp, by simp, .inl rfl⟩
  · exact .inl ⟨[], rfl, by simp, by simp, .inl rfl⟩
  · refine .inl ⟨[idle0 2, .non], rfl, by simp, fun x hx => ?_, .inr rfl⟩
    simp only [List.mem_cons, List.not_mem_nil, or_false] at hx; rcases hx with rfl | rfl
    · exact .inl ⟨idleP 2, rfl⟩
    · exact .inr rfl
  · refine .inl ⟨[.tup [.int 0, .int 1]], rfl, by simp, fun x hx => ?_, .inr rfl⟩
    rw [List.mem_singleton.mp hx]
    exact .inr rfl
  · exact .inr (.inl ⟨rfl, rfl⟩)
  · exact .inr (.inr ⟨idleP 2, rfl⟩)
  · exact .inr (.inl ⟨rfl, rfl⟩)
  · refine .inl ⟨[.int 5], rfl, by simp, fun x hx => ?_, .inr rfl⟩
    rw [List.mem_singleton.mp hx]
    exact .inr rfl
theorem fars_far : ∀ d ∈ farsL, ∃ ps, d.items? = some (leadsD ps) ∧ ps ≠ [] ∧ ps.length ≤ 100000 ∧ farB ps = true := by
  intro d hd
  unfold farsL at hd
  simp only [List.mem_cons, List.not_mem_nil, or_false] at hd
  rcases hd with rfl | rfl | rfl | rfl | rfl | rfl | rfl | rfl | rfl
  all_goals exact ⟨_, rfl, by simp, by simp, by decide +kernel⟩
def heardP : PyData := .list [.tuple [.str "lead", .str "leads"], .tuple [.str "misfit", .str "things"]]
/-- the facts of the law's callees, over the urn -/
structure Calls (G : Gd) (P : Program) (w : World) (mg : Str → Option Value) (base : Heap) : Prop where
  right : Fk G P w mg base 10 "_law_closed_right" ["pen"] 1152921504606846976 sTrue
  pick : Fk G P w mg base 2 "_law_pick" ["pen", "some"] 1 sPick
  lead : Fc G P w mg base 5 "Lead" 1 ["self", "into", "row"] 0 sLeadInitL
  idle : Fk G P w mg base 7 "idle" ["things"] 0 sIdleL
  closed : Fk G P w mg base 8 "closed" ["leads"] 0 sClosed
  heard : Fl G P w mg base 2 "_law_heard" ["ask", "error"] (defScope s_law_heard) "ask" 0 sHeard
abbrev s_law : Stmt := topS 43
theorem sc_law : FnScope ["script", "pen", "turn", "up", "down", "odd", "far", "heard"] ["script"] (defScope s_law) := ⟨rfl, rfl, rfl, by decide +kernel, rfl, by decide +kernel, by decide +kernel⟩
theorem ok_law {cd Pt : Addr} (hGu : G.u = none) (F : FunC G.K "law" "law" s_law fa fd cd) (hb : ∀ (s : Shared) (v : Value), BindsTo s fd ⟨[v], []⟩ [("script", v)]) (bn : Bn mg) (hlen : ns.length ≤ 63) (hr : Room 12 callerA)
    (hC : ∀ (q : Addr × Addr) (base : Heap), Calls { G with u := some (q, [(Pt, (("law" : Str) ++ ".<locals>." ++ "<lambda>"))]) } P w mg base)
    (h0 : ∀ (base : Heap) (H : Hp), Room 11 (callerA.deeper (envOfC "law" (defScope s_law) s₁.heap.objs.size fa (.ref cd))) → PS (cxOf (L2.CX P w) P w G.K mg base ["script", "pen", "turn", "up", "down", "odd", "far", "heard"] "law" (defScope s_law) fa (.ref cd) callerA [] s₁ H EF) ((defBody s_law).getD 0 (.Pass ⟨0, 0, 0, 0⟩)) (tAsg (tCall (spPen G.K) [] EF (tCons (tVar 0) tNil)) (gName 1))) :
    LawOkT P w G.K mg fa a ns s₁ [(cd, Pt)] := by
  refine law_of (T := [(Pt, (("law" : Str) ++ ".<locals>." ++ "<lambda>"))]) (fun t ht => ⟨(cd, Pt), List.mem_singleton_self _, by rw [List.mem_singleton.mp ht]⟩) hGu F sc_law hb hr (by decide) rfl ?_ hlen h0 (fun p b base H tb rm => have xk := xk_def (G := { G with u := some ((p, b), [(Pt, (("law" : Str) ++ ".<locals>." ++ "<lambda>"))]) }) (E := EF) rm rfl; have Cc := hC (p, b) base; have lt_ : LamT { G with u := some ((p, b), [(Pt, (("law" : Str) ++ ".<locals>." ++ "<lambda>"))]) } base mg cd (("law" : Str) ++ ".<locals>." ++ "<lambda>") := ⟨⟨Pt, _, tb (cd, Pt) (List.mem_singleton_self _), rfl, List.mem_singleton_self _, fun x hx _ => by rw [List.mem_singleton.mp hx]⟩⟩; (ds_cons (ds_for xk po_def (di_range1 bn.range (da_cons de_int da_nil)) (dg_name (i := 2) sc_law.nd rfl (Or.inl rfl)) (ds_one (ds_if (dt_not (dt_val (de_call Cc.right xk (da_cons (dv 1) da_nil)))) (ds_one (ds_ret de_bl)) ds_nil))) (ds_cons (ds_par (i := 3) (j := 4) xk.calm sc_law.nd rfl rfl (by decide) rfl rfl (da_cons (de_make Cc.lead xk (da_cons de_int (da_cons (de_lst (da_cons de_int (da_cons de_int da_nil))) da_nil))) (da_cons (de_make Cc.lead xk (da_cons de_int (da_cons (de_lst (da_cons de_int (da_cons de_int (da_cons de_int da_nil)))) da_nil))) da_nil)) (hw := (by with_unfolding_all rfl))) (ds_cons (ds_set (i := 5) sc_law.nd rfl (Or.inr rfl) (de_call Cc.pick xk (da_cons (dv 1) (da_cons (de_lst (da_cons de_non (da_cons de_int (da_cons de_str (da_cons (de_tup da_nil) (da_cons (de_lst da_nil) (da_cons (de_lst (da_cons (de_call Cc.idle xk (da_cons de_int da_nil)) (da_cons de_non da_nil))) (da_cons (de_lst (da_cons (de_tup (da_cons de_int (da_cons de_int da_nil))) da_nil)) (da_cons de_dic0 (da_cons (de_call Cc.idle xk (da_cons de_int da_nil)) (da_cons de_bl (da_cons (de_lst (da_cons de_int da_nil)) da_nil)))))))))))) da_nil)))) (ds_cons (ds_set (i := 6) sc_law.nd rfl (Or.inr rfl) (de_call Cc.pick xk (da_cons (dv 1) (da_cons (de_lst (da_cons (de_lst (da_cons (dv 3) da_nil)) (da_cons (de_lst (da_cons (dv 4) da_nil)) (da_cons (de_lst (da_cons (dv 3) (da_cons (dv 4) da_nil))) (da_cons (de_lst (da_cons (de_call Cc.idle xk (da_cons de_int da_nil)) da_nil)) (da_cons (de_lst (da_cons (de_call Cc.idle xk (da_cons de_int da_nil)) da_nil)) (da_cons (de_lst (da_cons (de_call Cc.idle xk (da_cons de_int da_nil)) da_nil)) (da_cons (de_lst (da_cons (de_call Cc.idle xk (da_cons de_int da_nil)) (da_cons (de_call Cc.idle xk (da_cons de_int da_nil)) da_nil))) (da_cons (de_tup (da_cons (de_call Cc.idle xk (da_cons de_int da_nil)) (da_cons (de_call Cc.idle xk (da_cons de_int da_nil)) da_nil))) (da_cons (de_lst (da_cons (de_call Cc.idle xk (da_cons de_int da_nil)) (da_cons (dv 3) da_nil))) da_nil)))))))))) da_nil)))) (ds_cons (ds_own (i := 7) sc_law.nd rfl (Or.inl rfl) (df_lst (da_cons (de_lamcall (kb := 9) Cc.heard xk lt_ rfl (LamX.lamS_by (sc := defScope s_law) (by decide +kernel)) (fun A outer s H E2 f c2 xkl => (de_call Cc.closed xkl (da_cons (dv 5) da_nil)))) da_nil))) (ds_cons (ds_app (i := 7) rfl (de_lamcall (kb := 9) Cc.heard xk lt_ rfl (LamX.lamS_by (sc := defScope s_law) (by decide +kernel)) (fun A outer s H E2 f c2 xkl => (de_call Cc.closed xkl (da_cons (dv 6) da_nil))))) (ds_freeze (i := 7) (ds_one (ds_ret (de_cmp (o_eq xk.K xk.u64) (dv 7) (de_lst (da_cons (de_tup (da_cons de_str (da_cons de_str da_nil))) (da_cons (de_tup (da_cons de_str (da_cons de_str da_nil))) da_nil))) (by rfl)))))))))))) ?_
  · decide
  refine seq_to (fun env' => ∃ s2, env' = [.emp, .val .urn, s2, .emp, .emp, .emp, .emp, .emp]) (fun de' hnx hrt => ?_) (fun env' e => ?_)
  · refine ⟨4, rfl, by omega, by omega, ?_⟩
    refine sForL_rng (fun i env => ∃ s2, env = [.emp, .val .urn, s2, .emp, .emp, .emp, .emp, .emp]) ⟨_, rfl⟩ (fun i env hi hI nx hn2 => ?_) (fun env hI => hnx _ hI)
    obtain ⟨s2, rfl⟩ := hI
    exact sif_of (x := !true) (fun K hK => ⟨_, rfl, rfl, rfl, true, rfl, hK⟩) (fun hb => by simp at hb) fun hb => hn2 _ ⟨_, rfl⟩
  obtain ⟨s2, rfl⟩ := e
  refine seq_to (fun env' => env' = [.emp, .val .urn, s2, .val (leadP upP), .val (leadP downP), .emp, .emp, .emp]) (fun de' hnx hrt => ?_) (fun env' e => ?_)
  · refine ⟨small (by simp), rfl, 3, _, [0, 2], rfl, rfl, by omega, by omega, by simp, by simp, by simp, small (by simp), rfl, 2, _, [0, 1, 1], rfl, rfl, by omega, by omega, by simp, by simp, by simp, _, _, rfl, hnx _ rfl⟩
  subst e
  refine seq_to (fun env' => ∃ o, o ∈ oddsL ∧ env' = [.emp, .val .urn, s2, .val (leadP upP), .val (leadP downP), .val o, .emp, .emp]) (fun de' hnx hrt => ?_) (fun env' e => ?_)
  · refine ⟨_, rfl, small (by simp), small (by simp), rfl, 2, rfl, by omega, by omega, small (by simp), small (by simp), small (by simp), rfl, 2, rfl, by omega, by omega, small (by simp), small (by simp), rfl, _, oddsL, rfl, rfl, by simp [oddsL], by simp [oddsL], fun i x hx => ?_⟩
    exact hnx _ ⟨x, List.mem_of_getElem? hx, rfl⟩
  obtain ⟨o, ho, rfl⟩ := e
  refine seq_to (fun env' => ∃ f, f ∈ farsL ∧ env' = [.emp, .val .urn, s2, .val (leadP upP), .val (leadP downP), .val o, .val f, .emp]) (fun de' hnx hrt => ?_) (fun env' e => ?_)
  · refine ⟨_, rfl, _, rfl, small (by simp), _, rfl, small (by simp), _, rfl, _, rfl, small (by simp), rfl, 1, rfl, by omega, by omega, small (by simp), rfl, 4, rfl, by omega, by omega, small (by simp), rfl, 5, rfl, by omega, by omega, small (by simp), rfl, 2, rfl, by omega, by omega, rfl, 3, rfl, by omega, by omega, small (by simp), rfl, 3, rfl, by omega, by omega, rfl, 2, rfl, by omega, by omega, small (by simp), rfl, 3, rfl, by omega, by omega, _, rfl, small (by simp), small (by simp), rfl, _, farsL, rfl, rfl, by simp [farsL], by simp [farsL], fun i x hx => ?_⟩
    exact hnx _ ⟨x, List.mem_of_getElem? hx, rfl⟩
  obtain ⟨f, hf, rfl⟩ := e
  have bo := odds_bad o ho
  obtain ⟨ps, p1, p2, p3, p4⟩ := fars_far f hf
  refine seq_to (fun env' => ∃ a, env' = [.emp, .val .urn, s2, .val (leadP upP), .val (leadP downP), .val o, .val f, .own a [.tup [.str "lead", .str "leads"]]]) (fun de' hnx hrt => ?_) (fun env' e => ?_)
  · refine ⟨.str "leads", .inl ⟨fun Q0 ex0 h0 => ⟨_, rfl, rfl, o, rfl, .inr (.inr ⟨bo, h0⟩)⟩, ?_⟩⟩
    exact ⟨small (by simp), fun a => hnx _ ⟨a, rfl⟩⟩
  obtain ⟨a, rfl⟩ := e
  refine seq_to (fun env' => ∃ a, env' = [.emp, .val .urn, s2, .val (leadP upP), .val (leadP downP), .val o, .val f, .own a [.tup [.str "lead", .str "leads"], .tup [.str "misfit", .str "things"]]]) (fun de' hnx hrt => ?_) (fun env' e => ?_)
  · refine ⟨a, _, rfl, .str "things", .inr ⟨fun Q0 ex0 h0 => ⟨_, rfl, rfl, f, rfl, .inr (.inl ⟨ps, p1, p2, p3, p4, h0⟩)⟩, ?_⟩⟩
    exact ⟨small (by simp), hnx _ ⟨a, rfl⟩⟩
  obtain ⟨a, rfl⟩ := e
  refine ⟨a, _, rfl, _, rfl, small (by simp), small (by simp), small (by simp), ?_⟩
  refine ⟨heardP, heardP, rfl, rfl, by decide +kernel, by decide +kernel, ?_⟩
  rw [show PyData.eqv heardP heardP = true by decide +kernel]
end
end Pg
set_option Elab.async false
set_option linter.all false
set_option maxRecDepth 100000
set_option maxHeartbeats 4100000
namespace Pg
open PySem L2 RZ Kn
/-- the classes that the law reaches: their addresses, their fields -/
def clK (a1 a2 a4 a5 : Addr) : Nat → Addr
  | 1 => a1
  | 2 => a2
  | 4 => a4
  | 5 => a5
  | _ => 0
def flK : Nat → List Str
  | 1 => ["begin", "into", "row"]
  | 2 => ["words", "taken"]
  | 4 => ["part"]
  | 5 => ["part"]
  | _ => []
section
variable {K : PySem.W.Frag} {a1 a2 a4 a5 : Addr} {u : Option Ur} {f : Str}
theorem fld_ok (h1 : f ∈ (["begin", "into", "row"] : List Str) → Cls K a1 ∧ NoAttr K a1 f) (h2 : f ∈ (["words", "taken"] : List Str) → Cls K a2 ∧ NoAttr K a2 f) (h4 : f ∈ (["part"] : List Str) → Cls K a4 ∧ NoAttr K a4 f) (h5 : f ∈ (["part"] : List Str) → Cls K a5 ∧ NoAttr K a5 f) : FldOk ⟨K, clK a1 a2 a4 a5, flK, u⟩ f := ⟨fun c hc => by
  match c with
  | 0 => cases hc
  | 1 => exact h1 hc
  | 2 => exact h2 hc
  | 3 => cases hc
  | 4 => exact h4 hc
  | 5 => exact h5 hc
  | n + 6 => cases hc⟩
theorem flK_nd (c : Nat) : (flK c).Nodup := by
  match c with
  | 0 => exact List.nodup_nil
  | 1 => decide +kernel
  | 2 => decide +kernel
  | 3 => exact List.nodup_nil
  | 4 => decide +kernel
  | 5 => decide +kernel
  | n + 6 => exact List.nodup_nil
theorem flK_sm (c : Nat) : (flK c).length ≤ 100 := by
  match c with
  | 0 => exact Nat.zero_le _
  | 1 => decide
  | 2 => decide
  | 3 => exact Nat.zero_le _
  | 4 => decide
  | 5 => decide
  | n + 6 => exact Nat.zero_le _
end
end Pg
set_option Elab.async false
set_option linter.all false
set_option maxRecDepth 100000
set_option maxHeartbeats 2100000
namespace Pg
open PySem
open PySem.Spec PyProof.Rows L2
theorem refsB_ok : ∀ {l : List Value}, refsB l = true → PySem.HandSPX.refsVE l = true
  | [], h => by cases h
  | .ref c :: r, h => refsB_ok (l := r) h
  | .none :: r, h | .ellipsis :: r, h | .notImplemented :: r, h | .bool _ :: r, h | .int _ _ :: r, h | .float _ _ :: r, h | .str _ _ :: r, h | .bytes _ _ :: r, h | .type _ :: r, h | .builtin _ :: r, h => by
    have e := of_decide_eq_true h
    show (_ == _) = true
    rw [e]
    decide +kernel
theorem excB_ok {K : PySem.W.Frag} {C : Addr} (h : excB K C = true) : ∃ nm q N bs bm sn sub ab col dd k0 k1 k2 k3 k5, K.lookup C = some (excClassObj nm q C N bs bm true sn sub ab col dd k0 k1 k2 k3 k5 "ValueError.__new__") ∧ PySem.HandSPX.refsVE bm = true := by
  unfold excB at h
  cases e : K.lookup C with
  | none =>
        rw [e] at h; cases h
  | some o =>
    obtain ⟨oc, od, dt, sl⟩ := o
    rw [e] at h
    cases oc with
    | type t =>
      cases dt with
      | cls cd =>
        obtain ⟨nm, bs, mro, ns, q, hd, sn, sub, ab, col, hdel⟩ := cd
        dsimp only at h
        simp only [Bool.and_eq_true, Bool.not_eq_true'] at h; obtain ⟨h1, h2, h3, h4, h5⟩ := h
        have h1 := of_decide_eq_true h1
        subst h1 h2 h3
        split at h4
        · rename_i c bm
          obtain ⟨h6, h7⟩ := Bool.and_eq_true_iff.mp h4
          have h6 := of_decide_eq_true h6
          subst h6
          split at h5
          · rename_i k0 k1 k2 k3 n k5 hsl
            have h5 := of_decide_eq_true h5
            subst h5
            have hs : sl = #[k0, k1, k2, k3, some (.builtin "ValueError.__new__"), k5] := by
              have := congrArg List.toArray hsl
              simpa using this
            subst hs
            exact ⟨nm, q, ns, bs, bm, sn, sub, ab, col, od, k0, k1, k2, k3, k5, rfl, refsB_ok h7⟩
          · cases h5
        · cases h4
      | _ => cases h
    | _ => cases dt <;> cases h
theorem tab_in {K : PySem.W.Frag} {x : Str} {f c Pt : Addr} {oc oc2 : Value} {od od2 : Option Addr} {fd : FuncData} {sl sl2 : Array (Option Value)} {vs : Array Value} (h1 : PySem.W.nsIn K mainGlobals x = some (some (.ref f))) (h2 : K.lookup f = some ⟨oc, od, .func fd, sl⟩) (h3 : fd.code = .ref c) (h4 : K.lookup c = some ⟨oc2, od2, .fields vs, sl2⟩) (h5 : (vs[11]? : Option Value) = some (.ref Pt)) : PySem.W.tabIn K x = some (c, Pt) := by
  unfold PySem.W.tabIn
  simp only [h1, h2, h3, h4, h5]
end Pg
set_option Elab.async false
set_option linter.all false
set_option maxRecDepth 100000
set_option maxHeartbeats 4100000
namespace Pg
open PySem PySem.Spec PyProof.Rows L2 Kn
open RZ
theorem close {q : Program} {l : PySem.W.OpenLaw} {w : World} {K : PySem.W.Frag} {h : Heap} {mg : Str → Option Value} {fa a : Addr} {s : Shared} {ns : List Int} (X : K.In h) (Gh : h.Ns mainGlobals mg) (hfa : mg "law" = some (.ref fa)) (hlen : ns.length ≤ 63)
    {C_Lead : Addr}
    {C_Items : Addr}
    {f_law : Addr} {oc_law kV_law dc_law pm_law ct_law : Value} {od_law an_law : Option Addr} {sl_law : Array (Option Value)}
    {cd_law : Addr}
    {f_is_integer : Addr} {oc_is_integer kV_is_integer dc_is_integer pm_is_integer ct_is_integer : Value} {od_is_integer an_is_integer : Option Addr} {sl_is_integer : Array (Option Value)}
    {cd_is_integer : Value}
    {f_are_numbers : Addr} {oc_are_numbers kV_are_numbers dc_are_numbers pm_are_numbers ct_are_numbers : Value} {od_are_numbers an_are_numbers : Option Addr} {sl_are_numbers : Array (Option Value)}
    {cd_are_numbers : Value}
    {f_is_within : Addr} {oc_is_within kV_is_within dc_is_within pm_is_within ct_is_within : Value} {od_is_within an_is_within : Option Addr} {sl_is_within : Array (Option Value)}
    {cd_is_within : Value}
    {f_demand_number : Addr} {oc_demand_number kV_demand_number dc_demand_number pm_demand_number ct_demand_number : Value} {od_demand_number an_demand_number : Option Addr} {sl_demand_number : Array (Option Value)}
    {cd_demand_number : Value}
    {f_demand_world : Addr} {oc_demand_world kV_demand_world dc_demand_world pm_demand_world ct_demand_world : Value} {od_demand_world an_demand_world : Option Addr} {sl_demand_world : Array (Option Value)}
    {cd_demand_world : Value}
    {f_demand_numbers : Addr} {oc_demand_numbers kV_demand_numbers dc_demand_numbers pm_demand_numbers ct_demand_numbers : Value} {od_demand_numbers an_demand_numbers : Option Addr} {sl_demand_numbers : Array (Option Value)}
    {cd_demand_numbers : Value}
    {f_demand_things : Addr} {oc_demand_things kV_demand_things dc_demand_things pm_demand_things ct_demand_things : Value} {od_demand_things an_demand_things : Option Addr} {sl_demand_things : Array (Option Value)}
    {cd_demand_things : Value}
    {f_Lead___init__ : Addr} {oc_Lead___init__ kV_Lead___init__ dc_Lead___init__ pm_Lead___init__ ct_Lead___init__ : Value} {od_Lead___init__ an_Lead___init__ : Option Addr} {sl_Lead___init__ : Array (Option Value)}
    {cd_Lead___init__ : Value}
    {f_demand_leads : Addr} {oc_demand_leads kV_demand_leads dc_demand_leads pm_demand_leads ct_demand_leads : Value} {od_demand_leads an_demand_leads : Option Addr} {sl_demand_leads : Array (Option Value)}
    {cd_demand_leads : Value}
    {f_demand_one_world : Addr} {oc_demand_one_world kV_demand_one_world dc_demand_one_world pm_demand_one_world ct_demand_one_world : Value} {od_demand_one_world an_demand_one_world : Option Addr} {sl_demand_one_world : Array (Option Value)}
    {cd_demand_one_world : Value}
    {f_demand_told_manner : Addr} {oc_demand_told_manner kV_demand_told_manner dc_demand_told_manner pm_demand_told_manner ct_demand_told_manner : Value} {od_demand_told_manner an_demand_told_manner : Option Addr} {sl_demand_told_manner : Array (Option Value)}
    {cd_demand_told_manner : Value}
    {f_leads_by : Addr} {oc_leads_by kV_leads_by dc_leads_by pm_leads_by ct_leads_by : Value} {od_leads_by an_leads_by : Option Addr} {sl_leads_by : Array (Option Value)}
    {cd_leads_by : Value}
    {f_law_behind : Addr} {oc_law_behind kV_law_behind dc_law_behind pm_law_behind ct_law_behind : Value} {od_law_behind an_law_behind : Option Addr} {sl_law_behind : Array (Option Value)}
    {cd_law_behind : Value}
    {f_closed_rows : Addr} {oc_closed_rows kV_closed_rows dc_closed_rows pm_closed_rows ct_closed_rows : Value} {od_closed_rows an_closed_rows : Option Addr} {sl_closed_rows : Array (Option Value)}
    {cd_closed_rows : Value}
    {f_unlike_rows : Addr} {oc_unlike_rows kV_unlike_rows dc_unlike_rows pm_unlike_rows ct_unlike_rows : Value} {od_unlike_rows an_unlike_rows : Option Addr} {sl_unlike_rows : Array (Option Value)}
    {cd_unlike_rows : Value}
    {f_closed : Addr} {oc_closed kV_closed dc_closed pm_closed ct_closed : Value} {od_closed an_closed : Option Addr} {sl_closed : Array (Option Value)}
    {cd_closed : Value}
    {f_law_pen : Addr} {oc_law_pen kV_law_pen dc_law_pen pm_law_pen ct_law_pen : Value} {od_law_pen an_law_pen : Option Addr} {sl_law_pen : Array (Option Value)}
    {cd_law_pen : Value}
    {f_law_draw : Addr} {oc_law_draw kV_law_draw dc_law_draw pm_law_draw ct_law_draw : Value} {od_law_draw an_law_draw : Option Addr} {sl_law_draw : Array (Option Value)}
    {cd_law_draw : Value}
    {f_law_pick : Addr} {oc_law_pick kV_law_pick dc_law_pick pm_law_pick ct_law_pick : Value} {od_law_pick an_law_pick : Option Addr} {sl_law_pick : Array (Option Value)}
    {cd_law_pick : Value}
    {f_law_row : Addr} {oc_law_row kV_law_row dc_law_row pm_law_row ct_law_row : Value} {od_law_row an_law_row : Option Addr} {sl_law_row : Array (Option Value)}
    {cd_law_row : Value}
    {f_law_closed : Addr} {oc_law_closed kV_law_closed dc_law_closed pm_law_closed ct_law_closed : Value} {od_law_closed an_law_closed : Option Addr} {sl_law_closed : Array (Option Value)}
    {cd_law_closed : Value}
    {f_law_heard : Addr} {oc_law_heard kV_law_heard dc_law_heard pm_law_heard ct_law_heard : Value} {od_law_heard an_law_heard : Option Addr} {sl_law_heard : Array (Option Value)}
    {cd_law_heard : Value}
    {f_Lead___eq__ : Addr} {oc_Lead___eq__ kV_Lead___eq__ dc_Lead___eq__ pm_Lead___eq__ ct_Lead___eq__ : Value} {od_Lead___eq__ an_Lead___eq__ : Option Addr} {sl_Lead___eq__ : Array (Option Value)}
    {cd_Lead___eq__ : Value}
    {f_idle : Addr} {oc_idle kV_idle dc_idle pm_idle ct_idle : Value} {od_idle an_idle : Option Addr} {sl_idle : Array (Option Value)}
    {cd_idle : Value}
    {f_law_closed_right : Addr} {oc_law_closed_right kV_law_closed_right dc_law_closed_right pm_law_closed_right ct_law_closed_right : Value} {od_law_closed_right an_law_closed_right : Option Addr} {sl_law_closed_right : Array (Option Value)}
    {cd_law_closed_right : Value}
    {f_BadLead___init__ : Addr} {oc_BadLead___init__ kV_BadLead___init__ dc_BadLead___init__ pm_BadLead___init__ ct_BadLead___init__ : Value} {od_BadLead___init__ an_BadLead___init__ : Option Addr} {sl_BadLead___init__ : Array (Option Value)}
    {cd_BadLead___init__ : Value}
    {f_Misfit___init__ : Addr} {oc_Misfit___init__ kV_Misfit___init__ dc_Misfit___init__ pm_Misfit___init__ ct_Misfit___init__ : Value} {od_Misfit___init__ an_Misfit___init__ : Option Addr} {sl_Misfit___init__ : Array (Option Value)}
    {cd_Misfit___init__ : Value}
    {t_MOST_THINGS : Tok}
    {C_BadLead C_Misfit Pt_law a_TW : Addr}
    (aC_Lead : PySem.W.nsIn K mainGlobals "Lead" = some (some (.ref C_Lead)))
    (pg_Lead : PySem.W.plainGet K C_Lead Str.empty = true)
    (hd_Lead : PySem.W.hasDictIn K C_Lead = true)
    (po_Lead : PySem.W.plainOver K C_Lead = true)
    (sa_Lead : PySem.W.findIn K (.ref C_Lead) "__setattr__" = some (some (.builtin "object.__setattr__")))
    (mo_Lead : PySem.W.mroIn K C_Lead (.type "object") = some true)
    (ne_Lead : PySem.W.findIn K (.ref C_Lead) "__ne__" = some (some (.builtin "object.__ne__")))
    (mk_Lead : PySem.W.makesIn K C_Lead = true)
    (kc_Lead : PySem.W.keepIn K (.ref C_Lead) = true)
    (n_Lead_begin : PySem.W.findIn K (.ref C_Lead) "begin" = some none)
    (n_Lead_into : PySem.W.findIn K (.ref C_Lead) "into" = some none)
    (n_Lead_row : PySem.W.findIn K (.ref C_Lead) "row" = some none)
    (aC_Items : PySem.W.nsIn K mainGlobals "Items" = some (some (.ref C_Items)))
    (pg_Items : PySem.W.plainGet K C_Items Str.empty = true)
    (hd_Items : PySem.W.hasDictIn K C_Items = true)
    (po_Items : PySem.W.plainOver K C_Items = true)
    (sa_Items : PySem.W.findIn K (.ref C_Items) "__setattr__" = some (some (.builtin "object.__setattr__")))
    (mk_Items : PySem.W.makesIn K C_Items = true)
    (kc_Items : PySem.W.keepIn K (.ref C_Items) = true)
    (n_Items_words : PySem.W.findIn K (.ref C_Items) "words" = some none)
    (n_Items_taken : PySem.W.findIn K (.ref C_Items) "taken" = some none)
    (a_law : PySem.W.nsIn K mainGlobals "law" = some (some (.ref f_law)))
    (l_law : K.lookup f_law = some ⟨oc_law, od_law, .func (PySem.W.fnOf "law" "law" (defArgs (topS 43)) (defBody (topS 43)) (defScope (topS 43)) .none kV_law dc_law pm_law an_law (.ref cd_law) ct_law), sl_law⟩)
    (c_law : PySem.W.codeIn K (.ref cd_law) "law" = true)
    (k_law : PySem.W.keepIn K (.ref f_law) = true)
    (a_is_integer : PySem.W.nsIn K mainGlobals "is_integer" = some (some (.ref f_is_integer)))
    (l_is_integer : K.lookup f_is_integer = some ⟨oc_is_integer, od_is_integer, .func (PySem.W.fnOf "is_integer" "is_integer" (defArgs (topS 10)) (defBody (topS 10)) (defScope (topS 10)) .none kV_is_integer dc_is_integer pm_is_integer an_is_integer cd_is_integer ct_is_integer), sl_is_integer⟩)
    (c_is_integer : PySem.W.codeIn K cd_is_integer "is_integer" = true)
    (k_is_integer : PySem.W.keepIn K (.ref f_is_integer) = true)
    (a_are_numbers : PySem.W.nsIn K mainGlobals "are_numbers" = some (some (.ref f_are_numbers)))
    (l_are_numbers : K.lookup f_are_numbers = some ⟨oc_are_numbers, od_are_numbers, .func (PySem.W.fnOf "are_numbers" "are_numbers" (defArgs (topS 12)) (defBody (topS 12)) (defScope (topS 12)) .none kV_are_numbers dc_are_numbers pm_are_numbers an_are_numbers cd_are_numbers ct_are_numbers), sl_are_numbers⟩)
    (c_are_numbers : PySem.W.codeIn K cd_are_numbers "are_numbers" = true)
    (k_are_numbers : PySem.W.keepIn K (.ref f_are_numbers) = true)
    (a_is_within : PySem.W.nsIn K mainGlobals "is_within" = some (some (.ref f_is_within)))
    (l_is_within : K.lookup f_is_within = some ⟨oc_is_within, od_is_within, .func (PySem.W.fnOf "is_within" "is_within" (defArgs (topS 11)) (defBody (topS 11)) (defScope (topS 11)) .none kV_is_within dc_is_within pm_is_within an_is_within cd_is_within ct_is_within), sl_is_within⟩)
    (c_is_within : PySem.W.codeIn K cd_is_within "is_within" = true)
    (k_is_within : PySem.W.keepIn K (.ref f_is_within) = true)
    (a_demand_number : PySem.W.nsIn K mainGlobals "demand_number" = some (some (.ref f_demand_number)))
    (l_demand_number : K.lookup f_demand_number = some ⟨oc_demand_number, od_demand_number, .func (PySem.W.fnOf "demand_number" "demand_number" (defArgs (topS 15)) (defBody (topS 15)) (defScope (topS 15)) .none kV_demand_number dc_demand_number pm_demand_number an_demand_number cd_demand_number ct_demand_number), sl_demand_number⟩)
    (c_demand_number : PySem.W.codeIn K cd_demand_number "demand_number" = true)
    (k_demand_number : PySem.W.keepIn K (.ref f_demand_number) = true)
    (a_demand_world : PySem.W.nsIn K mainGlobals "demand_world" = some (some (.ref f_demand_world)))
    (l_demand_world : K.lookup f_demand_world = some ⟨oc_demand_world, od_demand_world, .func (PySem.W.fnOf "demand_world" "demand_world" (defArgs (topS 16)) (defBody (topS 16)) (defScope (topS 16)) .none kV_demand_world dc_demand_world pm_demand_world an_demand_world cd_demand_world ct_demand_world), sl_demand_world⟩)
    (c_demand_world : PySem.W.codeIn K cd_demand_world "demand_world" = true)
    (k_demand_world : PySem.W.keepIn K (.ref f_demand_world) = true)
    (a_demand_numbers : PySem.W.nsIn K mainGlobals "demand_numbers" = some (some (.ref f_demand_numbers)))
    (l_demand_numbers : K.lookup f_demand_numbers = some ⟨oc_demand_numbers, od_demand_numbers, .func (PySem.W.fnOf "demand_numbers" "demand_numbers" (defArgs (topS 17)) (defBody (topS 17)) (defScope (topS 17)) .none kV_demand_numbers dc_demand_numbers pm_demand_numbers an_demand_numbers cd_demand_numbers ct_demand_numbers), sl_demand_numbers⟩)
    (c_demand_numbers : PySem.W.codeIn K cd_demand_numbers "demand_numbers" = true)
    (k_demand_numbers : PySem.W.keepIn K (.ref f_demand_numbers) = true)
    (a_demand_things : PySem.W.nsIn K mainGlobals "demand_things" = some (some (.ref f_demand_things)))
    (l_demand_things : K.lookup f_demand_things = some ⟨oc_demand_things, od_demand_things, .func (PySem.W.fnOf "demand_things" "demand_things" (defArgs (topS 18)) (defBody (topS 18)) (defScope (topS 18)) .none kV_demand_things dc_demand_things pm_demand_things an_demand_things cd_demand_things ct_demand_things), sl_demand_things⟩)
    (c_demand_things : PySem.W.codeIn K cd_demand_things "demand_things" = true)
    (k_demand_things : PySem.W.keepIn K (.ref f_demand_things) = true)
    (a_Lead___init__ : PySem.W.findIn K (.ref C_Lead) "__init__" = some (some (.ref f_Lead___init__)))
    (i_Lead___init__ : PySem.W.isFn K (.ref f_Lead___init__) = true)
    (l_Lead___init__ : K.lookup f_Lead___init__ = some ⟨oc_Lead___init__, od_Lead___init__, .func (PySem.W.fnOf "__init__" "Lead.__init__" (defArgs (inClass (topS 23) 0)) (defBody (inClass (topS 23) 0)) (defScope (inClass (topS 23) 0)) .none kV_Lead___init__ dc_Lead___init__ pm_Lead___init__ an_Lead___init__ cd_Lead___init__ ct_Lead___init__), sl_Lead___init__⟩)
    (c_Lead___init__ : PySem.W.codeIn K cd_Lead___init__ "Lead.__init__" = true)
    (k_Lead___init__ : PySem.W.keepIn K (.ref f_Lead___init__) = true)
    (a_demand_leads : PySem.W.nsIn K mainGlobals "demand_leads" = some (some (.ref f_demand_leads)))
    (l_demand_leads : K.lookup f_demand_leads = some ⟨oc_demand_leads, od_demand_leads, .func (PySem.W.fnOf "demand_leads" "demand_leads" (defArgs (topS 27)) (defBody (topS 27)) (defScope (topS 27)) .none kV_demand_leads dc_demand_leads pm_demand_leads an_demand_leads cd_demand_leads ct_demand_leads), sl_demand_leads⟩)
    (c_demand_leads : PySem.W.codeIn K cd_demand_leads "demand_leads" = true)
    (k_demand_leads : PySem.W.keepIn K (.ref f_demand_leads) = true)
    (a_demand_one_world : PySem.W.nsIn K mainGlobals "demand_one_world" = some (some (.ref f_demand_one_world)))
    (l_demand_one_world : K.lookup f_demand_one_world = some ⟨oc_demand_one_world, od_demand_one_world, .func (PySem.W.fnOf "demand_one_world" "demand_one_world" (defArgs (topS 28)) (defBody (topS 28)) (defScope (topS 28)) .none kV_demand_one_world dc_demand_one_world pm_demand_one_world an_demand_one_world cd_demand_one_world ct_demand_one_world), sl_demand_one_world⟩)
    (c_demand_one_world : PySem.W.codeIn K cd_demand_one_world "demand_one_world" = true)
    (k_demand_one_world : PySem.W.keepIn K (.ref f_demand_one_world) = true)
    (a_demand_told_manner : PySem.W.nsIn K mainGlobals "demand_told_manner" = some (some (.ref f_demand_told_manner)))
    (l_demand_told_manner : K.lookup f_demand_told_manner = some ⟨oc_demand_told_manner, od_demand_told_manner, .func (PySem.W.fnOf "demand_told_manner" "demand_told_manner" (defArgs (topS 29)) (defBody (topS 29)) (defScope (topS 29)) .none kV_demand_told_manner dc_demand_told_manner pm_demand_told_manner an_demand_told_manner cd_demand_told_manner ct_demand_told_manner), sl_demand_told_manner⟩)
    (c_demand_told_manner : PySem.W.codeIn K cd_demand_told_manner "demand_told_manner" = true)
    (k_demand_told_manner : PySem.W.keepIn K (.ref f_demand_told_manner) = true)
    (a_leads_by : PySem.W.nsIn K mainGlobals "leads_by" = some (some (.ref f_leads_by)))
    (l_leads_by : K.lookup f_leads_by = some ⟨oc_leads_by, od_leads_by, .func (PySem.W.fnOf "leads_by" "leads_by" (defArgs (topS 31)) (defBody (topS 31)) (defScope (topS 31)) .none kV_leads_by dc_leads_by pm_leads_by an_leads_by cd_leads_by ct_leads_by), sl_leads_by⟩)
    (c_leads_by : PySem.W.codeIn K cd_leads_by "leads_by" = true)
    (k_leads_by : PySem.W.keepIn K (.ref f_leads_by) = true)
    (a_law_behind : PySem.W.nsIn K mainGlobals "_law_behind" = some (some (.ref f_law_behind)))
    (l_law_behind : K.lookup f_law_behind = some ⟨oc_law_behind, od_law_behind, .func (PySem.W.fnOf "_law_behind" "_law_behind" (defArgs (topS 39)) (defBody (topS 39)) (defScope (topS 39)) .none kV_law_behind dc_law_behind pm_law_behind an_law_behind cd_law_behind ct_law_behind), sl_law_behind⟩)
    (c_law_behind : PySem.W.codeIn K cd_law_behind "_law_behind" = true)
    (k_law_behind : PySem.W.keepIn K (.ref f_law_behind) = true)
    (a_closed_rows : PySem.W.nsIn K mainGlobals "closed_rows" = some (some (.ref f_closed_rows)))
    (l_closed_rows : K.lookup f_closed_rows = some ⟨oc_closed_rows, od_closed_rows, .func (PySem.W.fnOf "closed_rows" "closed_rows" (defArgs (topS 32)) (defBody (topS 32)) (defScope (topS 32)) .none kV_closed_rows dc_closed_rows pm_closed_rows an_closed_rows cd_closed_rows ct_closed_rows), sl_closed_rows⟩)
    (c_closed_rows : PySem.W.codeIn K cd_closed_rows "closed_rows" = true)
    (k_closed_rows : PySem.W.keepIn K (.ref f_closed_rows) = true)
    (a_unlike_rows : PySem.W.nsIn K mainGlobals "unlike_rows" = some (some (.ref f_unlike_rows)))
    (l_unlike_rows : K.lookup f_unlike_rows = some ⟨oc_unlike_rows, od_unlike_rows, .func (PySem.W.fnOf "unlike_rows" "unlike_rows" (defArgs (topS 30)) (defBody (topS 30)) (defScope (topS 30)) .none kV_unlike_rows dc_unlike_rows pm_unlike_rows an_unlike_rows cd_unlike_rows ct_unlike_rows), sl_unlike_rows⟩)
    (c_unlike_rows : PySem.W.codeIn K cd_unlike_rows "unlike_rows" = true)
    (k_unlike_rows : PySem.W.keepIn K (.ref f_unlike_rows) = true)
    (a_closed : PySem.W.nsIn K mainGlobals "closed" = some (some (.ref f_closed)))
    (l_closed : K.lookup f_closed = some ⟨oc_closed, od_closed, .func (PySem.W.fnOf "closed" "closed" (defArgs (topS 33)) (defBody (topS 33)) (defScope (topS 33)) .none kV_closed dc_closed pm_closed an_closed cd_closed ct_closed), sl_closed⟩)
    (c_closed : PySem.W.codeIn K cd_closed "closed" = true)
    (k_closed : PySem.W.keepIn K (.ref f_closed) = true)
    (a_law_pen : PySem.W.nsIn K mainGlobals "_law_pen" = some (some (.ref f_law_pen)))
    (l_law_pen : K.lookup f_law_pen = some ⟨oc_law_pen, od_law_pen, .func (PySem.W.fnOf "_law_pen" "_law_pen" (defArgs (topS 35)) (defBody (topS 35)) (defScope (topS 35)) .none kV_law_pen dc_law_pen pm_law_pen an_law_pen cd_law_pen ct_law_pen), sl_law_pen⟩)
    (c_law_pen : PySem.W.codeIn K cd_law_pen "_law_pen" = true)
    (k_law_pen : PySem.W.keepIn K (.ref f_law_pen) = true)
    (a_law_draw : PySem.W.nsIn K mainGlobals "_law_draw" = some (some (.ref f_law_draw)))
    (l_law_draw : K.lookup f_law_draw = some ⟨oc_law_draw, od_law_draw, .func (PySem.W.fnOf "_law_draw" "_law_draw" (defArgs (topS 36)) (defBody (topS 36)) (defScope (topS 36)) .none kV_law_draw dc_law_draw pm_law_draw an_law_draw cd_law_draw ct_law_draw), sl_law_draw⟩)
    (c_law_draw : PySem.W.codeIn K cd_law_draw "_law_draw" = true)
    (k_law_draw : PySem.W.keepIn K (.ref f_law_draw) = true)
    (a_law_pick : PySem.W.nsIn K mainGlobals "_law_pick" = some (some (.ref f_law_pick)))
    (l_law_pick : K.lookup f_law_pick = some ⟨oc_law_pick, od_law_pick, .func (PySem.W.fnOf "_law_pick" "_law_pick" (defArgs (topS 37)) (defBody (topS 37)) (defScope (topS 37)) .none kV_law_pick dc_law_pick pm_law_pick an_law_pick cd_law_pick ct_law_pick), sl_law_pick⟩)
    (c_law_pick : PySem.W.codeIn K cd_law_pick "_law_pick" = true)
    (k_law_pick : PySem.W.keepIn K (.ref f_law_pick) = true)
    (a_law_row : PySem.W.nsIn K mainGlobals "_law_row" = some (some (.ref f_law_row)))
    (l_law_row : K.lookup f_law_row = some ⟨oc_law_row, od_law_row, .func (PySem.W.fnOf "_law_row" "_law_row" (defArgs (topS 38)) (defBody (topS 38)) (defScope (topS 38)) .none kV_law_row dc_law_row pm_law_row an_law_row cd_law_row ct_law_row), sl_law_row⟩)
    (c_law_row : PySem.W.codeIn K cd_law_row "_law_row" = true)
    (k_law_row : PySem.W.keepIn K (.ref f_law_row) = true)
    (a_law_closed : PySem.W.nsIn K mainGlobals "_law_closed" = some (some (.ref f_law_closed)))
    (l_law_closed : K.lookup f_law_closed = some ⟨oc_law_closed, od_law_closed, .func (PySem.W.fnOf "_law_closed" "_law_closed" (defArgs (topS 40)) (defBody (topS 40)) (defScope (topS 40)) .none kV_law_closed dc_law_closed pm_law_closed an_law_closed cd_law_closed ct_law_closed), sl_law_closed⟩)
    (c_law_closed : PySem.W.codeIn K cd_law_closed "_law_closed" = true)
    (k_law_closed : PySem.W.keepIn K (.ref f_law_closed) = true)
    (a_law_heard : PySem.W.nsIn K mainGlobals "_law_heard" = some (some (.ref f_law_heard)))
    (l_law_heard : K.lookup f_law_heard = some ⟨oc_law_heard, od_law_heard, .func (PySem.W.fnOf "_law_heard" "_law_heard" (defArgs (topS 41)) (defBody (topS 41)) (defScope (topS 41)) .none kV_law_heard dc_law_heard pm_law_heard an_law_heard cd_law_heard ct_law_heard), sl_law_heard⟩)
    (c_law_heard : PySem.W.codeIn K cd_law_heard "_law_heard" = true)
    (k_law_heard : PySem.W.keepIn K (.ref f_law_heard) = true)
    (a_Lead___eq__ : PySem.W.findIn K (.ref C_Lead) "__eq__" = some (some (.ref f_Lead___eq__)))
    (i_Lead___eq__ : PySem.W.isFn K (.ref f_Lead___eq__) = true)
    (l_Lead___eq__ : K.lookup f_Lead___eq__ = some ⟨oc_Lead___eq__, od_Lead___eq__, .func (PySem.W.fnOf "__eq__" "Lead.__eq__" (defArgs (inClass (topS 23) 1)) (defBody (inClass (topS 23) 1)) (defScope (inClass (topS 23) 1)) .none kV_Lead___eq__ dc_Lead___eq__ pm_Lead___eq__ an_Lead___eq__ cd_Lead___eq__ ct_Lead___eq__), sl_Lead___eq__⟩)
    (c_Lead___eq__ : PySem.W.codeIn K cd_Lead___eq__ "Lead.__eq__" = true)
    (k_Lead___eq__ : PySem.W.keepIn K (.ref f_Lead___eq__) = true)
    (a_idle : PySem.W.nsIn K mainGlobals "idle" = some (some (.ref f_idle)))
    (l_idle : K.lookup f_idle = some ⟨oc_idle, od_idle, .func (PySem.W.fnOf "idle" "idle" (defArgs (topS 24)) (defBody (topS 24)) (defScope (topS 24)) .none kV_idle dc_idle pm_idle an_idle cd_idle ct_idle), sl_idle⟩)
    (c_idle : PySem.W.codeIn K cd_idle "idle" = true)
    (k_idle : PySem.W.keepIn K (.ref f_idle) = true)
    (a_law_closed_right : PySem.W.nsIn K mainGlobals "_law_closed_right" = some (some (.ref f_law_closed_right)))
    (l_law_closed_right : K.lookup f_law_closed_right = some ⟨oc_law_closed_right, od_law_closed_right, .func (PySem.W.fnOf "_law_closed_right" "_law_closed_right" (defArgs (topS 42)) (defBody (topS 42)) (defScope (topS 42)) .none kV_law_closed_right dc_law_closed_right pm_law_closed_right an_law_closed_right cd_law_closed_right ct_law_closed_right), sl_law_closed_right⟩)
    (c_law_closed_right : PySem.W.codeIn K cd_law_closed_right "_law_closed_right" = true)
    (k_law_closed_right : PySem.W.keepIn K (.ref f_law_closed_right) = true)
    (a_BadLead___init__ : PySem.W.findIn K (.ref C_BadLead) "__init__" = some (some (.ref f_BadLead___init__)))
    (i_BadLead___init__ : PySem.W.isFn K (.ref f_BadLead___init__) = true)
    (l_BadLead___init__ : K.lookup f_BadLead___init__ = some ⟨oc_BadLead___init__, od_BadLead___init__, .func (PySem.W.fnOf "__init__" "BadLead.__init__" (defArgs (inClass (topS 4) 0)) (defBody (inClass (topS 4) 0)) (defScope (inClass (topS 4) 0)) .none kV_BadLead___init__ dc_BadLead___init__ pm_BadLead___init__ an_BadLead___init__ cd_BadLead___init__ ct_BadLead___init__), sl_BadLead___init__⟩)
    (c_BadLead___init__ : PySem.W.codeIn K cd_BadLead___init__ "BadLead.__init__" = true)
    (k_BadLead___init__ : PySem.W.keepIn K (.ref f_BadLead___init__) = true)
    (a_Misfit___init__ : PySem.W.findIn K (.ref C_Misfit) "__init__" = some (some (.ref f_Misfit___init__)))
    (i_Misfit___init__ : PySem.W.isFn K (.ref f_Misfit___init__) = true)
    (l_Misfit___init__ : K.lookup f_Misfit___init__ = some ⟨oc_Misfit___init__, od_Misfit___init__, .func (PySem.W.fnOf "__init__" "Misfit.__init__" (defArgs (inClass (topS 5) 0)) (defBody (inClass (topS 5) 0)) (defScope (inClass (topS 5) 0)) .none kV_Misfit___init__ dc_Misfit___init__ pm_Misfit___init__ an_Misfit___init__ cd_Misfit___init__ ct_Misfit___init__), sl_Misfit___init__⟩)
    (c_Misfit___init__ : PySem.W.codeIn K cd_Misfit___init__ "Misfit.__init__" = true)
    (k_Misfit___init__ : PySem.W.keepIn K (.ref f_Misfit___init__) = true)
    (v_MOST_THINGS : PySem.W.nsIn K mainGlobals "MOST_THINGS" = some (some (.int 5 t_MOST_THINGS)))
    (z_len : PySem.W.nsIn K mainGlobals "len" = some none)
    (z_all : PySem.W.nsIn K mainGlobals "all" = some none)
    (z_any : PySem.W.nsIn K mainGlobals "any" = some none)
    (z_isinstance : PySem.W.nsIn K mainGlobals "isinstance" = some none)
    (z_int : PySem.W.nsIn K mainGlobals "int" = some none)
    (z_bool : PySem.W.nsIn K mainGlobals "bool" = some none)
    (z_list : PySem.W.nsIn K mainGlobals "list" = some none)
    (z_tuple : PySem.W.nsIn K mainGlobals "tuple" = some none)
    (z_str : PySem.W.nsIn K mainGlobals "str" = some none)
    (z_range : PySem.W.nsIn K mainGlobals "range" = some none)
    (z_zip : PySem.W.nsIn K mainGlobals "zip" = some none)
    (z_sorted : PySem.W.nsIn K mainGlobals "sorted" = some none)
    (z_type : PySem.W.nsIn K mainGlobals "type" = some none)
    (z_max : PySem.W.nsIn K mainGlobals "max" = some none)
    (z_min : PySem.W.nsIn K mainGlobals "min" = some none)
    (z_abs : PySem.W.nsIn K mainGlobals "abs" = some none)
    (z_repr : PySem.W.nsIn K mainGlobals "repr" = some none)
    (z_set : PySem.W.nsIn K mainGlobals "set" = some none)
    (z_enumerate : PySem.W.nsIn K mainGlobals "enumerate" = some none)
    (z_dict : PySem.W.nsIn K mainGlobals "dict" = some none)
    (z_sum : PySem.W.nsIn K mainGlobals "sum" = some none)
    (aM_TW : PySem.W.nsIn K mainGlobals "TOLD_WORLDS" = some (some (.ref a_TW)))
    (g_TW : Pg.tupsIB K a_TW [2, 3] = true)
    (x_gn : PySem.W.specialIn K (.builtin "object.__class__") "__get__" = some (some (.builtin "getset_descriptor.__get__")))
    (x_tk : PySem.W.takesIn K (.builtin "object.__class__") = some true)
    (x_ca_Lead : PySem.W.findIn K (.ref C_Lead) "__class__" = some (some (.builtin "object.__class__")))
    (x_mr_Lead : PySem.W.mroIn K C_Lead (.type "object") = some true)
    (x_no : PySem.W.kitAny K (.ref C_Lead) [.type "list", .type "tuple"] = some false)
    (x_k1 : PySem.W.kitOne K (.ref C_Lead) (.ref C_Lead) = some true)
    (aC_BadLead : PySem.W.nsIn K mainGlobals "BadLead" = some (some (.ref C_BadLead)))
    (aC_Misfit : PySem.W.nsIn K mainGlobals "Misfit" = some (some (.ref C_Misfit)))
    (x_eB_BadLead : Pg.excB K C_BadLead = true)
    (x_sa_BadLead : PySem.W.findIn K (.ref C_BadLead) "__setattr__" = some (some (.builtin "object.__setattr__")))
    (x_ex_BadLead : PySem.W.subIn K (.ref C_BadLead) (.type "BaseException") = some true)
    (x_ty_BadLead : PySem.W.typeIn K (.ref C_BadLead) = some (.type "type"))
    (x_k_BadLead : PySem.W.keepIn K (.ref C_BadLead) = true)
    (x_part_BadLead : PySem.W.findIn K (.ref C_BadLead) "part" = some none)
    (x_hd_BadLead : PySem.W.hasDictIn K C_BadLead = true)
    (x_ci_BadLead : (PySem.W.clsIn K C_BadLead).isSome = true)
    (x_ga_BadLead : PySem.W.findIn K (.ref C_BadLead) "__getattribute__" = some (some (.builtin "BaseException.__getattribute__")))
    (x_gg_BadLead : PySem.W.findIn K (.ref C_BadLead) "__getattr__" = some none)
    (x_ca_BadLead : PySem.W.findIn K (.ref C_BadLead) "__class__" = some (some (.builtin "object.__class__")))
    (x_mr_BadLead : PySem.W.mroIn K C_BadLead (.type "object") = some true)
    (x_tf_BadLead : PySem.W.typeIn K (.ref f_BadLead___init__) = some (.type "function"))
    (x_eB_Misfit : Pg.excB K C_Misfit = true)
    (x_sa_Misfit : PySem.W.findIn K (.ref C_Misfit) "__setattr__" = some (some (.builtin "object.__setattr__")))
    (x_ex_Misfit : PySem.W.subIn K (.ref C_Misfit) (.type "BaseException") = some true)
    (x_ty_Misfit : PySem.W.typeIn K (.ref C_Misfit) = some (.type "type"))
    (x_k_Misfit : PySem.W.keepIn K (.ref C_Misfit) = true)
    (x_part_Misfit : PySem.W.findIn K (.ref C_Misfit) "part" = some none)
    (x_hd_Misfit : PySem.W.hasDictIn K C_Misfit = true)
    (x_ci_Misfit : (PySem.W.clsIn K C_Misfit).isSome = true)
    (x_ga_Misfit : PySem.W.findIn K (.ref C_Misfit) "__getattribute__" = some (some (.builtin "BaseException.__getattribute__")))
    (x_gg_Misfit : PySem.W.findIn K (.ref C_Misfit) "__getattr__" = some none)
    (x_ca_Misfit : PySem.W.findIn K (.ref C_Misfit) "__class__" = some (some (.builtin "object.__class__")))
    (x_mr_Misfit : PySem.W.mroIn K C_Misfit (.type "object") = some true)
    (x_tf_Misfit : PySem.W.typeIn K (.ref f_Misfit___init__) = some (.type "function"))
    (x_f44 : PySem.W.exmOne K (.ref C_BadLead) (.ref C_BadLead) = some true)
    (x_f54 : PySem.W.exmOne K (.ref C_Misfit) (.ref C_BadLead) = some false)
    (x_f55 : PySem.W.exmOne K (.ref C_Misfit) (.ref C_Misfit) = some true)
    (tb_law : Pg.tabB K cd_law Pt_law = true)
    (r_tab : ((PyProof.Rows.recsOf q).find? (fun e => e.name == ("law" : Str))).isSome = true) :
    ∃ cs : List (Str × Addr × Addr), (∀ x ∈ cs, ((PyProof.Rows.recsOf q).find? (fun e => e.name == x.1)).isSome = true ∧ PySem.W.tabIn K x.1 = some x.2 ∧ K.lookup x.2.2 = none) ∧ LawOkT l.prog w K mg fa a ns s (cs.map (·.2)) := by
  cases hfa.symm.trans (PySem.W.mg_of X Gh a_law)
  have F_law := fun_mk (st := (topS 43)) l_law c_law k_law
  have FC_law : FunC K "law" "law" (topS 43) _ _ cd_law := ⟨⟨_, _, _, _, _, _, _, _, rfl, l_law, c_law⟩, k_law⟩
  have b_law := F_law.binds (ps := ["script"]) fun _ _ _ _ _ _ us hl => match us, hl with | [_], _ => rfl
  have F_is_integer := fun_mk (st := (topS 10)) l_is_integer c_is_integer k_is_integer
  have b_is_integer := F_is_integer.binds (ps := ["value"]) fun _ _ _ _ _ _ us hl => match us, hl with | [_], _ => rfl
  have F_are_numbers := fun_mk (st := (topS 12)) l_are_numbers c_are_numbers k_are_numbers
  have b_are_numbers := F_are_numbers.binds (ps := ["value"]) fun _ _ _ _ _ _ us hl => match us, hl with | [_], _ => rfl
  have F_is_within := fun_mk (st := (topS 11)) l_is_within c_is_within k_is_within
  have b_is_within := F_is_within.binds (ps := ["value", "least", "most"]) fun _ _ _ _ _ _ us hl => match us, hl with | [_, _, _], _ => rfl
  have F_demand_number := fun_mk (st := (topS 15)) l_demand_number c_demand_number k_demand_number
  have b_demand_number := F_demand_number.binds (ps := ["value", "least", "most", "part"]) fun _ _ _ _ _ _ us hl => match us, hl with | [_, _, _, _], _ => rfl
  have F_demand_world := fun_mk (st := (topS 16)) l_demand_world c_demand_world k_demand_world
  have b_demand_world := F_demand_world.binds (ps := ["things", "part"]) fun _ _ _ _ _ _ us hl => match us, hl with | [_, _], _ => rfl
  have F_demand_numbers := fun_mk (st := (topS 17)) l_demand_numbers c_demand_numbers k_demand_numbers
  have b_demand_numbers := F_demand_numbers.binds (ps := ["values", "part"]) fun _ _ _ _ _ _ us hl => match us, hl with | [_, _], _ => rfl
  have F_demand_things := fun_mk (st := (topS 18)) l_demand_things c_demand_things k_demand_things
  have b_demand_things := F_demand_things.binds (ps := ["values", "things"]) fun _ _ _ _ _ _ us hl => match us, hl with | [_, _], _ => rfl
  have F_Lead___init__ := fun_mk (st := (inClass (topS 23) 0)) l_Lead___init__ c_Lead___init__ k_Lead___init__
  have b_Lead___init__ := F_Lead___init__.binds (ps := ["self", "into", "row"]) fun _ _ _ _ _ _ us hl => match us, hl with | [_, _, _], _ => rfl
  have F_demand_leads := fun_mk (st := (topS 27)) l_demand_leads c_demand_leads k_demand_leads
  have b_demand_leads := F_demand_leads.binds (ps := ["value", "part"]) fun _ _ _ _ _ _ us hl => match us, hl with | [_, _], _ => rfl
  have F_demand_one_world := fun_mk (st := (topS 28)) l_demand_one_world c_demand_one_world k_demand_one_world
  have b_demand_one_world := F_demand_one_world.binds (ps := ["leads"]) fun _ _ _ _ _ _ us hl => match us, hl with | [_], _ => rfl
  have F_demand_told_manner := fun_mk (st := (topS 29)) l_demand_told_manner c_demand_told_manner k_demand_told_manner
  have b_demand_told_manner := F_demand_told_manner.binds (ps := ["leads"]) fun _ _ _ _ _ _ us hl => match us, hl with | [_], _ => rfl
  have F_leads_by := fun_mk (st := (topS 31)) l_leads_by c_leads_by k_leads_by
  have b_leads_by := F_leads_by.binds (ps := ["rows", "things"]) fun _ _ _ _ _ _ us hl => match us, hl with | [_, _], _ => rfl
  have F_law_behind := fun_mk (st := (topS 39)) l_law_behind c_law_behind k_law_behind
  have b_law_behind := F_law_behind.binds (ps := ["row", "later"]) fun _ _ _ _ _ _ us hl => match us, hl with | [_, _], _ => rfl
  have F_closed_rows := fun_mk (st := (topS 32)) l_closed_rows c_closed_rows k_closed_rows
  have b_closed_rows := F_closed_rows.binds (ps := ["rows", "things"]) fun _ _ _ _ _ _ us hl => match us, hl with | [_, _], _ => rfl
  have F_unlike_rows := fun_mk (st := (topS 30)) l_unlike_rows c_unlike_rows k_unlike_rows
  have b_unlike_rows := F_unlike_rows.binds (ps := ["leads"]) fun _ _ _ _ _ _ us hl => match us, hl with | [_], _ => rfl
  have F_closed := fun_mk (st := (topS 33)) l_closed c_closed k_closed
  have b_closed := F_closed.binds (ps := ["leads"]) fun _ _ _ _ _ _ us hl => match us, hl with | [_], _ => rfl
  have F_law_pen := fun_mk (st := (topS 35)) l_law_pen c_law_pen k_law_pen
  have b_law_pen := F_law_pen.binds (ps := ["script"]) fun _ _ _ _ _ _ us hl => match us, hl with | [_], _ => rfl
  have F_law_draw := fun_mk (st := (topS 36)) l_law_draw c_law_draw k_law_draw
  have b_law_draw := F_law_draw.binds (ps := ["pen", "many"]) fun _ _ _ _ _ _ us hl => match us, hl with | [_, _], _ => rfl
  have F_law_pick := fun_mk (st := (topS 37)) l_law_pick c_law_pick k_law_pick
  have b_law_pick := F_law_pick.binds (ps := ["pen", "some"]) fun _ _ _ _ _ _ us hl => match us, hl with | [_, _], _ => rfl
  have F_law_row := fun_mk (st := (topS 38)) l_law_row c_law_row k_law_row
  have b_law_row := F_law_row.binds (ps := ["pen", "things"]) fun _ _ _ _ _ _ us hl => match us, hl with | [_, _], _ => rfl
  have F_law_closed := fun_mk (st := (topS 40)) l_law_closed c_law_closed k_law_closed
  have b_law_closed := F_law_closed.binds (ps := ["rows", "things"]) fun _ _ _ _ _ _ us hl => match us, hl with | [_, _], _ => rfl
  have F_law_heard := fun_mk (st := (topS 41)) l_law_heard c_law_heard k_law_heard
  have b_law_heard := F_law_heard.binds (ps := ["ask"]) fun _ _ _ _ _ _ us hl => match us, hl with | [_], _ => rfl
  have F_Lead___eq__ := fun_mk (st := (inClass (topS 23) 1)) l_Lead___eq__ c_Lead___eq__ k_Lead___eq__
  have b_Lead___eq__ := F_Lead___eq__.binds (ps := ["self", "other"]) fun _ _ _ _ _ _ us hl => match us, hl with | [_, _], _ => rfl
  have F_idle := fun_mk (st := (topS 24)) l_idle c_idle k_idle
  have b_idle := F_idle.binds (ps := ["things"]) fun _ _ _ _ _ _ us hl => match us, hl with | [_], _ => rfl
  have F_law_closed_right := fun_mk (st := (topS 42)) l_law_closed_right c_law_closed_right k_law_closed_right
  have b_law_closed_right := F_law_closed_right.binds (ps := ["pen"]) fun _ _ _ _ _ _ us hl => match us, hl with | [_], _ => rfl
  have F_BadLead___init__ := fun_mk (st := (inClass (topS 4) 0)) l_BadLead___init__ c_BadLead___init__ k_BadLead___init__
  have b_BadLead___init__ := F_BadLead___init__.binds (ps := ["self", "part"]) fun _ _ _ _ _ _ us hl => match us, hl with | [_, _], _ => rfl
  have F_Misfit___init__ := fun_mk (st := (inClass (topS 5) 0)) l_Misfit___init__ c_Misfit___init__ k_Misfit___init__
  have b_Misfit___init__ := F_Misfit___init__.binds (ps := ["self", "part"]) fun _ _ _ _ _ _ us hl => match us, hl with | [_, _], _ => rfl
  have bn : Bn mg := ⟨PySem.W.mg_none_of X Gh z_len, PySem.W.mg_none_of X Gh z_all, PySem.W.mg_none_of X Gh z_any, PySem.W.mg_none_of X Gh z_isinstance, PySem.W.mg_none_of X Gh z_int, PySem.W.mg_none_of X Gh z_bool, PySem.W.mg_none_of X Gh z_list, PySem.W.mg_none_of X Gh z_tuple, PySem.W.mg_none_of X Gh z_str, PySem.W.mg_none_of X Gh z_range, PySem.W.mg_none_of X Gh z_zip, PySem.W.mg_none_of X Gh z_sorted, PySem.W.mg_none_of X Gh z_type, PySem.W.mg_none_of X Gh z_max, PySem.W.mg_none_of X Gh z_min, PySem.W.mg_none_of X Gh z_abs, PySem.W.mg_none_of X Gh z_repr, PySem.W.mg_none_of X Gh z_set, PySem.W.mg_none_of X Gh z_enumerate, PySem.W.mg_none_of X Gh z_dict, PySem.W.mg_none_of X Gh z_sum⟩
  have cls_Lead : Cls K C_Lead := ⟨pg_Lead, hd_Lead, po_Lead, sa_Lead⟩
  have cls_Items : Cls K C_Items := ⟨pg_Items, hd_Items, po_Items, sa_Items⟩
  let Gd0 : Option Ur → Gd := fun u => ⟨K, clK C_Lead C_Items C_BadLead C_Misfit, flK, u⟩
  have all : ∀ (u : Option Ur) (base : Heap), Calls (Gd0 u) l.prog w mg base := by
    intro u base
    have fo : Gk (Gd0 u) := ⟨rfl, rfl, rfl, rfl, fld_ok (fun _ => ⟨cls_Lead, n_Lead_begin⟩) (fun h => absurd h (by decide +kernel)) (fun h => absurd h (by decide +kernel)) (fun h => absurd h (by decide +kernel)), fld_ok (fun _ => ⟨cls_Lead, n_Lead_into⟩) (fun h => absurd h (by decide +kernel)) (fun h => absurd h (by decide +kernel)) (fun h => absurd h (by decide +kernel)), fld_ok (fun _ => ⟨cls_Lead, n_Lead_row⟩) (fun h => absurd h (by decide +kernel)) (fun h => absurd h (by decide +kernel)) (fun h => absurd h (by decide +kernel)), fld_ok (fun h => absurd h (by decide +kernel)) (fun _ => ⟨cls_Items, n_Items_words⟩) (fun h => absurd h (by decide +kernel)) (fun h => absurd h (by decide +kernel)), fld_ok (fun h => absurd h (by decide +kernel)) (fun _ => ⟨cls_Items, n_Items_taken⟩) (fun h => absurd h (by decide +kernel)) (fun h => absurd h (by decide +kernel)), flK_nd, flK_sm⟩
    have lf : LfL (Gd0 u) := ⟨⟨cls_Lead, x_ca_Lead, x_gn, x_tk, x_mr_Lead⟩, x_no⟩
    have k11 : PySem.W.kitOne (Gd0 u).K (.ref ((Gd0 u).cl 1)) (.ref ((Gd0 u).cl 1)) = some true := x_k1
    have g_TOLD_WORLDS : GTupI (Gd0 u) mg "TOLD_WORLDS" [2, 3] := ⟨a_TW, PySem.W.mg_of X Gh aM_TW, Pg.tupsIB_ok (small (n := 2) (by decide)) g_TW, small (n := 2) (by decide)⟩
    have T_BadLead : OexC K C_BadLead := ⟨Pg.excB_ok x_eB_BadLead, x_sa_BadLead, x_ex_BadLead, x_ty_BadLead, x_k_BadLead⟩
    have xc_BadLead : XcC K C_BadLead := ⟨x_ci_BadLead, x_ga_BadLead, x_gg_BadLead, x_ex_BadLead, x_ca_BadLead, x_gn, x_tk, x_mr_BadLead⟩
    have X_BadLead : Fx (Gd0 u) l.prog w mg base 1 "BadLead" 4 1 := ⟨_, _, _, ok_BadLead___init__ F_BadLead___init__ T_BadLead x_part_BadLead, T_BadLead, a_BadLead___init__, x_tf_BadLead, b_BadLead___init__, PySem.W.mg_of X Gh aC_BadLead, rfl⟩
    have T_Misfit : OexC K C_Misfit := ⟨Pg.excB_ok x_eB_Misfit, x_sa_Misfit, x_ex_Misfit, x_ty_Misfit, x_k_Misfit⟩
    have xc_Misfit : XcC K C_Misfit := ⟨x_ci_Misfit, x_ga_Misfit, x_gg_Misfit, x_ex_Misfit, x_ca_Misfit, x_gn, x_tk, x_mr_Misfit⟩
    have X_Misfit : Fx (Gd0 u) l.prog w mg base 1 "Misfit" 5 1 := ⟨_, _, _, ok_Misfit___init__ F_Misfit___init__ T_Misfit x_part_Misfit, T_Misfit, a_Misfit___init__, x_tf_Misfit, b_Misfit___init__, PySem.W.mg_of X Gh aC_Misfit, rfl⟩
    have xp : XcP (Gd0 u) := ⟨x_f44, x_f54, x_f55, ⟨xc_BadLead, x_hd_BadLead, x_part_BadLead⟩, ⟨xc_Misfit, x_hd_Misfit, x_part_Misfit⟩⟩
    have A_is_integer := ok_is_integer (G := Gd0 u) (P := l.prog) (w := w) (base := base) F_is_integer bn
    have A_are_numbers := ok_are_numbers (G := Gd0 u) (P := l.prog) (w := w) (base := base) F_are_numbers bn ⟨_, _, A_is_integer, PySem.W.mg_of X Gh a_is_integer, k_is_integer, b_is_integer⟩
    have A_is_within := ok_is_within (G := Gd0 u) (P := l.prog) (w := w) (base := base) F_is_within bn ⟨_, _, A_is_integer, PySem.W.mg_of X Gh a_is_integer, k_is_integer, b_is_integer⟩
    have A_demand_number := ok_demand_number (G := Gd0 u) (P := l.prog) (w := w) (base := base) F_demand_number bn ⟨_, _, A_is_within, PySem.W.mg_of X Gh a_is_within, k_is_within, b_is_within⟩
    have A_demand_world := ok_demand_world (G := Gd0 u) (P := l.prog) (w := w) (base := base) F_demand_world bn ⟨_, _, A_demand_number, PySem.W.mg_of X Gh a_demand_number, k_demand_number, b_demand_number⟩ ⟨_, PySem.W.mg_of X Gh v_MOST_THINGS⟩
    have A_demand_numbers := ok_demand_numbers (G := Gd0 u) (P := l.prog) (w := w) (base := base) F_demand_numbers bn ⟨_, _, A_are_numbers, PySem.W.mg_of X Gh a_are_numbers, k_are_numbers, b_are_numbers⟩
    have A_demand_things := ok_demand_things (G := Gd0 u) (P := l.prog) (w := w) (base := base) F_demand_things bn ⟨_, _, A_is_within, PySem.W.mg_of X Gh a_is_within, k_is_within, b_is_within⟩
    have A_Lead___init__ := ok_Lead___init__ (G := Gd0 u) (P := l.prog) (w := w) (base := base) F_Lead___init__ bn fo ⟨_, _, A_demand_world, PySem.W.mg_of X Gh a_demand_world, k_demand_world, b_demand_world⟩ ⟨_, _, A_demand_things, PySem.W.mg_of X Gh a_demand_things, k_demand_things, b_demand_things⟩ ⟨_, _, A_are_numbers, PySem.W.mg_of X Gh a_are_numbers, k_are_numbers, b_are_numbers⟩ ⟨_, PySem.W.mg_of X Gh v_MOST_THINGS⟩
    have A_demand_leads := ok_demand_leads (G := Gd0 u) (P := l.prog) (w := w) (base := base) F_demand_leads bn lf X_BadLead (PySem.W.mg_of X Gh aC_Lead)
    have A_demand_one_world := ok_demand_one_world (G := Gd0 u) (P := l.prog) (w := w) (base := base) F_demand_one_world bn fo X_Misfit g_TOLD_WORLDS
    have A_demand_told_manner := ok_demand_told_manner (G := Gd0 u) (P := l.prog) (w := w) (base := base) F_demand_told_manner bn ⟨_, _, A_demand_leads, PySem.W.mg_of X Gh a_demand_leads, k_demand_leads, b_demand_leads⟩ ⟨_, _, A_demand_one_world, PySem.W.mg_of X Gh a_demand_one_world, k_demand_one_world, b_demand_one_world⟩
    have A_leads_by := ok_leads_by (G := Gd0 u) (P := l.prog) (w := w) (base := base) F_leads_by bn ⟨_, _, A_Lead___init__, PySem.W.mg_of X Gh aC_Lead, ⟨mk_Lead, a_Lead___init__, i_Lead___init__, kc_Lead⟩, b_Lead___init__, by decide⟩
    have A_law_behind := ok_law_behind (G := Gd0 u) (P := l.prog) (w := w) (base := base) F_law_behind bn
    have A_closed_rows := ok_closed_rows (G := Gd0 u) (P := l.prog) (w := w) (base := base) F_closed_rows bn
    have A_unlike_rows := ok_unlike_rows (G := Gd0 u) (P := l.prog) (w := w) (base := base) F_unlike_rows bn fo
    have A_closed := ok_closed (G := Gd0 u) (P := l.prog) (w := w) (base := base) F_closed bn fo ⟨_, _, A_demand_told_manner, PySem.W.mg_of X Gh a_demand_told_manner, k_demand_told_manner, b_demand_told_manner⟩ ⟨_, _, A_unlike_rows, PySem.W.mg_of X Gh a_unlike_rows, k_unlike_rows, b_unlike_rows⟩ ⟨_, _, A_closed_rows, PySem.W.mg_of X Gh a_closed_rows, k_closed_rows, b_closed_rows⟩ ⟨_, _, A_leads_by, PySem.W.mg_of X Gh a_leads_by, k_leads_by, b_leads_by⟩
    have A_law_draw := ok_law_draw (G := Gd0 u) (P := l.prog) (w := w) (base := base) F_law_draw bn
    have A_law_pick := ok_law_pick (G := Gd0 u) (P := l.prog) (w := w) (base := base) F_law_pick bn ⟨_, _, A_law_draw, PySem.W.mg_of X Gh a_law_draw, k_law_draw, b_law_draw⟩
    have A_law_row := ok_law_row (G := Gd0 u) (P := l.prog) (w := w) (base := base) F_law_row bn ⟨_, _, A_law_draw, PySem.W.mg_of X Gh a_law_draw, k_law_draw, b_law_draw⟩
    have A_law_closed := ok_law_closed (G := Gd0 u) (P := l.prog) (w := w) (base := base) F_law_closed bn ⟨_, _, A_law_behind, PySem.W.mg_of X Gh a_law_behind, k_law_behind, b_law_behind⟩
    have A_law_heard := ok_law_heard (G := Gd0 u) (P := l.prog) (w := w) (base := base) F_law_heard fo xp (PySem.W.mg_of X Gh aC_BadLead) (PySem.W.mg_of X Gh aC_Misfit)
    have A_Lead___eq__ := ok_Lead___eq__ (G := Gd0 u) (P := l.prog) (w := w) (base := base) F_Lead___eq__ bn fo (PySem.W.mg_of X Gh aC_Lead)
    have A_idle := ok_idle (G := Gd0 u) (P := l.prog) (w := w) (base := base) F_idle bn ⟨_, _, A_demand_world, PySem.W.mg_of X Gh a_demand_world, k_demand_world, b_demand_world⟩ ⟨_, _, A_Lead___init__, PySem.W.mg_of X Gh aC_Lead, ⟨mk_Lead, a_Lead___init__, i_Lead___init__, kc_Lead⟩, b_Lead___init__, by decide⟩
    have A_law_closed_right := ok_law_closed_right (G := Gd0 u) (P := l.prog) (w := w) (base := base) F_law_closed_right bn fo lf k11 ⟨_, _, A_law_draw, PySem.W.mg_of X Gh a_law_draw, k_law_draw, b_law_draw⟩ ⟨_, _, A_law_pick, PySem.W.mg_of X Gh a_law_pick, k_law_pick, b_law_pick⟩ ⟨_, _, A_law_row, PySem.W.mg_of X Gh a_law_row, k_law_row, b_law_row⟩ ⟨_, _, A_law_closed, PySem.W.mg_of X Gh a_law_closed, k_law_closed, b_law_closed⟩ ⟨_, _, A_closed, PySem.W.mg_of X Gh a_closed, k_closed, b_closed⟩ ⟨_, _, A_closed, PySem.W.mg_of X Gh a_closed, k_closed, Kk.all (fun us hl => match us, hl with | [_], _ => rfl) (by decide) rfl⟩ ⟨_, _, A_Lead___init__, PySem.W.mg_of X Gh aC_Lead, ⟨mk_Lead, a_Lead___init__, i_Lead___init__, kc_Lead⟩, b_Lead___init__, by decide⟩ (PySem.W.mg_of X Gh aC_Lead) ⟨_, _, _, A_Lead___eq__, a_Lead___eq__, i_Lead___eq__, b_Lead___eq__, rfl, mo_Lead, ne_Lead⟩ ⟨_, _, _, A_Lead___eq__, a_Lead___eq__, i_Lead___eq__, b_Lead___eq__, rfl⟩
    exact ⟨⟨_, _, A_law_closed_right, PySem.W.mg_of X Gh a_law_closed_right, k_law_closed_right, b_law_closed_right⟩, ⟨_, _, A_law_pick, PySem.W.mg_of X Gh a_law_pick, k_law_pick, b_law_pick⟩, ⟨_, _, A_Lead___init__, PySem.W.mg_of X Gh aC_Lead, ⟨mk_Lead, a_Lead___init__, i_Lead___init__, kc_Lead⟩, b_Lead___init__, by decide⟩, ⟨_, _, A_idle, PySem.W.mg_of X Gh a_idle, k_idle, b_idle⟩, ⟨_, _, A_closed, PySem.W.mg_of X Gh a_closed, k_closed, b_closed⟩, ⟨_, _, A_law_heard, PySem.W.mg_of X Gh a_law_heard, k_law_heard, b_law_heard⟩⟩
  obtain ⟨oc_t, od_t, vs_t, sl_t, t_tab, p_tab, n_tab⟩ := Pg.tabB_ok tb_law
  refine ⟨[("law", cd_law, Pt_law)], fun x hx => ?_, ?_⟩
  · rw [List.mem_singleton.mp hx]
    exact ⟨r_tab, Pg.tab_in a_law l_law rfl t_tab p_tab, n_tab⟩
  exact ok_law (G := Gd0 none) (Pt := Pt_law) rfl FC_law (fun s v => .of_eq rfl) bn hlen ⟨rfl, by decide, by decide⟩ (fun p base => all (some (p, _)) base)
    (fun base H rm => ps_set (i := 1) sc_law.nd rfl (by first | exact Or.inl rfl | exact Or.inr rfl) (pe_call (ok_law_pen F_law_pen bn.int) (rm.mono (by decide)) rfl (PySem.W.mg_of X Gh a_law_pen) k_law_pen b_law_pen .nil (xk_def (G := Gd0 none) (E := EF) rm rfl).pass (pa_cons (pe_var (i := 0) rfl (by first | exact Or.inl rfl | exact Or.inr (Or.inl rfl) | exact Or.inr (Or.inr rfl)) (by decide) (by decide)) pa_nil)))
end Pg
set_option Elab.async false
set_option linter.all false
set_option maxRecDepth 100000
set_option maxHeartbeats 4100000
open PySem
open PySem.W
open PySem.Calls PyProof.Rows
open L2 Kn Pg in
set_option
      maxRecDepth 100000 in
set_option maxHeartbeats 0 in
theorem PySem.Challenge.cw_kindtells_k51_leads_closed_one_behind_an_holds : PySem.Challenge.rw_kindtells_k51_leads_closed_one_behind_an.Holds := by
  w_on; o_law
  refine Pg.head_y (r := OpenLaw.row PySem.Challenge.rw_kindtells_k51_leads_closed_one_behind_an) (q := view (OpenLaw.row PySem.Challenge.rw_kindtells_k51_leads_closed_one_behind_an).prog [43]) HX.asL HX.fa HX.fn HX.dc (M := 12000) (loose := HX.names) (d := HandSHeadRun.topDef (OpenLaw.row PySem.Challenge.rw_kindtells_k51_leads_closed_one_behind_an).prog 43) (kwd := []) (by kernel_rfl) (fun s => by kernel_rfl) (PySem.W.byRow2 "special-get-raises" HX.runfalse HX.runtrue) (by kernel_rfl) (by kernel_rfl) (by kernel_rfl) (by rfl) (by first | assumption | decide +kernel) (by decide +kernel) ⟨rfl, rfl, rfl, rfl, rfl, by decide +kernel⟩ ?hw ?hc
  case hw => w_witness2
  case hc =>
    refine Pg.law_rowX (l := PySem.Challenge.rw_kindtells_k51_leads_closed_one_behind_an) (n := 63) rfl (by decide) (by kernel_rfl) ?F
    intro w mg fa a h s ns Y Gh hmg0 hlen
    obtain ⟨K, KX, c⟩ := Y
    have hmg : mg ("law" : PySem.Str)
          = some (.ref fa) := by
      have e : (HandSHeadRun.topDef (OpenLaw.row PySem.Challenge.rw_kindtells_k51_leads_closed_one_behind_an).prog 43).name = ("law" : PySem.Str) := by kernel_rfl
      rw [← e]
      exact hmg0
    have hf : HX.fa K = true := c.facts
    obtain ⟨d0, hf⟩ := Bool.and_eq_true_iff.mp hf
    obtain ⟨aC_Lead, pg_Lead, hd_Lead, po_Lead, sa_Lead, mo_Lead, ne_Lead, mk_Lead, kc_Lead, n_Lead_begin, n_Lead_into, n_Lead_row, aC_Items, pg_Items, hd_Items, po_Items, sa_Items, mk_Items, kc_Items, n_Items_words, n_Items_taken, a_law, k_law, a_is_integer, k_is_integer⟩ : HX.fac0 K := of_decide_eq_true d0
    obtain ⟨d1, hf⟩ := Bool.and_eq_true_iff.mp hf
    obtain ⟨a_are_numbers, k_are_numbers, a_is_within, k_is_within, a_demand_number, k_demand_number, a_demand_world, k_demand_world, a_demand_numbers, k_demand_numbers, a_demand_things, k_demand_things, a_Lead___init__, i_Lead___init__, k_Lead___init__, a_demand_leads, k_demand_leads, a_demand_one_world, k_demand_one_world, a_demand_told_manner, k_demand_told_manner, a_leads_by, k_leads_by, a_law_behind, k_law_behind⟩ : HX.fac1 K := of_decide_eq_true d1
    obtain ⟨d2, hf⟩ := Bool.and_eq_true_iff.mp hf
    obtain ⟨a_closed_rows, k_closed_rows, a_unlike_rows, k_unlike_rows, a_closed, k_closed, a_law_pen, k_law_pen, a_law_draw, k_law_draw, a_law_pick, k_law_pick, a_law_row, k_law_row, a_law_closed, k_law_closed, a_law_heard, k_law_heard, a_Lead___eq__, i_Lead___eq__, k_Lead___eq__, a_idle, k_idle, a_law_closed_right, k_law_closed_right⟩ : HX.fac2 K := of_decide_eq_true d2
    obtain ⟨d3, hf⟩ := Bool.and_eq_true_iff.mp hf
    obtain ⟨a_BadLead___init__, i_BadLead___init__, k_BadLead___init__, a_Misfit___init__, i_Misfit___init__, k_Misfit___init__, v_MOST_THINGS, z_len, z_all, z_any, z_isinstance, z_int, z_bool, z_list, z_tuple, z_str, z_range, z_zip, z_sorted, z_type, z_max, z_min, z_abs, z_repr, z_set⟩ : HX.fac3 K := of_decide_eq_true d3
    obtain ⟨d4, hf⟩ := Bool.and_eq_true_iff.mp hf
    obtain ⟨z_enumerate, z_dict, z_sum, aM_TW, g_TW, x_gn, x_tk, x_ca_Lead, x_mr_Lead, x_no, x_k1, aC_BadLead, aC_Misfit, x_eB_BadLead, x_sa_BadLead, x_ex_BadLead, x_ty_BadLead, x_k_BadLead, x_part_BadLead, x_hd_BadLead, x_ci_BadLead, x_ga_BadLead, x_gg_BadLead, x_ca_BadLead, x_mr_BadLead⟩ : HX.fac4 K := of_decide_eq_true d4
    obtain ⟨d5, hf⟩ := Bool.and_eq_true_iff.mp hf
    obtain ⟨x_tf_BadLead, x_eB_Misfit, x_sa_Misfit, x_ex_Misfit, x_ty_Misfit, x_k_Misfit, x_part_Misfit, x_hd_Misfit, x_ci_Misfit, x_ga_Misfit, x_gg_Misfit, x_ca_Misfit, x_mr_Misfit, x_tf_Misfit, x_f44, x_f54, x_f55, tb_law, cr_law⟩ : HX.fac5 K := of_decide_eq_true d5
    obtain ⟨oc_law, od_law, sl_law, kV_law, dc_law, pm_law, an_law, cd_law, ct_law, l_law, c_law⟩ := c.func 0 (d := ⟨HX.f_law, "law", "law", defArgs (topS 43), defBody (topS 43), defScope (topS 43)⟩) rfl
    have ec_law : cd_law = .ref (Pg.cdOf K (HX.f_law K)) := Pg.cdRef_ok cr_law l_law
    subst ec_law
    obtain ⟨oc_is_integer, od_is_integer, sl_is_integer, kV_is_integer, dc_is_integer, pm_is_integer, an_is_integer, cd_is_integer, ct_is_integer, l_is_integer, c_is_integer⟩ := c.func 1 (d := ⟨HX.f_is_integer, "is_integer", "is_integer", defArgs (topS 10), defBody (topS 10), defScope (topS 10)⟩) rfl
    obtain ⟨oc_are_numbers, od_are_numbers, sl_are_numbers, kV_are_numbers, dc_are_numbers, pm_are_numbers, an_are_numbers, cd_are_numbers, ct_are_numbers, l_are_numbers, c_are_numbers⟩ := c.func 2 (d := ⟨HX.f_are_numbers, "are_numbers", "are_numbers", defArgs (topS 12), defBody (topS 12), defScope (topS 12)⟩) rfl
    obtain ⟨oc_is_within, od_is_within, sl_is_within, kV_is_within, dc_is_within, pm_is_within, an_is_within, cd_is_within, ct_is_within, l_is_within, c_is_within⟩ := c.func 3 (d := ⟨HX.f_is_within, "is_within", "is_within", defArgs (topS 11), defBody (topS 11), defScope (topS 11)⟩) rfl
    obtain ⟨oc_demand_number, od_demand_number, sl_demand_number, kV_demand_number, dc_demand_number, pm_demand_number, an_demand_number, cd_demand_number, ct_demand_number, l_demand_number, c_demand_number⟩ := c.func 4 (d := ⟨HX.f_demand_number, "demand_number", "demand_number", defArgs (topS 15), defBody (topS 15), defScope (topS 15)⟩) rfl
    obtain ⟨oc_demand_world, od_demand_world, sl_demand_world, kV_demand_world, dc_demand_world, pm_demand_world, an_demand_world, cd_demand_world, ct_demand_world, l_demand_world, c_demand_world⟩ := c.func 5 (d := ⟨HX.f_demand_world, "demand_world", "demand_world", defArgs (topS 16), defBody (topS 16), defScope (topS 16)⟩) rfl
    obtain ⟨oc_demand_numbers, od_demand_numbers, sl_demand_numbers, kV_demand_numbers, dc_demand_numbers, pm_demand_numbers, an_demand_numbers, cd_demand_numbers, ct_demand_numbers, l_demand_numbers, c_demand_numbers⟩ := c.func 6 (d := ⟨HX.f_demand_numbers, "demand_numbers", "demand_numbers", defArgs (topS 17), defBody (topS 17), defScope (topS 17)⟩) rfl
    obtain ⟨oc_demand_things, od_demand_things, sl_demand_things, kV_demand_things, dc_demand_things, pm_demand_things, an_demand_things, cd_demand_things, ct_demand_things, l_demand_things, c_demand_things⟩ := c.func 7 (d := ⟨HX.f_demand_things, "demand_things", "demand_things", defArgs (topS 18), defBody (topS 18), defScope (topS 18)⟩) rfl
    obtain ⟨oc_Lead___init__, od_Lead___init__, sl_Lead___init__, kV_Lead___init__, dc_Lead___init__, pm_Lead___init__, an_Lead___init__, cd_Lead___init__, ct_Lead___init__, l_Lead___init__, c_Lead___init__⟩ := c.func 8 (d := ⟨HX.f_Lead___init__, "__init__", "Lead.__init__", defArgs (inClass (topS 23) 0), defBody (inClass (topS 23) 0), defScope (inClass (topS 23) 0)⟩) rfl
    obtain ⟨oc_demand_leads, od_demand_leads, sl_demand_leads, kV_demand_leads, dc_demand_leads, pm_demand_leads, an_demand_leads, cd_demand_leads, ct_demand_leads, l_demand_leads, c_demand_leads⟩ := c.func 9 (d := ⟨HX.f_demand_leads, "demand_leads", "demand_leads", defArgs (topS 27), defBody (topS 27), defScope (topS 27)⟩) rfl
    obtain ⟨oc_demand_one_world, od_demand_one_world, sl_demand_one_world, kV_demand_one_world, dc_demand_one_world, pm_demand_one_world, an_demand_one_world, cd_demand_one_world, ct_demand_one_world, l_demand_one_world, c_demand_one_world⟩ := c.func 10 (d := ⟨HX.f_demand_one_world, "demand_one_world", "demand_one_world", defArgs (topS 28), defBody (topS 28), defScope (topS 28)⟩) rfl
    obtain ⟨oc_demand_told_manner, od_demand_told_manner, sl_demand_told_manner, kV_demand_told_manner, dc_demand_told_manner, pm_demand_told_manner, an_demand_told_manner, cd_demand_told_manner, ct_demand_told_manner, l_demand_told_manner, c_demand_told_manner⟩ := c.func 11 (d := ⟨HX.f_demand_told_manner, "demand_told_manner", "demand_told_manner", defArgs (topS 29), defBody (topS 29), defScope (topS 29)⟩) rfl
    obtain ⟨oc_leads_by, od_leads_by, sl_leads_by, kV_leads_by, dc_leads_by, pm_leads_by, an_leads_by, cd_leads_by, ct_leads_by, l_leads_by, c_leads_by⟩ := c.func 12 (d := ⟨HX.f_leads_by, "leads_by", "leads_by", defArgs (topS 31), defBody (topS 31), defScope (topS 31)⟩) rfl
    obtain ⟨oc_law_behind, od_law_behind, sl_law_behind, kV_law_behind, dc_law_behind, pm_law_behind, an_law_behind, cd_law_behind, ct_law_behind, l_law_behind, c_law_behind⟩ := c.func 13 (d := ⟨HX.f_law_behind, "_law_behind", "_law_behind", defArgs (topS 39), defBody (topS 39), defScope (topS 39)⟩) rfl
    obtain ⟨oc_closed_rows, od_closed_rows, sl_closed_rows, kV_closed_rows, dc_closed_rows, pm_closed_rows, an_closed_rows, cd_closed_rows, ct_closed_rows, l_closed_rows, c_closed_rows⟩ := c.func 14 (d := ⟨HX.f_closed_rows, "closed_rows", "closed_rows", defArgs (topS 32), defBody (topS 32), defScope (topS 32)⟩) rfl
    obtain ⟨oc_unlike_rows, od_unlike_rows, sl_unlike_rows, kV_unlike_rows, dc_unlike_rows, pm_unlike_rows, an_unlike_rows, cd_unlike_rows, ct_unlike_rows, l_unlike_rows, c_unlike_rows⟩ := c.func 15 (d := ⟨HX.f_unlike_rows, "unlike_rows", "unlike_rows", defArgs (topS 30), defBody (topS 30), defScope (topS 30)⟩) rfl
    obtain ⟨oc_closed, od_closed, sl_closed, kV_closed, dc_closed, pm_closed, an_closed, cd_closed, ct_closed, l_closed, c_closed⟩ := c.func 16 (d := ⟨HX.f_closed, "closed", "closed", defArgs (topS 33), defBody (topS 33), defScope (topS 33)⟩) rfl
    obtain ⟨oc_law_pen, od_law_pen, sl_law_pen, kV_law_pen, dc_law_pen, pm_law_pen, an_law_pen, cd_law_pen, ct_law_pen, l_law_pen, c_law_pen⟩ := c.func 17 (d := ⟨HX.f_law_pen, "_law_pen", "_law_pen", defArgs (topS 35), defBody (topS 35), defScope (topS 35)⟩) rfl
    obtain ⟨oc_law_draw, od_law_draw, sl_law_draw, kV_law_draw, dc_law_draw, pm_law_draw, an_law_draw, cd_law_draw, ct_law_draw, l_law_draw, c_law_draw⟩ := c.func 18 (d := ⟨HX.f_law_draw, "_law_draw", "_law_draw", defArgs (topS 36), defBody (topS 36), defScope (topS 36)⟩) rfl
    obtain ⟨oc_law_pick, od_law_pick, sl_law_pick, kV_law_pick, dc_law_pick, pm_law_pick, an_law_pick, cd_law_pick, ct_law_pick, l_law_pick, c_law_pick⟩ := c.func 19 (d := ⟨HX.f_law_pick, "_law_pick", "_law_pick", defArgs (topS 37), defBody (topS 37), defScope (topS 37)⟩) rfl
    obtain ⟨oc_law_row, od_law_row, sl_law_row, kV_law_row, dc_law_row, pm_law_row, an_law_row, cd_law_row, ct_law_row, l_law_row, c_law_row⟩ := c.func 20 (d := ⟨HX.f_law_row, "_law_row", "_law_row", defArgs (topS 38), defBody (topS 38), defScope (topS 38)⟩) rfl
    obtain ⟨oc_law_closed, od_law_closed, sl_law_closed, kV_law_closed, dc_law_closed, pm_law_closed, an_law_closed, cd_law_closed, ct_law_closed, l_law_closed, c_law_closed⟩ := c.func 21 (d := ⟨HX.f_law_closed, "_law_closed", "_law_closed", defArgs (topS 40), defBody (topS 40), defScope (topS 40)⟩) rfl
    obtain ⟨oc_law_heard, od_law_heard, sl_law_heard, kV_law_heard, dc_law_heard, pm_law_heard, an_law_heard, cd_law_heard, ct_law_heard, l_law_heard, c_law_heard⟩ := c.func 22 (d := ⟨HX.f_law_heard, "_law_heard", "_law_heard", defArgs (topS 41), defBody (topS 41), defScope (topS 41)⟩) rfl
    obtain ⟨oc_Lead___eq__, od_Lead___eq__, sl_Lead___eq__, kV_Lead___eq__, dc_Lead___eq__, pm_Lead___eq__, an_Lead___eq__, cd_Lead___eq__, ct_Lead___eq__, l_Lead___eq__, c_Lead___eq__⟩ := c.func 23 (d := ⟨HX.f_Lead___eq__, "__eq__", "Lead.__eq__", defArgs (inClass (topS 23) 1), defBody (inClass (topS 23) 1), defScope (inClass (topS 23) 1)⟩) rfl
    obtain ⟨oc_idle, od_idle, sl_idle, kV_idle, dc_idle, pm_idle, an_idle, cd_idle, ct_idle, l_idle, c_idle⟩ := c.func 24 (d := ⟨HX.f_idle, "idle", "idle", defArgs (topS 24), defBody (topS 24), defScope (topS 24)⟩) rfl
    obtain ⟨oc_law_closed_right, od_law_closed_right, sl_law_closed_right, kV_law_closed_right, dc_law_closed_right, pm_law_closed_right, an_law_closed_right, cd_law_closed_right, ct_law_closed_right, l_law_closed_right, c_law_closed_right⟩ := c.func 25 (d := ⟨HX.f_law_closed_right, "_law_closed_right", "_law_closed_right", defArgs (topS 42), defBody (topS 42), defScope (topS 42)⟩) rfl
    obtain ⟨oc_BadLead___init__, od_BadLead___init__, sl_BadLead___init__, kV_BadLead___init__, dc_BadLead___init__, pm_BadLead___init__, an_BadLead___init__, cd_BadLead___init__, ct_BadLead___init__, l_BadLead___init__, c_BadLead___init__⟩ := c.func 26 (d := ⟨HX.f_BadLead___init__, "__init__", "BadLead.__init__", defArgs (inClass (topS 4) 0), defBody (inClass (topS 4) 0), defScope (inClass (topS 4) 0)⟩) rfl
    obtain ⟨oc_Misfit___init__, od_Misfit___init__, sl_Misfit___init__, kV_Misfit___init__, dc_Misfit___init__, pm_Misfit___init__, an_Misfit___init__, cd_Misfit___init__, ct_Misfit___init__, l_Misfit___init__, c_Misfit___init__⟩ := c.func 27 (d := ⟨HX.f_Misfit___init__, "__init__", "Misfit.__init__", defArgs (inClass (topS 5) 0), defBody (inClass (topS 5) 0), defScope (inClass (topS 5) 0)⟩) rfl
    exact ⟨K, KX, Pg.close (q := view (OpenLaw.row PySem.Challenge.rw_kindtells_k51_leads_closed_one_behind_an).prog [43]) KX Gh hmg hlen aC_Lead pg_Lead hd_Lead po_Lead sa_Lead mo_Lead ne_Lead mk_Lead kc_Lead n_Lead_begin n_Lead_into n_Lead_row aC_Items pg_Items hd_Items po_Items sa_Items mk_Items kc_Items n_Items_words n_Items_taken a_law l_law c_law k_law a_is_integer l_is_integer c_is_integer k_is_integer a_are_numbers l_are_numbers c_are_numbers k_are_numbers a_is_within l_is_within c_is_within k_is_within a_demand_number l_demand_number c_demand_number k_demand_number a_demand_world l_demand_world c_demand_world k_demand_world a_demand_numbers l_demand_numbers c_demand_numbers k_demand_numbers a_demand_things l_demand_things c_demand_things k_demand_things a_Lead___init__ i_Lead___init__ l_Lead___init__ c_Lead___init__ k_Lead___init__ a_demand_leads l_demand_leads c_demand_leads k_demand_leads a_demand_one_world l_demand_one_world c_demand_one_world k_demand_one_world a_demand_told_manner l_demand_told_manner c_demand_told_manner k_demand_told_manner a_leads_by l_leads_by c_leads_by k_leads_by a_law_behind l_law_behind c_law_behind k_law_behind a_closed_rows l_closed_rows c_closed_rows k_closed_rows a_unlike_rows l_unlike_rows c_unlike_rows k_unlike_rows a_closed l_closed c_closed k_closed a_law_pen l_law_pen c_law_pen k_law_pen a_law_draw l_law_draw c_law_draw k_law_draw a_law_pick l_law_pick c_law_pick k_law_pick a_law_row l_law_row c_law_row k_law_row a_law_closed l_law_closed c_law_closed k_law_closed a_law_heard l_law_heard c_law_heard k_law_heard a_Lead___eq__ i_Lead___eq__ l_Lead___eq__ c_Lead___eq__ k_Lead___eq__ a_idle l_idle c_idle k_idle a_law_closed_right l_law_closed_right c_law_closed_right k_law_closed_right a_BadLead___init__ i_BadLead___init__ l_BadLead___init__ c_BadLead___init__ k_BadLead___init__ a_Misfit___init__ i_Misfit___init__ l_Misfit___init__ c_Misfit___init__ k_Misfit___init__ v_MOST_THINGS z_len z_all z_any z_isinstance z_int z_bool z_list z_tuple z_str z_range z_zip z_sorted z_type z_max z_min z_abs z_repr z_set z_enumerate z_dict z_sum aM_TW g_TW x_gn x_tk x_ca_Lead x_mr_Lead x_no x_k1 aC_BadLead aC_Misfit x_eB_BadLead x_sa_BadLead x_ex_BadLead x_ty_BadLead x_k_BadLead x_part_BadLead x_hd_BadLead x_ci_BadLead x_ga_BadLead x_gg_BadLead x_ca_BadLead x_mr_BadLead x_tf_BadLead x_eB_Misfit x_sa_Misfit x_ex_Misfit x_ty_Misfit x_k_Misfit x_part_Misfit x_hd_Misfit x_ci_Misfit x_ga_Misfit x_gg_Misfit x_ca_Misfit x_mr_Misfit x_tf_Misfit x_f44 x_f54 x_f55 tb_law (by kernel_rfl)⟩
