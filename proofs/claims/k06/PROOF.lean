import PyProof.Rows.All
import HandS.Base
import HandS.Head0
import HandS.Head1
import HandS.Head2
import HandS.HeadHook1
import HandS.Words
import KE.RegKTryMore
import KE.RegKIsAll
import Wide.All
import OpenK.AllK
import Wide.FinOn
import HandS.ForMost
import HandS.Exc
import HandS.WordsExc
import HandS.Deep
import HandS.Lambda
import HandS.TupAny
import HandS.SortInts
import HandS.IsInst
import HandS.RaiseMore
import HandS.Zip
import HandS.Wide
import HandS.Style
import HandS.TupMul
import HandS.TupLe
import HandS.SetFor
import PyProof.P3In
import HandS.SlotsOwn
import PyProof.ReprRoads
import HandS.Conv
import PyProof.EqAt
import HandS.OwnEq
import PyProof.SeqRoads2
import HandS.Dict
import HandS.FStr
import HandS.ClsMeth
import KE.KCallOwn
import PyProof.TypeOfCall
import KE.KTypeOf
import HandS.TryOnly
import HandS.SetKeys
import HandS.Strs
import HandS.ExcField
import HandS.ExcIs
import HandS.ExcValue
import KE.KExcIs
import HandS.ExcInit
import KE.KNest
import HandS.EndTab
import HandS.SortKw
import KE.DataMinMax
import HandS.List
import KE.GoesMore
import KE.KDictZip
import HandS.OwnIter
import PyProof.Rows.FinIter
import PyProof.Rows.RegFStrParts
import PyProof.NeKinds
import PyProof.Rows.SetFrom
import HandS.SortRule
import KE.KDictKeyed
import KE.KDictCopyH
import HandS.TupSets
import KE.DataFind
import PyProof.CallFns
import HandS.Star
import PyProof.Rows.Range3
import HandS.Sort
import OpenK.KTop
import HandS.Iter
import HandS.DictComp
import KE.KDictWalk
import KE.KDictSum
import KE.KDictDisplayH
import HandS.SetBool
import KE.KDflt
import PySem.Challenge.RW_kindtells_k06_whole_few_leads_make_all_o
set_option Elab.async false
set_option linter.all false
set_option maxRecDepth 100000
set_option maxHeartbeats 2100000
namespace Pg
open PySem
open PySem.Spec PyProof.Rows L2
/-- a def: where it stands, as the text has it -/
structure FnX where
  at_ : PySem.W.Frag → Addr
  name : Str
  qual : Str
  params : Arguments
  body : List Stmt
  scope : Scope
def FnX.val (d : FnX) : He.FnV := some (d.name, d.qual, d.params,
  .stmts d.body, d.scope, mainGlobals, [], .none, builtinsNs)
def fnObsX (K : PySem.W.Frag) (a : Addr) : He.FnV := match K.lookup a with
  | some ⟨_, _, .func z, _⟩ => some (z.name, z.qualname, z.params, z.body, z.scope,
      z.globals, z.closure, z.defaults, z.builtins)
  | _ => none
def codeOkX (K : PySem.W.Frag) (a : Addr) (q : Str) : Bool := match K.lookup a with
  | some ⟨_, _, .func z, _⟩ => PySem.W.codeIn K z.code q
  | _ => false
theorem fnX_ok {K : PySem.W.Frag} {d : FnX} (e : fnObsX K (d.at_ K) = d.val) (c : codeOkX K (d.at_ K) d.qual = true) :
    ∃ oc od osl kV doc pm an cdv ct, K.lookup (d.at_ K) = some ⟨oc, od, .func (PySem.W.fnOf d.name d.qual d.params d.body d.scope .none kV doc pm an cdv ct), osl⟩ ∧ PySem.W.codeIn K cdv d.qual = true := by
  unfold fnObsX at e; unfold codeOkX at c
  cases q : K.lookup
        (d.at_ K) with
  | none => rw [q] at c; cases c
  | some o =>
    obtain ⟨oc, od, dt, osl⟩ := o
    rw [q] at c e
    cases dt with
    | func z =>
      obtain ⟨n1, n2, n3, n4, n5, n6, n7, n8, n9, n10, n11, n12, n13, n14, n15⟩ := z
      have e2 : (some (n1, n2, n3, n4, n5, n6, n7, n8, n15) : He.FnV) = d.val := e
      unfold FnX.val at e2
      simp only [Option.some.injEq, Prod.mk.injEq] at e2; obtain ⟨h1, h2, h3, h4, h5, h6, h7, h8, h9⟩ := e2
      subst h1; subst h2; subst h3; subst h4; subst h5; subst h6; subst h7; subst h8; subst h9
      exact ⟨oc, od, osl, n9, n10, n11, n12, n13, n14, rfl, c⟩
    | _ => cases c
/-- a dict of the module whose keys are written texts -/
structure DcX where
  at_ : PySem.W.Frag → Addr
  keys : List Str
abbrev DcV : Type := Option (List (Option Str × Int))
def keyOf (v : Value) : Option Str := match v with
  | .str x _ => some x
  | _ => none
def dcObs (K : PySem.W.Frag) (a : Addr) : DcV := match K.lookup a with
  | some ⟨.type c, none, .dict es _, sl⟩ => if c = "dict" ∧ sl.toList.length = 0 then some (es.toList.map fun e => (keyOf e.key, e.hash)) else none
  | _ => none
def DcX.val (d : DcX) (w : World) : DcV := some (d.keys.map fun x => (some x, PyData.keyHash w.params x))
theorem keys_ok {w : World} : ∀ {es : List DictEntry} {ks : List Str}, es.map (fun e => (keyOf e.key, e.hash)) = ks.map (fun x => (some x, PyData.keyHash w.params x)) → PySem.W.KeysLit w.params es
  | [], _, _ => trivial
  | e :: es, [], h => by cases h
  | e :: es, k :: ks, h => by
    simp only [List.map_cons, List.cons.injEq, Prod.mk.injEq] at h
    obtain ⟨⟨h1, h2⟩, h3⟩ := h
    refine ⟨?_, keys_ok h3⟩
    unfold keyOf at h1
    split at h1
    · rename_i x t hx
      cases h1
      exact ⟨_, _, hx, h2⟩
    · cases h1
theorem dcX_ok {K : PySem.W.Frag} {w : World} {d : DcX} (e : dcObs K (d.at_ K) = d.val w) : ∃ es n, K.lookup (d.at_ K) = some ⟨.type "dict", none, .dict es n, #[]⟩ ∧ PySem.W.KeysLit w.params es.toList := by
  unfold dcObs at e
  cases q : K.lookup
        (d.at_ K) with
  | none =>
        rw [q] at e; cases e
  | some o =>
    obtain ⟨oc, od, dt, osl⟩ := o
    rw [q] at e
    cases oc with
    | type c =>
      cases od with
      | some a => cases e
      | none =>
        cases dt with
        | dict es n =>
          dsimp only at e
          split at e
          · rename_i h
            obtain ⟨rfl, h2⟩ := h
            unfold DcX.val at e
            have : osl = #[] := by
              have := List.eq_nil_of_length_eq_zero h2
              exact Array.toList_eq_nil_iff.mp this
            subst this
            exact ⟨es, n, rfl, keys_ok (Option.some.inj e)⟩
          · cases e
        | _ => cases e
    | _ => cases od <;> cases dt <;> cases e
abbrev AlX : Type := Bool × List He.FnV × List DcV
def obsX (fa : PySem.W.Frag → Bool) (fn : List FnX) (dc : List DcX) (K : PySem.W.Frag) : AlX :=
  (fa K && fn.all fun d => codeOkX K (d.at_ K) d.qual, fn.map fun d => fnObsX K (d.at_ K), dc.map fun d => dcObs K (d.at_ K))
def valX (fn : List FnX) (dc : List DcX) (w : World) : AlX := (true, fn.map FnX.val, dc.map fun d => d.val w)
def SaysX (fa : PySem.W.Frag → Bool) (fn : List FnX) (dc : List DcX) (w : World) (K : PySem.W.Frag) : Prop := obsX fa fn dc K = valX fn dc w
def hookX (as : List Addr) (fa : PySem.W.Frag → Bool) (fn : List FnX) (dc : List DcX) : PySem.W.Hook where
  α := AlX
  obs := fun s => obsX fa fn dc (He.frG s.heap.get? as)
  val := valX fn dc
  says := fun w h => ∃ K : PySem.W.Frag, K.In h ∧ SaysX fa fn dc w K
  of := fun _ _ e => ⟨_, He.frG_in, e⟩
  keeps := fun _ _ _ ⟨K, hK, c⟩ k =>
        ⟨K, PySem.W.Frag.In.keeps hK k, c⟩
section
variable {fa : PySem.W.Frag → Bool} {fn : List FnX} {dc : List DcX} {w : World} {K : PySem.W.Frag}
theorem SaysX.facts (c : SaysX fa fn dc w K) : fa K = true := (Bool.and_eq_true_iff.mp (congrArg (fun z : AlX => z.1) c)).1
theorem SaysX.func (c : SaysX fa fn dc w K) (i : Nat) {d : FnX} (h : fn[i]? = some d) :
    ∃ oc od osl kV doc pm an cdv ct, K.lookup (d.at_ K) = some ⟨oc, od, .func (PySem.W.fnOf d.name d.qual d.params d.body d.scope .none kV doc pm an cdv ct), osl⟩ ∧ PySem.W.codeIn K cdv d.qual = true := by
  have c2 := (Bool.and_eq_true_iff.mp (congrArg (fun z : AlX => z.1) c)).2
  have e : fn.map (fun d => fnObsX K (d.at_ K)) = fn.map FnX.val := congrArg (fun z : AlX => z.2.1) c
  have e2 : (fn.map fun d => fnObsX K (d.at_ K))[i]? = (fn.map FnX.val)[i]? := by rw [e]
  rw [List.getElem?_map, List.getElem?_map, h] at e2; exact fnX_ok (Option.some.inj e2) (List.all_eq_true.mp c2 d (List.mem_of_getElem? h))
theorem SaysX.dict (c : SaysX fa fn dc w K) (i : Nat) {d : DcX} (h : dc[i]? = some d) : ∃ es n, K.lookup (d.at_ K) = some ⟨.type "dict", none, .dict es n, #[]⟩ ∧ PySem.W.KeysLit w.params es.toList := by
  have e : dc.map (fun d => dcObs K (d.at_ K)) = dc.map (fun d => d.val w) := congrArg (fun z : AlX => z.2.2) c
  have e2 : (dc.map fun d => dcObs K (d.at_ K))[i]? = (dc.map fun d => d.val w)[i]? := by rw [e]
  rw [List.getElem?_map, List.getElem?_map, h] at e2; exact dcX_ok (Option.some.inj e2)
end
def tkOf (K : PySem.W.Frag) (a : Addr) (x : Str) : Tok := match PySem.W.nsIn K a x with
  | some (some (.int _ t)) => t
  | _ => default
/-- a tuple of texts in the module -/
def strsB : List Value → List Str → Bool
  | [], [] => true
  | .str x _ :: vs, y :: ys => decide (x = y) && strsB vs ys
  | _, _ => false
def tupsB (K : PySem.W.Frag) (a : Addr) (ys : List Str) : Bool := match K.lookup a with
  | some ⟨.type c, _, .seq its _, _⟩ => decide (c = "tuple") && strsB its.toList ys
  | _ => false
def cdOf (K : PySem.W.Frag) (f : Addr) : Addr := match K.lookup f with
  | some ⟨_, _, .func z, _⟩ => (match z.code with
    | .ref a => a
    | _ => 0)
  | _ => 0
def cdRef (K : PySem.W.Frag) (f : Addr) : Bool := match K.lookup f with
  | some ⟨_, _, .func z, _⟩ => (match z.code with
    | .ref _ => true
    | _ => false)
  | _ => false
theorem cdRef_ok {K : PySem.W.Frag} {f : Addr} {oc : Value} {od : Option Addr} {z : FuncData} {sl : Array (Option Value)} (h : cdRef K f = true) (q : K.lookup f = some ⟨oc, od, .func z, sl⟩) : z.code = .ref (cdOf K f) := by
  unfold cdRef at h
  unfold cdOf
  rw [q] at h ⊢
  dsimp only at h ⊢
  cases hc : z.code with
  | ref a => rfl
  | _ => rw [hc] at h; cases h
open PySem.W PySem.Calls in
theorem head_y {r : OpenRow} {q : Program} (as : List Addr) (fa : Frag → Bool) (fn : List FnX) (dc : List DcX) {M : Nat} {loose : List PySem.Str} {d : DefRec} {kwd : List (PySem.Str × PySem.Expr)}
    (e1 : opening r.prog = plainProg r.prog.main.scope.names) (f : ∀ s, fenceModules? r.prog s = some s) (run : ∀ w, HandSHeadRun.RunEq r q (hookX as fa fn dc) (fun s => obsX fa fn dc (He.frG (HandSHeadRun.getT s) as)) M loose w)
    (hdef : defOf q r.name = some (d, kwd)) (hp : r.prog.theDef r.name = some (d.params,
          d.body, d.scope)) (hk : kwWritten? d.params.kwonlyargs d.params.kw_defaults = some kwd)
    (hwr : (!r.writes || r.records.isEmpty) = true) (k1 : r.wellSaid = true) (ok : (chainsOk q && opensWell
          r.prog && (frees r.toRowW && r.within.isEmpty)) = true) (hb : r.prog.bare) (hw : r.toRowW.promised)
    (call : WalkO q loose (XL q []) (hookX as fa fn dc).says r.toRowW d kwd fun f vs => PySem.call f vs) : r.Holds := by
  refine HandSHeadRun.head_any (H := hookX as fa fn dc) (ob := fun s => obsX fa fn dc (He.frG (HandSHeadRun.getT s) as)) (fun s => ?_) e1 f run hdef hp hk hwr k1 ok hb hw call
  show obsX fa fn dc (He.frG (HandSHeadRun.getT s) as) = obsX fa fn dc (He.frG s.abs.heap.get? as)
  rw [show HandSHeadRun.getT s = s.abs.heap.get? from funext (HandSHeadRun.getT_eq s)]
end Pg
set_option Elab.async false
set_option linter.all false
set_option maxRecDepth 100000
set_option maxHeartbeats 4100000
namespace HX
open PySem PySem.W PyProof.Rows L2 Pg
def tS (i : Nat) : Stmt := PySem.Challenge.pw_kindtells_k06_whole_few_leads_make_all_o.main.body.getD i (.Pass ⟨0, 0, 0, 0⟩)
def C_Lead (K : Frag) : Addr := He.ga K "Lead"
def C_Items (K : Frag) : Addr := He.ga K "Items"
def f_law (K : Frag) : Addr := He.ga K "law"
def f_is_integer (K : Frag) : Addr := He.ga K "is_integer"
def f_are_numbers (K : Frag) : Addr := He.ga K "are_numbers"
def f_is_within (K : Frag) : Addr := He.ga K "is_within"
def f_demand_number (K : Frag) : Addr := He.ga K "demand_number"
def f_demand_world (K : Frag) : Addr := He.ga K "demand_world"
def f_demand_numbers (K : Frag) : Addr := He.ga K "demand_numbers"
def f_demand_things (K : Frag) : Addr := He.ga K "demand_things"
def f_Lead___init__ (K : Frag) : Addr := He.ma K (C_Lead K) "__init__"
def f_all_rows (K : Frag) : Addr := He.ga K "all_rows"
def f_never_falls (K : Frag) : Addr := He.ga K "never_falls"
def f_never_rises (K : Frag) : Addr := He.ga K "never_rises"
def f_rises (K : Frag) : Addr := He.ga K "rises"
def f_row_is_of (K : Frag) : Addr := He.ga K "row_is_of"
def f_demand_manner (K : Frag) : Addr := He.ga K "demand_manner"
def f_demand_two (K : Frag) : Addr := He.ga K "demand_two"
def f_put_row (K : Frag) : Addr := He.ga K "put_row"
def f_exchange_row (K : Frag) : Addr := He.ga K "exchange_row"
def f_candidate_rows (K : Frag) : Addr := He.ga K "candidate_rows"
def f_few_rows (K : Frag) : Addr := He.ga K "few_rows"
def f_leads (K : Frag) : Addr := He.ga K "leads"
def f_many_leads (K : Frag) : Addr := He.ga K "many_leads"
def f_few_leads (K : Frag) : Addr := He.ga K "few_leads"
def f_law_pen (K : Frag) : Addr := He.ga K "_law_pen"
def f_law_draw (K : Frag) : Addr := He.ga K "_law_draw"
def f_law_pick (K : Frag) : Addr := He.ga K "_law_pick"
def f_law_is (K : Frag) : Addr := He.ga K "_law_is"
def f_law_few (K : Frag) : Addr := He.ga K "_law_few"
def f_law_closed (K : Frag) : Addr := He.ga K "_law_closed"
def f_law_world_right (K : Frag) : Addr := He.ga K "_law_world_right"
def f_law_less_right (K : Frag) : Addr := He.ga K "_law_less_right"
def t_MOST_THINGS (K : Frag) : Tok := Pg.tkOf K mainGlobals "MOST_THINGS"
def a_MANNERS (K : Frag) : Addr := He.ga K "MANNERS"
def fac0 (K : Frag) : Prop :=
  (PySem.W.nsIn K mainGlobals "Lead" = some (some (.ref (HX.C_Lead K)))) ∧
  (PySem.W.plainGet K (HX.C_Lead K) Str.empty = true) ∧
  (PySem.W.hasDictIn K (HX.C_Lead K) = true) ∧
  (PySem.W.plainOver K (HX.C_Lead K) = true) ∧
  (PySem.W.findIn K (.ref (HX.C_Lead K)) "__setattr__" = some (some (.builtin "object.__setattr__"))) ∧
  (PySem.W.makesIn K (HX.C_Lead K) = true) ∧
  (PySem.W.keepIn K (.ref (HX.C_Lead K)) = true) ∧
  (PySem.W.findIn K (.ref (HX.C_Lead K)) "begin" = some none) ∧
  (PySem.W.findIn K (.ref (HX.C_Lead K)) "into" = some none) ∧
  (PySem.W.findIn K (.ref (HX.C_Lead K)) "row" = some none) ∧
  (PySem.W.nsIn K mainGlobals "Items" = some (some (.ref (HX.C_Items K)))) ∧
  (PySem.W.plainGet K (HX.C_Items K) Str.empty = true) ∧
  (PySem.W.hasDictIn K (HX.C_Items K) = true) ∧
  (PySem.W.plainOver K (HX.C_Items K) = true) ∧
  (PySem.W.findIn K (.ref (HX.C_Items K)) "__setattr__" = some (some (.builtin "object.__setattr__"))) ∧
  (PySem.W.makesIn K (HX.C_Items K) = true) ∧
  (PySem.W.keepIn K (.ref (HX.C_Items K)) = true) ∧
  (PySem.W.findIn K (.ref (HX.C_Items K)) "words" = some none) ∧
  (PySem.W.findIn K (.ref (HX.C_Items K)) "taken" = some none) ∧
  (PySem.W.nsIn K mainGlobals "law" = some (some (.ref (HX.f_law K)))) ∧
  (PySem.W.keepIn K (.ref (HX.f_law K)) = true) ∧
  (PySem.W.nsIn K mainGlobals "is_integer" = some (some (.ref (HX.f_is_integer K)))) ∧
  (PySem.W.keepIn K (.ref (HX.f_is_integer K)) = true) ∧
  (PySem.W.nsIn K mainGlobals "are_numbers" = some (some (.ref (HX.f_are_numbers K)))) ∧
  (PySem.W.keepIn K (.ref (HX.f_are_numbers K)) = true)
instance (K : Frag) : Decidable (fac0 K) := by unfold fac0; infer_instance
def fac1 (K : Frag) : Prop :=
  (PySem.W.nsIn K mainGlobals "is_within" = some (some (.ref (HX.f_is_within K)))) ∧
  (PySem.W.keepIn K (.ref (HX.f_is_within K)) = true) ∧
  (PySem.W.nsIn K mainGlobals "demand_number" = some (some (.ref (HX.f_demand_number K)))) ∧
  (PySem.W.keepIn K (.ref (HX.f_demand_number K)) = true) ∧
  (PySem.W.nsIn K mainGlobals "demand_world" = some (some (.ref (HX.f_demand_world K)))) ∧
  (PySem.W.keepIn K (.ref (HX.f_demand_world K)) = true) ∧
  (PySem.W.nsIn K mainGlobals "demand_numbers" = some (some (.ref (HX.f_demand_numbers K)))) ∧
  (PySem.W.keepIn K (.ref (HX.f_demand_numbers K)) = true) ∧
  (PySem.W.nsIn K mainGlobals "demand_things" = some (some (.ref (HX.f_demand_things K)))) ∧
  (PySem.W.keepIn K (.ref (HX.f_demand_things K)) = true) ∧
  (PySem.W.findIn K (.ref (HX.C_Lead K)) "__init__" = some (some (.ref (HX.f_Lead___init__ K)))) ∧
  (PySem.W.isFn K (.ref (HX.f_Lead___init__ K)) = true) ∧
  (PySem.W.keepIn K (.ref (HX.f_Lead___init__ K)) = true) ∧
  (PySem.W.nsIn K mainGlobals "all_rows" = some (some (.ref (HX.f_all_rows K)))) ∧
  (PySem.W.keepIn K (.ref (HX.f_all_rows K)) = true) ∧
  (PySem.W.nsIn K mainGlobals "never_falls" = some (some (.ref (HX.f_never_falls K)))) ∧
  (PySem.W.keepIn K (.ref (HX.f_never_falls K)) = true) ∧
  (PySem.W.nsIn K mainGlobals "never_rises" = some (some (.ref (HX.f_never_rises K)))) ∧
  (PySem.W.keepIn K (.ref (HX.f_never_rises K)) = true) ∧
  (PySem.W.nsIn K mainGlobals "rises" = some (some (.ref (HX.f_rises K)))) ∧
  (PySem.W.keepIn K (.ref (HX.f_rises K)) = true) ∧
  (PySem.W.nsIn K mainGlobals "row_is_of" = some (some (.ref (HX.f_row_is_of K)))) ∧
  (PySem.W.keepIn K (.ref (HX.f_row_is_of K)) = true) ∧
  (PySem.W.nsIn K mainGlobals "demand_manner" = some (some (.ref (HX.f_demand_manner K)))) ∧
  (PySem.W.keepIn K (.ref (HX.f_demand_manner K)) = true)
instance (K : Frag) : Decidable (fac1 K) := by unfold fac1; infer_instance
def fac2 (K : Frag) : Prop :=
  (PySem.W.nsIn K mainGlobals "demand_two" = some (some (.ref (HX.f_demand_two K)))) ∧
  (PySem.W.keepIn K (.ref (HX.f_demand_two K)) = true) ∧
  (PySem.W.nsIn K mainGlobals "put_row" = some (some (.ref (HX.f_put_row K)))) ∧
  (PySem.W.keepIn K (.ref (HX.f_put_row K)) = true) ∧
  (PySem.W.nsIn K mainGlobals "exchange_row" = some (some (.ref (HX.f_exchange_row K)))) ∧
  (PySem.W.keepIn K (.ref (HX.f_exchange_row K)) = true) ∧
  (PySem.W.nsIn K mainGlobals "candidate_rows" = some (some (.ref (HX.f_candidate_rows K)))) ∧
  (PySem.W.keepIn K (.ref (HX.f_candidate_rows K)) = true) ∧
  (PySem.W.nsIn K mainGlobals "few_rows" = some (some (.ref (HX.f_few_rows K)))) ∧
  (PySem.W.keepIn K (.ref (HX.f_few_rows K)) = true) ∧
  (PySem.W.nsIn K mainGlobals "leads" = some (some (.ref (HX.f_leads K)))) ∧
  (PySem.W.keepIn K (.ref (HX.f_leads K)) = true) ∧
  (PySem.W.nsIn K mainGlobals "many_leads" = some (some (.ref (HX.f_many_leads K)))) ∧
  (PySem.W.keepIn K (.ref (HX.f_many_leads K)) = true) ∧
  (PySem.W.nsIn K mainGlobals "few_leads" = some (some (.ref (HX.f_few_leads K)))) ∧
  (PySem.W.keepIn K (.ref (HX.f_few_leads K)) = true) ∧
  (PySem.W.nsIn K mainGlobals "_law_pen" = some (some (.ref (HX.f_law_pen K)))) ∧
  (PySem.W.keepIn K (.ref (HX.f_law_pen K)) = true) ∧
  (PySem.W.nsIn K mainGlobals "_law_draw" = some (some (.ref (HX.f_law_draw K)))) ∧
  (PySem.W.keepIn K (.ref (HX.f_law_draw K)) = true) ∧
  (PySem.W.nsIn K mainGlobals "_law_pick" = some (some (.ref (HX.f_law_pick K)))) ∧
  (PySem.W.keepIn K (.ref (HX.f_law_pick K)) = true) ∧
  (PySem.W.nsIn K mainGlobals "_law_is" = some (some (.ref (HX.f_law_is K)))) ∧
  (PySem.W.keepIn K (.ref (HX.f_law_is K)) = true) ∧
  (PySem.W.nsIn K mainGlobals "_law_few" = some (some (.ref (HX.f_law_few K))))
instance (K : Frag) : Decidable (fac2 K) := by unfold fac2; infer_instance
def fac3 (K : Frag) : Prop :=
  (PySem.W.keepIn K (.ref (HX.f_law_few K)) = true) ∧
  (PySem.W.nsIn K mainGlobals "_law_closed" = some (some (.ref (HX.f_law_closed K)))) ∧
  (PySem.W.keepIn K (.ref (HX.f_law_closed K)) = true) ∧
  (PySem.W.nsIn K mainGlobals "_law_world_right" = some (some (.ref (HX.f_law_world_right K)))) ∧
  (PySem.W.keepIn K (.ref (HX.f_law_world_right K)) = true) ∧
  (PySem.W.nsIn K mainGlobals "_law_less_right" = some (some (.ref (HX.f_law_less_right K)))) ∧
  (PySem.W.keepIn K (.ref (HX.f_law_less_right K)) = true) ∧
  (PySem.W.nsIn K mainGlobals "MOST_THINGS" = some (some (.int 5 (HX.t_MOST_THINGS K)))) ∧
  (PySem.W.nsIn K mainGlobals "MANNERS" = some (some (.ref (HX.a_MANNERS K)))) ∧
  (Pg.tupsB K (HX.a_MANNERS K) ["blind", "rank", "either", "least", "ends", "one", "two", "alike", "order"] = true) ∧
  (PySem.W.nsIn K mainGlobals "len" = some none) ∧
  (PySem.W.nsIn K mainGlobals "all" = some none) ∧
  (PySem.W.nsIn K mainGlobals "any" = some none) ∧
  (PySem.W.nsIn K mainGlobals "isinstance" = some none) ∧
  (PySem.W.nsIn K mainGlobals "int" = some none) ∧
  (PySem.W.nsIn K mainGlobals "bool" = some none) ∧
  (PySem.W.nsIn K mainGlobals "list" = some none) ∧
  (PySem.W.nsIn K mainGlobals "tuple" = some none) ∧
  (PySem.W.nsIn K mainGlobals "str" = some none) ∧
  (PySem.W.nsIn K mainGlobals "range" = some none) ∧
  (PySem.W.nsIn K mainGlobals "zip" = some none) ∧
  (PySem.W.nsIn K mainGlobals "sorted" = some none) ∧
  (PySem.W.nsIn K mainGlobals "type" = some none) ∧
  (PySem.W.nsIn K mainGlobals "max" = some none) ∧
  (PySem.W.nsIn K mainGlobals "min" = some none)
instance (K : Frag) : Decidable (fac3 K) := by unfold fac3; infer_instance
def fac4 (K : Frag) : Prop :=
  (PySem.W.nsIn K mainGlobals "abs" = some none) ∧
  (PySem.W.nsIn K mainGlobals "repr" = some none) ∧
  (PySem.W.nsIn K mainGlobals "set" = some none) ∧
  (PySem.W.nsIn K mainGlobals "enumerate" = some none) ∧
  (PySem.W.nsIn K mainGlobals "dict" = some none) ∧
  (PySem.W.nsIn K mainGlobals "sum" = some none) ∧
  (Pg.cdRef K (HX.f_law K) = true)
instance (K : Frag) : Decidable (fac4 K) := by unfold fac4; infer_instance
def fa (K : Frag) : Bool := decide (fac0 K) && (decide (fac1 K) && (decide (fac2 K) && (decide (fac3 K) && (decide (fac4 K) && (true)))))
def fn0 : List Pg.FnX := [⟨HX.f_law, "law", "law", defArgs (HX.tS 50), defBody (HX.tS 50), defScope (HX.tS 50)⟩,
  ⟨HX.f_is_integer, "is_integer", "is_integer", defArgs (HX.tS 2), defBody (HX.tS 2), defScope (HX.tS 2)⟩,
  ⟨HX.f_are_numbers, "are_numbers", "are_numbers", defArgs (HX.tS 4), defBody (HX.tS 4), defScope (HX.tS 4)⟩,
  ⟨HX.f_is_within, "is_within", "is_within", defArgs (HX.tS 3), defBody (HX.tS 3), defScope (HX.tS 3)⟩,
  ⟨HX.f_demand_number, "demand_number", "demand_number", defArgs (HX.tS 15), defBody (HX.tS 15), defScope (HX.tS 15)⟩,
  ⟨HX.f_demand_world, "demand_world", "demand_world", defArgs (HX.tS 16), defBody (HX.tS 16), defScope (HX.tS 16)⟩,
  ⟨HX.f_demand_numbers, "demand_numbers", "demand_numbers", defArgs (HX.tS 17), defBody (HX.tS 17), defScope (HX.tS 17)⟩,
  ⟨HX.f_demand_things, "demand_things", "demand_things", defArgs (HX.tS 18), defBody (HX.tS 18), defScope (HX.tS 18)⟩,
  ⟨HX.f_Lead___init__, "__init__", "Lead.__init__", defArgs (inClass (HX.tS 23) 0), defBody (inClass (HX.tS 23) 0), defScope (inClass (HX.tS 23) 0)⟩,
  ⟨HX.f_all_rows, "all_rows", "all_rows", defArgs (HX.tS 25), defBody (HX.tS 25), defScope (HX.tS 25)⟩,
  ⟨HX.f_never_falls, "never_falls", "never_falls", defArgs (HX.tS 30), defBody (HX.tS 30), defScope (HX.tS 30)⟩,
  ⟨HX.f_never_rises, "never_rises", "never_rises", defArgs (HX.tS 31), defBody (HX.tS 31), defScope (HX.tS 31)⟩,
  ⟨HX.f_rises, "rises", "rises", defArgs (HX.tS 32), defBody (HX.tS 32), defScope (HX.tS 32)⟩,
  ⟨HX.f_row_is_of, "row_is_of", "row_is_of", defArgs (HX.tS 33), defBody (HX.tS 33), defScope (HX.tS 33)⟩,
  ⟨HX.f_demand_manner, "demand_manner", "demand_manner", defArgs (HX.tS 28), defBody (HX.tS 28), defScope (HX.tS 28)⟩,
  ⟨HX.f_demand_two, "demand_two", "demand_two", defArgs (HX.tS 29), defBody (HX.tS 29), defScope (HX.tS 29)⟩,
  ⟨HX.f_put_row, "put_row", "put_row", defArgs (HX.tS 36), defBody (HX.tS 36), defScope (HX.tS 36)⟩,
  ⟨HX.f_exchange_row, "exchange_row", "exchange_row", defArgs (HX.tS 37), defBody (HX.tS 37), defScope (HX.tS 37)⟩,
  ⟨HX.f_candidate_rows, "candidate_rows", "candidate_rows", defArgs (HX.tS 38), defBody (HX.tS 38), defScope (HX.tS 38)⟩,
  ⟨HX.f_few_rows, "few_rows", "few_rows", defArgs (HX.tS 39), defBody (HX.tS 39), defScope (HX.tS 39)⟩,
  ⟨HX.f_leads, "leads", "leads", defArgs (HX.tS 34), defBody (HX.tS 34), defScope (HX.tS 34)⟩,
  ⟨HX.f_many_leads, "many_leads", "many_leads", defArgs (HX.tS 35), defBody (HX.tS 35), defScope (HX.tS 35)⟩,
  ⟨HX.f_few_leads, "few_leads", "few_leads", defArgs (HX.tS 40), defBody (HX.tS 40), defScope (HX.tS 40)⟩,
  ⟨HX.f_law_pen, "_law_pen", "_law_pen", defArgs (HX.tS 42), defBody (HX.tS 42), defScope (HX.tS 42)⟩,
  ⟨HX.f_law_draw, "_law_draw", "_law_draw", defArgs (HX.tS 43), defBody (HX.tS 43), defScope (HX.tS 43)⟩]
def fn1 : List Pg.FnX := [⟨HX.f_law_pick, "_law_pick", "_law_pick", defArgs (HX.tS 44), defBody (HX.tS 44), defScope (HX.tS 44)⟩,
  ⟨HX.f_law_is, "_law_is", "_law_is", defArgs (HX.tS 45), defBody (HX.tS 45), defScope (HX.tS 45)⟩,
  ⟨HX.f_law_few, "_law_few", "_law_few", defArgs (HX.tS 46), defBody (HX.tS 46), defScope (HX.tS 46)⟩,
  ⟨HX.f_law_closed, "_law_closed", "_law_closed", defArgs (HX.tS 47), defBody (HX.tS 47), defScope (HX.tS 47)⟩,
  ⟨HX.f_law_world_right, "_law_world_right", "_law_world_right", defArgs (HX.tS 48), defBody (HX.tS 48), defScope (HX.tS 48)⟩,
  ⟨HX.f_law_less_right, "_law_less_right", "_law_less_right", defArgs (HX.tS 49), defBody (HX.tS 49), defScope (HX.tS 49)⟩]
def fn : List Pg.FnX := fn0 ++ (fn1)
def dc : List Pg.DcX := []
def nm0 : List PySem.Str := ["_wall", "is_integer", "is_within", "are_numbers", "TellsError", "BadNumber", "BadManner", "Misfit", "Missing", "NoThing", "BadText", "MOST_THINGS", "demand_number", "demand_world", "demand_numbers", "demand_things", "spaced", "Items", "Lead", "all_rows", "MANNERS", "demand_manner", "demand_two", "never_falls", "never_rises", "rises", "row_is_of", "leads", "many_leads", "put_row"]
def nm1 : List PySem.Str := ["exchange_row", "candidate_rows", "few_rows", "few_leads", "_law_pen", "_law_draw", "_law_pick", "_law_is", "_law_few", "_law_closed", "_law_world_right", "_law_less_right"]
def names : List PySem.Str := nm0 ++ nm1
def as0 : List Addr := [2, 3, 15, 17, 18, 20, 21, 22, 24, 25, 27, 28, 29, 31, 32, 34, 35, 36, 39, 40, 41, 48, 49, 50, 51, 54, 61, 63, 64, 66, 67, 68, 69, 70, 73, 80, 82, 83, 85, 86]
def as1 : List Addr := [87, 88, 89, 92, 99, 101, 102, 104, 105, 106, 107, 108, 111, 118, 120, 121, 123, 124, 125, 126, 127, 130, 137, 139, 140, 142, 143, 144, 145, 146, 149, 156, 158, 159, 161, 162, 163, 164, 165, 168]
def as2 : List Addr := [170, 171, 173, 174, 175, 177, 178, 180, 181, 182, 184, 185, 187, 188, 189, 191, 192, 194, 195, 196, 199, 200, 208, 210, 211, 213, 214, 215, 217, 218, 220, 221, 222, 224, 225, 227, 228, 229, 231, 232]
def as3 : List Addr := [234, 235, 236, 238, 239, 241, 242, 243, 244, 245, 246, 247, 257, 259, 260, 262, 263, 264, 266, 267, 269, 270, 271, 273, 274, 276, 277, 278, 280, 281, 283, 284, 285, 286, 287, 288, 291, 292, 293, 295]
def as4 : List Addr := [296, 298, 299, 300, 301, 302, 303, 304, 307, 310, 311, 312, 313, 315, 316, 318, 319, 320, 322, 323, 325, 326, 327, 330, 331, 332, 335, 336, 337, 340, 341, 342, 344, 345, 347, 348, 349, 352, 353, 354]
def as5 : List Addr := [356, 357, 359, 360, 361, 364, 365, 366, 368, 369, 371, 372, 373, 376, 377, 378, 381, 382, 383, 386, 387, 388, 391, 392, 393, 395, 396, 398, 399, 400, 402, 403, 405, 406, 407, 410, 411, 412, 415, 416]
def as6 : List Addr := [417, 420, 421, 422, 425, 426, 427, 430, 431, 432, 434, 435, 437, 438]
def asL : List Addr := as0 ++ (as1 ++ (as2 ++ (as3 ++ (as4 ++ (as5 ++ (as6))))))
theorem runfalse (w : World) : HandSHeadRun.RunEq (OpenLaw.row PySem.Challenge.rw_kindtells_k06_whole_few_leads_make_all_o) (view (OpenLaw.row PySem.Challenge.rw_kindtells_k06_whole_few_leads_make_all_o).prog [50]) (hookX asL fa fn dc) (fun s => obsX fa fn dc (He.frG (HandSHeadRun.getT s) asL)) 12000 names (w.withFollow "special-get-raises" false) := by
  intro os
  kernel_rfl
theorem runtrue (w : World) : HandSHeadRun.RunEq (OpenLaw.row PySem.Challenge.rw_kindtells_k06_whole_few_leads_make_all_o) (view (OpenLaw.row PySem.Challenge.rw_kindtells_k06_whole_few_leads_make_all_o).prog [50]) (hookX asL fa fn dc) (fun s => obsX fa fn dc (He.frG (HandSHeadRun.getT s) asL)) 12000 names (w.withFollow "special-get-raises" true) := by
  intro os
  kernel_rfl
end HX
set_option Elab.async false
set_option linter.all false
set_option maxRecDepth 100000
set_option maxHeartbeats 2100000
namespace Pg
open PySem
open PySem.Spec PyProof.Rows L2
end Pg
namespace Pg
open PySem
open PySem.Spec PyProof.Rows L2
end Pg
set_option Elab.async false
set_option linter.all false
set_option maxRecDepth 100000
set_option maxHeartbeats 2100000
namespace Pg
open PySem
open PySem.Spec PyProof.Rows L2
end Pg
set_option Elab.async false
set_option linter.all false
set_option maxRecDepth 100000
set_option maxHeartbeats 2100000
namespace Kn
open PySem L2
/-- a value with all that it holds -/
inductive D where
  | non | bl (b : Bool) | int (i : Int) | str (x : Str)
  | lst (ds : List D) | tup (ds : List D)
  | ins (c : Nat) (ds : List D)
  | opq (v : V)
  | urn
  | at_ (a : Addr) (ds : List D)
  | dct (ks : List Str) (ds : List D)
  | tupn (ds : List D)
  | exc (c : Nat) (ds : List D)
  | dic (ks : List Key) (ds : List D)
  | dcT (ks : List (List Int)) (ds : List D)
  | dcf (ks : List Str) (ds : List D)
/-- what may change: the urn's two addresses, the tables of code objects with the name that they tell -/
abbrev Ur := (Addr × Addr) × List (Addr × Str)
/-- what is known of the program: its written part, its classes by number, the fields of each, in order -/
structure Gd where
  K : PySem.W.Frag
  cl : Nat → Addr
  fl : Nat → List Str
  u : Option Ur
/-- the urn's addresses; each table's, twice -/
def Pr (u : Option Ur) (p : Addr × Addr) : Prop := ∃ r, u = some r ∧ (p = r.1 ∨ ∃ t ∈ r.2, p = (t.1, t.1))
theorem Pr.none {p : Addr × Addr} (h : Pr none p) : False := by
  obtain ⟨_, e, _⟩ := h; cases e
/-- none that may change stands at b -/
def NU (u : Option Ur) (b : Addr) : Prop := ∀ p, Pr u p → p.1 ≠ b
theorem NU.none {b : Addr} : NU none b := fun _ h => h.none.elim
theorem NU.of {u : Option Ur} {B : Addr → Prop} {b : Addr} (hu : ∀ p, Pr u p → B p.1) (n : ¬ B b) : NU u b := fun p e z => n (z ▸ hu p e)
theorem NU.em {u : Option Ur} {b : Addr} : NU u b ∨ ∃ p, Pr u p ∧ p.1 = b := by
  by_cases h : NU u b
  · exact .inl h
  · refine .inr (Classical.byContradiction fun z => h fun p e q => z ⟨p, e, q⟩)
/-- an error of one's own: the number of its class, its fields -/
structure Exc where
  c : Nat
  ds : List D
/-- an exception of the class cls, with the dict d, that stands at a -/
def ExK (cls : Value) (d : Option Addr) (a : Addr) : HO := .ext fun h => ∃ (oe : Obj) (vs : Array Value), h.get? a = some oe ∧ Zc cls d oe ∧ oe.data = .fields vs
/-- a tuple of the module -/
def KTup (K : PySem.W.Frag) (a : Addr) (xs : List V) : Prop :=
  ∃ (o : Obj) (its : Array Value) (n : Nat), K.lookup a = some o ∧ o.cls =
    .type "tuple" ∧ o.data = .seq its n ∧ its.size ≤ sizeLine ∧ Vals xs its.toList
/-- an entry of a dict whose keys are rows of ints: the row, where it stands, the value -/
def dent (x : List Int × Addr × Value) : DictEntry := ⟨reduceHash (Builtin.Tuple.tupleHashOf (x.1.map hashInt)), .ref x.2.1, x.2.2⟩
/-- a dict whose keys are rows of ints stands at a -/
structure DicAt (h : Heap) (a : Addr) (L : List (List Int × Addr × V)) : Prop where
  low : (a == sysModules) = false
  few : L.length ≤ sizeLine
  nd : (L.map (·.1)).Nodup
  ex : ∃ (xs : List (List Int × Addr × Value)) (o : Obj) (es : Array DictEntry) (ep : Nat), Paired (fun (p : List Int × Addr × V) (q : List Int × Addr × Value) => p.1 = q.1 ∧ p.2.1 = q.2.1 ∧ RelV p.2.2 q.2.2) L xs ∧
    h.get? a = some o ∧ o.ExactDict ∧ o.data = .dict es ep ∧ es.toList = xs.map dent
def DicO (a : Addr) (L : List (List Int × Addr × V)) : HO := .ext fun h => DicAt h a L
/-- where the keys of such a dict stand -/
def KeysOk (K : PySem.W.Frag) (B : Addr → Prop) (H : Hp) (L : List (List Int × Addr × V)) : Prop :=
  ∀ p ∈ L, (¬ B p.2.1 ∨ KTup K p.2.1 (p.1.map V.int)) ∧ SqT K H p.2.1 (p.1.map V.int) ∧ p.1.length ≤ sizeLine
theorem KeysOk.keep {K : PySem.W.Frag} {B B' : Addr → Prop} {H H' : Hp} {L : List (List Int × Addr × V)} (k : ∀ b o, ¬ B b → H b = some o → H' b = some o) (s : ∀ b, B' b → B b ∨ H b = none) (h : KeysOk K B H L) : KeysOk K B' H' L := fun p hp => by
  obtain ⟨nb, hs, hl⟩ := h p hp
  rcases nb with nb | nb
  · rcases hs with (e | ⟨o, e⟩) | e
    · refine ⟨.inl fun hb => ?_, .inl (.inl (k _ _ nb e)), hl⟩
      rcases s _ hb with z | z
      · exact nb z
      · rw [z] at e; cases e
    · refine ⟨.inl fun hb => ?_, .inl (.inr ⟨o, k _ _ nb e⟩), hl⟩
      rcases s _ hb with z | z
      · exact nb z
      · rw [z] at e; cases e
    · exact ⟨.inr e, .inr e, hl⟩
  · exact ⟨.inr nb, .inr nb, hl⟩
section
variable (G : Gd) (B : Addr → Prop) (H : Hp)
mutual
def Den : D → V → Prop
  | .non, v => v = .non
  | .bl b, v => v = .bl b
  | .int i, v => v = .int i
  | .str x, v => v = .str x
  | .lst ds, v => ∃ a xs, v = .ref a ∧ ¬ B a ∧ H a = some (.lst xs) ∧ xs.length ≤ sizeLine ∧ DenL ds xs
  | .tup ds, v => ∃ a xs, v = .ref a ∧ (¬ B a ∨ KTup G.K a xs) ∧ SqT G.K H a xs ∧ xs.length ≤ sizeLine ∧ DenL ds xs
  | .ins c ds, v => ∃ a dx xs, v = .ref a ∧ ¬ B a ∧ H a = some (.ins (G.cl c) dx ((G.fl c).zip xs)) ∧ xs.length = (G.fl c).length ∧ DenL ds xs
  | .opq w, v => v = w
  | .urn, v => ∃ p, G.u = some p ∧ v = .ref p.1.1
  | .at_ a ds, v => ∃ xs, v = .ref a ∧ ¬ B a ∧ H a = some (.lst xs) ∧ xs.length ≤ sizeLine ∧ DenL ds xs
  | .tupn ds, v => ∃ a xs o, v = .ref a ∧ ¬ B a ∧ H a = some (.frz o (.tup xs)) ∧ o.cls = .type "tuple" ∧ o.dict = none ∧ xs.length ≤ sizeLine ∧ DenL ds xs
  | .exc c ds, v => ∃ a dd xs, v = .ref a ∧ ¬ B a ∧ ¬ B dd ∧ H a = some (ExK (.ref (G.cl c)) (some dd) a) ∧ H dd = some (.xd ((G.fl c).zip xs)) ∧ xs.length = (G.fl c).length ∧ DenL ds xs
  | .dic ks ds, v => ∃ (a : Addr) (kvs : List (Key × V)), v = .ref a ∧ ¬ B a ∧ H a = some (.dK kvs) ∧ kvs.map (·.1) = ks ∧ DenL ds (kvs.map (·.2))
  | .dct ks ds, v => ∃ (a : Addr) (kvs : List (Key × V)), v = .ref a ∧ ¬ B a ∧ H a = some (.dK kvs) ∧ kvs.map (·.1) = ks.map Sum.inr ∧ DenL ds (kvs.map (·.2))
  | .dcT ks ds, v => ∃ (a : Addr) (L : List (List Int × Addr × V)), v = .ref a ∧ ¬ B a ∧ H a = some (DicO a L) ∧ L.map (·.1) = ks ∧ KeysOk G.K B H L ∧ DenL ds (L.map (·.2.2))
  | .dcf ks ds, v => ∃ (a : Addr) (o : Obj) (kvs : List (Key × V)), v = .ref a ∧ ¬ B a ∧ H a = some (.frz o (.dK kvs)) ∧ kvs.map (·.1) = ks.map Sum.inr ∧ DenL ds (kvs.map (·.2))
def DenL : List D → List V → Prop
  | [], xs => xs = []
  | d :: ds, xs => ∃ x r, xs = x :: r ∧ Den d x ∧ DenL ds r
end
end
/-- what was tracked stands, but at u -/
def Ext (u : Option Ur) (H H' : Hp) : Prop := ∀ b o, H b = some o → NU u b → H' b = some o
theorem Ext.refl (u : Option Ur) (H : Hp) : Ext u H H := fun _ _ h _ => h
theorem Ext.trans {u : Option Ur} {H H1 H2 : Hp} (a : Ext u H H1) (b : Ext u H1 H2) : Ext u H H2 := fun c o h n => b c o (a c o h n) n
theorem Ext.weak {u : Option Ur} {H H1 : Hp} (a : Ext none H H1) : Ext u H H1 := fun c o h _ => a c o h NU.none
theorem Ext.new {u : Option Ur} {H : Hp} {p : Addr} {o : HO} (h : H p = none) : Ext u H (upd H p o) := fun a x e _ => by
  rw [upd_ne (ne_of_none e h)]; exact e
theorem Ext.rd {u : Option Ur} {H H' : Hp} {a : Addr} {o : HO} (e : Ext u H H') (n : NU u a) (h : Rd H a o) : Rd H' a o := by
  rcases h with h | ⟨q, h⟩
  · exact .inl (e _ _ h n)
  · exact .inr ⟨q, e _ _ h n⟩
theorem Ext.sqL {K : PySem.W.Frag} {u : Option Ur} {H H' : Hp} {a : Addr} {xs : List V} (e : Ext u H H') (n : NU u a) (h : SqL K H a xs) : SqL K H' a xs := by
  rcases h with h | h
  · exact .inl (e.rd n h)
  · exact .inr h
section
variable {G : Gd} {B B' : Addr → Prop} {H H' : Hp} {u : Option Ur}
mutual
/-- what stands at addresses out of B stays as it is -/
theorem Den.keep (k : ∀ b o, ¬ B b → H b = some o → H' b = some o) (s : ∀ b, B' b → B b ∨ H b = none) : ∀ (d : D) (v : V), Den G B H d v → Den G B' H' d v
  | .non, _, h => h
  | .bl _, _, h => h
  | .int _, _, h => h
  | .str _, _, h => h
  | .opq _, _, h => h
  | .urn, _, h => h
  | .at_ a ds, v, ⟨xs, e, nb, hs, hl, hd⟩ => by
    refine ⟨xs, e, fun hb => ?_, k _ _ nb hs, hl, DenL.keep k s ds xs hd⟩
    rcases s a hb with z | z
    · exact nb z
    · rw [z] at hs; cases hs
  | .lst ds, v, ⟨a, xs, e, nb, hs, hl, hd⟩ => by
    refine ⟨a, xs, e, fun hb => ?_, k _ _ nb hs, hl, DenL.keep k s ds xs hd⟩
    rcases s a hb with z | z
    · exact nb z
    · rw [z] at hs; cases hs
  | .tup ds, v, ⟨a, xs, e, nb, hs, hl, hd⟩ => by
    rcases nb with nb | nb
    · rcases hs with (h | ⟨o, h⟩) | h
      · refine ⟨a, xs, e, .inl fun hb => ?_, .inl (.inl (k _ _ nb h)), hl, DenL.keep k s ds xs hd⟩
        rcases s a hb with z | z
        · exact nb z
        · rw [z] at h; cases h
      · refine ⟨a, xs, e, .inl fun hb => ?_, .inl (.inr ⟨o, k _ _ nb h⟩), hl, DenL.keep k s ds xs hd⟩
        rcases s a hb with z | z
        · exact nb z
        · rw [z] at h; cases h
      · exact ⟨a, xs, e, .inr h, .inr h, hl, DenL.keep k s ds xs hd⟩
    · exact ⟨a, xs, e, .inr nb, .inr nb, hl, DenL.keep k s ds xs hd⟩
  | .tupn ds, v, ⟨a, xs, o, e, nb, hs, hc, hdn, hl, hd⟩ => by
    refine ⟨a, xs, o, e, fun hb => ?_, k _ _ nb hs, hc, hdn, hl, DenL.keep k s ds xs hd⟩
    rcases s a hb with z | z
    · exact nb z
    · rw [z] at hs; cases hs
  | .exc c ds, v, ⟨a, dd, xs, e, nb, nd, hs, hx, hl, hd⟩ => by
    refine ⟨a, dd, xs, e, fun hb => ?_, fun hb => ?_, k _ _ nb hs, k _ _ nd hx, hl, DenL.keep k s ds xs hd⟩
    · rcases s a hb with z | z
      · exact nb z
      · rw [z] at hs; cases hs
    · rcases s dd hb with z | z
      · exact nd z
      · rw [z] at hx; cases hx
  | .dic ks ds, v, ⟨a, kvs, e, nb, hs, hk, hd⟩ => by
    refine ⟨a, kvs, e, fun hb => ?_, k _ _ nb hs, hk, DenL.keep k s ds _ hd⟩
    rcases s a hb with z | z
    · exact nb z
    · rw [z] at hs; cases hs
  | .dct ks ds, v, ⟨a, kvs, e, nb, hs, hk, hd⟩ => by
    refine ⟨a, kvs, e, fun hb => ?_, k _ _ nb hs, hk, DenL.keep k s ds _ hd⟩
    rcases s a hb with z | z
    · exact nb z
    · rw [z] at hs; cases hs
  | .dcf ks ds, v, ⟨a, o, kvs, e, nb, hs, hk, hd⟩ => by
    refine ⟨a, o, kvs, e, fun hb => ?_, k _ _ nb hs, hk, DenL.keep k s ds _ hd⟩
    rcases s a hb with z | z
    · exact nb z
    · rw [z] at hs; cases hs
  | .dcT ks ds, v, ⟨a, L, e, nb, hs, hk, hx, hd⟩ => by
    refine ⟨a, L, e, fun hb => ?_, k _ _ nb hs, hk, hx.keep k s, DenL.keep k s ds _ hd⟩
    rcases s a hb with z | z
    · exact nb z
    · rw [z] at hs; cases hs
  | .ins c ds, v, ⟨a, dx, xs, e, nb, hs, hl, hd⟩ => by
    refine ⟨a, dx, xs, e, fun hb => ?_, k _ _ nb hs, hl, DenL.keep k s ds xs hd⟩
    rcases s a hb with z | z
    · exact nb z
    · rw [z] at hs; cases hs
theorem DenL.keep (k : ∀ b o, ¬ B b → H b = some o → H' b = some o) (s : ∀ b, B' b → B b ∨ H b = none) : ∀ (ds : List D) (xs : List V), DenL G B H ds xs → DenL G B' H' ds xs
  | [], _, h => h
  | d :: ds, xs, ⟨x, r, e, h1, h2⟩ => ⟨x, r, e, Den.keep k s d x h1, DenL.keep k s ds r h2⟩
end
theorem Den.ext (e : Ext u H H') (hu : ∀ p, Pr u p → B p.1) {d : D} {v : V} (h : Den G B H d v) : Den G B H' d v :=
  Den.keep (fun b o nb hb => e b o hb (NU.of hu nb)) (fun b h => .inl h) d v h
theorem DenL.ext (e : Ext u H H') (hu : ∀ p, Pr u p → B p.1) {ds : List D} {xs : List V} (h : DenL G B H ds xs) : DenL G B H' ds xs :=
  DenL.keep (fun b o nb hb => e b o hb (NU.of hu nb)) (fun b h => .inl h) ds xs h
theorem DenL.length : ∀ {ds : List D} {xs : List V}, DenL G B H ds xs → ds.length = xs.length
  | [], _, h => by cases h; rfl
  | _ :: ds, _, ⟨x, r, e, _, h2⟩ => by subst e; simp [DenL.length h2]
theorem DenL.get : ∀ {ds : List D} {xs : List V} {i : Nat} {d : D}, DenL G B H ds xs → ds[i]? = some d → ∃ x, xs[i]? = some x ∧ Den G B H d x
  | [], _, _, _, _, e => by simp at e
  | _ :: ds, _, 0, d, ⟨x, r, e, h1, _⟩, ed => by simp at ed; subst e; subst ed; exact ⟨x, rfl, h1⟩
  | _ :: ds, _, i + 1, d, ⟨x, r, e, _, h2⟩, ed => by subst e; simpa using DenL.get (i := i) h2 (by simpa using ed)
theorem DenL.getV : ∀ {ds : List D} {xs : List V} {i : Nat} {x : V}, DenL G B H ds xs → xs[i]? = some x → ∃ d, ds[i]? = some d ∧ Den G B H d x
  | [], _, _, _, h, e => by cases h; simp at e
  | d :: ds, _, 0, x, ⟨y, r, e, h1, _⟩, ed => by subst e; simp at ed; subst ed; exact ⟨d, rfl, h1⟩
  | _ :: ds, _, i + 1, x, ⟨y, r, e, _, h2⟩, ed => by subst e; simpa using DenL.getV (i := i) h2 (by simpa using ed)
theorem DenL.append : ∀ {ds es : List D} {xs ys : List V}, DenL G B H ds xs → DenL G B H es ys → DenL G B H (ds ++ es) (xs ++ ys)
  | [], _, _, _, h, h' => by cases h; exact h'
  | _ :: ds, _, _, _, ⟨x, r, e, h1, h2⟩, h' => by subst e; exact ⟨x, r ++ _, rfl, h1, DenL.append h2 h'⟩
theorem DenL.take : ∀ (n : Nat) {ds : List D} {xs : List V}, DenL G B H ds xs → DenL G B H (ds.take n) (xs.take n)
  | 0, _, _, _ => rfl
  | _ + 1, [], _, h => by cases h; rfl
  | n + 1, _ :: ds, _, ⟨x, r, e, h1, h2⟩ => by subst e; exact ⟨x, r.take n, rfl, h1, DenL.take n h2⟩
theorem DenL.drop : ∀ (n : Nat) {ds : List D} {xs : List V}, DenL G B H ds xs → DenL G B H (ds.drop n) (xs.drop n)
  | 0, _, _, h => h
  | _ + 1, [], _, h => by cases h; rfl
  | n + 1, _ :: ds, _, ⟨x, r, e, h1, h2⟩ => by subst e; exact DenL.drop n h2
theorem DenL.set : ∀ (i : Nat) {ds : List D} {xs : List V} {d : D} {x : V}, DenL G B H ds xs → Den G B H d x → DenL G B H (ds.set i d) (xs.set i x)
  | _, [], _, _, _, h, _ => by cases h; rfl
  | 0, _ :: ds, _, d, x, ⟨y, r, e, h1, h2⟩, h => by subst e; exact ⟨x, r, rfl, h, h2⟩
  | i + 1, _ :: ds, _, d, x, ⟨y, r, e, h1, h2⟩, h => by subst e; exact ⟨y, r.set i x, rfl, h1, DenL.set i h2 h⟩
theorem DenL.ints : ∀ {is : List Int} {xs : List V}, DenL G B H (is.map D.int) xs → xs = is.map V.int
  | [], _, h => h
  | i :: is, _, ⟨x, r, e, h1, h2⟩ => by subst e; rw [show x = V.int i from h1, DenL.ints h2]; rfl
theorem DenL.of_ints : ∀ {is : List Int}, DenL G B H (is.map D.int) (is.map V.int)
  | [] => rfl
  | i :: is => ⟨_, _, rfl, rfl, DenL.of_ints⟩
end
/-- a key as a tuple of ints, and back -/
theorem KeysOk.den {G : Gd} {B : Addr → Prop} {H : Hp} {L : List (List Int × Addr × V)} (h : KeysOk G.K B H L) {p : List Int × Addr × V} (hp : p ∈ L) : Den G B H (.tup (p.1.map D.int)) (.ref p.2.1) :=
  let ⟨h1, h2, h3⟩ := h p hp
  ⟨_, _, rfl, h1, h2, by rw [List.length_map]; exact h3, DenL.of_ints⟩
theorem KeysOk.of_den {G : Gd} {B : Addr → Prop} {H : Hp} {L : List (List Int × Addr × V)} (h : ∀ p ∈ L, Den G B H (.tup (p.1.map D.int)) (.ref p.2.1)) : KeysOk G.K B H L := fun p hp => by
  obtain ⟨a, xs, e, nb, hs, hl, hd⟩ := h p hp
  cases e
  have ex := hd.ints
  subst ex
  rw [List.length_map] at hl
  exact ⟨nb, hs, hl⟩
theorem KeysOk.by {G : Gd} {B B' : Addr → Prop} {H H' : Hp} {L : List (List Int × Addr × V)} (k : ∀ {d : D} {v : V}, Den G B H d v → Den G B' H' d v) (h : KeysOk G.K B H L) : KeysOk G.K B' H' L :=
  KeysOk.of_den fun p hp => k (h.den hp)
theorem KeysOk.ext {K : PySem.W.Frag} {B : Addr → Prop} {H H' : Hp} {u : Option Ur} {L : List (List Int × Addr × V)} (e : Ext u H H') (hu : ∀ p, Pr u p → B p.1) (h : KeysOk K B H L) : KeysOk K B H' L :=
  h.keep (fun b o nb hb => e b o hb (NU.of hu nb)) fun b h => .inl h
theorem dicO_ne_code {a : Addr} {L : List (List Int × Addr × V)} (q : Str) : DicO a L ≠ LamX.CodeO a q := fun z => by
  unfold DicO LamX.CodeO at z
  injection z with z
  let o : Obj := { cls := .none, data := .fields #[.none, .str q default] }
  let h : Heap := { objs := Array.replicate (a + 1) o }
  have hg : h.get? a = some o := by
    show (match (Array.replicate (a + 1) o)[a]? with | some ⟨_, _, .freed, _⟩ => none | o => o) = some o
    rw [Array.getElem?_replicate, if_pos (Nat.lt_succ_self a)]
  have e := congrFun z h
  have c : DicAt h a L := by
    rw [e]
    exact ⟨o, _, default, hg, rfl, rfl⟩
  obtain ⟨xs, o', es, ep, _, h1, _, h2, _⟩ := c.ex
  rw [hg] at h1
  cases h1
  cases h2
def atLine : Int := 2 ^ 4096
def Good : Option Ur → Hp → Nat → Prop
  | none, _, _ => True
  | some ((a, b), T), H, n => (∃ (cells : List Int) (k r : Int), H a = some (.lst [.ref b, .int k, .int r]) ∧ H b = some (.lst (cells.map V.int)) ∧ cells.length ≤ 63 ∧ a ≠ b ∧ 0 ≤ r ∧ 0 ≤ k ∧ k + n ≤ atLine) ∧ LamX.Tabs T H
theorem Good.less {u : Option Ur} {H : Hp} {n m : Nat} (h : Good u H n) (hm : m ≤ n) : Good u H m := by
  cases u with
  | none => trivial
  | some p =>
    obtain ⟨⟨a, b⟩, T⟩ := p
    obtain ⟨⟨cells, k, r, h1, h2, h3, h4, h5, h6, h7⟩, t⟩ := h
    exact ⟨⟨cells, k, r, h1, h2, h3, h4, h5, h6, by omega⟩, t⟩
theorem Good.ext {u : Option Ur} {H H' : Hp} {n : Nat} (h : Good u H n) (e : Ext none H H') : Good u H' n := by
  cases u with
  | none => trivial
  | some p =>
    obtain ⟨⟨a, b⟩, T⟩ := p
    obtain ⟨⟨cells, k, r, h1, h2, h⟩, t⟩ := h
    exact ⟨⟨cells, k, r, e _ _ h1 NU.none, e _ _ h2 NU.none, h⟩, t.ext fun b o q => e b o q NU.none⟩
/-- what may change is there -/
theorem Good.there {u : Option Ur} {H : Hp} {n : Nat} (h : Good u H n) {p : Addr × Addr} (e : Pr u p) : (∃ o, H p.1 = some o) ∧ ∃ o, H p.2 = some o := by
  obtain ⟨r, rfl, q⟩ := e
  obtain ⟨⟨a, b⟩, T⟩ := r
  obtain ⟨⟨_, _, _, h1, h2, _⟩, t⟩ := h
  rcases q with rfl | ⟨t', ht, rfl⟩
  · exact ⟨⟨_, h1⟩, ⟨_, h2⟩⟩
  · obtain ⟨ps, z, _⟩ := t t' ht
    exact ⟨⟨_, z⟩, ⟨_, z⟩⟩
inductive Sl where
  | emp | val (d : D) | own (a : Addr) (ds : List D) | slf (a dx : Addr) (c : Nat) (ds : List D)
  | obj (a : Addr) (o : HO)
  | dic (a : Addr) (ks : List (List Int)) (ds : List D)
/-- what this frame alone may change -/
def Sl.mine : Sl → Bool
  | .own _ _ => true
  | .slf _ _ _ _ => true
  | .obj _ _ => true
  | .dic _ _ _ => true
  | _ => false
section
variable (G : Gd) (X0 : Hp) (B : Addr → Prop) (H : Hp)
def SlOk : Sl → Option V → Prop
  | .emp, _ => True
  | .val d, v => ∃ x, v = some x ∧ Den G B H d x
  | .own a ds, v => ∃ xs, v = some (.ref a) ∧ X0 a = none ∧ H a = some (.lst xs) ∧ xs.length ≤ sizeLine ∧ DenL G B H ds xs
  | .slf a dx c ds, v => ∃ xs, v = some (.ref a) ∧ X0 a = none ∧ H a = some (.ins (G.cl c) dx ((G.fl c).zip xs)) ∧ xs.length ≤ (G.fl c).length ∧ DenL G B H ds xs
  | .obj a o, v => v = some (.ref a) ∧ X0 a = none ∧ H a = some o ∧ ∀ q, o ≠ LamX.CodeO a q
  | .dic a ks ds, v => ∃ L, v = some (.ref a) ∧ X0 a = none ∧ H a = some (DicO a L) ∧ L.map (·.1) = ks ∧ KeysOk G.K B H L ∧ DenL G B H ds (L.map (·.2.2))
end
/-- B, and the addresses of the frame's own lists -/
def XBof (B : Addr → Prop) (env : List Sl) (σ : List (Option V)) : Addr → Prop := fun a => B a ∨ ∃ (i : Nat) (s : Sl), env[i]? = some s ∧ s.mine = true ∧ σ[i]? = some (some (V.ref a))
/-- an error as it lies: its class, its own dict -/
def ExcIs (G : Gd) (B : Addr → Prop) (H : Hp) (x : Exc) (C : Value) (d : Option Addr) : Prop :=
  C = .ref (G.cl x.c) ∧ ∃ dd xs, d = some dd ∧ ¬ B dd ∧ H dd = some (.xd ((G.fl x.c).zip xs)) ∧ xs.length = (G.fl x.c).length ∧ DenL G B H x.ds xs
/-- the state of a body: what is known of its slots, of the heap, what is wanted of errors -/
structure Wd (G : Gd) (E : XK) (σ : List (Option V)) (H : Hp) where
  u : Option Ur
  n : Nat
  m : Nat
  B : Addr → Prop
  H0 : Hp
  env : List Sl
  ex : Exc → Prop
  ug : u = G.u
  hu : ∀ p, Pr u p → B p.1 ∧ B p.2
  hB : ∀ a, B a → H0 a ≠ none
  fr : Ext u H0 H
  good : Good u H n
  len : env.length = σ.length
  sl : ∀ (i : Nat) (s : Sl), env[i]? = some s → SlOk G H0 (XBof B env σ) H s (σ[i]?.join)
  nd : ∀ (i j : Nat) (a : Addr) (s t : Sl), env[i]? = some s → env[j]? = some t → s.mine = true → t.mine = true → σ[i]? = some (some (V.ref a)) → σ[j]? = some (some (V.ref a)) → i = j
  exc : ∀ x C d H', Ext u H0 H' → Good u H' m → ExcIs G B H' x C d → ex x → E C d H'
section
variable {G : Gd} {E : XK} {σ : List (Option V)} {H H' : Hp}
abbrev Wd.XB (W : Wd G E σ H) : Addr → Prop := XBof W.B W.env σ
structure Step (W : Wd G E σ H) (c : Nat) (H' : Hp) : Prop where
  ext : Ext W.u H H'
  good : Good W.u H' (W.n - c)
theorem Wd.huX (W : Wd G E σ H) : ∀ p, Pr W.u p → W.XB p.1 := fun p e => .inl (W.hu p e).1
theorem Wd.den (W : Wd G E σ H) {c : Nat} (st : Step W c H') {d : D} {v : V} (h : Den G W.XB H d v) : Den G W.XB H' d v := h.ext st.ext W.huX
/-- the frame's own address is none of the urn's -/
theorem Wd.own_ne (W : Wd G E σ H) {a : Addr} (h : W.H0 a = none) : ¬ W.B a := fun z => W.hB a z h
theorem Wd.nu (W : Wd G E σ H) {a : Addr} (h : W.H0 a = none) : NU W.u a := NU.of (fun p e => (W.hu p e).1) (W.own_ne h)
theorem Wd.nuX (W : Wd G E σ H) {a : Addr} (h : ¬ W.XB a) : NU W.u a := NU.of W.huX h
theorem SlOk.step (W : Wd G E σ H) {c : Nat} (st : Step W c H') {s : Sl} {v : Option V} (h : SlOk G W.H0 W.XB H s v) : SlOk G W.H0 W.XB H' s v := by
  cases s with
  | emp => trivial
  | val d => obtain ⟨x, e, h⟩ := h; exact ⟨x, e, W.den st h⟩
  | own a ds =>
    obtain ⟨xs, e, h0, h1, hl, h2⟩ := h
    refine ⟨xs, e, h0, st.ext a _ h1 (W.nu h0), hl, h2.ext st.ext W.huX⟩
  | slf a dx c ds =>
    obtain ⟨xs, e, h0, h1, hl, h2⟩ := h
    refine ⟨xs, e, h0, st.ext a _ h1 (W.nu h0), hl, h2.ext st.ext W.huX⟩
  | obj a o =>
    obtain ⟨e, h0, h1, h2⟩ := h
    exact ⟨e, h0, st.ext a _ h1 (W.nu h0), h2⟩
  | dic a ks ds =>
    obtain ⟨L, e, h0, h1, hk, hx, h2⟩ := h
    exact ⟨L, e, h0, st.ext a _ h1 (W.nu h0), hk, hx.ext st.ext W.huX, h2.ext st.ext W.huX⟩
/-- where a thing of the frame's own stands -/
theorem Wd.mine_at (W : Wd G E σ H) {i : Nat} {s : Sl} {a : Addr} (e : W.env[i]? = some s) (hm : s.mine = true) (es : σ[i]? = some (some (.ref a))) : W.H0 a = none ∧ ∃ o, H a = some o := by
  have z := W.sl i _ e
  rw [es] at z
  cases s with
  | emp => cases hm
  | val d => cases hm
  | own b ds => obtain ⟨xs, ea, h0, h1, _⟩ := z; cases ea; exact ⟨h0, _, h1⟩
  | slf b dx c ds => obtain ⟨xs, ea, h0, h1, _⟩ := z; cases ea; exact ⟨h0, _, h1⟩
  | obj b o => obtain ⟨ea, h0, h1, h2⟩ := z; cases ea; exact ⟨h0, _, h1⟩
  | dic b ks ds => obtain ⟨L, ea, h0, h1, _⟩ := z; cases ea; exact ⟨h0, _, h1⟩
/-- .. it is no code object -/
theorem Wd.mine_nc (W : Wd G E σ H) {i : Nat} {s : Sl} {a : Addr} (e : W.env[i]? = some s) (hm : s.mine = true) (es : σ[i]? = some (some (.ref a))) : ∀ q, H a ≠ some (LamX.CodeO a q) := fun q y => by
  have z := W.sl i _ e
  rw [es] at z
  cases s with
  | emp => cases hm
  | val d => cases hm
  | own b ds => obtain ⟨xs, ea, h0, h1, _⟩ := z; cases ea; rw [h1] at y; cases y
  | slf b dx c ds => obtain ⟨xs, ea, h0, h1, _⟩ := z; cases ea; rw [h1] at y; cases y
  | obj b o => obtain ⟨ea, h0, h1, h2⟩ := z; cases ea; rw [h1] at y; exact h2 q (Option.some.inj y)
  | dic b ks ds => obtain ⟨L, ea, h0, h1, _⟩ := z; cases ea; rw [h1] at y; exact dicO_ne_code q (Option.some.inj y)
def Wd.next (W : Wd G E σ H) {c : Nat} (st : Step W c H') : Wd G E σ H' where
  u := W.u
  n := W.n - c
  m := W.m
  B := W.B
  H0 := W.H0
  env := W.env
  ex := W.ex
  ug := W.ug
  hu := W.hu
  hB := W.hB
  fr := W.fr.trans st.ext
  good := st.good
  len := W.len
  sl := fun i s e => (W.sl i s e).step W st
  nd := W.nd
  exc := W.exc
theorem Step.refl (W : Wd G E σ H) : Step W 0 H := ⟨Ext.refl _ _, W.good⟩
theorem Step.trans {W : Wd G E σ H} {c c' : Nat} {H2 : Hp} (a : Step W c H') (b : Step (W.next a) c' H2) : Step W (c + c') H2 :=
  ⟨a.ext.trans b.ext, by have := b.good; show Good W.u H2 (W.n - (c + c')); rw [Nat.sub_add_eq]; exact this⟩
theorem Step.pure {W : Wd G E σ H} {c : Nat} (a : Step W c H') {H2 : Hp} (e : Ext none H' H2) : Step W c H2 := ⟨a.ext.trans e.weak, a.good.ext e⟩
theorem Step.new {W : Wd G E σ H} {c : Nat} (a : Step W c H') {p : Addr} {o : HO} (h : H' p = none) : Step W c (upd H' p o) := a.pure (Ext.new h)
theorem Step.less {W : Wd G E σ H} {c c' : Nat} (a : Step W c H') (h : c ≤ c') : Step W c' H' := ⟨a.ext, a.good.less (by omega)⟩
/-- a new address is out of XB -/
theorem Wd.fresh (W : Wd G E σ H) {p : Addr} (h : H p = none) : ¬ W.XB p := fun z => by
  rcases z with z | ⟨i, sl, e, hm, es⟩
  · cases q : W.H0 p with
    | none => exact W.hB p z q
    | some o =>
      rcases NU.em (u := W.u) (b := p) with n | ⟨r, hr, rfl⟩
      · rw [W.fr p o q n] at h; cases h
      · obtain ⟨⟨o, h1⟩, _⟩ := W.good.there hr
        rw [h1] at h; cases h
  · obtain ⟨_, o, h1⟩ := W.mine_at e hm es
    rw [h1] at h; cases h
end
abbrev DT := (Exc → Prop) → List Sl → (D → Prop) → Prop
def lift (G : Gd) (E : XK) (c : Nat) (t : DT) : TE := fun σ H Q' => ∃ W : Wd G E σ H, W.m + c ≤ W.n ∧ ∃ Q, t W.ex W.env Q ∧ ∀ v H' d, Step W c H' → Den G W.XB H' d v → Q d → Q' v H'
abbrev DA := (Exc → Prop) → List Sl → (List D → Prop) → Prop
def liftA (G : Gd) (E : XK) (c : Nat) (t : DA) : TA := fun σ H Q' => ∃ W : Wd G E σ H, W.m + c ≤ W.n ∧ ∃ Q, t W.ex W.env Q ∧ ∀ vs H' ds, Step W c H' → DenL G W.XB H' ds vs → Q ds → Q' vs H'
abbrev DB := (Exc → Prop) → List Sl → (Bool → Prop) → Prop
def liftB (G : Gd) (E : XK) (c : Nat) (t : DB) : TT := fun σ H Q' => ∃ W : Wd G E σ H, W.m + c ≤ W.n ∧ ∃ Q, t W.ex W.env Q ∧ ∀ b H', Step W c H' → Q b → Q' b H'
/-- e is t, at most c draws -/
abbrev DE (G : Gd) (E : XK) (X : Cx) (c : Nat) (e : Expr) (t : DT) : Prop := PE X e (lift G E c t)
abbrev DEs (G : Gd) (E : XK) (X : Cx) (c : Nat) (es : List Expr) (t : DA) : Prop := PA X es (liftA G E c t)
abbrev DPt (G : Gd) (E : XK) (X : Cx) (c : Nat) (e : Expr) (t : DB) : Prop := PT X e (liftB G E c t)
theorem imp {X : Cx} {e : Expr} {t t' : TE} (h : PE X e t) (i : ∀ σ H Q, t' σ H Q → t σ H Q) : PE X e t' := ⟨fun pins s σ H Q I q => h.run pins s σ H Q I (i σ H Q q)⟩
theorem impT {X : Cx} {e : Expr} {t t' : TT} (h : PT X e t) (i : ∀ σ H Q, t' σ H Q → t σ H Q) : PT X e t' := ⟨fun pins s σ H Q I q => h.run pins s σ H Q I (i σ H Q q)⟩
theorem impA {X : Cx} {e : List Expr} {t t' : TA} (h : PA X e t) (i : ∀ σ H Q, t' σ H Q → t σ H Q) : PA X e t' := ⟨fun pos pins s σ H Q I q => h.run pos pins s σ H Q I (i σ H Q q)⟩
end Kn
set_option Elab.async false
set_option linter.all false
set_option maxRecDepth 100000
set_option maxHeartbeats 2100000
namespace Kn
open PySem L2
section
variable {G : Gd} {E : XK} {X : Cx}
def dVar (i : Nat) : DT := fun _ env Q => ∃ d, env[i]? = some (.val d) ∧ Q d
def dC (d : D) : DT := fun _ _ Q => Q d
theorem lift_var {i : Nat} {σ : List (Option V)} {H : Hp} {Q' : VK} (h : lift G E 0 (dVar i) σ H Q') : tVar i σ H Q' := by
  obtain ⟨W, _, Q, ⟨d, he, hq⟩, k⟩ := h
  obtain ⟨x, hx, hd⟩ := W.sl i _ he
  cases hs : σ[i]? with
  | none => rw [hs] at hx; cases hx
  | some o =>
    rw [hs] at hx
    have hx' : o = some x := hx
    exact ⟨x, by rw [hs, hx'], k x H d (Step.refl W) hd hq⟩
theorem dv (i : Nat) {x : Str} {pos : Pos} (hN : X.N[i]? = some x := by rfl) (hv : Vis X.env.scope x := by first | exact Or.inl rfl | exact Or.inr (Or.inl rfl) | exact Or.inr (Or.inr rfl)) (hd : (x == ("__debug__" : Str)) = false := by decide)
    (hcd : (x == ("__classdict__" : Str)) = false := by decide) : DE G E X 0 (.Name x pos) (dVar i) := imp (pe_var hN hv hd hcd) fun _ _ _ h => lift_var h
theorem den_int {B : Addr → Prop} {H : Hp} (i : Int) : Den G B H (.int i) (.int i) := rfl
theorem den_bl {B : Addr → Prop} {H : Hp} (b : Bool) : Den G B H (.bl b) (.bl b) := rfl
theorem den_str {B : Addr → Prop} {H : Hp} (x : Str) : Den G B H (.str x) (.str x) := rfl
theorem den_non {B : Addr → Prop} {H : Hp} : Den G B H .non .non := rfl
theorem lift_c {d : D} {v : V} (hd : ∀ B H, Den G B H d v) {σ : List (Option V)} {H : Hp} {Q' : VK} (h : lift G E 0 (dC d) σ H Q') : tC v σ H Q' := by
  obtain ⟨W, _, Q, hq, k⟩ := h
  exact k v H d (Step.refl W) (hd _ _) hq
theorem de_int {i j pos} : DE G E X 0 (.Constant (.int i) j pos) (dC (.int i)) := imp pe_int fun _ _ _ h => lift_c (fun _ _ => den_int i) h
theorem de_bl {b j pos} : DE G E X 0 (.Constant (.bool b) j pos) (dC (.bl b)) := imp pe_bl fun _ _ _ h => lift_c (fun _ _ => den_bl b) h
theorem de_non {j pos} : DE G E X 0 (.Constant .none j pos) (dC .non) := imp pe_non fun _ _ _ h => lift_c (fun _ _ => den_non) h
theorem de_str {x j pos} : DE G E X 0 (.Constant (.str x) j pos) (dC (.str x)) := imp pe_str fun _ _ _ h => lift_c (fun _ _ => den_str x) h
abbrev G2 := D → D → (D → Prop) → Prop
def rD (G : Gd) (g : G2) : R2 := fun x y H Q' => ∃ B d e Q, Den G B H d x ∧ Den G B H e y ∧ (∀ p, H p = none → ¬ B p) ∧ g d e Q ∧ ∀ r H' rd, Ext none H H' → Den G B H' rd r → Q rd → Q' r H'
def dOp (g : G2) (ta tb : DT) : DT := fun ex env Q => ta ex env fun x => tb ex env fun y => g x y Q
theorem lift_op {g : G2} {ca cb : Nat} {ta tb : DT} {σ : List (Option V)} {H : Hp} {Q' : VK} (h : lift G E (ca + cb) (dOp g ta tb) σ H Q') : tOp (rD G g) (lift G E ca ta) (lift G E cb tb) σ H Q' := by
  obtain ⟨W, hc, Q, ht, k⟩ := h
  refine ⟨W, by omega, _, ht, fun v H1 d st hd hq => ?_⟩
  refine ⟨W.next st, by show W.m + cb ≤ W.n - ca; omega, _, hq, fun v2 H2 e st2 he hg => ?_⟩
  refine ⟨W.XB, d, e, Q, (W.next st).den st2 hd, he, fun p hp => ((W.next st).next st2).fresh hp, hg, fun r H' rd ex hr q => ?_⟩
  exact k r H' rd ((st.trans st2).pure ex) hr q
theorem de_op {a b : Expr} {op : Operator} {pos : Pos} {g : G2} {ca cb : Nat} {ta tb : DT} (ho : OpR X (binaryOp op) (rD G g)) (ha : DE G E X ca a ta) (hb : DE G E X cb b tb) : DE G E X (ca + cb) (.BinOp a op b pos) (dOp g ta tb) :=
  imp (pe_op ho ha hb) fun _ _ _ h => lift_op h
theorem de_cmp {a b : Expr} {op : CmpOp} {pos : Pos} {g : G2} {ca cb : Nat} {ta tb : DT} (ho : OpR X (compareOp op) (rD G g)) (ha : DE G E X ca a ta) (hb : DE G E X cb b tb) (hm : behindInMarks op b = false) : DE G E X (ca + cb) (.Compare a [op] [b] pos) (dOp g ta tb) :=
  imp (pe_cmpR ho ha hb hm) fun _ _ _ h => lift_op h
theorem den_upd {B : Addr → Prop} {H : Hp} {p : Addr} {o : HO} {d : D} {v : V} (hp : H p = none) (h : Den G B H d v) : Den G B (upd H p o) d v := h.ext (u := none) (Ext.new hp) (fun _ z => z.none.elim)
theorem denL_upd {B : Addr → Prop} {H : Hp} {p : Addr} {o : HO} {ds : List D} {xs : List V} (hp : H p = none) (h : DenL G B H ds xs) : DenL G B (upd H p o) ds xs := h.ext (u := none) (Ext.new hp) (fun _ z => z.none.elim)
/-- a new list | tuple of known items -/
theorem den_lst {B : Addr → Prop} {H : Hp} {p : Addr} {ds : List D} {xs : List V} (hp : H p = none) (nb : ¬ B p) (hl : xs.length ≤ sizeLine) (h : DenL G B H ds xs) : Den G B (upd H p (.lst xs)) (.lst ds) (.ref p) :=
  ⟨p, xs, rfl, nb, upd_same, hl, denL_upd hp h⟩
theorem den_tup {B : Addr → Prop} {H : Hp} {p : Addr} {ds : List D} {xs : List V} (hp : H p = none) (nb : ¬ B p) (hl : xs.length ≤ sizeLine) (h : DenL G B H ds xs) : Den G B (upd H p (.tup xs)) (.tup ds) (.ref p) :=
  ⟨p, xs, rfl, .inl nb, SqT.of upd_same, hl, denL_upd hp h⟩
def gI (C : Int → Int → Prop) (f : Int → Int → D) : G2 := fun d e Q => match d, e with
  | .int i, .int j => C i j ∧ Q (f i j)
  | _, _ => False
theorem rD_I {g : Int → Int → V} {f : Int → Int → D} {C : Int → Int → Prop} (hf : ∀ i j B H, Den G B H (f i j) (g i j)) {x y : V} {H : Hp} {Q' : VK} (h : rD G (gI C f) x y H Q') : rI C g x y H Q' := by
  obtain ⟨B, d, e, Q, hd, he, _, hg, k⟩ := h
  cases d <;> cases e <;> try exact hg.elim
  rename_i i j
  exact ⟨i, j, hd, he, hg.1, k _ H _ (Ext.refl _ _) (hf i j B H) hg.2⟩
theorem opr_imp {f : Value → Value → Sem Value} {r r' : R2} (h : OpR X f r) (i : ∀ x y H Q, r' x y H Q → r x y H Q) : OpR X f r' := fun pins s σ H x y v u Q I rx ry q => h pins s σ H x y v u Q I rx ry (i x y H Q q)
theorem rI_of0 {g : Int → Int → V} {x y : V} {H : Hp} {Q : VK} (h : rI (fun _ _ => True) g x y H Q) : rI0 g x y H Q := by
  obtain ⟨i, j, h1, h2, _, q⟩ := h
  exact ⟨i, j, h1, h2, q⟩
def gAdd : G2 := fun d e Q => match d, e with
  | .int i, .int j => Q (.int (i + j))
  | .lst xs, .lst ys => xs.length + ys.length ≤ sizeLine ∧ Q (.lst (xs ++ ys))
  | .tup xs, .tup ys => xs.length + ys.length ≤ sizeLine ∧ Q (.tup (xs ++ ys))
  | .str x, .str y => x.length + y.length ≤ sizeLine ∧ Q (.str (x ++ y))
  | _, _ => False
theorem o_add (hK : X.K = G.K) : OpR X (binaryOp .Add) (rD G gAdd) := by
  intro pins s σ H x y v u Q' I rx ry h
  obtain ⟨B, d, e, Q, hd, he, hf, hg, k⟩ := h
  cases d <;> cases e <;> try exact hg.elim
  · rename_i i j
    exact op_add pins s σ H x y v u Q' I rx ry ⟨i, j, hd, he, k _ H (.int (i + j)) (Ext.refl _ _) rfl hg⟩
  · rename_i a b
    exact op_add_str pins s σ H x y v u Q' I rx ry ⟨a, b, hd, he, hg.1, k _ H (.str (a ++ b)) (Ext.refl _ _) rfl hg.2⟩
  · rename_i ds es
    obtain ⟨a, xs, rfl, na, ha, la, da⟩ := hd
    obtain ⟨b, ys, rfl, nb, hb, lb, db⟩ := he
    have e1 := da.length
    have e2 := db.length
    have hz : ds.length + es.length ≤ sizeLine := hg.1
    refine op_cat pins s σ H _ _ v u Q' I rx ry ⟨a, b, xs, ys, rfl, rfl, ha, hb, by omega, fun p hp => ?_⟩
    exact k _ _ (.lst (ds ++ es)) (Ext.new hp) (den_lst hp (hf p hp) (by rw [List.length_append]; omega) (da.append db)) hg.2
  · rename_i ds es
    obtain ⟨a, xs, rfl, na, ha, la, da⟩ := hd
    obtain ⟨b, ys, rfl, nb, hb, lb, db⟩ := he
    have e1 := da.length
    have e2 := db.length
    have hz : ds.length + es.length ≤ sizeLine := hg.1
    refine op_catA pins s σ H _ _ v u Q' I rx ry ⟨a, b, xs, ys, rfl, rfl, by rw [hK]; exact ha, by rw [hK]; exact hb, by omega, fun h => ?_, fun _ h => ?_, fun _ _ p hp => ?_⟩
    · subst h
      have : ds = [] := List.eq_nil_of_length_eq_zero (by simpa using e1)
      subst this
      exact k _ H (.tup ([] ++ es)) (Ext.refl _ _) ⟨b, ys, rfl, nb, hb, lb, db⟩ hg.2
    · subst h
      have : es = [] := List.eq_nil_of_length_eq_zero (by simpa using e2)
      subst this
      exact k _ H (.tup (ds ++ [])) (Ext.refl _ _) (by rw [List.append_nil]; exact ⟨a, xs, rfl, na, ha, la, da⟩) hg.2
    · exact k _ _ (.tup (ds ++ es)) (Ext.new hp) (den_tup hp (hf p hp) (by rw [List.length_append]; omega) (da.append db)) hg.2
def gSub : G2 := gI (fun _ _ => True) fun i j => .int (i - j)
theorem o_sub : OpR X (binaryOp .Sub) (rD G gSub) := opr_imp op_sub fun _ _ _ _ h => rI_of0 (rD_I (fun _ _ _ _ => den_int _) h)
def gMul : G2 := gI CMul fun i j => .int (i * j)
theorem o_mul : OpR X (binaryOp .Mult) (rD G gMul) := opr_imp op_mul fun _ _ _ _ h => rD_I (fun _ _ _ _ => den_int _) h
def gMod : G2 := gI (fun _ j => 0 < j) fun i j => .int (i % j)
theorem o_mod : OpR X (binaryOp .Mod) (rD G gMod) := opr_imp op_mod fun _ _ _ _ h => rD_I (fun _ _ _ _ => den_int _) h
def gDiv : G2 := gI CDiv fun i j => .int (i / j)
theorem o_div : OpR X (binaryOp .FloorDiv) (rD G gDiv) := opr_imp op_fdiv fun _ _ _ _ h => rD_I (fun _ _ _ _ => den_int _) h
def gLt : G2 := gI (fun _ _ => True) fun i j => .bl (decide (i < j))
theorem o_lt : OpR X (compareOp .Lt) (rD G gLt) := opr_imp op_lt fun _ _ _ _ h => rI_of0 (rD_I (fun _ _ _ _ => den_bl _) h)
def gLe : G2 := gI (fun _ _ => True) fun i j => .bl (decide (i ≤ j))
theorem o_le : OpR X (compareOp .LtE) (rD G gLe) := opr_imp op_le fun _ _ _ _ h => rI_of0 (rD_I (fun _ _ _ _ => den_bl _) h)
def gGt : G2 := gI (fun _ _ => True) fun i j => .bl (decide (j < i))
theorem o_gt : OpR X (compareOp .Gt) (rD G gGt) := opr_imp op_gt fun _ _ _ _ h => rI_of0 (rD_I (fun _ _ _ _ => den_bl _) h)
def gGe : G2 := gI (fun _ _ => True) fun i j => .bl (decide (j ≤ i))
theorem o_ge : OpR X (compareOp .GtE) (rD G gGe) := opr_imp op_ge fun _ _ _ _ h => rI_of0 (rD_I (fun _ _ _ _ => den_bl _) h)
mutual
def pd : D → Option PyData
  | .non => some .none
  | .bl b => some (.bool b)
  | .int i => some (.int i)
  | .str x => some (.str x)
  | .lst ds => (pdL ds).map .list
  | .tup ds => (pdL ds).map .tuple
  | .ins _ _ => none
  | .opq _ => none
  | .urn => none
  | .at_ _ _ => none
  | .dct _ _ => none
  | .tupn _ => none
  | .exc _ _ => none
  | .dic _ _ => none
  | .dcT _ _ => none
  | .dcf _ _ => none
def pdL : List D → Option (List PyData)
  | [] => some []
  | d :: ds => match pd d, pdL ds with
    | some p, some ps => some (p :: ps)
    | _, _ => none
end
mutual
theorem Den.dp {B : Addr → Prop} {H : Hp} : ∀ (d : D) (v : V) (p : PyData), Den G B H d v → pd d = some p → Dp G.K H v p
  | .non, _, _, h, e => by cases h; cases e; exact .non
  | .bl b, _, _, h, e => by cases h; cases e; exact .bl b
  | .int i, _, _, h, e => by cases h; cases e; exact .int i
  | .str x, _, _, h, e => by cases h; cases e; exact .str x
  | .lst ds, v, p, ⟨a, xs, e1, _, hs, _, hd⟩, e => by
    cases hp : pdL ds with
    | none => simp [pd, hp] at e
    | some ps =>
      simp [pd, hp] at e
      subst e; subst e1
      exact .lst (SqL.of hs) (DenL.dp ds xs ps hd hp)
  | .tup ds, v, p, ⟨a, xs, e1, _, hs, _, hd⟩, e => by
    cases hp : pdL ds with
    | none => simp [pd, hp] at e
    | some ps =>
      simp [pd, hp] at e
      subst e; subst e1
      exact .tup hs (DenL.dp ds xs ps hd hp)
  | .ins _ _, _, _, _, e => by simp [pd] at e
  | .opq _, _, _, _, e => by simp [pd] at e
  | .urn, _, _, _, e => by simp [pd] at e
  | .at_ _ _, _, _, _, e => by simp [pd] at e
  | .dct _ _, _, _, _, e => by simp [pd] at e
  | .tupn _, _, _, _, e => by simp [pd] at e
  | .exc _ _, _, _, _, e => by simp [pd] at e
  | .dic _ _, _, _, _, e => by simp [pd] at e
  | .dcT _ _, _, _, _, e => by simp [pd] at e
  | .dcf _ _, _, _, _, e => by simp [pd] at e
theorem DenL.dp {B : Addr → Prop} {H : Hp} : ∀ (ds : List D) (xs : List V) (ps : List PyData), DenL G B H ds xs → pdL ds = some ps → DpAll G.K H xs ps
  | [], _, _, h, e => by cases h; cases e; exact .nil
  | d :: ds, xs, ps, ⟨x, r, e1, h1, h2⟩, e => by
    subst e1
    cases hp : pd d with
    | none => simp [pdL, hp] at e
    | some p =>
      cases hq : pdL ds with
      | none => simp [pdL, hp, hq] at e
      | some qs =>
        simp [pdL, hp, hq] at e
        subst e
        exact .cons (Den.dp d x p h1 hp) (DenL.dp ds r qs h2 hq)
end
def gEq : G2 := fun d e Q => ∃ p q, pd d = some p ∧ pd e = some q ∧ SeqAt.shaped p = true ∧ SeqAt.shaped q = true ∧ Q (.bl (PyData.eqv p q))
def gNe : G2 := fun d e Q => ∃ p q, pd d = some p ∧ pd e = some q ∧ SeqAt.shaped p = true ∧ SeqAt.shaped q = true ∧ Q (.bl (!PyData.eqv p q))
theorem o_eq (hK : X.K = G.K) (hu : X.A.units + 64 < cLine) : OpR X (compareOp .Eq) (rD G gEq) := opr_imp (op_eqD hu) fun x y H Q' h => by
  obtain ⟨B, d, e, Q, hd, he, _, ⟨p, q, e1, e2, s1, s2, hq⟩, k⟩ := h
  exact ⟨p, q, by rw [hK]; exact hd.dp _ _ _ e1, by rw [hK]; exact he.dp _ _ _ e2, s1, s2, k _ H (.bl _) (Ext.refl _ _) (den_bl _) hq⟩
theorem o_ne (hK : X.K = G.K) (hu : X.A.units + 64 < cLine) : OpR X (compareOp .NotEq) (rD G gNe) := opr_imp (op_neD hu) fun x y H Q' h => by
  obtain ⟨B, d, e, Q, hd, he, _, ⟨p, q, e1, e2, s1, s2, hq⟩, k⟩ := h
  exact ⟨p, q, by rw [hK]; exact hd.dp _ _ _ e1, by rw [hK]; exact he.dp _ _ _ e2, s1, s2, k _ H (.bl _) (Ext.refl _ _) (den_bl _) hq⟩
def D.isN : D → Bool
  | .non => true
  | _ => false
/-- is None -/
def gIs : G2 := fun d e Q => e = .non ∧ (∀ v, d ≠ .opq v) ∧ Q (.bl d.isN)
theorem Den.isN {B : Addr → Prop} {H : Hp} {d : D} {v : V} (h : Den G B H d v) (n : ∀ v, d ≠ .opq v) : decide (v = .non) = d.isN := by
  cases d with
  | non => cases h; rfl
  | bl b => cases h; rfl
  | int b => cases h; rfl
  | str b => cases h; rfl
  | lst ds => obtain ⟨a, _, rfl, _⟩ := h; rfl
  | tup ds => obtain ⟨a, _, rfl, _⟩ := h; rfl
  | ins c ds => obtain ⟨a, _, _, rfl, _⟩ := h; rfl
  | opq w => exact absurd rfl (n w)
  | urn => obtain ⟨p, _, rfl⟩ := h; rfl
  | at_ a ds => obtain ⟨xs, rfl, _⟩ := h; rfl
  | dct ks ds => obtain ⟨a, _, rfl, _⟩ := h; rfl
  | tupn ds => obtain ⟨a, _, _, rfl, _⟩ := h; rfl
  | exc c ds => obtain ⟨a, _, _, rfl, _⟩ := h; rfl
  | dic c ds => obtain ⟨a, _, rfl, _⟩ := h; rfl
  | dcT c ds => obtain ⟨a, _, rfl, _⟩ := h; rfl
  | dcf c ds => obtain ⟨a, _, _, rfl, _⟩ := h; rfl
theorem o_is : OpR X (compareOp .Is) (rD G gIs) := opr_imp op_isN fun x y H Q' h => by
  obtain ⟨B, d, e, Q, hd, he, _, ⟨e0, n, hq⟩, k⟩ := h
  subst e0
  cases he
  exact ⟨rfl, k _ H (.bl d.isN) (Ext.refl _ _) (by rw [hd.isN n]; rfl) hq⟩
def dAnd (ta tb : DT) : DT := fun ex env Q => ta ex env fun x => ∃ c, x = .bl c ∧ if c = true then tb ex env Q else Q (.bl false)
def dOr (ta tb : DT) : DT := fun ex env Q => ta ex env fun x => ∃ c, x = .bl c ∧ if c = true then Q (.bl true) else tb ex env Q
def dNot (ta : DT) : DT := fun ex env Q => ta ex env fun x => ∃ c, x = .bl c ∧ Q (.bl (!c))
theorem de_and {a b : Expr} {rest : List Expr} {pos : Pos} {ca cb : Nat} {ta tb : DT} (ha : DE G E X ca a ta) (hb : DE G E X cb (.BoolOp .And (b :: rest) pos) tb) : DE G E X (ca + cb) (.BoolOp .And (a :: b :: rest) pos) (dAnd ta tb) :=
  imp (pe_and ha hb) fun σ H Q' h => by
    obtain ⟨W, hc, Q, ht, k⟩ := h
    refine ⟨W, by omega, _, ht, fun v H1 d st hd ⟨c, e, hq⟩ => ⟨c, by subst e; exact hd, ?_⟩⟩
    cases c with
    | true => exact ⟨W.next st, by show W.m + cb ≤ W.n - ca; omega, Q, hq, fun r H2 rd st2 hr q => k r H2 rd (st.trans st2) hr q⟩
    | false => exact k _ H1 (.bl false) (st.less (by omega)) rfl hq
theorem de_or {a b : Expr} {rest : List Expr} {pos : Pos} {ca cb : Nat} {ta tb : DT} (ha : DE G E X ca a ta) (hb : DE G E X cb (.BoolOp .Or (b :: rest) pos) tb) : DE G E X (ca + cb) (.BoolOp .Or (a :: b :: rest) pos) (dOr ta tb) :=
  imp (pe_or ha hb) fun σ H Q' h => by
    obtain ⟨W, hc, Q, ht, k⟩ := h
    refine ⟨W, by omega, _, ht, fun v H1 d st hd ⟨c, e, hq⟩ => ⟨c, by subst e; exact hd, ?_⟩⟩
    cases c with
    | false => exact ⟨W.next st, by show W.m + cb ≤ W.n - ca; omega, Q, hq, fun r H2 rd st2 hr q => k r H2 rd (st.trans st2) hr q⟩
    | true => exact k _ H1 (.bl true) (st.less (by omega)) rfl hq
theorem de_not {a : Expr} {pos : Pos} {ca : Nat} {ta : DT} (ha : DE G E X ca a ta) : DE G E X ca (.UnaryOp .Not a pos) (dNot ta) :=
  imp (pe_not ha) fun σ H Q' h => by
    obtain ⟨W, hc, Q, ht, k⟩ := h
    exact ⟨W, hc, _, ht, fun v H1 d st hd ⟨c, e, hq⟩ => ⟨c, by subst e; exact hd, k _ H1 (.bl (!c)) st rfl hq⟩⟩
end
end Kn
set_option Elab.async false
set_option linter.all false
set_option maxRecDepth 100000
set_option maxHeartbeats 2100000
namespace Kn
open PySem L2
open PyProof.Rows (envOfC)
structure DEnds where
  nx : List Sl → Prop
  rt : D → List Sl → Prop
  bk : List Sl → Prop := fun _ => False
  ct : List Sl → Prop := fun _ => False
abbrev DS := (Exc → Prop) → DEnds → List Sl → Prop
section
variable {G : Gd} {E : XK}
/-- the same body, later -/
structure Later {σ σ' : List (Option V)} {H H' : Hp} (W : Wd G E σ H) (c : Nat) (W' : Wd G E σ' H') : Prop where
  u : W'.u = W.u
  B : W'.B = W.B
  H0 : W'.H0 = W.H0
  ex : W'.ex = W.ex
  m : W'.m = W.m
  n : W.n ≤ W'.n + c
  keep : ∀ b o, ¬ W.XB b → H b = some o → H' b = some o
  xb : ∀ b, W'.XB b → W.XB b ∨ H b = none
theorem Later.trans {σ σ' τ : List (Option V)} {H H' L : Hp} {W : Wd G E σ H} {c d : Nat} {W' : Wd G E σ' H'} {W2 : Wd G E τ L} (a : Later W c W') (b : Later W' d W2) : Later W (c + d) W2 :=
  ⟨b.u.trans a.u, b.B.trans a.B, b.H0.trans a.H0, b.ex.trans a.ex, b.m.trans a.m, by have := a.n; have := b.n; omega,
    fun p o n e => b.keep p o (fun z => (a.xb p z).elim n (fun q => by rw [e] at q; cases q)) (a.keep p o n e), fun p z => (b.xb p z).elim (a.xb p) fun q => by
      by_cases hx : W.XB p
      · exact .inl hx
      · cases hp : H p with
        | none => exact .inr rfl
        | some o => rw [a.keep p o hx hp] at q; cases q⟩
theorem Later.more {σ σ' : List (Option V)} {H H' : Hp} {W : Wd G E σ H} {c d : Nat} {W' : Wd G E σ' H'} (a : Later W c W') (h : c ≤ d) : Later W d W' :=
  ⟨a.u, a.B, a.H0, a.ex, a.m, by have := a.n; omega, a.keep, a.xb⟩
theorem Later.refl {σ : List (Option V)} {H : Hp} (W : Wd G E σ H) : Later W 0 W := ⟨rfl, rfl, rfl, rfl, rfl, by omega, fun _ _ _ h => h, fun _ h => .inl h⟩
theorem Step.keep {σ : List (Option V)} {H H' : Hp} {W : Wd G E σ H} {c : Nat} (st : Step W c H') {b : Addr} {o : HO} (n : ¬ W.XB b) (h : H b = some o) : H' b = some o := st.ext b o h (W.nuX n)
theorem Later.next {σ : List (Option V)} {H H' : Hp} {W : Wd G E σ H} {c : Nat} (st : Step W c H') : Later W c (W.next st) := ⟨rfl, rfl, rfl, rfl, rfl, by show W.n ≤ W.n - c + c; omega, fun b o n h => st.keep n h, fun b h => .inl h⟩
/-- what holds of a value beside the frame's own lists holds of it behind the frame -/
theorem Den.out {σ : List (Option V)} {H H' : Hp} (W : Wd G E σ H) {d : D} {v : V} (h : Den G W.XB H' d v) : Den G W.B H' d v :=
  Den.keep (fun _ _ _ h => h) (fun _ h => .inl (.inl h)) d v h
end
def liftS (G : Gd) (E : XK) (c : Nat) (ts : DS) : TS := fun Dn σ H => ∃ W : Wd G E σ H, W.m + c ≤ W.n ∧ ∃ de : DEnds, ts W.ex de W.env ∧
  (∀ σ' H' (W' : Wd G E σ' H'), Later W c W' → de.nx W'.env → Dn.nx σ' H') ∧
  (∀ v σ' H' (W' : Wd G E σ' H') d, Later W c W' → Den G W.B H' d v → de.rt d W'.env → Dn.rt v H') ∧
  (∀ σ' H' (W' : Wd G E σ' H'), Later W c W' → de.bk W'.env → Dn.bk σ' H') ∧
  (∀ σ' H' (W' : Wd G E σ' H'), Later W c W' → de.ct W'.env → Dn.ct σ' H')
abbrev DSt (G : Gd) (E : XK) (X : Cx) (c : Nat) (st : Stmt) (t : DS) : Prop := PS X st (liftS G E c t)
abbrev DSs (G : Gd) (E : XK) (X : Cx) (c : Nat) (sts : List Stmt) (t : DS) : Prop := PSs X sts (liftS G E c t)
theorem impS {X : Cx} {st : Stmt} {t t' : TS} (h : PS X st t) (i : ∀ D σ H, t' D σ H → t D σ H) : PS X st t' := ⟨fun pins s σ H D I q => h.run pins s σ H D I (i D σ H q)⟩
theorem impSs {X : Cx} {st : List Stmt} {t t' : TS} (h : PSs X st t) (i : ∀ D σ H, t' D σ H → t D σ H) : PSs X st t' := ⟨fun pins s σ H D I q => h.run pins s σ H D I (i D σ H q)⟩
abbrev FSpec := List D → (D → Prop) → (Exc → Prop) → Prop
def liftF (G : Gd) (c : Nat) (S : FSpec) : Sp := fun vs H Q E => ∃ (u : Option Ur) (n : Nat) (B : Addr → Prop) (ds : List D) (R : D → Prop) (ex : Exc → Prop),
  u = G.u ∧ c ≤ n ∧ (∀ p, Pr u p → B p.1 ∧ B p.2) ∧ (∀ a, B a → H a ≠ none) ∧ Good u H n ∧ DenL G B H ds vs ∧ S ds R ex ∧
  (∀ v H' d, Ext u H H' → Good u H' (n - c) → Den G B H' d v → R d → Q v H') ∧ (∀ x C d H', Ext u H H' → Good u H' (n - c) → ExcIs G B H' x C d → ex x → E C d H')
/-- the def at f keeps S, by at most c draws and k calls deep, where no repr is under way -/
structure FnD (G : Gd) (P : Program) (w : World) (mg : Str → Option Value) (base : Heap) (k : Nat) (f : Addr) (fd : FuncData) (ps : List Str) (c : Nat) (S : FSpec) : Prop where
  run : ∀ (A : Around) (outer : List Env) (s : Shared) (H : Hp) (args : Args) (us : List Value) (vs : List V) (Q : VK) (E : XK), Room k A → A.guards = some [] → Env0 P w G.K mg base A outer s H →
    BindsTo s fd args (ps.zip us) → Vals vs us → vs.length = ps.length → liftF G c S vs H Q E → codeAny (model P w) A (.call (.ref f) args) (CR (L2.CX P w) outer P w H s Q E) s
/-- the slots at the entry -/
def env0 (N : List Str) (ds : List D) : List Sl := ds.map Sl.val ++ List.replicate (N.length - ds.length) Sl.emp
section
variable {G : Gd} {P : Program} {w : World} {mg : Str → Option Value} {base : Heap}
theorem FnD.mono {j k : Nat} {f : Addr} {fd : FuncData} {ps : List Str} {c : Nat} {S : FSpec} (F : FnD G P w mg base j f fd ps c S) (h : j ≤ k) : FnD G P w mg base k f fd ps c S :=
  ⟨fun A outer s H args us vs Q E hr => F.run A outer s H args us vs Q E (hr.mono h)⟩
theorem env0_get {N : List Str} {ds : List D} {i : Nat} {s : Sl} (h : (env0 N ds)[i]? = some s) : (∃ d, ds[i]? = some d ∧ s = .val d) ∨ s = .emp := by
  unfold env0 at h
  by_cases hi : i < ds.length
  · rw [List.getElem?_append_left (by simpa using hi), List.getElem?_map, List.getElem?_eq_getElem hi] at h
    exact .inl ⟨ds[i], List.getElem?_eq_getElem hi, (Option.some.inj h).symm⟩
  · rw [List.getElem?_append_right (by simpa using hi), List.getElem?_replicate] at h
    split at h
    · exact .inr (Option.some.inj h).symm
    · cases h
theorem start_get {N : List Str} {vs : List V} {i : Nat} {v : V} (h : vs[i]? = some v) : (L2.start N vs)[i]? = some (some v) := by
  have hi : i < vs.length := (List.getElem?_eq_some_iff.mp h).1
  unfold L2.start
  rw [List.getElem?_append_left (by simpa using hi), List.getElem?_map, h]
  rfl
/-- the state at a body's entry -/
theorem wd_start {N : List Str} {vs : List V} {H : Hp} {E : XK} {u : Option Ur} {n c : Nat} {B : Addr → Prop} {ds : List D} {ex : Exc → Prop} (hN : vs.length ≤ N.length) (hug : u = G.u) (hc : c ≤ n)
    (hu : ∀ p, Pr u p → B p.1 ∧ B p.2) (hB : ∀ a, B a → H a ≠ none) (hg : Good u H n) (hd : DenL G B H ds vs) (hx : ∀ x C d H', Ext u H H' → Good u H' (n - c) → ExcIs G B H' x C d → ex x → E C d H') :
    ∃ W : Wd G E (L2.start N vs) H, W.u = u ∧ W.n = n ∧ W.m = n - c ∧ W.B = B ∧ W.H0 = H ∧ W.env = env0 N ds ∧ W.ex = ex := by
  have hl := hd.length
  refine ⟨{ u := u, n := n, m := n - c, B := B, H0 := H, env := env0 N ds, ex := ex, ug := hug, hu := hu, hB := hB, fr := Ext.refl _ _, good := hg, len := ?_, sl := ?_, nd := ?_, exc := hx }, rfl, rfl, rfl, rfl, rfl, rfl, rfl⟩
  · unfold env0 L2.start
    simp only [List.length_append, List.length_map, List.length_replicate]
    omega
  · intro i s hs
    rcases env0_get hs with ⟨d, hd1, rfl⟩ | rfl
    · obtain ⟨x, hx1, hx2⟩ := hd.get hd1
      refine ⟨x, by rw [start_get hx1]; rfl, ?_⟩
      exact Den.keep (fun _ _ _ h => h) (fun b hb => by
        rcases hb with hb | ⟨i, es, e1, hm, _⟩
        · exact .inl hb
        · rcases env0_get e1 with ⟨_, _, z⟩ | z <;> (subst z; cases hm)) d x hx2
    · trivial
  · intro i j a s t e1 _ hm
    rcases env0_get e1 with ⟨_, _, z⟩ | z <;> (subst z; cases hm)
/-- THE RULE for a def: its body as a term of rules over trees, what the promise asks of that term -/
theorem fnd_at {k : Nat} {f : Addr} {x qual : Str} {st : Stmt} {fd : FuncData} {N ps : List Str} {c : Nat} {S : FSpec} {ts : DS} {cdv : Value}
    (hF : ∃ (oc : Value) (od : Option Addr) (kV doc pm : Value) (an : Option Addr) (ct : Value) (osl : Array (Option Value)), fd = PySem.W.fnOf x qual (defArgs st) (defBody st) (defScope st) .none kV doc pm an cdv ct ∧ G.K.lookup f = some ⟨oc, od, .func fd, osl⟩ ∧ PySem.W.codeIn G.K cdv qual = true) (Sc : FnScope N ps (defScope st))
    (hder : ∀ (A : Around) (outer : List Env) (s : Shared) (H : Hp) (E : XK), Room k (A.deeper (envOfC qual (defScope st) s.heap.objs.size f cdv)) → A.guards = some [] →
      DSs G E (cxOf (L2.CX P w) P w G.K mg base N qual (defScope st) f cdv A outer s H E) c (defBody st) ts)
    (hS : ∀ ds R ex, ds.length = ps.length → S ds R ex → ts ex { nx := fun _ => R .non, rt := fun d _ => R d } (env0 N ds)) : FnD G P w mg base (k + 1) f fd ps c S := by
  refine ⟨fun A outer s H args us vs Q E hr hgd e0 hb rv hlen hsp => ?_⟩
  obtain ⟨u, n, B, ds, R, ex, hug, hc, hu, hB, hg, hd, hs, hq, hx⟩ := hsp
  have hNl : vs.length ≤ N.length := by
    have h1 := congrArg List.length Sc.pre
    rw [List.length_take] at h1
    omega
  obtain ⟨oc, od, kV, doc, pm, an, ct, osl, rfl, lk, hcd⟩ := hF; have KX : G.K.In s.heap := PySem.W.Frag.In.keeps e0.mod.kin (fun b o e => (e0.bs b o e).1)
  have nolim : s.heap.NoLimit := Heap.NoLimit.keeps e0.mod.nolimit (fun b o e => (e0.bs b o e).1)
  have kinds : ∀ y ∈ ps.zip us, (defScope st).names.lookup y.1 = some .local ∨
      ((defScope st).names.lookup y.1 = some .cell ∧ ((cellsFrom (s.heap.objs.size + 1) (defScope st).names []).lookup y.1).isSome = true) := by
    intro y hy
    obtain ⟨n1, v1⟩ := y
    rcases Sc.par n1 (List.of_mem_zip hy).1 with z | z
    · exact .inl z
    · exact .inr ⟨z, PySem.W.cellsFrom_some _ _ _ (.inl z)⟩
  refine codeAny_call_function hr.depth (KX _ _ lk) rfl Sc.co Sc.gen rfl (PySem.W.codeRec_of KX hcd) ?_
  refine hb _ _ _ _ (wpAny_newFunctionEnv_cells Sc.kind kinds ?_)
  intro env he s1 ic
  subst he
  refine ⟨nolim.keeps ic.toInCall.keep, codeAny_func ?_⟩
  have I : Inv (cxOf (L2.CX P w) P w G.K mg base N qual (defScope st) f cdv A outer s H E) [] (L2.start N vs) H s1 := inv_start Sc hr.hd e0 hlen rv ic
  have hds : ds.length = ps.length := by rw [hd.length, hlen]
  obtain ⟨W, w1, w2, w3, w4, w5, w6, w7⟩ := wd_start (N := N) (E := E) hNl hug hc hu hB hg hd hx
  have body := (hder A outer s H E (hr.deeper _) hgd).run [] s1 (L2.start N vs) H { nx := fun _ H' => Q .non H', rt := Q } I (by
    refine ⟨W, by rw [w2, w3]; omega, _, by rw [w6, w7]; exact hS ds R ex hds hs, ?_, ?_, ?_, ?_⟩
    · intro σ' H' W' lt hr'
      have hE : Ext u H H' := by have z := W'.fr; rw [lt.u, lt.H0, w1, w5] at z; exact z
      have hG : Good u H' (n - c) := by have z := W'.good; rw [lt.u, w1] at z; exact z.less (by have := lt.n; rw [w2] at this; omega)
      exact hq .non H' .non hE hG rfl hr'
    · intro v σ' H' W' d lt hd' hr'
      have hE : Ext u H H' := by have z := W'.fr; rw [lt.u, lt.H0, w1, w5] at z; exact z
      have hG : Good u H' (n - c) := by have z := W'.good; rw [lt.u, w1] at z; exact z.less (by have := lt.n; rw [w2] at this; omega)
      rw [w4] at hd'
      exact hq v H' d hE hG hd' hr'
    · intro σ' H' W' lt z; exact z.elim
    · intro σ' H' W' lt z; exact z.elim)
  refine wpAny_mono body ?_ (fun e s' hs => hs)
  intro fl s' hfl
  cases fl with
  | next => obtain ⟨σ', H', J, q⟩ := hfl; exact ⟨.non, H', J.os, J.bare, J.base, J.hok, rfl, q⟩
  | ret v' => obtain ⟨v, σ', H', J, r1, q⟩ := hfl; exact ⟨v, H', J.os, J.bare, J.base, J.hok, r1, q⟩
  | brk => obtain ⟨σ', H', J, q⟩ := hfl; exact q.elim
  | cont => obtain ⟨σ', H', J, q⟩ := hfl; exact q.elim
theorem fnd_of {k : Nat} {f : Addr} {x qual : Str} {st : Stmt} {fd : FuncData} {N ps : List Str} {c : Nat} {S : FSpec} {ts : DS} (F : Fun G.K x qual st f fd) (Sc : FnScope N ps (defScope st))
    (hder : ∀ (cdv : Value) (A : Around) (outer : List Env) (s : Shared) (H : Hp) (E : XK), Room k (A.deeper (envOfC qual (defScope st) s.heap.objs.size f cdv)) → A.guards = some [] →
      DSs G E (cxOf (L2.CX P w) P w G.K mg base N qual (defScope st) f cdv A outer s H E) c (defBody st) ts)
    (hS : ∀ ds R ex, ds.length = ps.length → S ds R ex → ts ex { nx := fun _ => R .non, rt := fun d _ => R d } (env0 N ds)) : FnD G P w mg base (k + 1) f fd ps c S := by
  obtain ⟨oc, od, kV, doc, pm, an, cdv, ct, osl, h1, h2, h3⟩ := F.ex
  exact fnd_at ⟨oc, od, kV, doc, pm, an, ct, osl, h1, h2, h3⟩ Sc (hder cdv) hS
end
end Kn
set_option Elab.async false
set_option linter.all false
set_option maxRecDepth 100000
set_option maxHeartbeats 2100000
namespace Kn
open PySem L2
open PyProof.Rows (envOfC)
section
variable {G : Gd} {E : XK} {X : Cx}
def sNil : DS := fun _ de env => de.nx env
def sSeq (t u : DS) : DS := fun ex de env => t ex { de with nx := fun env' => u ex de env' } env
theorem ds_nil : DSs G E X 0 [] sNil := impSs pss_nil fun Dn σ H h => by
  obtain ⟨W, _, de, ht, k, _⟩ := h
  exact k σ H W (Later.refl W) ht
theorem lift_seq {c d : Nat} {t u : DS} {Dn : Ends} {σ : List (Option V)} {H : Hp} (h : liftS G E (c + d) (sSeq t u) Dn σ H) : tSeq (liftS G E c t) (liftS G E d u) Dn σ H := by
  obtain ⟨W, hc, de, ht, k1, k2, k3, k4⟩ := h
  refine ⟨W, by omega, _, ht, fun σ' H' W' lt hn => ?_, fun v σ' H' W' d' lt hd hr => k2 v σ' H' W' d' (lt.more (by omega)) hd hr, fun σ' H' W' lt hn => k3 σ' H' W' (lt.more (by omega)) hn, fun σ' H' W' lt hn => k4 σ' H' W' (lt.more (by omega)) hn⟩
  refine ⟨W', by have := lt.n; rw [lt.m]; omega, de, by rw [lt.ex]; exact hn, fun σ2 H2 W2 l2 q => k1 σ2 H2 W2 (lt.trans l2) q, fun v σ2 H2 W2 d' l2 hd hr => k2 v σ2 H2 W2 d' (lt.trans l2) (by rw [lt.B] at hd; exact hd) hr,
    fun σ2 H2 W2 l2 q => k3 σ2 H2 W2 (lt.trans l2) q, fun σ2 H2 W2 l2 q => k4 σ2 H2 W2 (lt.trans l2) q⟩
theorem ds_cons {c d : Nat} {st : Stmt} {rest : List Stmt} {t u : DS} (h1 : DSt G E X c st t) (h2 : DSs G E X d rest u) : DSs G E X (c + d) (st :: rest) (sSeq t u) := impSs (pss_cons h1 h2) fun Dn σ H h => lift_seq h
theorem ds_one {c : Nat} {st : Stmt} {t : DS} (h1 : DSt G E X c st t) : DSs G E X c [st] t := pss_one h1
def sNever : DS := fun _ _ _ => False
theorem ds_never {st : Stmt} : DSt G E X 0 st sNever := impS ps_never fun Dn σ H h => by
  obtain ⟨W, _, de, ht, _⟩ := h
  exact ht
def sRet (te : DT) : DS := fun ex de env => te ex env fun d => de.rt d env
theorem ds_ret {c : Nat} {e : Expr} {pos : Pos} {te : DT} (he : DE G E X c e te) : DSt G E X c (.Return (some e) pos) (sRet te) := impS (ps_ret he) fun Dn σ H h => by
  obtain ⟨W, hc, de, ht, k1, k2, k3, k4⟩ := h
  exact ⟨W, hc, _, ht, fun v H' d st hd hr => k2 v _ H' (W.next st) d (Later.next st) (hd.out W) hr⟩
def dTrue (te : DT) : DB := fun ex env Q => te ex env fun x => ∃ b, x = .bl b ∧ Q b
def sIf (tc : DB) (t u : DS) : DS := fun ex de env => tc ex env fun b => if b = true then t ex de env else u ex de env
theorem ds_if {cc ca cb : Nat} {e : Expr} {a b : List Stmt} {pos : Pos} {tc : DB} {t u : DS} (hc : DPt G E X cc e tc) (ha : DSs G E X ca a t) (hb : DSs G E X cb b u) : DSt G E X (cc + (ca + cb)) (.If e a b pos) (sIf tc t u) :=
  impS (ps_if hc ha hb) fun Dn σ H h => by
    obtain ⟨W, hn, de, ht, k1, k2, k3, k4⟩ := h
    refine ⟨W, by omega, _, ht, fun r H' st hr => ?_⟩
    have l := Later.next st
    cases r with
    | true =>
      refine ⟨W.next st, by show W.m + ca ≤ W.n - cc; omega, de, hr, fun σ2 H2 W2 l2 q => k1 σ2 H2 W2 ((l.trans l2).more (by omega)) q, fun v σ2 H2 W2 d' l2 hd hr => k2 v σ2 H2 W2 d' ((l.trans l2).more (by omega)) hd hr,
        fun σ2 H2 W2 l2 q => k3 σ2 H2 W2 ((l.trans l2).more (by omega)) q, fun σ2 H2 W2 l2 q => k4 σ2 H2 W2 ((l.trans l2).more (by omega)) q⟩
    | false =>
      refine ⟨W.next st, by show W.m + cb ≤ W.n - cc; omega, de, hr, fun σ2 H2 W2 l2 q => k1 σ2 H2 W2 ((l.trans l2).more (by omega)) q, fun v σ2 H2 W2 d' l2 hd hr => k2 v σ2 H2 W2 d' ((l.trans l2).more (by omega)) hd hr,
        fun σ2 H2 W2 l2 q => k3 σ2 H2 W2 ((l.trans l2).more (by omega)) q, fun σ2 H2 W2 l2 q => k4 σ2 H2 W2 ((l.trans l2).more (by omega)) q⟩
theorem lift_true {c : Nat} {te : DT} {σ : List (Option V)} {H : Hp} {Q' : Bool → Hp → Prop} (h : liftB G E c (dTrue te) σ H Q') : lift G E c te σ H fun x H' => ∃ b, x = .bl b ∧ Q' b H' := by
  obtain ⟨W, hc, Q, ht, k⟩ := h
  refine ⟨W, hc, _, ht, fun v H' d st hd ⟨b, e, hq⟩ => ⟨b, by subst e; exact hd, k b H' st hq⟩⟩
/-- a test that is a comparison -/
theorem dt_cmp {a b : Expr} {op : CmpOp} {pos : Pos} {g : G2} {ca cb : Nat} {ta tb : DT} (ho : OpR X (compareOp op) (rD G g)) (ha : DE G E X ca a ta) (hb : DE G E X cb b tb) (hm : behindInMarks op b = false) :
    DPt G E X (ca + cb) (.Compare a [op] [b] pos) (dTrue (dOp g ta tb)) := impT (pt_cmpR ho ha hb hm) fun σ H Q' h => by
  have h2 := lift_true h
  exact lift_op h2
/-- a test by its value: a name, a call, an attribute, an item -/
theorem dt_val {e : Expr} {c : Nat} {te : DT} (h : DE G E X c e te) (he : ∀ whole, isTrue e X.env whole = (do let v ← whole; standAt e.pos; holding [v] (truthy v)) := by intro _; rfl) : DPt G E X c e (dTrue te) :=
  impT (pt_val h he) fun σ H Q' h => lift_true h
def bAnd (t u : DB) : DB := fun ex env Q => t ex env fun b => if b = true then u ex env Q else Q false
def bOr (t u : DB) : DB := fun ex env Q => t ex env fun b => if b = true then Q true else u ex env Q
def bNot (t : DB) : DB := fun ex env Q => t ex env fun b => Q (!b)
end
end Kn
set_option Elab.async false
set_option linter.all false
set_option maxRecDepth 100000
set_option maxHeartbeats 2100000
namespace Kn
open PySem L2
open PyProof.Rows (envOfC)
section
variable {G : Gd} {E : XK} {X : Cx}
theorem dw_and {a b : Expr} {rest : List Expr} {pos : Pos} {ca cb : Nat} {t u : DB} (ha : DPt G E X ca a t) (hb : PW X (.BoolOp .And (b :: rest) pos) (liftB G E cb u)) : PW X (.BoolOp .And (a :: b :: rest) pos) (liftB G E (ca + cb) (bAnd t u)) :=
  ⟨fun wh pins s σ H Q I h => (pw_and ha hb).run wh pins s σ H Q I (by
    obtain ⟨W, hn, Q1, ht, k⟩ := h
    refine ⟨W, by omega, _, ht, fun r H' st hr => ?_⟩
    cases r with
    | true => exact ⟨W.next st, by show W.m + cb ≤ W.n - ca; omega, Q1, hr, fun r2 H2 st2 q => k r2 H2 (st.trans st2) q⟩
    | false => exact k false H' (st.less (by omega)) hr)⟩
theorem dw_or {a b : Expr} {rest : List Expr} {pos : Pos} {ca cb : Nat} {t u : DB} (ha : DPt G E X ca a t) (hb : PW X (.BoolOp .Or (b :: rest) pos) (liftB G E cb u)) : PW X (.BoolOp .Or (a :: b :: rest) pos) (liftB G E (ca + cb) (bOr t u)) :=
  ⟨fun wh pins s σ H Q I h => (pw_or ha hb).run wh pins s σ H Q I (by
    obtain ⟨W, hn, Q1, ht, k⟩ := h
    refine ⟨W, by omega, _, ht, fun r H' st hr => ?_⟩
    cases r with
    | true => exact k true H' (st.less (by omega)) hr
    | false => exact ⟨W.next st, by show W.m + cb ≤ W.n - ca; omega, Q1, hr, fun r2 H2 st2 q => k r2 H2 (st.trans st2) q⟩)⟩
theorem dw_and1 {a : Expr} {pos : Pos} {c : Nat} {t : DB} (ha : DPt G E X c a t) : PW X (.BoolOp .And [a] pos) (liftB G E c t) := pw_and1 ha
theorem dw_or1 {a : Expr} {pos : Pos} {c : Nat} {t : DB} (ha : DPt G E X c a t) : PW X (.BoolOp .Or [a] pos) (liftB G E c t) := pw_or1 ha
theorem dt_w {e : Expr} {c : Nat} {t : DB} (h : PW X e (liftB G E c t)) : DPt G E X c e t := h.pt
theorem dt_not {a : Expr} {pos : Pos} {c : Nat} {t : DB} (ha : DPt G E X c a t) : DPt G E X c (.UnaryOp .Not a pos) (bNot t) := impT (pt_not ha) fun σ H Q' h => by
  obtain ⟨W, hn, Q1, ht, k⟩ := h
  exact ⟨W, hn, _, ht, fun r H' st hr => k _ H' st hr⟩
/-- a < b <= c -/
def dChain (g g' : G2) (ta tb tc : DT) : DT := fun ex env Q => ta ex env fun x => tb ex env fun y => g x y fun z => ∃ k, z = .bl k ∧ if k = true then tc ex env fun w' => g' y w' Q else Q (.bl false)
theorem lift_chain {g g' : G2} {ca cb cc : Nat} {ta tb tc : DT} {σ : List (Option V)} {H : Hp} {Q' : VK} (h : lift G E (ca + (cb + cc)) (dChain g g' ta tb tc) σ H Q') :
    tChain (rD G g) (rD G g') (lift G E ca ta) (lift G E cb tb) (lift G E cc tc) σ H Q' := by
  obtain ⟨W, hc, Q, ht, k⟩ := h
  refine ⟨W, by omega, _, ht, fun v H1 d st hd hq => ⟨W.next st, by show W.m + cb ≤ W.n - ca; omega, _, hq, fun v2 H2 e st2 he hg => ?_⟩⟩
  refine ⟨W.XB, d, e, _, (W.next st).den st2 hd, he, fun p hp => ((W.next st).next st2).fresh hp, hg, fun r H' rd ex hr ⟨b, e1, hq2⟩ => ?_⟩
  subst e1
  have s3 : Step W (ca + cb) H' := (st.trans st2).pure ex
  refine ⟨b, hr, ?_⟩
  cases b with
  | false => exact k _ H' (.bl false) (s3.less (by omega)) (den_bl false) hq2
  | true =>
    refine ⟨W.next s3, by show W.m + cc ≤ W.n - (ca + cb); omega, _, hq2, fun v3 H3 f st3 hf hg3 => ?_⟩
    refine ⟨W.XB, e, f, Q, ?_, hf, fun p hp => ((W.next s3).next st3).fresh hp, hg3, fun r2 H4 rd2 ex2 hr2 q => k r2 H4 rd2 (((s3.trans st3).pure ex2).less (by omega)) hr2 q⟩
    exact (W.next s3).den st3 (he.ext (u := none) ex (fun _ z => z.none.elim))
theorem dt_chain {a b c : Expr} {op op' : CmpOp} {pos : Pos} {g g' : G2} {ca cb cc : Nat} {ta tb tc : DT} (ho : OpR X (compareOp op) (rD G g)) (ho' : OpR X (compareOp op') (rD G g')) (ha : DE G E X ca a ta) (hb : DE G E X cb b tb) (hc : DE G E X cc c tc)
    (hm : lastMarks [op, op'] [b, c] = false := by with_unfolding_all rfl) : DPt G E X (ca + (cb + cc)) (.Compare a [op, op'] [b, c] pos) (dTrue (dChain g g' ta tb tc)) := impT (pt_chain ho ho' ha hb hc hm) fun _ _ _ h => by
  have h2 := lift_true h
  exact lift_chain h2
/-- a if t else b -/
def dIf (tc : DB) (ta tb : DT) : DT := fun ex env Q => tc ex env fun b => if b = true then ta ex env Q else tb ex env Q
theorem de_ife {c a b : Expr} {pos : Pos} {cc ca cb : Nat} {tc : DB} {ta tb : DT} (hc : DPt G E X cc c tc) (ha : DE G E X ca a ta) (hb : DE G E X cb b tb) : DE G E X (cc + (ca + cb)) (.IfExp c a b pos) (dIf tc ta tb) :=
  imp (pe_ifExp hc ha hb) fun σ H Q' h => by
    obtain ⟨W, hn, Q, ht, k⟩ := h
    refine ⟨W, by omega, _, ht, fun r H' st hr => ?_⟩
    cases r with
    | true => exact ⟨W.next st, by show W.m + ca ≤ W.n - cc; omega, Q, hr, fun v H2 d st2 hd q => k v H2 d ((st.trans st2).less (by omega)) hd q⟩
    | false => exact ⟨W.next st, by show W.m + cb ≤ W.n - cc; omega, Q, hr, fun v H2 d st2 hd q => k v H2 d ((st.trans st2).less (by omega)) hd q⟩
def aNil : DA := fun _ _ Q => Q []
def aCons (t : DT) (u : DA) : DA := fun ex env Q => t ex env fun x => u ex env fun xs => Q (x :: xs)
theorem da_nil : DEs G E X 0 [] aNil := impA pa_nil fun σ H Q' h => by
  obtain ⟨W, hn, Q, ht, k⟩ := h
  exact k [] H [] (Step.refl W) rfl ht
theorem da_cons {e : Expr} {es : List Expr} {c d : Nat} {t : DT} {u : DA} (he : DE G E X c e t) (hes : DEs G E X d es u) (hs : ∀ env : Env, starEach (e :: es) env = (false, eval e env) :: starEach es env := by intro _; rfl) : DEs G E X (c + d) (e :: es) (aCons t u) :=
  impA (pa_cons he hes (by exact hs X.env)) fun σ H Q' h => by
    obtain ⟨W, hn, Q, ht, k⟩ := h
    refine ⟨W, by omega, _, ht, fun v H1 d1 st hd hq => ⟨W.next st, by show W.m + d ≤ W.n - c; omega, _, hq, fun vs H2 ds st2 hds q => ?_⟩⟩
    exact k (v :: vs) H2 (d1 :: ds) (st.trans st2) ⟨v, vs, rfl, (W.next st).den st2 hd, hds⟩ q
def dTup (u : DA) : DT := fun ex env Q => u ex env fun ds => ds.length ≤ sizeLine ∧ Q (.tup ds)
def dLst (u : DA) : DT := fun ex env Q => u ex env fun ds => ds.length ≤ sizeLine ∧ Q (.lst ds)
theorem de_tup {es : List Expr} {x1 : Nat} {pos : Pos} {c : Nat} {u : DA} (h : DEs G E X c es u) : DE G E X c (.Tuple es x1 pos) (dTup u) := imp (pe_tup h) fun σ H Q' h => by
  obtain ⟨W, hn, Q, ht, k⟩ := h
  refine ⟨W, hn, _, ht, fun vs H1 ds st hd ⟨hl, hq⟩ => ⟨by rw [← hd.length]; exact hl, fun p hp => ?_⟩⟩
  exact k _ _ (.tup ds) (st.new hp) (den_tup hp ((W.next st).fresh hp) (by rw [← hd.length]; exact hl) hd) hq
theorem de_lst {es : List Expr} {pos : Pos} {c : Nat} {u : DA} (h : DEs G E X c es u) : DE G E X c (.List es pos) (dLst u) := imp (pe_lst h) fun σ H Q' h => by
  obtain ⟨W, hn, Q, ht, k⟩ := h
  refine ⟨W, hn, _, ht, fun vs H1 ds st hd ⟨hl, hq⟩ => ⟨by rw [← hd.length]; exact hl, fun p hp => ?_⟩⟩
  exact k _ _ (.lst ds) (st.new hp) (den_lst hp ((W.next st).fresh hp) (by rw [← hd.length]; exact hl) hd) hq
def gIx : G2 := fun d e Q => match d, e with
  | .lst ds, .int i => ∃ x, atI ds i = some x ∧ Q x
  | .tup ds, .int i => ∃ x, atI ds i = some x ∧ Q x
  | _, _ => False
theorem denL_at {B : Addr → Prop} {H : Hp} {ds : List D} {xs : List V} {i : Int} {d : D} (h : DenL G B H ds xs) (e : atI ds i = some d) : ∃ x, atI xs i = some x ∧ Den G B H d x := by
  unfold atI at e ⊢
  rw [h.length] at e
  cases hj : ixN xs.length i with
  | none => rw [hj] at e; cases e
  | some j => rw [hj] at e; exact h.get e
theorem i_ix (hK : X.K = G.K) : IxR X (rD G gIx) := by
  intro value slice pins s σ H x y v u Q' I rx ry h hs
  obtain ⟨B, d, e, Q, hd, he, hf, hg, k⟩ := h
  cases d <;> cases e <;> try exact hg.elim
  · rename_i ds i
    obtain ⟨a, xs, rfl, na, ha, la, da⟩ := hd
    obtain ⟨z, hz, hq⟩ := hg
    obtain ⟨x, hx, dx⟩ := denL_at da hz
    exact ix_list value slice pins s σ H _ _ v u Q' I rx ry ⟨a, xs, i, x, rfl, he, SqL.of ha, hx, k _ H z (Ext.refl _ _) dx hq⟩ hs
  · rename_i ds i
    obtain ⟨a, xs, rfl, na, ha, la, da⟩ := hd
    obtain ⟨z, hz, hq⟩ := hg
    obtain ⟨x, hx, dx⟩ := denL_at da hz
    exact ix_tup value slice pins s σ H _ _ v u Q' I rx ry ⟨a, xs, i, x, rfl, he, by rw [hK]; exact ha, hx, k _ H z (Ext.refl _ _) dx hq⟩ hs
theorem de_ix {a b : Expr} {pos : Pos} {ca cb : Nat} {ta tb : DT} (hK : X.K = G.K) (ha : DE G E X ca a ta) (hb : DE G E X cb b tb) (hs : PlainIx b) : DE G E X (ca + cb) (.Subscript a b pos) (dOp gIx ta tb) :=
  imp (pe_ix (i_ix hK) ha hb hs) fun _ _ _ h => lift_op h
abbrev GL := List D → (D → Prop) → Prop
def rDL (G : Gd) (g : GL) : List V → Hp → VK → Prop := fun xs H Q' => ∃ B ds Q, DenL G B H ds xs ∧ (∀ p, H p = none → ¬ B p) ∧ g ds Q ∧ ∀ r H' rd, Ext none H H' → Den G B H' rd r → Q rd → Q' r H'
def dBi (g : GL) (u : DA) : DT := fun ex env Q => u ex env fun ds => g ds Q
theorem lift_bi {g : GL} {c : Nat} {u : DA} {σ : List (Option V)} {H : Hp} {Q' : VK} (h : lift G E c (dBi g u) σ H Q') : tCB (rDL G g) (liftA G E c u) σ H Q' := by
  obtain ⟨W, hn, Q, ht, k⟩ := h
  refine ⟨W, hn, _, ht, fun vs H1 ds st hd hg => ⟨W.XB, ds, Q, hd, fun p hp => (W.next st).fresh hp, hg, fun r H' rd ex hr q => k r H' rd (st.pure ex) hr q⟩⟩
theorem de_bi {e : Expr} {es : List Expr} {x : Str} {p pos : Pos} {id : String} {g : GL} {c : Nat} {u : DA} (hc : CallR X (.builtin id) (rDL G g)) (hm : X.mg x = none) (ha : DEs G E X c (e :: es) u) (hg : Gl X x := by rfl) (hv : bootBuiltins x = some (.builtin id) := by decide +kernel)
    (hn : x ≠ "__name__" := by decide) (hdb : (x == ("__debug__" : Str)) = false := by decide) (he : starEach (e :: es) X.env = (false, eval e X.env) :: starEach es X.env := by rfl) (hpl : (backTo pos (starEach es X.env)).any (·.1) = false := by rfl) :
    DE G E X c (.Call (.Name x p) (e :: es) [] pos) (dBi g u) := imp (pe_callB hc hg hm hv ha hn hdb he hpl) fun _ _ _ h => lift_bi h
theorem de_ty {e : Expr} {es : List Expr} {x : Str} {p pos : Pos} {T : String} {g : GL} {c : Nat} {u : DA} (hc : CallR X (.type T) (rDL G g)) (hm : X.mg x = none) (ha : DEs G E X c (e :: es) u) (hg : Gl X x := by rfl) (hv : bootBuiltins x = some (.type T) := by decide +kernel)
    (hn : x ≠ "__name__" := by decide) (hdb : (x == ("__debug__" : Str)) = false := by decide) (he : starEach (e :: es) X.env = (false, eval e X.env) :: starEach es X.env := by rfl) (hpl : (backTo pos (starEach es X.env)).any (·.1) = false := by rfl) :
    DE G E X c (.Call (.Name x p) (e :: es) [] pos) (dBi g u) := imp (pe_callTy hc hg hm hv ha hn hdb he hpl) fun _ _ _ h => lift_bi h
theorem callr_imp {f : Value} {r r' : List V → Hp → VK → Prop} (h : CallR X f r) (i : ∀ xs H Q, r' xs H Q → r xs H Q) : CallR X f r' := fun pins s σ H xs us Q I r q => h pins s σ H xs us Q I r (i xs H Q q)
theorem denL1 {B : Addr → Prop} {H : Hp} {d : D} {xs : List V} (h : DenL G B H [d] xs) : ∃ x, xs = [x] ∧ Den G B H d x := by
  obtain ⟨x, r, e, h1, h2⟩ := h
  cases h2
  exact ⟨x, e, h1⟩
theorem denL2 {B : Addr → Prop} {H : Hp} {d e : D} {xs : List V} (h : DenL G B H [d, e] xs) : ∃ x y, xs = [x, y] ∧ Den G B H d x ∧ Den G B H e y := by
  obtain ⟨x, r, e, h1, h2⟩ := h
  obtain ⟨y, rfl, h3⟩ := denL1 h2
  exact ⟨x, y, e, h1, h3⟩
/-- one argument -/
def g1 (g : D → (D → Prop) → Prop) : GL := fun ds Q => match ds with
  | [d] => g d Q
  | _ => False
def g2 (g : G2) : GL := fun ds Q => match ds with
  | [d, e] => g d e Q
  | _ => False
theorem rDL1 {g : D → (D → Prop) → Prop} {xs : List V} {H : Hp} {Q' : VK} (h : rDL G (g1 g) xs H Q') : ∃ B d x Q, xs = [x] ∧ Den G B H d x ∧ (∀ p, H p = none → ¬ B p) ∧ g d Q ∧ ∀ r H' rd, Ext none H H' → Den G B H' rd r → Q rd → Q' r H' := by
  obtain ⟨B, ds, Q, hd, hf, hg, k⟩ := h
  match ds, hd, hg with
  | [d], hd, hg =>
    obtain ⟨x, rfl, hx⟩ := denL1 hd
    exact ⟨B, d, x, Q, rfl, hx, hf, hg, k⟩
theorem rDL2 {g : G2} {xs : List V} {H : Hp} {Q' : VK} (h : rDL G (g2 g) xs H Q') : ∃ B d e x y Q, xs = [x, y] ∧ Den G B H d x ∧ Den G B H e y ∧ (∀ p, H p = none → ¬ B p) ∧ g d e Q ∧ ∀ r H' rd, Ext none H H' → Den G B H' rd r → Q rd → Q' r H' := by
  obtain ⟨B, ds, Q, hd, hf, hg, k⟩ := h
  match ds, hd, hg with
  | [d, e], hd, hg =>
    obtain ⟨x, y, rfl, hx, hy⟩ := denL2 hd
    exact ⟨B, d, e, x, y, Q, rfl, hx, hy, hf, hg, k⟩
def gLen : D → (D → Prop) → Prop := fun d Q => match d with
  | .lst ds => Q (.int ds.length)
  | .tup ds => Q (.int ds.length)
  | .str x => x.length ≤ sizeLine ∧ Q (.int x.length)
  | _ => False
theorem c_len (hK : X.K = G.K) : CallR X (.builtin "len") (rDL G (g1 gLen)) := callr_imp call_len fun xs H Q' h => by
  obtain ⟨B, d, x, Q, rfl, hd, hf, hg, k⟩ := rDL1 h
  cases d <;> try exact hg.elim
  · rename_i z
    cases hd
    exact ⟨_, _, rfl, ⟨hg.1, rfl⟩, k _ H (.int z.length) (Ext.refl _ _) (den_int _) hg.2⟩
  · rename_i ds
    obtain ⟨a, ys, rfl, na, ha, la, da⟩ := hd
    exact ⟨_, _, rfl, .inl ⟨ys, SqL.of ha, rfl⟩, k _ H (.int ds.length) (Ext.refl _ _) (by rw [da.length]; exact den_int _) hg⟩
  · rename_i ds
    obtain ⟨a, ys, rfl, na, ha, la, da⟩ := hd
    exact ⟨_, _, rfl, .inr ⟨ys, by rw [hK]; exact ha, rfl⟩, k _ H (.int ds.length) (Ext.refl _ _) (by rw [da.length]; exact den_int _) hg⟩
def gList : D → (D → Prop) → Prop := fun d Q => match d with
  | .lst ds => Q (.lst ds)
  | .tup ds => Q (.lst ds)
  | _ => False
theorem c_list (hK : X.K = G.K) : CallR X (.type "list") (rDL G (g1 gList)) := callr_imp call_list_of fun xs H Q' h => by
  obtain ⟨B, d, x, Q, rfl, hd, hf, hg, k⟩ := rDL1 h
  cases d <;> try exact hg.elim
  · rename_i ds
    obtain ⟨a, ys, rfl, na, ha, la, da⟩ := hd
    exact ⟨_, ys, rfl, .inl (SqL.of ha), fun p hp => k _ _ (.lst ds) (Ext.new hp) (den_lst hp (hf p hp) la da) hg⟩
  · rename_i ds
    obtain ⟨a, ys, rfl, na, ha, la, da⟩ := hd
    exact ⟨_, ys, rfl, .inr (by rw [hK]; exact ha), fun p hp => k _ _ (.lst ds) (Ext.new hp) (den_lst hp (hf p hp) la da) hg⟩
def gTuple : D → (D → Prop) → Prop := fun d Q => match d with
  | .lst ds => Q (.tup ds)
  | .tup ds => Q (.tup ds)
  | _ => False
theorem c_tuple (hK : X.K = G.K) : CallR X (.type "tuple") (rDL G (g1 gTuple)) := callr_imp call_tuple_of fun xs H Q' h => by
  obtain ⟨B, d, x, Q, rfl, hd, hf, hg, k⟩ := rDL1 h
  cases d <;> try exact hg.elim
  · rename_i ds
    obtain ⟨a, ys, rfl, na, ha, la, da⟩ := hd
    exact ⟨_, ys, rfl, .inl ⟨SqL.of ha, fun p hp => k _ _ (.tup ds) (Ext.new hp) (den_tup hp (hf p hp) la da) hg⟩⟩
  · rename_i ds
    obtain ⟨a, ys, rfl, na, ha, la, da⟩ := hd
    exact ⟨_, ys, rfl, .inr ⟨by rw [hK]; exact ha, k _ H (.tup ds) (Ext.refl _ _) ⟨a, ys, rfl, na, ha, la, da⟩ hg⟩⟩
theorem DenL.bls {B : Addr → Prop} {H : Hp} : ∀ {bs : List Bool} {xs : List V}, DenL G B H (bs.map D.bl) xs → xs = bs.map V.bl
  | [], _, h => h
  | b :: bs, _, ⟨x, r, e, h1, h2⟩ => by subst e; rw [show x = V.bl b from h1, DenL.bls h2]; rfl
/-- all | any of a list of truths -/
def gAll : D → (D → Prop) → Prop := fun d Q => ∃ bs : List Bool, d = .lst (bs.map D.bl) ∧ Q (.bl (bs.all id))
theorem c_all (hc : X.calm = true) : CallR X (.builtin "all") (rDL G (g1 gAll)) := callr_imp (cr_all hc) fun xs H Q' h => by
  obtain ⟨B, d, x, Q, rfl, hd, hf, ⟨bs, rfl, hq⟩, k⟩ := rDL1 h
  obtain ⟨a, ys, rfl, na, ha, la, da⟩ := hd
  have := da.bls
  subst this
  exact ⟨a, bs, rfl, SqL.of ha, k _ H (.bl _) (Ext.refl _ _) (den_bl _) hq⟩
def gInt : D → (D → Prop) → Prop := fun d Q => match d with
  | .int i => Q (.int i)
  | .bl b => Q (.int (if b then 1 else 0))
  | _ => False
theorem c_int : CallR X (.type "int") (rDL G (g1 gInt)) := callr_imp call_int1 fun xs H Q' h => by
  obtain ⟨B, d, x, Q, rfl, hd, hf, hg, k⟩ := rDL1 h
  cases d <;> try exact hg.elim
  · rename_i b
    cases hd
    exact .inr ⟨b, rfl, k _ H (.int _) (Ext.refl _ _) (den_int _) hg⟩
  · rename_i i
    cases hd
    exact .inl ⟨i, rfl, k _ H (.int i) (Ext.refl _ _) (den_int _) hg⟩
end
end Kn
set_option Elab.async false
set_option linter.all false
set_option maxRecDepth 100000
set_option maxHeartbeats 2100000
namespace Kn
open PySem L2
open PyProof.Rows (envOfC)
section
variable {G : Gd} {E : XK} {X : Cx} {σ : List (Option V)} {H H' : Hp}
theorem getD_set {α : Type} {l : List (Option α)} {i j : Nat} {v : Option α} : (l.set i v)[j]?.join = if i = j ∧ i < l.length then v else l[j]?.join := by
  by_cases h : i = j
  · subst h
    by_cases hi : i < l.length
    · rw [List.getElem?_set_self hi, if_pos ⟨rfl, hi⟩]; rfl
    · rw [List.getElem?_eq_none (by simpa using hi), if_neg (fun z => hi z.2), List.getElem?_eq_none (by simpa using hi)]
  · rw [List.getElem?_set_ne h, if_neg (fun z => h z.1)]
theorem xb_val {B : Addr → Prop} {env : List Sl} {i : Nat} {d : D} {v : Option V} {a : Addr} (hl : env.length = σ.length) (h : XBof B (env.set i (.val d)) (σ.set i v) a) : XBof B env σ a := by
  rcases h with h | ⟨j, s, h1, hm, h2⟩
  · exact .inl h
  · by_cases hj : i = j
    · subst hj
      by_cases hi : i < env.length
      · rw [List.getElem?_set_self hi] at h1; cases h1; cases hm
      · rw [List.getElem?_eq_none (by simpa using hi)] at h1; cases h1
    · rw [List.getElem?_set_ne hj] at h1 h2
      exact .inr ⟨j, s, h1, hm, h2⟩
theorem xb_emp {B : Addr → Prop} {env : List Sl} {i : Nat} {v : Option V} {a : Addr} (h : XBof B (env.set i .emp) (σ.set i v) a) : XBof B env σ a := by
  rcases h with h | ⟨j, s, h1, hm, h2⟩
  · exact .inl h
  · by_cases hj : i = j
    · subst hj
      by_cases hi : i < env.length
      · rw [List.getElem?_set_self hi] at h1; cases h1; cases hm
      · rw [List.getElem?_eq_none (by simpa using hi)] at h1; cases h1
    · rw [List.getElem?_set_ne hj] at h1 h2
      exact .inr ⟨j, s, h1, hm, h2⟩
theorem Den.fewer {B B' : Addr → Prop} {H : Hp} (s : ∀ b, B' b → B b) {d : D} {v : V} (h : Den G B H d v) : Den G B' H d v := Den.keep (fun _ _ _ h => h) (fun b hb => .inl (s b hb)) d v h
theorem DenL.fewer {B B' : Addr → Prop} {H : Hp} (s : ∀ b, B' b → B b) {ds : List D} {xs : List V} (h : DenL G B H ds xs) : DenL G B' H ds xs := DenL.keep (fun _ _ _ h => h) (fun b hb => .inl (s b hb)) ds xs h
theorem SlOk.fewer {H0 : Hp} {B B' : Addr → Prop} {H : Hp} (k : ∀ b, B' b → B b) {s : Sl} {v : Option V} (h : SlOk G H0 B H s v) : SlOk G H0 B' H s v := by
  cases s with
  | emp => trivial
  | val d => obtain ⟨x, e, h⟩ := h; exact ⟨x, e, h.fewer k⟩
  | own a ds => obtain ⟨xs, e, h0, h1, hl, h2⟩ := h; exact ⟨xs, e, h0, h1, hl, h2.fewer k⟩
  | slf a dx c ds => obtain ⟨xs, e, h0, h1, hl, h2⟩ := h; exact ⟨xs, e, h0, h1, hl, h2.fewer k⟩
  | obj a o => exact h
  | dic a ks ds => obtain ⟨L, e, h0, h1, hk, hx, h2⟩ := h; exact ⟨L, e, h0, h1, hk, hx.keep (fun _ _ _ h => h) (fun b hb => .inl (k b hb)), h2.fewer k⟩
/-- slot i holds a value from now on -/
def Wd.put (W : Wd G E σ H) (i : Nat) {d : D} {v : V} (hd : Den G W.XB H d v) : Wd G E (σ.set i (some v)) H where
  u := W.u
  n := W.n
  m := W.m
  B := W.B
  H0 := W.H0
  env := W.env.set i (.val d)
  ex := W.ex
  ug := W.ug
  hu := W.hu
  hB := W.hB
  fr := W.fr
  good := W.good
  len := by rw [List.length_set, List.length_set]; exact W.len
  sl := fun j s e => by
    have sub : ∀ b, XBof W.B (W.env.set i (.val d)) (σ.set i (some v)) b → W.XB b := fun b => xb_val W.len
    by_cases hj : i = j
    · subst hj
      by_cases hi : i < W.env.length
      · rw [List.getElem?_set_self hi] at e
        cases e
        rw [getD_set, if_pos ⟨rfl, by rw [← W.len]; exact hi⟩]
        exact ⟨v, rfl, hd.fewer sub⟩
      · rw [List.getElem?_eq_none (by simpa using hi)] at e; cases e
    · rw [List.getElem?_set_ne hj] at e
      rw [getD_set, if_neg (fun z => hj z.1)]
      exact (W.sl j s e).fewer sub
  nd := fun j k a s t h1 h2 m1 m2 h3 h4 => by
    have nj : i ≠ j := fun z => by
      subst z
      by_cases hi : i < W.env.length
      · rw [List.getElem?_set_self hi] at h1; cases h1; cases m1
      · rw [List.getElem?_eq_none (by simpa using hi)] at h1; cases h1
    have nk : i ≠ k := fun z => by
      subst z
      by_cases hi : i < W.env.length
      · rw [List.getElem?_set_self hi] at h2; cases h2; cases m2
      · rw [List.getElem?_eq_none (by simpa using hi)] at h2; cases h2
    rw [List.getElem?_set_ne nj] at h1 h3
    rw [List.getElem?_set_ne nk] at h2 h4
    exact W.nd j k a s t h1 h2 m1 m2 h3 h4
  exc := W.exc
/-- slot i is forgotten -/
def Wd.drop (W : Wd G E σ H) (i : Nat) (v : Option V) : Wd G E (σ.set i v) H where
  u := W.u
  n := W.n
  m := W.m
  B := W.B
  H0 := W.H0
  env := W.env.set i .emp
  ex := W.ex
  ug := W.ug
  hu := W.hu
  hB := W.hB
  fr := W.fr
  good := W.good
  len := by rw [List.length_set, List.length_set]; exact W.len
  sl := fun j s e => by
    have sub : ∀ b, XBof W.B (W.env.set i .emp) (σ.set i v) b → W.XB b := fun b => xb_emp
    by_cases hj : i = j
    · subst hj
      by_cases hi : i < W.env.length
      · rw [List.getElem?_set_self hi] at e
        cases e
        trivial
      · rw [List.getElem?_eq_none (by simpa using hi)] at e; cases e
    · rw [List.getElem?_set_ne hj] at e
      rw [getD_set, if_neg (fun z => hj z.1)]
      exact (W.sl j s e).fewer sub
  nd := fun j k a s t h1 h2 m1 m2 h3 h4 => by
    have nj : i ≠ j := fun z => by
      subst z
      by_cases hi : i < W.env.length
      · rw [List.getElem?_set_self hi] at h1; cases h1; cases m1
      · rw [List.getElem?_eq_none (by simpa using hi)] at h1; cases h1
    have nk : i ≠ k := fun z => by
      subst z
      by_cases hi : i < W.env.length
      · rw [List.getElem?_set_self hi] at h2; cases h2; cases m2
      · rw [List.getElem?_eq_none (by simpa using hi)] at h2; cases h2
    rw [List.getElem?_set_ne nj] at h1 h3
    rw [List.getElem?_set_ne nk] at h2 h4
    exact W.nd j k a s t h1 h2 m1 m2 h3 h4
  exc := W.exc
theorem Later.put (W : Wd G E σ H) (i : Nat) {d : D} {v : V} (hd : Den G W.XB H d v) : Later W 0 (W.put i hd) := ⟨rfl, rfl, rfl, rfl, rfl, by show W.n ≤ W.n + 0; omega, fun _ _ _ h => h, fun b h => .inl (xb_val W.len h)⟩
theorem Later.drop (W : Wd G E σ H) (i : Nat) (v : Option V) : Later W 0 (W.drop i v) := ⟨rfl, rfl, rfl, rfl, rfl, by show W.n ≤ W.n + 0; omega, fun _ _ _ h => h, fun b h => .inl (xb_emp h)⟩
def sSet (i : Nat) (te : DT) : DS := fun ex de env => te ex env fun d => de.nx (env.set i (.val d))
theorem ds_set {i : Nat} {x : Str} {e : Expr} {pos pos' : Pos} {c : Nat} {te : DT} (hN : X.N.Nodup) (hi : X.N[i]? = some x) (hx : Loc X.env.scope x) (he : DE G E X c e te) (hs : swapsWith e (some (.Name x pos')) pos.line X.env = pure false := by rfl)
    (hf : X.fn x = true ∨ X.env.scope.names.lookup x = some .local := by first | exact .inl rfl | exact .inr rfl) : DSt G E X c (.Assign [.Name x pos'] e pos) (sSet i te) :=
  impS (ps_set hN hi hx he hs hf) fun Dn σ H h => by
    obtain ⟨W, hn, de, ht, k1, k2, k3, k4⟩ := h
    refine ⟨W, hn, _, ht, fun v H' d st hd hq => ?_⟩
    have hd' : Den G (W.next st).XB H' d v := hd
    exact k1 _ H' ((W.next st).put i hd') (((Later.next st).trans (Later.put _ i hd')).more (by omega)) hq
/-- a value dropped -/
def sExpr (te : DT) : DS := fun ex de env => te ex env fun _ => de.nx env
theorem ds_expr {e : Expr} {pos : Pos} {c : Nat} {te : DT} (he : DE G E X c e te) (hs : swapsWith e none pos.line X.env = pure false := by rfl) : DSt G E X c (.Expr e pos) (sExpr te) :=
  impS (ps_expr he hs) fun Dn σ H h => by
    obtain ⟨W, hn, de, ht, k1, k2, k3, k4⟩ := h
    exact ⟨W, hn, _, ht, fun v H' d st hd hq => k1 _ H' (W.next st) (Later.next st) hq⟩
/-- an exception of a callee reaches
  what this body wants of exceptions -/
theorem run_fnd {k : Nat} {f : Addr} {fd : FuncData} {ps : List Str} {cf : Nat} {S : FSpec} {pins : List (Addr × Obj)} {s : Shared} {Q' : VK} {us : List Value} {vs : List V} {hK : X.K = G.K}
    (F : FnD G X.prog X.w X.mg X.base k f fd ps cf S) (hr : Room k X.A) (hgd : X.A.guards = some []) (hx : Passes (L2.CX X.prog X.w) X E) (I : Inv X pins σ H s) (r : Vals vs us) (hl : vs.length = ps.length) (args : Args) (hb : BindsTo s fd args (ps.zip us))
    (h : liftF G cf S vs H Q' E) : codeAny (model X.prog X.w) X.A (.call (.ref f) args) (fun r s' => match r with
      | .ok (.ret v) => EP X pins σ Q' v s'
      | .ok _ => False
      | .error e => X.xe e s') s := by
  have e0 : Env0 X.prog X.w G.K X.mg X.base X.A X.stack s H := by rw [← hK]; exact I.env0
  refine codeAny_mono (F.run X.A X.stack s H args us vs Q' E hr hgd e0 hb r hl h) fun r s' hq => ?_
  cases r with
  | error e =>
    exact hx pins σ H s e s' I hq
  | ok fl =>
    cases fl with
    | ret u => exact I.after hq
    | next => exact hq.elim
    | brk => exact hq.elim
    | cont => exact hq.elim
end
end Kn
set_option Elab.async false
set_option linter.all false
set_option maxRecDepth 100000
set_option maxHeartbeats 2100000
namespace Kn
open PySem L2
open PyProof.Rows (envOfC)
section
variable {G : Gd} {E : XK} {X : Cx} {σ : List (Option V)} {H H' : Hp}
/-- from a body's state: what a callee of the promise S is handed -/
theorem lift_callee {W : Wd G E σ H} {c cf : Nat} {H1 : Hp} (st : Step W c H1) (hn : W.m + (c + cf) ≤ W.n) {S : FSpec} {ds : List D} {vs : List V} {Q : D → Prop} {Q' : VK} (hd : DenL G W.XB H1 ds vs) (hs : S ds Q W.ex)
    (k : ∀ v H' d, Step W (c + cf) H' → Den G W.XB H' d v → Q d → Q' v H') : liftF G cf S vs H1 Q' E := by
  refine ⟨W.u, W.n - c, W.XB, ds, Q, W.ex, W.ug, by omega, fun p e => ⟨.inl (W.hu p e).1, .inl (W.hu p e).2⟩, fun a ha z => (W.next st).fresh z ha, st.good, hd, hs, fun v H' d e g hd' q => ?_, fun x C d H' e g hx q => ?_⟩
  · exact k v H' d ⟨st.ext.trans e, by rw [Nat.sub_add_eq]; exact g⟩ hd' q
  · refine W.exc x C d H' ((W.fr.trans st.ext).trans e) (g.less (by omega)) ?_ q
    obtain ⟨e1, dd, xs, e2, nd, e3, e4, e5⟩ := hx
    exact ⟨e1, dd, xs, e2, fun z => nd (.inl z), e3, e4, e5.fewer fun b z => .inl z⟩
/-- what a def's body knows of where it stands -/
structure Xk (G : Gd) (E : XK) (k : Nat) (X : Cx) : Prop where
  K : X.K = G.K
  room : Room k X.A
  gd : X.A.guards = some []
  pass : Passes (L2.CX X.prog X.w) X E
  calm : X.calm = true
  tk : Takes X (fun cls d _ H => E cls d H)
theorem Xk.u (x : Xk G E k X) {n : Nat} (h : n ≤ 100 := by decide) : X.A.units + n < cLine := by have := x.room.un; omega
theorem Xk.u64 (x : Xk G E k X) : X.A.units + 64 < cLine := by have := x.room.un; omega
theorem Xk.u65 (x : Xk G E k X) : X.A.units + 65 < cLine := by have := x.room.un; omega
/-- the def x of the module, known by its promise -/
structure Fk (G : Gd) (P : Program) (w : World) (mg : Str → Option Value) (base : Heap) (k : Nat) (x : Str) (ps : List Str) (cf : Nat) (S : FSpec) : Prop where
  ex : ∃ (f : Addr) (fd : FuncData), FnD G P w mg base k f fd ps cf S ∧ mg x = some (.ref f) ∧ PySem.W.keepIn G.K (.ref f) = true ∧ Binds G.K fd ps []
def dCall (n : Nat) (S : FSpec) (u : DA) : DT := fun ex env Q => u ex env fun ds => ds.length = n ∧ S ds Q ex
theorem de_call {j k : Nat} {x : Str} {ps : List Str} {c cf : Nat} {S : FSpec} {e : Expr} {es : List Expr} {u : DA} {p pos : Pos} (F : Fk G X.prog X.w X.mg X.base j x ps cf S) (xk : Xk G E k X) (ha : DEs G E X c (e :: es) u) (hj : j ≤ k := by decide) (hg : Gl X x := by rfl) (hdb : (x == ("__debug__" : Str)) = false := by decide)
    (he : starEach (e :: es) X.env = (false, eval e X.env) :: starEach es X.env := by rfl) (hpl : (backTo pos (starEach es X.env)).any (·.1) = false := by rfl) : DE G E X (c + cf) (.Call (.Name x p) (e :: es) [] pos) (dCall ps.length S u) := by
  obtain ⟨f, fd, hF0, hm, hk, hb⟩ := F.ex
  have hF := hF0.mono hj
  rw [← xk.K] at hk hb
  refine ⟨fun pins s σ H Q' I h => ?_⟩
  obtain ⟨W, hn, Q, ht, kk⟩ := h
  have args := ha.run pos pins s σ H (fun vs H1 => vs.length = ps.length ∧ liftF G cf S vs H1 Q' E) I ⟨W, by omega, _, ht, fun vs H1 ds st hd ⟨hl, hs⟩ => ⟨by rw [← hd.length]; exact hl, lift_callee st hn hd hs kk⟩⟩
  refine wpAny_Call_Name_kw (ld_glob I hg hm ?_ hdb); refine PySem.W.callWith_K (h₀ := X.base) I.ok.mod.kin hk (thn args ?_) he hpl
  intro us s1 ⟨vs, H1, I1, r1, hl, q1⟩
  refine ⟨I1.kIn, wpAny_call ?_⟩
  have hb' : BindsTo s1 fd ⟨us, []⟩ (ps.zip us) := by
    have z := hb s1 us I1.kIn (by rw [List.append_nil, ← r1.length]; exact hl)
    rw [List.append_nil] at z
    exact z
  exact run_fnd (hK := xk.K) hF xk.room xk.gd xk.pass I1 r1 hl _ hb' q1
/-- f(e, .., k = v, ..): perm puts the given values in the parameters' order -/
abbrev DK (G : Gd) (E : XK) (X : Cx) (c : Nat) (kws : List Keyword) (t : DA) : Prop := PK X kws (liftA G E c t)
theorem dk_nil : DK G E X 0 [] aNil := ⟨fun pos pins s σ H Q' I h => pk_nil.run pos pins s σ H Q' I (by
  obtain ⟨W, hn, Q, ht, k⟩ := h
  exact k [] H [] (Step.refl W) rfl ht)⟩
theorem dk_cons {e : Expr} {kws : List Keyword} {nm : Option Str} {kpos : Pos} {c d : Nat} {t : DT} {u : DA} (he : DE G E X c e t) (hr : DK G E X d kws u) : DK G E X (c + d) (⟨nm, e, kpos⟩ :: kws) (aCons t u) :=
  ⟨fun pos pins s σ H Q' I h => (pk_cons (nm := nm) he hr).run pos pins s σ H Q' I (by
    obtain ⟨W, hn, Q, ht, k⟩ := h
    refine ⟨W, by omega, _, ht, fun v H1 d1 st hd hq => ⟨W.next st, by show W.m + d ≤ W.n - c; omega, _, hq, fun vs H2 ds st2 hds q => ?_⟩⟩
    exact k (v :: vs) H2 (d1 :: ds) (st.trans st2) ⟨v, vs, rfl, (W.next st).den st2 hd, hds⟩ q)⟩
end
end Kn
set_option Elab.async false
set_option linter.all false
set_option maxRecDepth 100000
set_option maxHeartbeats 2100000
namespace Kn
open PySem L2 RZ
open PyProof.Rows (envOfC)
section
variable {G : Gd} {E : XK} {X : Cx} {σ : List (Option V)} {H H' : Hp} {tg : Expr}
/-- J walks the values ds, whatever is done beside them -/
structure Walks (G : Gd) (B : Addr → Prop) (H1 : Hp) (J : It) (ds : List D) : Prop where
  len : ds.length ≤ sizeLine
  go : ∀ (i : Nat) (H' : Hp) (B' : Addr → Prop), (∀ b o, ¬ B b → H1 b = some o → H' b = some o) → (∀ b, B' b → B b ∨ H1 b = none) → (∀ p, H' p = none → ¬ B' p) → i < ds.length →
    J.go i H' ∧ ∀ x H'', J.yld i H' x H'' → Ext none H' H'' ∧ ∃ d, ds[i]? = some d ∧ Den G B' H'' d x
  stop : ∀ (i : Nat) (H' : Hp), (∀ b o, ¬ B b → H1 b = some o → H' b = some o) → i = ds.length → J.stop i H'
def liftI (G : Gd) (E : XK) (c : Nat) (ti : DA) : TI := fun σ H R => ∃ W : Wd G E σ H, W.m + c ≤ W.n ∧ ∃ Q, ti W.ex W.env Q ∧ ∀ J H1 ds, Step W c H1 → Walks G W.XB H1 J ds → Q ds → R J H1
abbrev DI (G : Gd) (E : XK) (X : Cx) (tg : Expr) (c : Nat) (it : Expr) (ti : DA) : Prop := PI X tg it (liftI G E c ti)
theorem impI {it : Expr} {t t' : TI} (h : PI X tg it t) (i : ∀ σ H R, t' σ H R → t σ H R) : PI X tg it t' := ⟨fun pins s σ H R I q => h.run pins s σ H R I (i σ H R q)⟩
/-- a list or a tuple -/
def iSeq (te : DT) : DA := fun ex env Q => te ex env fun d => match d with
  | .lst ds => Q ds
  | .tup ds => Q ds
  | _ => False
def iSq (K : PySem.W.Frag) (tl : TE) : TI := fun σ H R => tl σ H fun x H1 => ∃ a, x = .ref a ∧ (((∃ xs, SqL K H1 a xs) ∧ R (Itl K a) H1) ∨ ((∃ xs, SqT K H1 a xs) ∧ R (Itt K a) H1))
theorem pi_sq {l : Expr} {tl : TE} (hl : PE X l tl) : PI X tg l (iSq X.K tl) := by
  constructor
  intro pins s σ H R I h
  refine thn (hl.run pins s σ H _ I h) ?_
  rintro v s1 ⟨x, H1, I1, r1, a, rfl, q1⟩
  cases r1
  have fp : ∀ b ∈ [s1.heap.objs.size], FpOk X pins H1 b := by
    intro b hb
    rw [List.mem_singleton.mp hb]; exact I1.fpOk (Nat.le_refl _) (I1.hok.fresh (Nat.le_refl _))
  have kept : ∀ {ob : Obj} {tk : Nat}, L2.Inv X pins σ H1 { s1 with heap := s1.heap.push ob, toks := tk } := fun {ob tk} => I1.kept (t' := tk) fun b o e => Heap.get?_push_of_some _ e
  rcases q1 with ⟨⟨xs, hq⟩, q⟩ | ⟨⟨xs, hq⟩, q⟩
  · obtain ⟨its, rv, p, hz⟩ := I1.list hq
    exact wpAny_pyIter_list p.isList ⟨s1.heap.objs.size, [s1.heap.objs.size], _, Itl X.K a, H1, rfl, kept, turn_list a _, ⟨_, Heap.get?_push_size _ rfl, rfl, rfl⟩, fp, q⟩
  · obtain ⟨its, rv, p, hz⟩ := I1.tuple hq
    have p' : s1.heap.IsTuple a its.toArray := p
    exact wpAny_pyIter_tuple p' ⟨s1.heap.objs.size, [s1.heap.objs.size], _, Itt X.K a, H1, rfl, kept, turn_tuple a _, ⟨_, Heap.get?_push_size _ rfl, rfl, rfl⟩, fp, q⟩
theorem keep_sqT {K : PySem.W.Frag} {B : Addr → Prop} {H1 H' : Hp} {a : Addr} {xs : List V} (k : ∀ b o, ¬ B b → H1 b = some o → H' b = some o) (na : ¬ B a ∨ KTup K a xs) (h : SqT K H1 a xs) : SqT K H' a xs := by
  rcases na with na | na
  case inr => exact .inr na
  rcases h with (h
    | ⟨o, h⟩) | h
  · exact .inl (.inl (k _ _ na h))
  · exact .inl (.inr ⟨o, k _ _ na h⟩)
  · exact .inr h
theorem walks_lst {B : Addr → Prop} {H1 : Hp} {a : Addr} {xs : List V} {ds : List D} (na : ¬ B a) (ha : H1 a = some (.lst xs)) (hl : xs.length ≤ sizeLine) (hd : DenL G B H1 ds xs) : Walks G B H1 (Itl G.K a) ds := by
  have e := hd.length
  refine ⟨by omega, fun i H' B' k s hf hi => ?_, fun i H' k hi => ⟨xs, SqL.of (k _ _ na ha), by omega⟩⟩
  have ha' := k _ _ na ha
  refine ⟨⟨xs, xs[i], SqL.of ha', List.getElem?_eq_getElem (by omega)⟩, fun x H'' y => ?_⟩
  obtain ⟨rfl, y⟩ := y
  obtain ⟨d, h1, h2⟩ := hd.getV (y xs (SqL.of ha'))
  exact ⟨Ext.refl _ _, d, h1, Den.keep k s d x h2⟩
theorem walks_tup {B : Addr → Prop} {H1 : Hp} {a : Addr} {xs : List V} {ds : List D} (na : ¬ B a ∨ KTup G.K a xs) (ha : SqT G.K H1 a xs) (hl : xs.length ≤ sizeLine) (hd : DenL G B H1 ds xs) : Walks G B H1 (Itt G.K a) ds := by
  have e := hd.length
  refine ⟨by omega, fun i H' B' k s hf hi => ?_, fun i H' k hi => ⟨xs, keep_sqT k na ha, by omega⟩⟩
  have ha' := keep_sqT k na ha
  refine ⟨⟨xs, xs[i], ha', List.getElem?_eq_getElem (by omega)⟩, fun x H'' y => ?_⟩
  obtain ⟨rfl, y⟩ := y
  obtain ⟨d, h1, h2⟩ := hd.getV (y xs ha')
  exact ⟨Ext.refl _ _, d, h1, Den.keep k s d x h2⟩
theorem di_seq {l : Expr} {c : Nat} {te : DT} (hK : X.K = G.K) (hl : DE G E X c l te) : DI G E X tg c l (iSeq te) := impI (pi_sq hl) fun σ H R h => by
  obtain ⟨W, hn, Q, ht, k⟩ := h
  refine ⟨W, hn, _, ht, fun v H1 d st hd hq => ?_⟩
  cases d <;> try exact hq.elim
  · rename_i ds
    obtain ⟨a, xs, rfl, na, ha, la, da⟩ := hd
    exact ⟨a, rfl, .inl ⟨⟨xs, SqL.of ha⟩, by rw [hK]; exact k _ H1 ds st (walks_lst na ha la da) hq⟩⟩
  · rename_i ds
    obtain ⟨a, xs, rfl, na, ha, la, da⟩ := hd
    exact ⟨a, rfl, .inr ⟨⟨xs, by rw [hK]; exact ha⟩, by rw [hK]; exact k _ H1 ds st (walks_tup na ha la da) hq⟩⟩
/-- range(n), range(a, b) -/
def rangeD (lo : Int) (n : Nat) : List D := (List.range n).map fun (i : Nat) => D.int (lo + (i : Int))
theorem walks_rng {B : Addr → Prop} {H1 : Hp} {lo : Int} {n : Nat} (hl : n ≤ sizeLine) : Walks G B H1 (Itr lo n) (rangeD lo n) := by
  have e : (rangeD lo n).length = n := by simp [rangeD]
  refine ⟨by omega, fun i H' B' k s hf hi => ⟨by show i < n; omega, fun x H'' y => ?_⟩, fun i H' k hi => by show n ≤ i; omega⟩
  obtain ⟨rfl, rfl⟩ := y
  refine ⟨Ext.refl _ _, .int (lo + i), ?_, den_int _⟩
  rw [e] at hi
  simp [rangeD, hi]
def iRange1 (u : DA) : DA := fun ex env Q => u ex env fun ds => ∃ j : Int, ds = [.int j] ∧ j ≤ 16777216 ∧ -(2 ^ 62) ≤ j ∧ Q (rangeD 0 j.toNat)
theorem di_range1 {a : Expr} {c : Nat} {u : DA} {p pos : Pos} (hm : X.mg "range" = none) (ha : DEs G E X c [a] u) (hg : Gl X "range" := by rfl) (hs : starEach [a] X.env = [(false, eval a X.env)] := by rfl) : DI G E X tg c (.Call (.Name "range" p) [a] [] pos) (iRange1 u) :=
  impI (pi_range1 hg hm ha hs) fun σ H R h => by
    obtain ⟨W, hn, Q, ht, k⟩ := h
    refine ⟨W, hn, _, ht, fun vs H1 ds st hd ⟨j, e, h1, h2, hq⟩ => ?_⟩
    subst e
    obtain ⟨x, rfl, hx⟩ := denL1 hd
    cases hx
    have hs := sizeLine_eq
    exact ⟨j, rfl, h2, by omega, k _ H1 _ st (walks_rng (by omega)) hq⟩
/-- zip of two lists, of two tuples -/
def zipD : List D → List D → List D
  | a :: as, b :: bs => .tup [a, b] :: zipD as bs
  | _, _ => []
theorem zipD_len : ∀ as bs : List D, (zipD as bs).length = min as.length bs.length
  | [], _ => by simp [zipD]
  | _ :: _, [] => by simp [zipD]
  | a :: as, b :: bs => by simp only [zipD, List.length_cons, zipD_len as bs]; omega
theorem zipD_get : ∀ (as bs : List D) (i : Nat) (a b : D), as[i]? = some a → bs[i]? = some b → (zipD as bs)[i]? = some (.tup [a, b])
  | [], _, _, _, _, h, _ =>
    by simp at h
  | _ :: _, [], _, _, _, _, h =>
    by simp at h
  | a :: as, b :: bs, 0, _, _, h1, h2 => by simp at h1 h2; subst h1; subst h2; rfl
  | a :: as, b :: bs, i + 1, x, y, h1, h2 => zipD_get as bs i x y (by simpa using h1) (by simpa using h2)
theorem two_size : ([] : List V).length + 2 ≤ sizeLine := by rw [sizeLine_eq]; decide
theorem den_pair {B : Addr → Prop} {H : Hp} {T : Addr} {a b : D} {x y : V} (hT : H T = none) (nb : ¬ B T) (hx : Den G B H a x) (hy : Den G B H b y) : Den G B (upd H T (.tup [x, y])) (.tup [a, b]) (.ref T) :=
  den_tup hT nb two_size ⟨x, [y], rfl, hx, y, [], rfl, hy, rfl⟩
def zipG (ds : List D) (Q : List D → Prop) : Prop := match ds with
  | [.lst as, .lst bs] => Q (zipD as bs)
  | [.tup as, .tup bs] => Q (zipD as bs)
  | _ => False
theorem zip_cases {ds : List D} {Q : List D → Prop} (h : zipG ds Q) : (∃ as bs, ds = [.lst as, .lst bs] ∧ Q (zipD as bs)) ∨ ∃ as bs, ds = [.tup as, .tup bs] ∧ Q (zipD as bs) := by
  unfold zipG at h
  split at h
  · exact .inl ⟨_, _, rfl, h⟩
  · exact .inr ⟨_, _, rfl, h⟩
  · exact h.elim
theorem walks_zipL {B : Addr → Prop} {H1 : Hp} {a b : Addr} {xs ys : List V} {as bs : List D} (na : ¬ B a) (nb : ¬ B b) (ha : H1 a = some (.lst xs)) (hb : H1 b = some (.lst ys)) (la : xs.length ≤ sizeLine) (da : DenL G B H1 as xs) (db : DenL G B H1 bs ys) :
    Walks G B H1 (Itz G.K a b) (zipD as bs) := by
  have e1 := da.length
  have e2 := db.length
  have e3 := zipD_len as bs
  refine ⟨by omega, fun i H' B' k s hf hi => ?_, fun i H' k hi => ⟨xs, ys, SqL.of (k _ _ na ha), SqL.of (k _ _ nb hb), by omega⟩⟩
  have ha' := k _ _ na ha
  have hb' := k _ _ nb hb
  refine ⟨⟨xs, ys, xs[i], ys[i], SqL.of ha', SqL.of hb', List.getElem?_eq_getElem (by omega), List.getElem?_eq_getElem (by omega)⟩, fun x H'' yl => ?_⟩
  obtain ⟨T, x1, y1, rfl, hT, rfl, f1, f2⟩ := yl
  obtain ⟨d, g1, g2⟩ := da.getV (f1 xs (SqL.of ha'))
  obtain ⟨d2, g3, g4⟩ := db.getV (f2 ys (SqL.of hb'))
  exact ⟨Ext.new hT, _, zipD_get as bs i d d2 g1 g3, den_pair hT (hf T hT) (Den.keep k s d x1 g2) (Den.keep k s d2 y1 g4)⟩
theorem walks_zipT {B : Addr → Prop} {H1 : Hp} {a b : Addr} {xs ys : List V} {as bs : List D} (na : ¬ B a ∨ KTup G.K a xs) (nb : ¬ B b ∨ KTup G.K b ys) (ha : SqT G.K H1 a xs) (hb : SqT G.K H1 b ys) (la : xs.length ≤ sizeLine) (da : DenL G B H1 as xs) (db : DenL G B H1 bs ys) :
    Walks G B H1 (ItzT G.K a b) (zipD as bs) := by
  have e1 := da.length
  have e2 := db.length
  have e3 := zipD_len as bs
  refine ⟨by omega, fun i H' B' k s hf hi => ?_, fun i H' k hi => ⟨xs, ys, keep_sqT k na ha, keep_sqT k nb hb, by omega⟩⟩
  have ha' := keep_sqT k na ha
  have hb' := keep_sqT k nb hb
  refine ⟨⟨xs, ys, xs[i], ys[i], ha', hb', List.getElem?_eq_getElem (by omega), List.getElem?_eq_getElem (by omega)⟩, fun x H'' yl => ?_⟩
  obtain ⟨T, x1, y1, rfl, hT, rfl, f1, f2⟩ := yl
  obtain ⟨d, g1, g2⟩ := da.getV (f1 xs ha')
  obtain ⟨d2, g3, g4⟩ := db.getV (f2 ys hb')
  exact ⟨Ext.new hT, _, zipD_get as bs i d d2 g1 g3, den_pair hT (hf T hT) (Den.keep k s d x1 g2) (Den.keep k s d2 y1 g4)⟩
def iZip (u : DA) : DA := fun ex env Q => u ex env fun ds => zipG ds Q
theorem di_zip {e e2 : Expr} {c : Nat} {u : DA} {p pos tpos : Pos} {elts : List Expr} {kk : Nat} (hK : X.K = G.K) (hm : X.mg "zip" = none) (ha : DEs G E X c [e, e2] u) (hg : Gl X "zip" := by rfl)
    (hs : starEach [e, e2] X.env = (false, eval e X.env) :: starEach [e2] X.env := by rfl) (hpl : (backTo pos (starEach [e2] X.env)).any (·.1) = false := by rfl) : DI G E X (.Tuple elts kk tpos) c (.Call (.Name "zip" p) [e, e2] [] pos) (iZip u) :=
  impI (pi_zipA hg hm ha hs hpl) fun σ H R h => by
    obtain ⟨W, hn, Q, ht, k⟩ := h
    refine ⟨W, hn, _, ht, fun vs H1 ds st hd hq => ?_⟩
    rcases zip_cases hq with ⟨as, bs, rfl, hq⟩ | ⟨as, bs, rfl, hq⟩
    ·
      obtain ⟨x, y, rfl, hx, hy⟩ := denL2 hd
      obtain ⟨a, xs, rfl, na, ha, la, da⟩ := hx
      obtain ⟨b, ys, rfl, nb, hb, lb, db⟩ := hy
      exact ⟨a, b, xs, ys, rfl, .inl ⟨SqL.of ha, SqL.of hb, by rw [hK]; exact k _ H1 _ st (walks_zipL na nb ha hb la da db) hq⟩⟩
    ·
      obtain ⟨x, y, rfl, hx, hy⟩ := denL2 hd
      obtain ⟨a, xs, rfl, na, ha, la, da⟩ := hx
      obtain ⟨b, ys, rfl, nb, hb, lb, db⟩ := hy
      exact ⟨a, b, xs, ys, rfl, .inr ⟨by rw [hK]; exact ha, by rw [hK]; exact hb, by rw [hK]; exact k _ H1 _ st (walks_zipT na nb ha hb la da db) hq⟩⟩
end
end Kn
set_option Elab.async false
set_option linter.all false
set_option maxRecDepth 100000
set_option maxHeartbeats 2100000
namespace Kn
open PySem L2 RZ
open PyProof.Rows (envOfC)
section
variable {G : Gd} {E : XK} {X : Cx} {σ : List (Option V)} {H H' : Hp} {tg : Expr}
abbrev DG := D → List Sl → (List Sl → Prop) → Prop
/-- nothing but slots changes; the state's other parts stay -/
structure Alike {σ σ' : List (Option V)} {H H' : Hp} (W : Wd G E σ H) (W' : Wd G E σ' H') : Prop where
  later : Later W 0 W'
  n : W'.n = W.n
def liftG (G : Gd) (E : XK) (sl : List Nat) (t : DG) : TG := fun v σ H Q' => ∃ (W : Wd G E σ H) (d : D) (Q : List Sl → Prop), Den G W.XB H d v ∧ t d W.env Q ∧ ∀ σ' (W' : Wd G E σ' H), Alike W W' → (∀ i, i ∉ sl → σ'[i]? = σ[i]?) ∧ σ'.length = σ.length → Q W'.env → Q' σ' H
abbrev DTg (G : Gd) (E : XK) (X : Cx) (tg : Expr) (sl : List Nat) (t : DG) : Prop := PG X tg (liftG G E sl t)
theorem impG {t t' : TG} (h : PG X tg t) (i : ∀ v σ H Q, t' v σ H Q → t v σ H Q) : PG X tg t' := ⟨fun pins s σ H v u Q I r q => h.run pins s σ H v u Q I r (i v σ H Q q)⟩
def tgName (i : Nat) : DG := fun d env Q => Q (env.set i (.val d))
theorem dg_name {i : Nat} {x : Str} {pos : Pos} (hN : X.N.Nodup) (hi : X.N[i]? = some x) (hx : Loc X.env.scope x) (hf : X.fn x = true ∨ X.env.scope.names.lookup x = some .local := by first | exact .inl rfl | exact .inr rfl | assumption) : DTg G E X (.Name x pos) [i] (tgName i) :=
  impG (pg_name hN hi hx hf) fun v σ H Q' h => by
    obtain ⟨W, d, Q, hd, ht, k⟩ := h
    exact k _ (W.put i hd) ⟨Later.put W i hd, rfl⟩ ⟨(fun j hj => List.getElem?_set_ne (fun z => hj (by rw [z]; exact List.mem_singleton_self _))), List.length_set⟩ ht
/-- a, b (names) of a pair -/
def tgTwo (i j : Nat) : DG := fun d env Q => match d with
  | .tup [a, b] => Q ((env.set i (.val a)).set j (.val b))
  | _ => False
theorem two_cases {i j : Nat} {d : D} {env : List Sl} {Q : List Sl → Prop} (h : tgTwo i j d env Q) : ∃ a b, d = .tup [a, b] ∧ Q ((env.set i (.val a)).set j (.val b)) := by
  unfold tgTwo at h
  split at h
  · exact ⟨_, _, rfl, h⟩
  · exact h.elim
theorem dg_two {i j : Nat} {x y : Str} {pos p1 p2 : Pos} {k : Nat} (hK : X.K = G.K) (hc : X.calm = true) (hN : X.N.Nodup) (hi : X.N[i]? = some x) (hx : Loc X.env.scope x) (hj : X.N[j]? = some y) (hy : Loc X.env.scope y)
    (h1 : PG X (.Name x p1) (gName i)) (h2 : PG X (.Name y p2) (gName j)) : DTg G E X (.Tuple [.Name x p1, .Name y p2] k pos) [i, j] (tgTwo i j) :=
  impG (pg_tup (n := 2) hc (pgs_cons h1 (pgs_cons h2 pgs_nil))) fun v σ H Q' h => by
    obtain ⟨W, d, Q, hd, ht, kk⟩ := h
    obtain ⟨a, b, rfl, ht⟩ := two_cases ht
    obtain ⟨p, xs, rfl, np, hp, lp, dl⟩ := hd
    obtain ⟨u, w, rfl, hu, hw⟩ := denL2 dl
    refine ⟨p, [u, w], rfl, by rw [hK]; exact hp, rfl, u, [w], rfl, w, [], rfl, rfl, ?_⟩
    have hu' : Den G W.XB H a u := hu
    have hw' : Den G (W.put i hu').XB H b w := hw.fewer fun b hb => xb_val W.len hb
    exact kk _ ((W.put i hu').put j hw') ⟨((Later.put W i hu').trans (Later.put _ j hw')).more (by omega), rfl⟩ ⟨(fun l hl => by
      rw [List.getElem?_set_ne (fun z => hl (by rw [← z]; simp)), List.getElem?_set_ne (fun z => hl (by rw [← z]; simp))]), by rw [List.length_set, List.length_set]⟩ ht
def sForL (ex : Exc → Prop) (tg : DG) (tb : DS) (de : DEnds) : List D → List Sl → Prop
  | [], env => de.nx env
  | d :: ds, env => tg d env fun env2 => tb ex { de with nx := sForL ex tg tb de ds, ct := sForL ex tg tb de ds, bk := de.nx } env2
def sFor (ti : DA) (tg : DG) (tb : DS) : DS := fun ex de env => ti ex env fun ds => sForL ex tg tb de ds env
theorem drop_cons {α : Type} {l : List α} {i : Nat} {d : α} (h : l[i]? = some d) : l.drop i = d :: l.drop (i + 1) := by
  obtain ⟨hi, e⟩ := List.getElem?_eq_some_iff.mp h; rw [List.drop_eq_getElem_cons hi, e]
theorem ds_for {it : Expr} {body : List Stmt} {ci cb : Nat} {ti : DA} {t : DG} {tb : DS} {pos : Pos} (xk : Xk G E k X) (hp : PassesOwn (model X.prog X.w) X.A X.env X.xe) (hi : DI G E X tg ci it ti) {sl : List Nat} (hg : DTg G E X tg sl t) (hb : DSs G E X cb body tb)
    (hs : ∀ x, foldedSetIterable it X.env x = pure x := by intro _; rfl) : DSt G E X (ci + 16777216 * cb) (.For tg it body [] pos) (sFor ti t tb) :=
  impS (ps_for hp xk.calm hi hg hb hs) fun Dn σ H h => by
    obtain ⟨W, hn, de, ht, k1, k2, k3, k4⟩ := h
    refine ⟨W, by omega, _, ht, fun J H1 ds st wk hq => ?_⟩
    have hlen : ds.length ≤ 16777216 := by have := wk.len; rw [sizeLine_eq] at this; exact this
    let W1 := W.next st
    refine ⟨fun i m σ' H' => ∃ W' : Wd G E σ' H', Later W1 (i * cb) W' ∧ i ≤ ds.length ∧ m = ds.length - i ∧ sForL W.ex t tb de (ds.drop i) W'.env, ⟨ds.length, W1, (Later.refl W1).more (by omega), Nat.zero_le _, rfl, hq⟩, ?_⟩
    rintro i m σ' H' ⟨W', lt, hi', rfl, hq'⟩
    have lt0 : Later W (ci + i * cb) W' := (Later.next st).trans lt
    by_cases hlt : i < ds.length
    · obtain ⟨go, yl⟩ := wk.go i H' W'.XB lt.keep lt.xb (fun p hp => W'.fresh hp) hlt
      have hmul : (i + 1) * cb ≤ 16777216 * cb := Nat.mul_le_mul_right cb (by omega)
      have hmul2 : (i + 1) * cb = i * cb + cb := by rw [Nat.add_mul, Nat.one_mul]
      refine .inr ⟨go, fun σ2 H2 => ∃ W2 : Wd G E σ2 H2, Later W1 ((i + 1) * cb) W2 ∧ sForL W.ex t tb de (ds.drop (i + 1)) W2.env, fun σ2 H2 ⟨W2, l2, q2⟩ => ⟨ds.length - (i + 1), by omega, W2, l2, hlt, rfl, q2⟩, fun x H2 hy => ?_⟩
      obtain ⟨ex2, d, hd, hden⟩ := yl x H2 hy
      rw [drop_cons hd] at hq'
      have st2 : Step W' 0 H2 := (Step.refl W').pure ex2
      let W2 := W'.next st2
      refine ⟨W2, d, _, hden, hq', fun σ3 W3 al _ hq3 => ?_⟩
      have l3 : Later W1 (i * cb) W3 := ((lt.trans (Later.next st2)).trans al.later).more (by omega)
      have l03 : Later W (ci + i * cb) W3 := (Later.next st).trans l3
      refine ⟨W3, ?_, { de with nx := sForL W.ex t tb de (ds.drop (i + 1)), ct := sForL W.ex t tb de (ds.drop (i + 1)), bk := de.nx }, ?_, fun σ4 H4 W4 l4 q4 => ?_, fun v σ4 H4 W4 d4 l4 hd4 hr4 => ?_, fun σ4 H4 W4 l4 q4 => ?_, fun σ4 H4 W4 l4 q4 => ?_⟩
      · have := l03.n
        rw [l03.m]
        omega
      · rw [l03.ex]; exact hq3
      · exact ⟨W4, (l3.trans l4).more (by omega), q4⟩
      · refine k2 v σ4 H4 W4 d4 ((l03.trans l4).more (by omega)) (by rw [l03.B] at hd4; exact hd4) hr4
      · exact k1 σ4 H4 W4 ((l03.trans l4).more (by omega)) q4
      · exact ⟨W4, (l3.trans l4).more (by omega), q4⟩
    · have e : i = ds.length := by omega
      have hmul : i * cb ≤ 16777216 * cb := Nat.mul_le_mul_right cb (by omega)
      refine .inl ⟨wk.stop i H' lt.keep (by omega), ?_⟩
      rw [e, List.drop_length] at hq'
      exact k1 σ' H' W' (lt0.more (by omega)) hq'
end
end Kn
set_option Elab.async false
set_option linter.all false
set_option maxRecDepth 100000
set_option maxHeartbeats 2100000
namespace Kn
open PySem L2 RZ
open PyProof.Rows (envOfC)
section
variable {G : Gd} {E : XK} {X : Cx} {σ : List (Option V)} {H H' : Hp} {tg : Expr}
theorem wipe_get : ∀ (vs : List Nat) (i : Nat), (wipe σ vs)[i]? = if i ∈ vs ∧ i < σ.length then some none else σ[i]?
  | [], i => by simp [wipe]
  | v :: vs, i => by
    unfold wipe
    by_cases h : v = i
    · subst h
      by_cases hl : v < σ.length
      · rw [List.getElem?_set_self (by rw [wipe_length]; exact hl), if_pos ⟨List.mem_cons_self, hl⟩]
      · rw [List.getElem?_eq_none (by rw [List.length_set, wipe_length]; omega), if_neg (fun z => hl z.2), List.getElem?_eq_none (by omega)]
    · rw [List.getElem?_set_ne h, wipe_get vs i]
      have e : (i ∈ v :: vs) ↔ i ∈ vs := by simp [Ne.symm h]
      simp only [e]
theorem wipe_same {σ' : List (Option V)} {vs sl : List Nat} (hs : ∀ i ∈ sl, i ∈ vs) (h : ∀ i, i ∉ sl → σ'[i]? = (wipe σ vs)[i]?) (hl : σ'.length = σ.length) : wipe σ' vs = wipe σ vs := by
  apply List.ext_getElem?
  intro i
  rw [wipe_get, wipe_get]
  by_cases hi : i ∈ vs
  · by_cases h2 : i < σ.length
    · rw [if_pos ⟨hi, by omega⟩, if_pos ⟨hi, h2⟩]
    · rw [if_neg (fun z => h2 (by omega)), if_neg (fun z => h2 z.2), List.getElem?_eq_none (by omega), List.getElem?_eq_none (by omega)]
  · rw [if_neg (fun z => hi z.1), if_neg (fun z => hi z.1), h i (fun z => hi (hs i z)), wipe_get, if_neg (fun z => hi z.1)]
def noOwn : Sl → Sl
  | .own _ _ => .emp
  | .slf _ _ _ _ => .emp
  | .obj _ _ => .emp
  | .dic _ _ _ => .emp
  | s => s
def wipeE (env : List Sl) : List Nat → List Sl
  | [] => env
  | v :: vs => (wipeE env vs).set v .emp
def inEnv (env : List Sl) (vs : List Nat) : List Sl := wipeE (env.map noOwn) vs
theorem wipeE_len (env : List Sl) : ∀ vs, (wipeE env vs).length = env.length
  | [] => rfl
  | v :: vs => by unfold wipeE; rw [List.length_set, wipeE_len env vs]
theorem inEnv_get {env : List Sl} {i : Nat} {s : Sl} : ∀ {vs : List Nat}, (wipeE (env.map noOwn) vs)[i]? = some s → s = .emp ∨ (i ∉ vs ∧ ∃ s', env[i]? = some s' ∧ s = noOwn s')
  | [], h => by
    unfold wipeE at h
    rw [List.getElem?_map] at h
    cases e : env[i]? with
    | none =>
      rw [e] at h; cases h
    | some s' => rw [e] at h; exact .inr ⟨by simp, s', rfl, (Option.some.inj h).symm⟩
  | v :: vs, h => by
    unfold wipeE at h
    by_cases hv : v = i
    · subst hv
      by_cases hl : v < (wipeE (env.map noOwn) vs).length
      · rw [List.getElem?_set_self hl] at h; exact .inl (Option.some.inj h).symm
      · rw [List.getElem?_eq_none (by rw [List.length_set]; omega)] at h; cases h
    · rw [List.getElem?_set_ne hv] at h
      rcases inEnv_get h with z | ⟨z, y⟩
      · exact .inl z
      · exact .inr ⟨by simp only [List.mem_cons, not_or]; exact ⟨fun q => hv q.symm, z⟩, y⟩
theorem inEnv_noown {env : List Sl} {vs : List Nat} {i : Nat} {s : Sl} (h : (inEnv env vs)[i]? = some s) (hm : s.mine = true) : False := by
  rcases inEnv_get h with z | ⟨_, s', _, z⟩
  · subst z; cases hm
  · subst z; cases s' <;> cases hm
theorem xb_in {B : Addr → Prop} {env : List Sl} {vs : List Nat} {τ : List (Option V)} {a : Addr} (h : XBof B (inEnv env vs) τ a) : B a := by
  rcases h with h | ⟨i, s, h1, hm, _⟩
  · exact h
  · exact (inEnv_noown h1 hm).elim
/-- the state in which one item of a comprehension's new list at D is made -/
def Wd.inner (W : Wd G E σ H) {c : Nat} {H1 : Hp} (st : Step W c H1) (vs : List Nat) (Dn : Addr) (H2 : Hp) (n2 : Nat) (hD : H1 Dn = none) (hD2 : H2 Dn ≠ none) (k : ∀ b o, H1 b = some o → NU W.u b → H2 b = some o) (hg : Good W.u H2 n2) :
    Wd G E0 (wipe σ vs) H2 where
  u := W.u
  n := n2
  m := W.m
  B := fun a => W.XB a ∨ a = Dn
  H0 := H2
  env := inEnv W.env vs
  ex := fun _ => False
  ug := W.ug
  hu := fun p e => ⟨.inl (.inl (W.hu p e).1), .inl (.inl (W.hu p e).2)⟩
  hB := fun a ha z => by
    rcases ha with ha | rfl
    · cases q : H1 a with
      | none => exact (W.next st).fresh q ha
      | some o =>
        rcases NU.em (u := W.u) (b := a) with hu | ⟨r, hr, rfl⟩
        · rw [k a o q hu] at z; cases z
        · obtain ⟨⟨_, h1⟩, _⟩ := hg.there hr
          rw [h1] at z; cases z
    · exact hD2 z
  fr := Ext.refl _ _
  good := hg
  len := by unfold inEnv; rw [wipeE_len, List.length_map, wipe_length]; exact W.len
  sl := fun i s e => by
    rcases inEnv_get e with z | ⟨hi, s', h1, z⟩
    · subst z; trivial
    · subst z
      have so := (W.next st).sl i s' h1
      have ew : (wipe σ vs)[i]? = σ[i]? := by rw [wipe_get, if_neg (fun z => hi z.1)]
      rw [ew]
      cases s' with
      | emp => trivial
      | own a ds => trivial
      | slf a dx c ds => trivial
      | obj a o => trivial
      | dic a ks ds => trivial
      | val d =>
        obtain ⟨x, e1, e2⟩ := so
        refine ⟨x, e1, ?_⟩
        have e2' : Den G W.XB H1 d x := e2
        refine Den.keep (fun b o nb hb => k b o hb (W.nuX nb)) (fun b hb => ?_) d x e2'
        · rcases xb_in hb with q | rfl
          · exact .inl q
          · exact .inr hD
  nd := fun i j a s t h1 _ hm => (inEnv_noown h1 hm).elim
  exc := fun _ _ _ _ _ _ _ z => z.elim
end
end Kn
set_option Elab.async false
set_option linter.all false
set_option maxRecDepth 100000
set_option maxHeartbeats 2100000
namespace Kn
open PySem L2 RZ
open PyProof.Rows (envOfC)
section
variable {G : Gd} {E : XK} {X : Cx} {σ : List (Option V)} {H H' : Hp} {tg : Expr}
def noX : Exc → Prop := fun _ => False
def compL (tg : DG) (tt : DB) (te : DT) (Q : List D → Prop) (env : List Sl) : List D → List D → Prop
  | [], acc => Q acc
  | d :: ds, acc => tg d env fun env2 => tt noX env2 fun b => if b = true then te noX env2 fun y => compL tg tt te Q env ds (acc ++ [y]) else compL tg tt te Q env ds acc
def dComp (vs : List Nat) (ti : DA) (tg : DG) (tt : DB) (te : DT) : DT := fun ex env Q => ti ex env fun ds => compL tg tt te (fun rs => Q (.lst rs)) (inEnv env vs) ds []
def bYes : DB := fun _ _ Q => Q true
abbrev DTs (G : Gd) (X : Cx) (c : Nat) (ifs : List Expr) (t : DB) : Prop := PTs X ifs (liftB G E0 c t)
theorem dts_nil : DTs G X 0 [] bYes := ⟨fun pins s σ H Q I h => pts_nil.run pins s σ H Q I (by
  obtain ⟨W, hn, Q1, ht, k⟩ := h
  exact k true H (Step.refl W) ht)⟩
theorem dts_one {c : Expr} {n : Nat} {t : DB} (h : DPt G E0 X n c t) : DTs G X n [c] t := pts_one h
/-- what stands at D between two turns -/
structure AccAt (G : Gd) {E : XK} {σ : List (Option V)} {H : Hp} (W : Wd G E σ H) (H1 : Hp) (D0 : Addr) (b : Nat) (H2 : Hp) (acc : List D) : Prop where
  at_ : ∃ xs, H2 D0 = some (.lst xs) ∧ xs.length ≤ sizeLine ∧ DenL G (fun a => W.XB a ∨ a = D0) H2 acc xs
  keep : ∀ b o, H1 b = some o → NU W.u b → H2 b = some o
  good : Good W.u H2 b
theorem Good.upd {u : Option Ur} {H : Hp} {n : Nat} {p : Addr} {o : HO} (h : Good u H n) (hp : ∀ r, Pr u r → p ≠ r.1 ∧ p ≠ r.2) (hc : ∀ q, H p ≠ some (LamX.CodeO p q)) : Good u (L2.upd H p o) n := by
  cases u with
  | none => trivial
  | some r =>
    obtain ⟨⟨a, b⟩, T⟩ := r
    obtain ⟨⟨cells, k, r, h1, h2, h3⟩, t⟩ := h
    obtain ⟨n1, n2⟩ := hp (a, b) ⟨_, rfl, .inl rfl⟩
    refine ⟨⟨cells, k, r, by rw [upd_ne (Ne.symm n1)]; exact h1, by rw [upd_ne (Ne.symm n2)]; exact h2, h3⟩, fun x hx => ?_⟩
    obtain ⟨ps, e1, e2, e3⟩ := t x hx
    have n3 := (hp (x.1, x.1) ⟨_, rfl, .inr ⟨x, hx, rfl⟩⟩).1
    refine ⟨ps, by rw [upd_ne (Ne.symm n3)]; exact e1, e2, fun pos cv hcv => ?_⟩
    obtain ⟨c, e4, e5⟩ := e3 pos cv hcv
    refine ⟨c, e4, ?_⟩
    rw [upd_ne (fun z => hc x.2 (by rw [← z]; exact e5))]
    exact e5
theorem lift_comp {ci ce ct : Nat} {ti : DA} {t : DG} {tt : DB} {te : DT} {vs sl : List Nat} (hsl : ∀ i ∈ sl, i ∈ vs) {Q' : VK} (h : lift G E (ci + 16777216 * (ct + ce)) (dComp vs ti t tt te) σ H Q') :
    tLc (liftI G E ci ti) (liftG G E0 sl t) (liftB G E0 ct tt) (lift G E0 ce te) vs σ H Q' := by
  obtain ⟨W, hn, Q, ht, k⟩ := h
  refine ⟨W, by omega, _, ht, fun J H1 ds st wk hq => ?_⟩
  intro D0 hD
  have hlen : ds.length ≤ 16777216 := by have := wk.len; rw [sizeLine_eq] at this; exact this
  have fr0 : ¬ W.XB D0 := (W.next st).fresh hD
  refine ⟨fun i m H2 => ∃ acc, AccAt G W H1 D0 (W.n - ci - i * (ct + ce)) H2 acc ∧ acc.length ≤ i ∧ i ≤ ds.length ∧ m = ds.length - i ∧ compL t tt te (fun rs => Q (.lst rs)) (inEnv W.env vs) (ds.drop i) acc, ⟨ds.length, [], ⟨⟨[], upd_same, by simp, rfl⟩, fun b o hb _ => by rw [upd_ne (ne_of_none hb hD)]; exact hb, ?_⟩, Nat.le_refl _, Nat.zero_le _, rfl, hq⟩, ?_⟩
  · have g := st.good
    rw [Nat.zero_mul, Nat.sub_zero]
    exact g.ext (Ext.new hD)
  rintro i m H2 ⟨acc, A, hacc, hi, rfl, hq2⟩
  obtain ⟨xs, hxs, hxl, hxd⟩ := A.at_
  have keepX : ∀ b o, ¬ W.XB b → H1 b = some o → H2 b = some o := fun b o nb hb => A.keep b o hb (W.nuX nb)
  by_cases hlt : i < ds.length
  · have hmul : (i + 1) * (ct + ce) ≤ 16777216 * (ct + ce) := Nat.mul_le_mul_right _ (by omega)
    have hmul2 : (i + 1) * (ct + ce) = i * (ct + ce) + (ct + ce) := by rw [Nat.add_mul, Nat.one_mul]
    obtain ⟨go, yl⟩ := wk.go i H2 (fun a => W.XB a ∨ a = D0) keepX (fun b hb => by
      rcases hb with hb | rfl
      · exact .inl hb
      · exact .inr hD) (fun p hp hb => by
      rcases hb with hb | rfl
      · cases q : H1 p with
        | none => exact (W.next st).fresh q hb
        | some o =>
          rcases NU.em (u := W.u) (b := p) with hu | ⟨r, hr, rfl⟩
          · rw [A.keep p o q hu] at hp; cases hp
          · obtain ⟨⟨_, h1⟩, _⟩ := A.good.there hr
            rw [h1] at hp; cases hp
      · rw [hxs] at hp; cases hp) hlt
    refine .inr ⟨go, fun H5 => ∃ acc2, AccAt G W H1 D0 (W.n - ci - (i + 1) * (ct + ce)) H5 acc2 ∧ acc2.length ≤ i + 1 ∧ compL t tt te (fun rs => Q (.lst rs)) (inEnv W.env vs) (ds.drop (i + 1)) acc2,
      fun H5 ⟨acc2, a2, l2, q2⟩ => ⟨ds.length - (i + 1), by omega, acc2, a2, l2, hlt, rfl, q2⟩, fun x H3 hy => ?_⟩
    obtain ⟨ex2, d, hd, hden⟩ := yl x H3 hy
    rw [drop_cons hd] at hq2
    have hD3 : H3 D0 = some (.lst xs) := ex2 _ _ hxs NU.none
    let W3 : Wd G E0 (wipe σ vs) H3 := W.inner st vs D0 H3 (W.n - ci - i * (ct + ce)) hD (by rw [hD3]; simp) (fun b o hb nu => ex2 _ _ (A.keep b o hb nu) NU.none) (A.good.ext ex2)
    have hden3 : Den G W3.XB H3 d x := hden.fewer fun b hb => xb_in hb
    refine ⟨W3, d, _, hden3, hq2, fun σ4 W4 al hsl4 hq4 => ⟨wipe_same hsl hsl4.1 (by rw [hsl4.2, wipe_length]), ?_⟩⟩
    have l4 := al.later
    have n4 : W4.n = W.n - ci - i * (ct + ce) := al.n
    have m4 : W4.m = W.m := l4.m
    have u4 : W4.u = W.u := l4.u
    have b4 : ∀ a, (W.XB a ∨ a = D0) → W4.XB a := fun a ha => .inl (by rw [l4.B]; exact ha)
    have nu0 : NU W.u D0 := W.nuX fr0
    have k3 : ∀ b o, H1 b = some o → NU W.u b → H3 b = some o := fun b o hb nu => ex2 _ _ (A.keep b o hb nu) NU.none
    refine ⟨W4, by rw [n4, m4]; omega, _, by rw [l4.ex]; exact hq4, fun b H5 st5 hb => ?_⟩
    have e5 : Ext W.u H3 H5 := by have z := st5.ext; rw [u4] at z; exact z
    have g5 : Good W.u H5 (W.n - ci - i * (ct + ce) - ct) := by have z := st5.good; rw [u4, n4] at z; exact z
    cases b with
    | false =>
      refine ⟨acc, ⟨⟨xs, e5 _ _ hD3 nu0, hxl, ?_⟩, fun b o hb nu => e5 _ _ (k3 b o hb nu) nu, g5.less (by omega)⟩, by omega, hb⟩
      refine (hxd.ext (u := none) ex2 (fun _ z => z.none.elim)).ext e5 (fun p e => .inl (W.huX p e))
    | true =>
      refine ⟨W4.next st5, by show W4.m + ce ≤ W4.n - ct; rw [n4, m4]; omega, _, by rw [show (W4.next st5).ex = noX from l4.ex]; exact hb, fun y H6 e6 st6 hy6 hq6 => ?_⟩
      have x6 : Ext W.u H5 H6 := by have z := st6.ext; rw [show (W4.next st5).u = W.u from u4] at z; exact z
      have g6 : Good W.u H6 (W.n - ci - i * (ct + ce) - ct - ce) := by have z := st6.good; rw [show (W4.next st5).u = W.u from u4, show (W4.next st5).n = W4.n - ct from rfl, n4] at z; exact z
      have hD6 : H6 D0 = some (.lst xs) := x6 _ _ (e5 _ _ hD3 nu0) nu0
      have hxl2 : xs.length < sizeLine := by have := hxd.length; rw [sizeLine_eq]; omega
      have dacc : DenL G (fun a => W.XB a ∨ a = D0) H6 acc xs := ((hxd.ext (u := none) ex2 (fun _ z => z.none.elim)).ext e5 (fun p e => .inl (W.huX p e))).ext x6 (fun p e => .inl (W.huX p e))
      have dy : Den G (fun a => W.XB a ∨ a = D0) H6 e6 y := hy6.fewer b4
      have kk : ∀ b o, ¬ (W.XB b ∨ b = D0) → H6 b = some o → upd H6 D0 (.lst (xs ++ [y])) b = some o := fun b o nb hb => by rw [upd_ne (fun z => nb (.inr z))]; exact hb
      refine ⟨xs, hD6, hxl2, acc ++ [e6], ⟨⟨xs ++ [y], upd_same, by rw [List.length_append]; exact hxl2, ?_⟩, fun b o hb nu => ?_, ?_⟩, by rw [List.length_append]; simp; omega, hq6⟩
      · exact (DenL.keep kk (fun b hb => .inl hb) _ _ dacc).append ⟨y, [], rfl, Den.keep kk (fun b hb => .inl hb) _ _ dy, rfl⟩
      · rw [upd_ne (ne_of_none hb hD)]
        exact x6 _ _ (e5 _ _ (k3 b o hb nu) nu) nu
      · refine (g6.upd (fun p e => ⟨fun z => fr0 (by rw [show D0 = p.1 from z]; exact W.huX p e), fun z => fr0 (by rw [show D0 = p.2 from z]; exact .inl (W.hu p e).2)⟩) (fun φ z => by rw [hD6] at z; cases z)).less (by omega)
  · have e : i = ds.length := by omega
    have hmul : i * (ct + ce) ≤ 16777216 * (ct + ce) := Nat.mul_le_mul_right _ (by omega)
    rw [e, List.drop_length] at hq2
    refine .inl ⟨wk.stop i H2 keepX (by omega), k _ H2 (.lst acc) ⟨fun b o hb nu => A.keep b o (st.ext b o hb nu) nu, A.good.less (by omega)⟩ ⟨D0, xs, rfl, fr0, hxs, hxl, hxd.fewer fun b z => .inl z⟩ hq2⟩
theorem de_comp {elt iter : Expr} {ifs : List Expr} {scope : Scope} {own : List (Str × Nat)} {pos : Pos} {ci ce ct : Nat} {ti : DA} {t : DG} {tt : DB} {te : DT} {sl : List Nat} {k : Nat} (xk : Xk G E k X) (hN : X.N.Nodup) (hi : DI G E X tg ci iter ti) (ok : BlkOk X.N X.env.scope scope own)
    (hg : ∀ (s : Shared) (H : Hp) (C : Addr) (cl : List (Str × Addr)) (fp : List Addr), DTg G E0 (X.blk s H scope (compEnvC scope cl C X.env) fp) tg sl t) (ht : ∀ (s : Shared) (H : Hp) (C : Addr) (cl : List (Str × Addr)) (fp : List Addr), DTs G (X.blk s H scope (compEnvC scope cl C X.env) fp) ct ifs tt)
    (he : ∀ (s : Shared) (H : Hp) (C : Addr) (cl : List (Str × Addr)) (fp : List Addr), DE G E0 (X.blk s H scope (compEnvC scope cl C X.env) fp) ce elt te) (hsl : ∀ i ∈ sl, i ∈ own.map (·.2)) (hs : ∀ x, foldedSetIterable iter X.env x = pure x := by intro _; rfl) :
    DE G E X (ci + 16777216 * (ct + ce)) (.ListComp elt [⟨tg, iter, ifs, 0⟩] scope pos) (dComp (own.map (·.2)) ti t tt te) :=
  imp (pe_lc xk.calm hN hi ok hg ht he hs) fun _ _ _ h => lift_comp hsl h
/-- x = [..] -/
theorem ds_setComp {i : Nat} {y : Str} {py : Pos} {elt iter : Expr} {ifs : List Expr} {scope : Scope} {own : List (Str × Nat)} {pos spos : Pos} {ci ce ct : Nat} {ti : DA} {t : DG} {tt : DB} {te : DT} {sl : List Nat} {k : Nat} (xk : Xk G E k X) (hN : X.N.Nodup) (hy : X.N[i]? = some y) (hyl : X.env.scope.names.lookup y = some .local)
    (hsw : swapsWith (.ListComp elt [⟨tg, iter, ifs, 0⟩] scope pos) (some (.Name y py)) spos.line X.env = pure true) (hi : DI G E X tg ci iter ti) (ok : BlkOk X.N X.env.scope scope own)
    (hg : ∀ (s : Shared) (H : Hp) (C : Addr) (cl : List (Str × Addr)) (fp : List Addr), DTg G E0 (X.blk s H scope (compEnvC scope cl C X.env) fp) tg sl t) (ht : ∀ (s : Shared) (H : Hp) (C : Addr) (cl : List (Str × Addr)) (fp : List Addr), DTs G (X.blk s H scope (compEnvC scope cl C X.env) fp) ct ifs tt)
    (he : ∀ (s : Shared) (H : Hp) (C : Addr) (cl : List (Str × Addr)) (fp : List Addr), DE G E0 (X.blk s H scope (compEnvC scope cl C X.env) fp) ce elt te) (hsl : ∀ i ∈ sl, i ∈ own.map (·.2)) (hs : ∀ x, foldedSetIterable iter X.env x = pure x := by intro _; rfl) :
    DSt G E X (ci + 16777216 * (ct + ce)) (.Assign [.Name y py] (.ListComp elt [⟨tg, iter, ifs, 0⟩] scope pos) spos) (sSet i (dComp (own.map (·.2)) ti t tt te)) :=
  impS (ps_setLc xk.calm hN hy hyl hsw hi ok hg ht he hs) fun Dn σ H h => by
    obtain ⟨W, hn, de, hq, k1, k2, k3, k4⟩ := h
    refine lift_comp (Q' := fun v H' => gName i v σ H' Dn.nx) hsl ⟨W, hn, _, hq, fun v H' d st hd hr => ?_⟩
    have hd' : Den G (W.next st).XB H' d v := hd
    exact k1 _ H' ((W.next st).put i hd') (((Later.next st).trans (Later.put _ i hd')).more (by omega)) hr
end
end Kn
set_option Elab.async false
set_option linter.all false
set_option maxRecDepth 100000
set_option maxHeartbeats 2100000
namespace Kn
open PySem L2 RZ
open PyProof.Rows (envOfC)
section
variable {G : Gd} {E : XK} {X : Cx} {σ : List (Option V)} {H H' : Hp} {k : Nat}
/-- the field f is that of some class's things alone -/
structure FldOk (G : Gd) (f : Str) : Prop where
  ok : ∀ c, f ∈ G.fl c → Cls G.K (G.cl c) ∧ NoAttr G.K (G.cl c) f
theorem zip_lookup {f : Str} {v : V} : ∀ {ns : List Str} {xs : List V}, xs[ns.idxOf f]? = some v → f ∈ ns → (ns.zip xs).lookup f = some v
  | [], _, _, h => by simp at h
  | n :: ns, [], h, _ => by simp at h
  | n :: ns, x :: xs, h, hf => by
    by_cases e : n = f
    · subst e
      rw [List.idxOf_cons_self] at h
      have : x = v := by simpa using h
      subst this
      simp [List.lookup]
    · have e3 : (n == f) = false := beq_eq_false_iff_ne.mpr e
      rw [List.idxOf_cons, e3] at h
      have hf' : f ∈ ns := by
        rcases List.mem_cons.mp hf with z | z
        · exact absurd z.symm e
        · exact z
      have ih := zip_lookup (ns := ns) (xs := xs) (by simpa using h) hf'
      have e2 : (f == n) = false := beq_eq_false_iff_ne.mpr (Ne.symm e)
      simp only [List.zip_cons_cons, List.lookup, e2]
      exact ih
/-- o.f -/
def dFld (G : Gd) (f : Str) (te : DT) : DT := fun ex env Q => te ex env fun d => ∃ c ds x, d = .ins c ds ∧ f ∈ G.fl c ∧ ds[(G.fl c).idxOf f]? = some x ∧ Q x
theorem de_fld {e : Expr} {f : Str} {pos : Pos} {c : Nat} {te : DT} (hK : X.K = G.K) (fo : FldOk G f) (he : DE G E X c e te) (hb : attributeBase e f X.env (eval e X.env) = eval e X.env := by rfl) : DE G E X c (.Attribute e f pos) (dFld G f te) :=
  imp (pe_fld he hb) fun σ H Q' h => by
    obtain ⟨W, hn, Q, ht, kk⟩ := h
    refine ⟨W, hn, _, ht, fun v H1 d st hd ⟨c, ds, x, e, hf, hx, hq⟩ => ?_⟩
    subst e
    obtain ⟨a, dx, xs, rfl, na, ha, hl, hds⟩ := hd
    obtain ⟨y, hy, hdy⟩ := hds.get hx
    obtain ⟨h1, h2⟩ := fo.ok c hf
    exact ⟨a, G.cl c, dx, _, y, rfl, ha, by rw [hK]; exact h1, by rw [hK]; exact h2, zip_lookup hy hf, kk y H1 x st hdy hq⟩
/-- what its __init__ does: S says what comes of the arguments behind self -/
def liftN (G : Gd) (c cid : Nat) (S : FSpec) : Sp := fun vs H Q E => ∃ (u : Option Ur) (n : Nat) (B : Addr → Prop) (ds : List D) (R : D → Prop) (ex : Exc → Prop) (x dx : Addr) (vs' : List V),
  u = G.u ∧ vs = .ref x :: vs' ∧ H x = some (.ins (G.cl cid) dx []) ∧ x ≠ dx ∧ ¬ B x ∧ ¬ B dx ∧ (∀ p, Pr u p → x ≠ p.1 ∧ x ≠ p.2 ∧ dx ≠ p.1 ∧ dx ≠ p.2) ∧ c ≤ n ∧ (∀ p, Pr u p → B p.1 ∧ B p.2) ∧ (∀ a, B a → H a ≠ none) ∧ Good u H n ∧ DenL G (fun a => B a ∨ a = x ∨ a = dx) H ds vs' ∧ S ds R ex ∧
  (∀ H' xs ds', (∀ b o, H b = some o → b ≠ x → b ≠ dx → NU u b → H' b = some o) → Good u H' (n - c) → H' x = some (.ins (G.cl cid) dx ((G.fl cid).zip xs)) → xs.length = (G.fl cid).length → DenL G B H' ds' xs → R (.ins cid ds') → Q .non H') ∧
  (∀ y C d H', (∀ b o, H b = some o → b ≠ x → b ≠ dx → NU u b → H' b = some o) → Good u H' (n - c) → ExcIs G B H' y C d → ex y → E C d H')
structure InitD (G : Gd) (P : Program) (w : World) (mg : Str → Option Value) (base : Heap) (k : Nat) (f : Addr) (fd : FuncData) (ps : List Str) (c cid : Nat) (S : FSpec) : Prop where
  run : ∀ (A : Around) (outer : List Env) (s : Shared) (H : Hp) (args : Args) (us : List Value) (vs : List V) (Q : VK) (E : XK), Room k A → A.guards = some [] → Env0 P w G.K mg base A outer s H →
    BindsTo s fd args (ps.zip us) → Vals vs us → vs.length = ps.length → liftN G c cid S vs H Q E → codeAny (model P w) A (.call (.ref f) args) (CR (L2.CX P w) outer P w H s Q E) s
/-- the class x of the module, number cid -/
structure Fc (G : Gd) (P : Program) (w : World) (mg : Str → Option Value) (base : Heap) (k : Nat) (x : Str) (cid : Nat) (ps : List Str) (cf : Nat) (S : FSpec) : Prop where
  ex : ∃ (f : Addr) (fd : FuncData), InitD G P w mg base k f fd ps cf cid S ∧ mg x = some (.ref (G.cl cid)) ∧ Mk G.K (G.cl cid) f ∧ Binds G.K fd ps [] ∧ 0 < ps.length
theorem InitD.mono {P : Program} {w : World} {mg : Str → Option Value} {base : Heap} {j k : Nat} {f : Addr} {fd : FuncData} {ps : List Str} {c cid : Nat} {S : FSpec} (F : InitD G P w mg base j f fd ps c cid S) (h : j ≤ k) : InitD G P w mg base k f fd ps c cid S :=
  ⟨fun A outer s H args us vs Q E hr => F.run A outer s H args us vs Q E (hr.mono h)⟩
theorem guards_make {A : Around} {C : Addr} {us : List Value} {kw : List (Str × Value)} : (A.under (.builtin "type.__call__" ⟨.ref C :: us, kw⟩)).guards = A.guards := by
  first | rfl | simp [Around.under, Code.isGuard, guardIds]
theorem de_make {j : Nat} {x : Str} {cid : Nat} {ps : List Str} {c cf : Nat} {S : FSpec} {e : Expr} {es : List Expr} {u : DA} {p pos : Pos} (F : Fc G X.prog X.w X.mg X.base j x cid ps cf S) (xk : Xk G E k X) (ha : DEs G E X c (e :: es) u) (hj : j + 1 ≤ k := by decide) (hg : Gl X x := by rfl) (hdb : (x == ("__debug__" : Str)) = false := by decide)
    (he : starEach (e :: es) X.env = (false, eval e X.env) :: starEach es X.env := by rfl) (hpl : (backTo pos (starEach es X.env)).any (·.1) = false := by rfl) : DE G E X (c + cf) (.Call (.Name x p) (e :: es) [] pos) (dCall (ps.length - 1) S u) := by
  obtain ⟨f, fd, hF, hm, M, hb, hps⟩ := F.ex
  rw [← xk.K] at M hb
  have room1 : Room (j + 1) X.A := xk.room.mono hj
  constructor
  intro pins s σ H Q' I h
  obtain ⟨W, hn, Q, ht, kk⟩ := h
  have args := ha.run pos pins s σ H (fun vs H1 => vs.length = ps.length - 1 ∧ ∃ (st : Step W c H1) (ds : List D), DenL G W.XB H1 ds vs ∧ S ds Q W.ex) I ⟨W, by omega, _, ht, fun vs H1 ds st hd ⟨hl, hs⟩ => ⟨by rw [← hd.length]; exact hl, st, ds, hd, hs⟩⟩
  refine wpAny_Call_Name_kw (ld_glob I hg hm ?_ hdb); refine PySem.W.callWith_K (h₀ := X.base) I.ok.mod.kin M.kp (thn args ?_) he hpl
  rintro us s1 ⟨vs, H1, I1, r1, hl, st, ds, hd, hs⟩
  refine ⟨I1.kIn, ?_⟩
  have f0 : H1 s1.heap.objs.size = none := I1.hok.fresh (Nat.le_refl _)
  have f1 : H1 (s1.heap.objs.size + 1) = none := I1.hok.fresh (Nat.le_succ _)
  have I2 := Inv.made (C := G.cl cid) I1
  have nx : s1.heap.objs.size ≠ s1.heap.objs.size + 1 := Nat.ne_of_lt (Nat.lt_succ_self _)
  have W1 := W.next st
  have bnd : ∀ b o, H1 b = some o → upd (upd H1 s1.heap.objs.size (.own (s1.heap.objs.size + 1))) (s1.heap.objs.size + 1) (.ins (G.cl cid) s1.heap.objs.size []) b = some o := fun b o e => by
    rw [upd_ne (ne_of_none e f1), upd_ne (ne_of_none e f0)]; exact e
  have hs' : liftN G cf cid S (.ref (s1.heap.objs.size + 1) :: vs) (upd (upd H1 s1.heap.objs.size (.own (s1.heap.objs.size + 1))) (s1.heap.objs.size + 1) (.ins (G.cl cid) s1.heap.objs.size [])) (fun v H2 => v = .non ∧ Q' (.ref (s1.heap.objs.size + 1)) H2) E := by
    refine ⟨W.u, W.n - c, W.XB, ds, Q, W.ex, _, s1.heap.objs.size, vs, W.ug, rfl, upd_same, Ne.symm nx, (W.next st).fresh f1, (W.next st).fresh f0, fun p e => ?_, by omega, fun p e => ⟨.inl (W.hu p e).1, .inl (W.hu p e).2⟩, fun a ha z => ?_, ?_, ?_, hs, fun H' xs ds' kp g hx hl2 hd2 hr => ⟨rfl, ?_⟩, fun y C d H' kp g hx hy => ?_⟩
    · have n1 : ¬ W.XB (s1.heap.objs.size + 1) := (W.next st).fresh f1
      have n0 : ¬ W.XB s1.heap.objs.size := (W.next st).fresh f0
      exact ⟨fun z => n1 (by rw [z]; exact .inl (W.hu p e).1), fun z => n1 (by rw [z]; exact .inl (W.hu p e).2), fun z => n0 (by rw [z]; exact .inl (W.hu p e).1), fun z => n0 (by rw [z]; exact .inl (W.hu p e).2)⟩
    · cases q : H1 a with
      | none => exact (W.next st).fresh q ha
      | some o => rw [bnd a o q] at z; cases z
    · refine Good.ext st.good fun b o e _ => bnd b o e
    · refine DenL.keep (fun b o nb e => bnd b o e) (fun b hb => ?_) ds vs hd
      rcases hb with hb | rfl | rfl
      · exact .inl hb
      · exact .inr f1
      · exact .inr f0
    · refine kk _ H' (.ins cid ds') ⟨fun b o e nu => ?_, by rw [Nat.sub_add_eq]; exact g⟩ ⟨_, _, xs, rfl, (W.next st).fresh f1, hx, hl2, hd2⟩ hr
      have e1 := st.ext b o e nu
      exact kp b o (bnd b o e1) (ne_of_none e1 f1) (ne_of_none e1 f0) nu
    · refine W.exc y C d H' (fun b o e nu => ?_) (g.less (by omega)) ?_ hy
      · have e1 := (W.fr.trans st.ext) b o e nu
        exact kp b o (bnd b o e1) (ne_of_none e1 f1) (ne_of_none e1 f0) nu
      · obtain ⟨e1, dd, xs, e2, nd, e3, e4, e5⟩ := hx
        exact ⟨e1, dd, xs, e2, fun z => nd (.inl z), e3, e4, e5.fewer fun b z => .inl z⟩
  have hlen2 : (V.ref (s1.heap.objs.size + 1) :: vs).length = ps.length := by rw [List.length_cons, hl]; omega
  refine wpAny_call (make_map (f := f) I1.kIn M.makes M.init (beq_iff_eq.mp M.fn) (codeAny_mono (hF.run _ X.stack _ _ ⟨.ref (s1.heap.objs.size + 1) :: us, []⟩ (.ref (s1.heap.objs.size + 1) :: us) (.ref (s1.heap.objs.size + 1) :: vs) _ E (room1.make (G.cl cid) us []) (guards_make.trans xk.gd) (by rw [← xk.K]; exact I2.env0.make (G.cl cid) us []) ?_ (.cons rfl r1) hlen2 hs') ?_))
  · have z := hb { s1 with heap := (s1.heap.push PySem.W.emptyDict).push (PySem.W.instObj (G.cl cid) s1.heap.objs.size) } (.ref (s1.heap.objs.size + 1) :: us) I2.kIn (by rw [List.append_nil, List.length_cons, ← r1.length, hl]; omega)
    rw [List.append_nil] at z
    exact z
  · intro r s' hq
    cases r with
    | error e => exact xk.pass pins σ _ _ e s' I2 hq
    | ok fl =>
      cases fl with
      | ret u =>
        obtain ⟨v, H', I3, rv, ev, q3⟩ := I2.after hq
        subst ev
        exact ⟨rv, ⟨V.ref (s1.heap.objs.size + 1), H', I3, rfl, q3⟩⟩
      | next => exact hq.elim
      | brk => exact hq.elim
      | cont => exact hq.elim
end
end Kn
set_option Elab.async false
set_option linter.all false
set_option maxRecDepth 100000
set_option maxHeartbeats 2100000
namespace Kn
open PySem L2 RZ
open PyProof.Rows (envOfC)
section
variable {G : Gd} {E : XK} {X : Cx} {σ : List (Option V)} {H H' : Hp} {k : Nat}
/-- the slots at the entry of an __init__ -/
def envI (N : List Str) (x dx : Addr) (cid : Nat) (ds : List D) : List Sl := Sl.slf x dx cid [] :: (ds.map Sl.val ++ List.replicate (N.length - 1 - ds.length) Sl.emp)
theorem envI_get {N : List Str} {x dx : Addr} {cid : Nat} {ds : List D} {i : Nat} {s : Sl} (h : (envI N x dx cid ds)[i]? = some s) : (i = 0 ∧ s = .slf x dx cid []) ∨ (∃ j d, i = j + 1 ∧ ds[j]? = some d ∧ s = .val d) ∨ s = .emp := by
  unfold envI at h
  cases i with
  | zero => exact .inl ⟨rfl, (Option.some.inj h).symm⟩
  | succ j =>
    rw [List.getElem?_cons_succ] at h
    by_cases hi : j < ds.length
    · rw [List.getElem?_append_left (by simpa using hi), List.getElem?_map, List.getElem?_eq_getElem hi] at h
      exact .inr (.inl ⟨j, ds[j], rfl, List.getElem?_eq_getElem hi, (Option.some.inj h).symm⟩)
    · rw [List.getElem?_append_right (by simpa using hi), List.getElem?_replicate] at h
      split at h
      · exact .inr (.inr (Option.some.inj h).symm)
      · cases h
theorem wd_init {N : List Str} {vs : List V} {E : XK} {u : Option Ur} {n c cid : Nat} {B : Addr → Prop} {ds : List D} {ex : Exc → Prop} {x dx : Addr} (hN : vs.length + 1 ≤ N.length) (hug : u = G.u) (hx : H x = some (.ins (G.cl cid) dx [])) (nx : x ≠ dx) (bx : ¬ B x) (bdx : ¬ B dx)
    (hux : ∀ p, Pr u p → x ≠ p.1 ∧ x ≠ p.2 ∧ dx ≠ p.1 ∧ dx ≠ p.2) (hu : ∀ p, Pr u p → B p.1 ∧ B p.2) (hB : ∀ a, B a → H a ≠ none) (hg : Good u H n) (hd : DenL G (fun a => B a ∨ a = x ∨ a = dx) H ds vs)
    (hex : ∀ y C d H', (∀ b o, H b = some o → b ≠ x → b ≠ dx → NU u b → H' b = some o) → Good u H' (n - c) → ExcIs G B H' y C d → ex y → E C d H') :
    ∃ W : Wd G E (L2.start N (.ref x :: vs)) H, W.u = u ∧ W.n = n ∧ W.m = n - c ∧ W.B = B ∧ W.H0 = (fun b => if b = x ∨ b = dx then none else H b) ∧ W.env = envI N x dx cid ds ∧ W.ex = ex := by
  have hl := hd.length
  have h0 : ∀ b o, (if b = x ∨ b = dx then (none : Option HO) else H b) = some o → H b = some o ∧ b ≠ x ∧ b ≠ dx := fun b o e => by
    by_cases hb : b = x ∨ b = dx
    · rw [if_pos hb] at e; cases e
    · rw [if_neg hb] at e; exact ⟨e, fun z => hb (.inl z), fun z => hb (.inr z)⟩
  have hmine : ∀ {i : Nat} {s : Sl}, (envI N x dx cid ds)[i]? = some s → s.mine = true → i = 0 := fun {i s} e hm => by
    rcases envI_get e with ⟨z, _⟩ | ⟨_, _, _, _, rfl⟩ | rfl
    · exact z
    · cases hm
    · cases hm
  refine ⟨{ u := u, n := n, m := n - c, B := B, H0 := fun b => if b = x ∨ b = dx then none else H b, env := envI N x dx cid ds, ex := ex, ug := hug, hu := hu, hB := fun a ha z => ?_, fr := fun b o e _ => (h0 b o e).1, good := hg, len := ?_, sl := ?_, nd := ?_, exc := fun y C d H' e g hy hq => ?_ }, rfl, rfl, rfl, rfl, rfl, rfl, rfl⟩
  · rw [if_neg (fun q => q.elim (fun q => bx (q ▸ ha)) fun q => bdx (q ▸ ha))] at z
    exact hB a ha z
  · unfold envI L2.start
    simp only [List.length_append, List.length_map, List.length_replicate, List.length_cons]
    omega
  · intro i s e
    have sub : ∀ b, XBof B (envI N x dx cid ds) (L2.start N (.ref x :: vs)) b → B b ∨ b = x ∨ b = dx := fun b hb => by
      rcases hb with hb | ⟨j, t, e1, hm, e2⟩
      · exact .inl hb
      · have := hmine e1 hm
        subst this
        rw [start_get (i := 0) (v := .ref x) rfl] at e2
        cases e2
        exact .inr (.inl rfl)
    rcases envI_get e with ⟨rfl, rfl⟩ | ⟨j, d, rfl, hdj, rfl⟩ | rfl
    · refine ⟨[], by rw [start_get (i := 0) (v := .ref x) rfl]; rfl, if_pos (.inl rfl), by rw [List.zip_nil_right]; exact hx, Nat.zero_le _, rfl⟩
    · obtain ⟨y, hy, hdy⟩ := hd.get hdj
      exact ⟨y, by rw [start_get (i := j + 1) (v := y) (by simpa using hy)]; rfl, hdy.fewer sub⟩
    · trivial
  · intro i j a s t e1 e2 m1 m2 _ _
    rw [hmine e1 m1, hmine e2 m2]
  · exact hex y C d H' (fun b o hb n1 n2 nu => e b o (by show (if b = x ∨ b = dx then none else H b) = some o; rw [if_neg (fun q => q.elim n1 n2)]; exact hb) nu) g hy hq
/-- THE RULE for an __init__ that stores each field once, in order -/
theorem initd_of {P : Program} {w : World} {mg : Str → Option Value} {base : Heap} {f : Addr} {x qual : Str} {st : Stmt} {fd : FuncData} {N ps : List Str} {c cid : Nat} {S : FSpec} {ts : DS} (F : Fun G.K x qual st f fd) (Sc : FnScope N ps (defScope st))
    (hder : ∀ (cdv : Value) (A : Around) (outer : List Env) (s : Shared) (H : Hp) (E : XK), Room k (A.deeper (envOfC qual (defScope st) s.heap.objs.size f cdv)) → A.guards = some [] →
      DSs G E (cxOf (L2.CX P w) P w G.K mg base N qual (defScope st) f cdv A outer s H E) c (defBody st) ts)
    (hS : ∀ a dx ds R ex, ds.length + 1 = ps.length → S ds R ex → ts ex { nx := fun env => ∃ ds', env[0]? = some (.slf a dx cid ds') ∧ ds'.length = (G.fl cid).length ∧ R (.ins cid ds'), rt := fun _ _ => False } (envI N a dx cid ds)) : InitD G P w mg base (k + 1) f fd ps c cid S := by
  constructor
  intro A outer s H args us vs Q E hr hgd e0 hb rv hlen hsp
  obtain ⟨u, n, B, ds, R, ex, a, dx, vs', hug, rfl, hx, nx, bx, bdx, hux, hc, hu, hB, hg, hd, hs, hq, hex⟩ := hsp
  have hNl : vs'.length + 1 ≤ N.length := by
    have h1 := congrArg List.length Sc.pre
    rw [List.length_take] at h1
    rw [List.length_cons] at hlen
    omega
  obtain ⟨oc, od, kV, doc, pm, an, cdv, ct, osl, rfl, lk, hcd⟩ := F.ex; have KX : G.K.In s.heap := PySem.W.Frag.In.keeps e0.mod.kin (fun b o e => (e0.bs b o e).1)
  have nolim : s.heap.NoLimit := Heap.NoLimit.keeps e0.mod.nolimit (fun b o e => (e0.bs b o e).1)
  have kinds : ∀ y ∈ ps.zip us, (defScope st).names.lookup y.1 = some .local ∨
      ((defScope st).names.lookup y.1 = some .cell ∧ ((cellsFrom (s.heap.objs.size + 1) (defScope st).names []).lookup y.1).isSome = true) := by
    intro y hy
    obtain ⟨n1, v1⟩ := y
    rcases Sc.par n1 (List.of_mem_zip hy).1 with z | z
    · exact .inl z
    · exact .inr ⟨z, PySem.W.cellsFrom_some _ _ _ (.inl z)⟩
  refine codeAny_call_function hr.depth (KX _ _ lk) rfl Sc.co Sc.gen rfl (PySem.W.codeRec_of KX hcd) ?_
  refine hb _ _ _ _ (wpAny_newFunctionEnv_cells Sc.kind kinds ?_)
  intro env he s1 ic
  subst he
  refine ⟨nolim.keeps ic.toInCall.keep, codeAny_func ?_⟩
  have I : Inv (cxOf (L2.CX P w) P w G.K mg base N qual (defScope st) f cdv A outer s H E) [] (L2.start N (.ref a :: vs')) H s1 := inv_start Sc hr.hd e0 hlen rv ic
  have hds : ds.length + 1 = ps.length := by rw [hd.length]; simpa using hlen
  obtain ⟨W, w1, w2, w3, w4, w5, w6, w7⟩ := wd_init (N := N) (E := E) (c := c) hNl hug hx nx bx bdx hux hu hB hg hd hex
  have body := (hder cdv A outer s H E (hr.deeper _) hgd).run [] s1 (L2.start N (.ref a :: vs')) H { nx := fun _ H' => Q .non H', rt := Q } I (by
    refine ⟨W, by rw [w2, w3]; omega, _, by rw [w6, w7]; exact hS a dx ds R ex hds hs, ?_, ?_, ?_, ?_⟩
    · intro σ' H' W' lt ⟨ds', h1, h2, h3⟩
      obtain ⟨xs, ea, h0, ha, hlx, hdx⟩ := W'.sl 0 _ h1
      have hG : Good u H' (n - c) := by have z := W'.good; rw [lt.u, w1] at z; exact z.less (by have := lt.n; rw [w2] at this; omega)
      refine hq H' xs ds' (fun b o e n1 n2 nu => ?_) hG ha (by rw [← hdx.length]; exact h2) ?_ h3
      · have z := W'.fr b o (by rw [lt.H0, w5]; show (if b = a ∨ b = dx then none else H b) = some o; rw [if_neg (fun q => q.elim n1 n2)]; exact e)
        rw [lt.u, w1] at z
        exact z nu
      · refine hdx.fewer fun b hb => ?_
        exact .inl (by rw [lt.B, w4]; exact hb)
    · intro v σ' H' W' d lt hd' hr'; exact hr'.elim
    · intro σ' H' W' lt z; exact z.elim
    · intro σ' H' W' lt z; exact z.elim)
  refine wpAny_mono body ?_ (fun e s' hs => hs)
  intro fl s' hfl
  cases fl with
  | next => obtain ⟨σ', H', J, q⟩ := hfl; exact ⟨.non, H', J.os, J.bare, J.base, J.hok, rfl, q⟩
  | ret v' => obtain ⟨v, σ', H', J, r1, q⟩ := hfl; exact ⟨v, H', J.os, J.bare, J.base, J.hok, r1, q⟩
  | brk => obtain ⟨σ', H', J, q⟩ := hfl; exact q.elim
  | cont => obtain ⟨σ', H', J, q⟩ := hfl; exact q.elim
theorem put_zip {f : Str} {v : V} : ∀ {ns : List Str} {xs : List V}, ns.Nodup → ns[xs.length]? = some f → putF f v (ns.zip xs) = ns.zip (xs ++ [v])
  | [], xs, _, h => by simp at h
  | n :: ns, [], _, h => by
    have e : n = f := by simpa using h
    subst e
    cases ns <;> rfl
  | n :: ns, x :: xs, nd, h => by
    have h' : ns[xs.length]? = some f := by simpa using h
    have hne : n ≠ f := fun z => (List.nodup_cons.mp nd).1 (by rw [z]; exact List.mem_of_getElem? h')
    show (if n = f then (n, v) :: ns.zip xs else (n, x) :: putF f v (ns.zip xs)) = _
    rw [if_neg hne, put_zip (List.nodup_cons.mp nd).2 h']
    rfl
def sFld (G : Gd) (i : Nat) (f : Str) (te : DT) : DS := fun ex de env => te ex env fun d => ∃ a dx c ds, env[i]? = some (.slf a dx c ds) ∧ (G.fl c)[ds.length]? = some f ∧ de.nx (env.set i (.slf a dx c (ds ++ [d])))
theorem join_some {α : Type} {l : List (Option α)} {i : Nat} {a : α} (h : l[i]?.join = some a) : l[i]? = some (some a) := by
  cases q : l[i]? with
  | none => rw [q] at h; cases h
  | some o => rw [q] at h; rw [show o = some a from h]
/-- the frame's own thing in slot i, at a, changes -/
theorem wd_mut (W : Wd G E σ H) {i : Nat} {a : Addr} {s0 s1 : Sl} {o1 : HO} (he : W.env[i]? = some s0) (hm : s0.mine = true) (hsi : σ[i]? = some (some (.ref a))) (hm1 : s1.mine = true) (ok : SlOk G W.H0 W.XB (L2.upd H a o1) s1 (some (.ref a))) :
    ∃ W' : Wd G E σ (L2.upd H a o1), Later W 0 W' ∧ W'.env = W.env.set i s1 ∧ W'.n = W.n := by
  have hil : i < W.env.length := (List.getElem?_eq_some_iff.mp he).1
  have xa : W.XB a := .inr ⟨i, _, he, hm, hsi⟩
  obtain ⟨h0, oa, hoa⟩ := W.mine_at he hm hsi
  have nB : ¬ W.B a := W.own_ne h0
  have xb : ∀ b, XBof W.B (W.env.set i s1) σ b → W.XB b := fun b hb => by
    rcases hb with hb | ⟨j, s, e1, m1, e2⟩
    · exact .inl hb
    · by_cases hj : i = j
      · subst hj
        exact .inr ⟨i, _, he, hm, e2⟩
      · rw [List.getElem?_set_ne hj] at e1
        exact .inr ⟨j, s, e1, m1, e2⟩
  have kd : ∀ b o, ¬ W.XB b → H b = some o → L2.upd H a o1 b = some o := fun b o nb e => by rw [upd_ne (show b ≠ a from fun z => nb (by rw [z]; exact xa))]; exact e
  have dk : ∀ {d : D} {v : V}, Den G W.XB H d v → Den G (XBof W.B (W.env.set i s1) σ) (L2.upd H a o1) d v := fun {d v} h => (Den.keep kd (fun b hb => .inl hb) d v h).fewer xb
  have dkl : ∀ {ds : List D} {xs : List V}, DenL G W.XB H ds xs → DenL G (XBof W.B (W.env.set i s1) σ) (L2.upd H a o1) ds xs := fun {ds xs} h => (DenL.keep kd (fun b hb => .inl hb) ds xs h).fewer xb
  refine ⟨{ u := W.u, n := W.n, m := W.m, B := W.B, H0 := W.H0, env := W.env.set i s1, ex := W.ex, ug := W.ug, hu := W.hu, hB := W.hB, fr := fun b o e nu => ?_, good := ?_, len := by rw [List.length_set]; exact W.len, sl := fun j s e => ?_, nd := fun j l b s t e1 e2 m1 m2 e3 e4 => ?_, exc := W.exc }, ⟨rfl, rfl, rfl, rfl, rfl, by show W.n ≤ W.n + 0; omega, kd, fun b hb => .inl (xb b hb)⟩, rfl, rfl⟩
  · rw [upd_ne (fun z => by rw [z, h0] at e; cases e)]
    exact W.fr b o e nu
  · exact W.good.upd (fun r e => ⟨fun z => nB (by rw [z]; exact (W.hu r e).1), fun z => nB (by rw [z]; exact (W.hu r e).2)⟩) (W.mine_nc he hm hsi)
  · by_cases hj : i = j
    · subst hj
      rw [List.getElem?_set_self hil] at e
      cases e
      rw [hsi]
      exact ok.fewer xb
    · rw [List.getElem?_set_ne hj] at e
      have z := W.sl j s e
      have ne : ∀ b, s.mine = true → σ[j]? = some (some (.ref b)) → b ≠ a := fun b ms hb q => by
        subst q
        exact hj (W.nd i j b s0 s he e hm ms hsi hb)
      cases s with
      | emp => trivial
      | val d => obtain ⟨x, e1, e2⟩ := z; exact ⟨x, e1, dk e2⟩
      | own b ds => obtain ⟨xs, e1, e2, e3, e4, e5⟩ := z; exact ⟨xs, e1, e2, by rw [upd_ne (ne b rfl (join_some e1))]; exact e3, e4, dkl e5⟩
      | slf b dx c ds => obtain ⟨xs, e1, e2, e3, e4, e5⟩ := z; exact ⟨xs, e1, e2, by rw [upd_ne (ne b rfl (join_some e1))]; exact e3, e4, dkl e5⟩
      | obj b o => obtain ⟨e1, e2, e3, e4⟩ := z; exact ⟨e1, e2, by rw [upd_ne (ne b rfl (join_some e1))]; exact e3, e4⟩
      | dic b ks es => obtain ⟨L, e1, e2, e3, e4, e5, e6⟩ := z; exact ⟨L, e1, e2, (by rw [upd_ne (ne b rfl (join_some e1))]; exact e3), e4, e5.by dk, dkl e6⟩
  · have old : ∀ {j : Nat} {s : Sl}, (W.env.set i s1)[j]? = some s → s.mine = true → ∃ s', W.env[j]? = some s' ∧ s'.mine = true := fun {j s} e ms => by
      by_cases hj : i = j
      · subst hj; exact ⟨s0, he, hm⟩
      · rw [List.getElem?_set_ne hj] at e; exact ⟨s, e, ms⟩
    obtain ⟨s', f1, f2⟩ := old e1 m1
    obtain ⟨t', f3, f4⟩ := old e2 m2
    exact W.nd j l b s' t' f1 f3 f2 f4 e3 e4
/-- what is not the frame's own stays when the frame's own thing at a changes -/
theorem mut_keep (W : Wd G E σ H) {i : Nat} {a : Addr} {s0 : Sl} {o1 : HO} (he : W.env[i]? = some s0) (hm : s0.mine = true) (hsi : σ[i]? = some (some (.ref a))) : ∀ b o, ¬ W.XB b → H b = some o → L2.upd H a o1 b = some o :=
  fun b o nb e => by rw [upd_ne (show b ≠ a from fun z => nb (by rw [z]; exact .inr ⟨i, _, he, hm, hsi⟩))]; exact e
theorem lift_slf {i : Nat} {W : Wd G E σ H} {a dx : Addr} {c : Nat} {ds : List D} (he : W.env[i]? = some (.slf a dx c ds)) : ∃ xs, σ[i]? = some (some (.ref a)) ∧ H a = some (.ins (G.cl c) dx ((G.fl c).zip xs)) ∧ xs.length ≤ (G.fl c).length ∧ DenL G W.XB H ds xs := by
  obtain ⟨xs, e1, e2, e3, e4, e5⟩ := W.sl i _ he
  exact ⟨xs, join_some e1, e3, e4, e5⟩
theorem ds_fld {i : Nat} {x f : Str} {e : Expr} {pos pos' p : Pos} {c : Nat} {te : DT} (hK : X.K = G.K) (fo : FldOk G f) (nd : ∀ c, (G.fl c).Nodup) (sm : ∀ c, (G.fl c).length ≤ 100) (hN : X.N[i]? = some x) (he : DE G E X c e te) (hv : Vis X.env.scope x := by first | exact Or.inl rfl | exact Or.inr (Or.inl rfl) | exact Or.inr (Or.inr rfl))
    (hs : swapsWith e (some (.Attribute (.Name x p) f pos')) pos.line X.env = pure false := by rfl) (hd : (x == ("__debug__" : Str)) = false := by decide) (hcd : (x == ("__classdict__" : Str)) = false := by decide) : DSt G E X c (.Assign [.Attribute (.Name x p) f pos'] e pos) (sFld G i f te) :=
  impS (ps_fld (pe_var (i := i) hN hv hd hcd) he hs) fun Dn σ H h => by
    obtain ⟨W, hn, de, ht, k1, k2, k3, k4⟩ := h
    refine ⟨W, hn, _, ht, fun v H' d st hd' ⟨a, dx, cc, ds, hei, hf, hq⟩ => ?_⟩
    obtain ⟨xs, hsi, ha, hl, hxs⟩ := lift_slf (W := W.next st) hei
    have hfm : f ∈ G.fl cc := List.mem_of_getElem? hf
    obtain ⟨o1, o2⟩ := fo.ok cc hfm
    have el := hxs.length
    have hlt : xs.length < (G.fl cc).length := by rw [← el]; exact (List.getElem?_eq_some_iff.mp hf).1
    refine ⟨.ref a, hsi, a, G.cl cc, dx, _, rfl, ha, by rw [hK]; exact o1, by rw [hK]; exact o2, by rw [List.length_zip]; have := sm cc; omega, ?_⟩
    have hpz : putF f v ((G.fl cc).zip xs) = (G.fl cc).zip (xs ++ [v]) := put_zip (nd cc) (by rw [← el]; exact hf)
    rw [hpz]
    have kp := mut_keep (o1 := .ins (G.cl cc) dx ((G.fl cc).zip (xs ++ [v]))) (W.next st) hei rfl hsi
    obtain ⟨W', l1, l2, l3⟩ := wd_mut (o1 := .ins (G.cl cc) dx ((G.fl cc).zip (xs ++ [v]))) (s1 := .slf a dx cc (ds ++ [d])) (W.next st) hei rfl hsi rfl
      ⟨xs ++ [v], rfl, ((W.next st).mine_at hei rfl hsi).1, upd_same, by rw [List.length_append]; exact hlt, (DenL.keep kp (fun b hb => .inl hb) _ _ hxs).append ⟨v, [], rfl, Den.keep kp (fun b hb => .inl hb) _ _ hd', rfl⟩⟩
    exact k1 σ _ W' (((Later.next st).trans l1).more (by omega)) (by rw [l2]; exact hq)
end
end Kn
set_option Elab.async false
set_option linter.all false
set_option maxRecDepth 100000
set_option maxHeartbeats 2100000
namespace Kn
open PySem L2 RZ
open PyProof.Rows (envOfC)
section
variable {G : Gd} {E : XK} {X : Cx} {σ : List (Option V)} {H H' : Hp} {k : Nat}
/-- slot i holds a new list that nothing else holds -/
theorem wd_own (W : Wd G E σ H) {c : Nat} {H2 : Hp} (st : Step W c H2) {i : Nat} {p : Addr} {xs : List V} {ds : List D} (hp : H p = none) (h2 : H2 p = some (.lst xs)) (hl : xs.length ≤ sizeLine) (hd : DenL G (fun a => W.XB a ∨ a = p) H2 ds xs) :
    ∃ W' : Wd G E (σ.set i (some (.ref p))) H2, Later W c W' ∧ W'.env = W.env.set i (.own p ds) := by
  have fr0 : ¬ W.XB p := W.fresh hp
  have h0 : W.H0 p = none := by
    cases q : W.H0 p with
    | none => rfl
    | some o =>
      exfalso
      rw [W.fr p o q (W.nuX fr0)] at hp; cases hp
  let W1 := W.next st
  have npo : ∀ {j : Nat} {s : Sl} {b : Addr}, W.env[j]? = some s → s.mine = true → σ[j]? = some (some (.ref b)) → b ≠ p := fun {j s b} e hm es z => by
    obtain ⟨_, o, ho⟩ := W.mine_at e hm es
    rw [z, hp] at ho; cases ho
  have xb : ∀ b, XBof W.B (W.env.set i (.own p ds)) (σ.set i (some (.ref p))) b → W.XB b ∨ b = p := fun b hb => by
    rcases hb with hb | ⟨j, s, e1, m1, e2⟩
    · exact .inl (.inl hb)
    · by_cases hj : i = j
      · subst hj
        by_cases hi : i < σ.length
        · rw [List.getElem?_set_self hi] at e2; cases e2; exact .inr rfl
        · rw [List.getElem?_eq_none (by rw [List.length_set]; omega)] at e2; cases e2
      · rw [List.getElem?_set_ne hj] at e1 e2
        exact .inl (.inr ⟨j, s, e1, m1, e2⟩)
  have dk : ∀ {d : D} {v : V}, Den G W.XB H d v → Den G (XBof W.B (W.env.set i (.own p ds)) (σ.set i (some (.ref p)))) H2 d v := fun {d v} h =>
    Den.keep (fun b o nb e => st.keep nb e) (fun b hb => (xb b hb).imp id fun z => by rw [z]; exact hp) d v h
  have dkl : ∀ {es : List D} {ys : List V}, DenL G W.XB H es ys → DenL G (XBof W.B (W.env.set i (.own p ds)) (σ.set i (some (.ref p)))) H2 es ys := fun {es ys} h =>
    DenL.keep (fun b o nb e => st.keep nb e) (fun b hb => (xb b hb).imp id fun z => by rw [z]; exact hp) es ys h
  have own_st : ∀ {j : Nat} {s : Sl} {b : Addr} {o : HO}, W.env[j]? = some s → s.mine = true → σ[j]? = some (some (.ref b)) → H b = some o → H2 b = some o := fun {j s b o} e hm es ho => st.ext b o ho (W.nu (W.mine_at e hm es).1)
  refine ⟨{ u := W.u, n := W.n - c, m := W.m, B := W.B, H0 := W.H0, env := W.env.set i (.own p ds), ex := W.ex, ug := W.ug, hu := W.hu, hB := W.hB, fr := W.fr.trans st.ext, good := st.good, len := by rw [List.length_set, List.length_set]; exact W.len, sl := fun j s e => ?_, nd := fun j l b s t e1 e2 m1 m2 e3 e4 => ?_, exc := W.exc },
    ⟨rfl, rfl, rfl, rfl, rfl, by show W.n ≤ W.n - c + c; omega, fun b o nb e => st.keep nb e, fun b hb => (xb b hb).imp id fun z => by rw [z]; exact hp⟩, rfl⟩
  · by_cases hj : i = j
    · subst hj
      by_cases hi : i < W.env.length
      · rw [List.getElem?_set_self hi] at e
        cases e
        rw [getD_set, if_pos ⟨rfl, by rw [← W.len]; exact hi⟩]
        exact ⟨xs, rfl, h0, h2, hl, hd.fewer xb⟩
      · rw [List.getElem?_eq_none (by simpa using hi)] at e; cases e
    · rw [List.getElem?_set_ne hj] at e
      rw [getD_set, if_neg (fun z => hj z.1)]
      have z := W.sl j s e
      cases s with
      | emp => trivial
      | val d => obtain ⟨x, e1, e2⟩ := z; exact ⟨x, e1, dk e2⟩
      | own b es => obtain ⟨ys, e1, e2, e3, e4, e5⟩ := z; exact ⟨ys, e1, e2, own_st e rfl (join_some e1) e3, e4, dkl e5⟩
      | slf b dx cc es => obtain ⟨ys, e1, e2, e3, e4, e5⟩ := z; exact ⟨ys, e1, e2, own_st e rfl (join_some e1) e3, e4, dkl e5⟩
      | obj b o => obtain ⟨e1, e2, e3, e4⟩ := z; exact ⟨e1, e2, own_st e rfl (join_some e1) e3, e4⟩
      | dic b ks es => obtain ⟨L, e1, e2, e3, e4, e5, e6⟩ := z; exact ⟨L, e1, e2, own_st e rfl (join_some e1) e3, e4, e5.by dk, dkl e6⟩
  · by_cases hj : i = j
    · by_cases hlk : i = l
      · exact hj.symm.trans hlk
      · subst hj
        exfalso
        rw [List.getElem?_set_ne hlk] at e2 e4
        have hi : i < σ.length := by
          by_cases q : i < σ.length
          · exact q
          · rw [List.getElem?_eq_none (by rw [List.length_set]; omega)] at e3; cases e3
        rw [List.getElem?_set_self hi] at e3
        cases e3
        exact npo e2 m2 e4 rfl
    · rw [List.getElem?_set_ne hj] at e1 e3
      by_cases hlk : i = l
      · subst hlk
        exfalso
        have hi : i < σ.length := by
          by_cases q : i < σ.length
          · exact q
          · rw [List.getElem?_eq_none (by rw [List.length_set]; omega)] at e4; cases e4
        rw [List.getElem?_set_self hi] at e4
        cases e4
        exact npo e1 m1 e3 rfl
      · rw [List.getElem?_set_ne hlk] at e2 e4
        exact W.nd j l b s t e1 e2 m1 m2 e3 e4
/-- an expression that makes a new list -/
def liftFr (G : Gd) (E : XK) (c : Nat) (t : DA) : TE := fun σ H Q' => ∃ W : Wd G E σ H, W.m + c ≤ W.n ∧ ∃ Q, t W.ex W.env Q ∧
  ∀ p H' ds xs, Step W c H' → H p = none → H' p = some (.lst xs) → xs.length ≤ sizeLine → DenL G (fun a => W.XB a ∨ a = p) H' ds xs → Q ds → Q' (.ref p) H'
abbrev DF (G : Gd) (E : XK) (X : Cx) (c : Nat) (e : Expr) (t : DA) : Prop := PE X e (liftFr G E c t)
def fLst (u : DA) : DA := fun ex env Q => u ex env fun ds => ds.length ≤ sizeLine ∧ Q ds
theorem df_lst {es : List Expr} {pos : Pos} {c : Nat} {u : DA} (h : DEs G E X c es u) : DF G E X c (.List es pos) (fLst u) := imp (pe_lst h) fun σ H Q' h => by
  obtain ⟨W, hn, Q, ht, kk⟩ := h
  refine ⟨W, hn, _, ht, fun vs H1 ds st hd ⟨hl, hq⟩ => ⟨by rw [← hd.length]; exact hl, fun p hp => ?_⟩⟩
  have hp0 : H p = none := by
    cases q : H p with
    | none => rfl
    | some o =>
      exfalso
      rw [st.ext p o q (W.nuX ((W.next st).fresh hp))] at hp; cases hp
  refine kk p _ ds vs (st.new hp) hp0 upd_same (by rw [← hd.length]; exact hl) ?_ hq
  exact DenL.keep (fun b o nb e => by rw [upd_ne (ne_of_none e hp)]; exact e) (fun b hb => hb.imp id fun z => by rw [z]; exact hp) ds vs hd
def sOwn (i : Nat) (t : DA) : DS := fun ex de env => t ex env fun ds => ∀ a, de.nx (env.set i (.own a ds))
theorem ds_own {i : Nat} {x : Str} {e : Expr} {pos pos' : Pos} {c : Nat} {t : DA} (hN : X.N.Nodup) (hi : X.N[i]? = some x) (hx : Loc X.env.scope x) (he : DF G E X c e t) (hs : swapsWith e (some (.Name x pos')) pos.line X.env = pure false := by rfl)
    (hf : X.fn x = true ∨ X.env.scope.names.lookup x = some .local := by first | exact .inl rfl | exact .inr rfl) : DSt G E X c (.Assign [.Name x pos'] e pos) (sOwn i t) :=
  impS (ps_set hN hi hx he hs hf) fun Dn σ H h => by
    obtain ⟨W, hn, de, ht, k1, k2, k3, k4⟩ := h
    refine ⟨W, hn, _, ht, fun p H' ds xs st hp h2 hl hd hq => ?_⟩
    obtain ⟨W', l1, l2⟩ := wd_own W st (i := i) hp h2 hl hd
    exact k1 _ H' W' l1 (by rw [l2]; exact hq p)
/-- from here on the list in slot i stays as it is -/
def sFreeze (i : Nat) (t : DS) : DS := fun ex de env => ∃ a ds, env[i]? = some (.own a ds) ∧ t ex de (env.set i (.val (.lst ds)))
theorem ds_freeze {i : Nat} {sts : List Stmt} {c : Nat} {t : DS} (h : DSs G E X c sts t) : DSs G E X c sts (sFreeze i t) := impSs h fun Dn σ H h => by
  obtain ⟨W, hn, de, ⟨a, ds, he, ht⟩, k1, k2, k3, k4⟩ := h
  obtain ⟨xs, e1, h0, ha, hl, hd⟩ := W.sl i _ he
  have hsi := join_some e1
  have hil : i < W.env.length := (List.getElem?_eq_some_iff.mp he).1
  have xb : ∀ b, XBof W.B (W.env.set i (.val (.lst ds))) σ b → W.XB b ∧ b ≠ a := fun b hb => by
    rcases hb with hb | ⟨j, s, f1, m1, f2⟩
    · exact ⟨.inl hb, fun z => W.own_ne h0 (by rw [← z]; exact hb)⟩
    · by_cases hj : i = j
      · subst hj
        rw [List.getElem?_set_self hil] at f1; cases f1; cases m1
      · rw [List.getElem?_set_ne hj] at f1
        exact ⟨.inr ⟨j, s, f1, m1, f2⟩, fun z => hj (W.nd i j a _ s he f1 rfl m1 hsi (by rw [← z]; exact f2))⟩
  have key : ∃ W' : Wd G E σ H, Later W 0 W' ∧ W'.env = W.env.set i (.val (.lst ds)) ∧ W'.n = W.n := by
    refine ⟨{ u := W.u, n := W.n, m := W.m, B := W.B, H0 := W.H0, env := W.env.set i (.val (.lst ds)), ex := W.ex, ug := W.ug, hu := W.hu, hB := W.hB, fr := W.fr, good := W.good, len := by rw [List.length_set]; exact W.len, sl := fun j s e => ?_, nd := fun j l b s t f1 f2 m1 m2 f3 f4 => ?_, exc := W.exc },
      ⟨rfl, rfl, rfl, rfl, rfl, by show W.n ≤ W.n + 0; omega, fun _ _ _ h => h, fun b hb => .inl (xb b hb).1⟩, rfl, rfl⟩
    · by_cases hj : i = j
      · subst hj
        rw [List.getElem?_set_self hil] at e
        cases e
        exact ⟨.ref a, e1, a, xs, rfl, fun z => (xb a z).2 rfl, ha, hl, hd.fewer fun b hb => (xb b hb).1⟩
      · rw [List.getElem?_set_ne hj] at e
        exact (W.sl j s e).fewer fun b hb => (xb b hb).1
    · have old : ∀ {j : Nat} {s : Sl}, (W.env.set i (.val (.lst ds)))[j]? = some s → s.mine = true → W.env[j]? = some s := fun {j s} f m => by
        by_cases hj : i = j
        · subst hj; rw [List.getElem?_set_self hil] at f; cases f; cases m
        · rw [List.getElem?_set_ne hj] at f; exact f
      exact W.nd j l b s t (old f1 m1) (old f2 m2) m1 m2 f3 f4
  obtain ⟨W', lt, we, wn⟩ := key
  refine ⟨W', by rw [lt.m, wn]; exact hn, de, by rw [lt.ex, we]; exact ht, fun σ' H' W2 l2 q => k1 σ' H' W2 ((lt.trans l2).more (by omega)) q, fun v σ2 H' W2 d l2 hd hr => k2 v σ2 H' W2 d ((lt.trans l2).more (by omega)) (by rw [lt.B] at hd; exact hd) hr, fun σ' H' W2 l2 q => k3 σ' H' W2 ((lt.trans l2).more (by omega)) q, fun σ' H' W2 l2 q => k4 σ' H' W2 ((lt.trans l2).more (by omega)) q⟩
theorem lift_own {i : Nat} {W : Wd G E σ H} {ds : List D} {a : Addr} (he : W.env[i]? = some (.own a ds)) : ∃ xs, σ[i]? = some (some (.ref a)) ∧ W.H0 a = none ∧ H a = some (.lst xs) ∧ xs.length ≤ sizeLine ∧ DenL G W.XB H ds xs := by
  obtain ⟨xs, e1, e2, e3, e4, e5⟩ := W.sl i _ he
  exact ⟨xs, join_some e1, e2, e3, e4, e5⟩
theorem own_step {W : Wd G E σ H} {c : Nat} {H1 : Hp} (st : Step W c H1) {i : Nat} {a : Addr} {xs ys : List V} {ds es : List D} (he : W.env[i]? = some (.own a ds)) (hsi : σ[i]? = some (some (.ref a))) (h0 : W.H0 a = none) (hl : ys.length ≤ sizeLine) (hd : DenL G W.XB H1 es ys) :
    ∃ W' : Wd G E σ (L2.upd H1 a (.lst ys)), Later W c W' ∧ W'.env = W.env.set i (.own a es) := by
  have he' : (W.next st).env[i]? = some (.own a ds) := he
  have kp := mut_keep (o1 := .lst ys) (W.next st) he' rfl hsi
  obtain ⟨W', l1, l2, l3⟩ := wd_mut (o1 := .lst ys) (s1 := .own a es) (W.next st) he' rfl hsi rfl ⟨ys, rfl, h0, upd_same, hl, DenL.keep kp (fun b hb => .inl hb) es ys hd⟩
  exact ⟨W', ((Later.next st).trans l1).more (by omega), l2⟩
/-- x.append(e) -/
def sApp (i : Nat) (te : DT) : DS := fun ex de env => ∃ a ds, env[i]? = some (.own a ds) ∧ te ex env fun d => ds.length < sizeLine ∧ de.nx (env.set i (.own a (ds ++ [d])))
theorem ds_app {i : Nat} {x : Str} {e : Expr} {pos p apos cpos : Pos} {c : Nat} {te : DT} (hN : X.N[i]? = some x) (he : DE G E X c e te) (hv : Vis X.env.scope x := by first | exact Or.inl rfl | exact Or.inr (Or.inl rfl) | exact Or.inr (Or.inr rfl)) (hd : (x == ("__debug__" : Str)) = false := by decide) (hcd : (x == ("__classdict__" : Str)) = false := by decide)
    (hbase : attributeBase (.Name x p) "append" X.env (eval (.Name x p) X.env) = eval (.Name x p) X.env := by rfl)
    (hfew : ((backTo cpos (starEach [e] X.env)).all (fun x => !x.1) && (backToKw cpos (keywordEach [] X.env)).all (fun x => x.1.isSome) && decide (([e] : List Expr).length + ([] : List Keyword).length + (if ([] : List Keyword).isEmpty then 0 else 1) < 30)) = true := by rfl)
    (hline : (apos.endLine == cpos.line) = true := by rfl) (hs : starEach [e] X.env = (false, eval e X.env) :: starEach [] X.env := by rfl) (hplain : (backTo cpos (starEach [] X.env)).any (·.1) = false := by rfl)
    (hsw : swapsWith (.Call (.Attribute (.Name x p) "append" apos) [e] [] cpos) none pos.line X.env = pure false := by rfl) : DSt G E X c (.Expr (.Call (.Attribute (.Name x p) "append" apos) [e] [] cpos) pos) (sApp i te) :=
  impS (ps_expr (pe_bm PySem.F.plainAttrs_list PySem.F.slot_list_append PySem.F.type_list_append mt_append (pe_var (i := i) hN hv hd hcd) (pa_cons he pa_nil hs) hbase hfew hline hs hplain) hsw) fun Dn σ H h => by
    obtain ⟨W, hn, de, ⟨a, ds, hei, ht⟩, k1, k2, k3, k4⟩ := h
    obtain ⟨xs, hsi, h0, ha, hl, hds⟩ := lift_own hei
    refine ⟨.ref a, hsi, .inl ⟨rfl, xs, SqL.of ha⟩, W, hn, _, ht, fun v H1 d st hdv ⟨hlt, hq⟩ => ?_⟩
    have el := hds.length
    have ha1 : H1 a = some (.lst xs) := st.ext a _ ha (W.nu h0)
    have hds1 : DenL G W.XB H1 ds xs := hds.ext st.ext W.huX
    obtain ⟨W', l1, l2⟩ := own_step (xs := xs) (ys := xs ++ [v]) (es := ds ++ [d]) st hei hsi h0 (by rw [List.length_append]; show xs.length + 1 ≤ _; omega) (hds1.append ⟨v, [], rfl, hdv, rfl⟩)
    exact ⟨a, xs, v, rfl, rfl, ha1, by omega, k1 σ _ W' l1 (by rw [l2]; exact hq)⟩
end
end Kn
set_option Elab.async false
set_option linter.all false
set_option maxRecDepth 100000
set_option maxHeartbeats 2100000
namespace Kn
open PySem PySem.Spec L2 RZ
open PyProof.Rows (envOfC AllBare IntsAre)
section
variable {P : Program} {w : World} {K : PySem.W.Frag} {mg mb : Str → Option Value} {fa a : Addr} {s₁ : Shared} {vs : List Value} {ns : List Int}
theorem ns_hid {H : Hp} (hdict : ∀ {b : Addr} {o : Obj} {es : Array DictEntry} {ep : Nat}, s₁.heap.get? b = some o → o.data = .dict es ep → H b = none) {b : Addr} {m : Str → Option Value} (h : s₁.heap.Ns b m) : (hidT s₁.heap H).Ns b m := by
  obtain ⟨o, es, ep, e, d, r⟩ := h
  exact ⟨o, es, ep, hidT_get e (hdict e d), d, r⟩
end
end Kn
set_option Elab.async false
set_option linter.all false
set_option maxRecDepth 100000
set_option maxHeartbeats 2100000
namespace Kn
open PySem L2 RZ
open PyProof.Rows (envOfC)
section
variable {G : Gd} {E : XK} {X : Cx} {σ : List (Option V)} {H H' : Hp} {k : Nat}
def gMulW : G2 := gI CMulW fun i j => .int (i * j)
theorem o_mulW : OpR X (binaryOp .Mult) (rD G gMulW) := opr_imp op_mulW fun _ _ _ _ h => rD_I (fun _ _ _ _ => den_int _) h
def PowOk (i j : Int) : Prop := 0 ≤ j ∧ (Builtin.Int.intBits i : Int) * j ≤ 2 ^ 27
theorem op_powW : OpR X (binaryOp .Pow) (rI PowOk fun i j => .int (i ^ j.toNat)) := by
  intro pins s σ H x y v u Q I rx ry h; obtain ⟨i, j, rfl, rfl, hc, q⟩ := h
  obtain ⟨t, rfl⟩ := rx
  obtain ⟨t', rfl⟩ := ry
  exact PyProof.Rows.pow_int hc.1 hc.2 ⟨.int (i ^ j.toNat), H, I.tok _, ⟨_, rfl⟩, q⟩
def gPow : G2 := gI PowOk fun i j => .int (i ^ j.toNat)
theorem o_pow : OpR X (binaryOp .Pow) (rD G gPow) := opr_imp op_powW fun _ _ _ _ h => rD_I (fun _ _ _ _ => den_int _) h
theorem powOk_of {i : Int} {a : Nat} {j : Int} (h : i.natAbs < 2 ^ a) (hj : 0 ≤ j) (hz : (a : Int) * j ≤ 2 ^ 27) : PowOk i j := by
  refine ⟨hj, ?_⟩
  have h1 : Builtin.Int.intBits i ≤ a := PyProof.Rows.intBits_le h
  have h2 : (Builtin.Int.intBits i : Int) ≤ (a : Int) := by exact_mod_cast h1
  exact Int.le_trans (Int.mul_le_mul_of_nonneg_right h2 hj) hz
def gAbs : D → (D → Prop) → Prop := fun d Q => match d with
  | .int i => Q (.int (if i < 0 then -i else i))
  | _ => False
theorem c_abs : CallR X (.builtin "abs") (rDL G (g1 gAbs)) := callr_imp call_abs fun xs H Q' h => by
  obtain ⟨B, d, x, Q, rfl, hd, hf, hg, k⟩ := rDL1 h
  cases d <;> try exact hg.elim
  rename_i i
  cases hd
  exact ⟨i, rfl, k _ H (.int _) (Ext.refl _ _) (den_int _) hg⟩
/-- an item as it is read -/
def D.plain : D → D
  | .at_ _ ds => .lst ds
  | d => d
theorem Den.plain {B : Addr → Prop} {H : Hp} {d : D} {v : V} (h : Den G B H d v) : Den G B H d.plain v := by
  cases d <;> try exact h
  obtain ⟨xs, e, h⟩ := h
  exact ⟨_, xs, e, h⟩
def dOix (i : Nat) (te : DT) : DT := fun ex env Q => ∃ a ds, env[i]? = some (.own a ds) ∧ te ex env fun e => ∃ j d, e = .int j ∧ atI ds j = some d ∧ Q d.plain
theorem de_oix {i : Nat} {x : Str} {b : Expr} {pos p : Pos} {c : Nat} {te : DT} (hN : X.N[i]? = some x) (hb : DE G E X c b te) (hs : PlainIx b) (hv : Vis X.env.scope x := by first | exact Or.inl rfl | exact Or.inr (Or.inl rfl) | exact Or.inr (Or.inr rfl))
    (hd : (x == ("__debug__" : Str)) = false := by decide) (hcd : (x == ("__classdict__" : Str)) = false := by decide) : DE G E X c (.Subscript (.Name x p) b pos) (dOix i te) :=
  imp (pe_ix ix_list (pe_var (i := i) hN hv hd hcd) hb hs) fun σ H Q' h => by
    obtain ⟨W, hn, Q, ⟨a, ds, he, ht⟩, kk⟩ := h
    obtain ⟨xs, hsi, h0, ha, hl, hds⟩ := lift_own he
    refine ⟨.ref a, hsi, W, hn, _, ht, fun v H1 e st hv1 ⟨j, d, e1, hat, hq⟩ => ?_⟩
    subst e1
    have ha1 : H1 a = some (.lst xs) := st.ext a _ ha (W.nu h0)
    obtain ⟨y, hy, hdy⟩ := denL_at (hds.ext st.ext W.huX) hat
    exact ⟨a, xs, j, y, rfl, hv1, SqL.of ha1, hy, kk y H1 d.plain st hdy.plain hq⟩
/-- x[e] = v -/
def sSetIx (i : Nat) (ti te : DT) : DS := fun ex de env => te ex env fun d => ∃ a ds, env[i]? = some (.own a ds) ∧ ti ex env fun e => ∃ j n, e = .int j ∧ ixN ds.length j = some n ∧ de.nx (env.set i (.own a (ds.set n d)))
theorem ds_setIx {i : Nat} {x : Str} {e b : Expr} {pos p p2 : Pos} {c c2 : Nat} {te ti : DT} (hN : X.N[i]? = some x) (he : DE G E X c e te) (hi : DE G E X c2 b ti) (hv : Vis X.env.scope x := by first | exact Or.inl rfl | exact Or.inr (Or.inl rfl) | exact Or.inr (Or.inr rfl))
    (hd : (x == ("__debug__" : Str)) = false := by decide) (hcd
      : (x == ("__classdict__" : Str)) = false := by decide)
    (ha : ∀ v, assign (.Subscript (.Name x p) b p2) X.env v = (do
      let ov ← holding [v] (eval (.Name x p) X.env)
      let iv ← holding [v, ov] (eval b X.env)
      standAt p2
      holding [v, ov, iv]
        (setItem ov iv v)
      release [v, ov, iv] []) := by intro _; rfl)
    (hs : swapsWithSole [.Subscript (.Name x p) b p2] e pos.line X.env = pure false := by rfl) (hw : swappedStores [.Subscript (.Name x p) b p2] e X.env = pure none := by rfl)
    (h1 : (assignEach [.Subscript (.Name x p) b p2] X.env).map (·.2) = [assign (.Subscript (.Name x p) b p2) X.env] := by rfl) : DSt G E X (c + c2) (.Assign [.Subscript (.Name x p) b p2] e pos) (sSetIx i ti te) :=
  impS (ps_asg he (pg_sub (pe_var (i := i) hN hv hd hcd) hi set_list ha) hs hw h1) fun Dn σ H h => by
    obtain ⟨W, hn, de, ht, k1, k2, k3, k4⟩ := h
    refine ⟨W, by omega, _, ht, fun v H1 d st hdv ⟨a, ds, hei, hq⟩ => ?_⟩
    obtain ⟨xs, hsi, h0, ha, hl, hds⟩ := lift_own (W := W.next st) hei
    refine ⟨.ref a, hsi, W.next st, by show W.m + c2 ≤ W.n - c; omega, _, hq, fun v2 H2 e2 st2 hv2 ⟨j, n, e1, hj, hnx⟩ => ?_⟩
    subst e1
    have ha2 : H2 a = some (.lst xs) := st2.ext a _ ha (W.nu h0)
    have el := hds.length
    obtain ⟨W', l1, l2⟩ := own_step (xs := xs) (ys := xs.set n v) (es := ds.set n d) (st.trans st2) (W := W) hei hsi h0 (by rw [List.length_set]; exact hl) ((hds.ext st2.ext (W.next st).huX).set n ((W.next st).den st2 hdv))
    exact ⟨a, xs, j, n, rfl, hv2, ha2, by rw [← el]; exact hj, k1 σ _ W' l1 (by rw [l2]; exact hnx)⟩
/-- what every law's def that draws promises: a number from 0 below many -/
def sDraw : FSpec := fun ds R _ => ∃ many : Int, ds = [.urn, .int many] ∧ 1 ≤ many ∧ many < 1073741824 ∧ ∀ r : Int, 0 ≤ r → r < many → R (.int r)
/-- what the urn's list is to be behind a draw -/
def drawEnds (cells : List Int) (at_ many : Int) (a b : Addr) : DEnds := { nx := fun _ => False, rt := fun d env => ∃ i at2 r2 : Int, d = .int i ∧ 0 ≤ i ∧ i < many ∧ env[0]? = some (.own a [.at_ b (cells.map D.int), .int at2, .int r2]) ∧ 0 ≤ r2 ∧ 0 ≤ at2 ∧ at2 ≤ at_ + 1 }
/-- a def over the urn, by its body over the urn's list as a list of its own -/
theorem draw_of {P : Program} {w : World} {mg : Str → Option Value} {base : Heap} {f : Addr} {x qual : Str} {st : Stmt} {fd : FuncData} {N ps : List Str} {ts : DS} (F : Fun G.K x qual st f fd) (Sc : FnScope N ps (defScope st)) (h2 : ps.length = 2)
    (hder : ∀ (cdv : Value) (A : Around) (outer : List Env) (s : Shared) (H : Hp) (E : XK), Room k (A.deeper (envOfC qual (defScope st) s.heap.objs.size f cdv)) → A.guards = some [] →
      DSs { G with u := none } E (cxOf (L2.CX P w) P w G.K mg base N qual (defScope st) f cdv A outer s H E) 0 (defBody st) ts)
    (hS : ∀ (cells : List Int) (at_ r many : Int) (a b : Addr), cells.length ≤ 63 → 0 ≤ at_ → at_ < atLine → 0 ≤ r → 1 ≤ many → many < 1073741824 →
      ts noX (drawEnds cells at_ many a b)
        (Sl.own a [.at_ b (cells.map D.int), .int at_, .int r] :: Sl.val (.int many) :: List.replicate (N.length - 2) Sl.emp)) : FnD G P w mg base (k + 1) f fd ps 1 sDraw := by
  constructor
  intro A outer s H args us vs Q E hr hgd e0 hb rv hlen hsp
  obtain ⟨u, n, B, ds, R, ex, hug, hc, hu, hB, hg, hd, ⟨many, rfl, hm1, hm2, hR⟩, hq, hx⟩ := hsp
  obtain ⟨xv, yv, rfl, ⟨p, hp, rfl⟩, hy⟩ := denL2 hd
  cases hy
  rw [hug, hp] at hg
  rw [hp] at hug
  subst hug
  obtain ⟨⟨a, b⟩, T⟩ := p
  obtain ⟨⟨cells, at_, r, ha, hbl, hcl, nab, hr0, hat, hatn⟩, hT⟩ := hg
  have hN2 : 2 ≤ N.length := by
    have h1 := congrArg List.length Sc.pre
    rw [List.length_take] at h1
    omega
  obtain ⟨oc, od, kV, doc, pm, an, cdv, ct, osl, rfl, lk, hcd⟩ := F.ex; have KX : G.K.In s.heap := PySem.W.Frag.In.keeps e0.mod.kin (fun b o e => (e0.bs b o e).1)
  have nolim : s.heap.NoLimit := Heap.NoLimit.keeps e0.mod.nolimit (fun b o e => (e0.bs b o e).1)
  have kinds : ∀ y ∈ ps.zip us, (defScope st).names.lookup y.1 = some .local ∨
      ((defScope st).names.lookup y.1 = some .cell ∧ ((cellsFrom (s.heap.objs.size + 1) (defScope st).names []).lookup y.1).isSome = true) := by
    intro y hy
    obtain ⟨n1, v1⟩ := y
    rcases Sc.par n1 (List.of_mem_zip hy).1 with z | z
    · exact .inl z
    · exact .inr ⟨z, PySem.W.cellsFrom_some _ _ _ (.inl z)⟩
  refine codeAny_call_function hr.depth (KX _ _ lk) rfl Sc.co Sc.gen rfl (PySem.W.codeRec_of KX hcd) ?_
  refine hb _ _ _ _ (wpAny_newFunctionEnv_cells Sc.kind kinds ?_)
  intro env he s1 ic
  subst he
  refine ⟨nolim.keeps ic.toInCall.keep, codeAny_func ?_⟩
  have I : Inv (cxOf (L2.CX P w) P w G.K mg base N qual (defScope st) f cdv A outer s H E) [] (L2.start N [.ref a, .int many]) H s1 := inv_start Sc hr.hd e0 hlen rv ic
  let env1 : List Sl := Sl.own a [.at_ b (cells.map D.int), .int at_, .int r] :: Sl.val (.int many) :: List.replicate (N.length - 2) Sl.emp
  have hmine : ∀ {i : Nat} {s : Sl}, env1[i]? = some s → s.mine = true → i = 0 := fun {i s} e hm => by
    match i with
    | 0 => rfl
    | 1 => have e' : some (Sl.val (.int many)) = some s := e; cases e'; cases hm
    | i + 2 =>
      have e' : (List.replicate (N.length - 2) Sl.emp)[i]? = some s := e
      rw [List.getElem?_replicate] at e'
      split at e'
      · cases e'; cases hm
      · cases e'
  have st0 : (L2.start N [.ref a, .int many])[0]? = some (some (.ref a)) := start_get (i := 0) rfl
  have xb : ∀ c, XBof (fun x => B x ∧ x ≠ a ∧ x ≠ b) env1 (L2.start N [.ref a, .int many]) c → (B c ∧ c ≠ a ∧ c ≠ b) ∨ c = a := fun c hc => by
    rcases hc with hc | ⟨j, s, e1, m1, e2⟩
    · exact .inl hc
    · have z := hmine e1 m1
      subst z
      rw [st0] at e2
      cases e2
      exact .inr rfl
  have key : ∃ W : Wd { G with u := none } E (L2.start N [.ref a, .int many]) H, W.m + 0 ≤ W.n ∧ W.u = none ∧ W.B = (fun x => B x ∧ x ≠ a ∧ x ≠ b) ∧ W.H0 = (fun x => if x = a then none else H x) ∧ W.env = env1 ∧ W.ex = noX := by
    refine ⟨{ u := none, n := 0, m := 0, B := fun x => B x ∧ x ≠ a ∧ x ≠ b, H0 := fun x => if x = a then none else H x, env := env1, ex := noX, ug := rfl, hu := fun p e => e.none.elim, hB := fun x hx => ?_, fr := fun x o e _ => ?_, good := trivial, len := ?_, sl := fun i s e => ?_, nd := fun i j c s t e1 e2 m1 m2 _ _ => ?_, exc := fun _ _ _ _ _ _ _ z => z.elim }, Nat.le_refl _, rfl, rfl, rfl, rfl, rfl⟩
    · show (if x = a then none else H x) ≠ none
      rw [if_neg hx.2.1]
      exact hB x hx.1
    · have e : (if x = a then none else H x) = some o := e
      by_cases hxa : x = a
      · rw [if_pos hxa] at e; cases e
      · rw [if_neg hxa] at e; exact e
    · show (List.replicate (N.length - 2) Sl.emp).length + 1 + 1 = _
      unfold L2.start
      simp only [List.length_append, List.length_map, List.length_replicate, List.length_cons, List.length_nil]
      omega
    · match i with
      | 0 =>
        have e' : some (Sl.own a [.at_ b (cells.map D.int), .int at_, .int r]) = some s := e
        cases e'
        refine ⟨_, by rw [st0]; rfl, if_pos rfl, ha, by rw [sizeLine_eq]; show (3 : Nat) ≤ 16777216; omega, ?_⟩
        refine ⟨_, _, rfl, ⟨_, rfl, fun z => ?_, hbl, by rw [List.length_map, sizeLine_eq]; omega, DenL.of_ints⟩, _, _, rfl, rfl, _, _, rfl, rfl, rfl⟩
        rcases xb b z with z | z
        · exact z.2.2 rfl
        · exact nab z.symm
      | 1 =>
        have e' : some (Sl.val (.int many)) = some s := e
        cases e'
        exact ⟨.int many, by rw [start_get (i := 1) (v := .int many) rfl]; rfl, rfl⟩
      | i + 2 =>
        have e' : (List.replicate (N.length - 2) Sl.emp)[i]? = some s := e
        rw [List.getElem?_replicate] at e'
        split at e'
        · cases e'; trivial
        · cases e'
    · rw [hmine e1 m1, hmine e2 m2]
  obtain ⟨W, wn, wu, wB, wH, we, wx⟩ := key
  have body := (hder cdv A outer s H E (hr.deeper _) hgd).run [] s1 (L2.start N [.ref a, .int many]) H { nx := fun _ H' => Q .non H', rt := Q } I (by
    have hts := hS cells at_ r many a b hcl hat (by omega) hr0 hm1 hm2
    refine ⟨W, wn, drawEnds cells at_ many a b, by rw [we, wx]; exact hts, fun σ' H' W' lt z => z.elim, ?_, fun σ' H' W' lt z => z.elim, fun σ' H' W' lt z => z.elim⟩
    rintro v σ' H' W' d lt hd' ⟨i, at2, r2, rfl, hi0, hi1, h0, hr2, ha2, ha3⟩
    cases hd'
    obtain ⟨xs, e1, e2, e3, e4, ⟨x1, y1, rfl, ⟨zs, rfl, nb2, hb2, _, dz⟩, x2, y2, rfl, hx2, x3, y3, rfl, hx3, hy3⟩⟩ := W'.sl 0 _ h0
    cases hx2; cases hx3; cases hy3
    have ez := dz.ints
    subst ez
    have fr : ∀ c o, H c = some o → c ≠ a → H' c = some o := fun c o e nc => by
      have z := W'.fr c o (by rw [lt.H0, wH]; show (if c = a then none else H c) = some o; rw [if_neg nc]; exact e)
      rw [lt.u, wu] at z
      exact z NU.none
    have hb3 := fr b _ hbl (Ne.symm nab)
    refine hq (.int i) H' (.int i) (fun c o e nc => fr c o e (fun z => nc (a, b) ⟨_, rfl, .inl rfl⟩ z.symm)) ?_ rfl (hR i hi0 hi1)
    refine ⟨⟨cells, at2, r2, e3, hb2, hcl, nab, hr2, ha2, by omega⟩, fun t ht => ?_⟩
    obtain ⟨ps', t1, t2, t3⟩ := hT t ht
    refine ⟨ps', fr _ _ t1 (fun z => by rw [z, ha] at t1; cases t1), t2, fun pos cv hcv => ?_⟩
    obtain ⟨c, c1, c2⟩ := t3 pos cv hcv
    exact ⟨c, c1, fr c _ c2 (fun z => by rw [z, ha] at c2; cases c2)⟩)
  refine wpAny_mono body ?_ (fun e s' hs => hs)
  intro fl s' hfl
  cases fl with
  | next => obtain ⟨σ', H', J, q⟩ := hfl; exact ⟨.non, H', J.os, J.bare, J.base, J.hok, rfl, q⟩
  | ret v' => obtain ⟨v, σ', H', J, r1, q⟩ := hfl; exact ⟨v, H', J.os, J.bare, J.base, J.hok, r1, q⟩
  | brk => obtain ⟨σ', H', J, q⟩ := hfl; exact q.elim
  | cont => obtain ⟨σ', H', J, q⟩ := hfl; exact q.elim
end
end Kn
set_option Elab.async false
set_option linter.all false
set_option maxRecDepth 100000
set_option maxHeartbeats 2100000
namespace Kn
open PySem L2 RZ
open PyProof.Rows (envOfC)
section
variable {G : Gd} {E : XK} {X : Cx} {σ : List (Option V)} {H H' : Hp} {j k : Nat}
variable {P : Program} {w : World} {mg : Str → Option Value} {base : Heap}
/-- within a def's own body -/
theorem xk_def {N : List Str} {qual : Str} {scope : Scope} {f : Addr} {cd : Value} {A : Around} {outer : List Env} {s : Shared} {H : Hp} (hr : Room k (A.deeper (envOfC qual scope s.heap.objs.size f cd))) (hg : A.guards = some []) :
    Xk G E k (cxOf (L2.CX P w) P w G.K mg base N qual scope f cd A outer s H E) where
  K := rfl
  room := hr
  gd := hg
  pass := passes_call (W := fun cls d _ H => E cls d H) (takes_of rfl rfl rfl rfl) fun _ _ _ _ h => h
  calm := rfl
  tk := takes_of rfl rfl rfl rfl
/-- within a comprehension -/
theorem Xk.blk (xk : Xk G E k X) (s : Shared) (H : Hp) (scope : Scope) (cenv : Env) (fp : List Addr) : Xk G E0 k (X.blk s H scope cenv fp) where
  K := xk.K
  room := xk.room
  gd := xk.gd
  pass := passL
  calm := xk.calm
  tk := fun _ _ ⟨_, _, _, _, _, _, _, _, _, _, _, _, _, _, _, _, z⟩ => z.elim
theorem po_def {N : List Str} {qual : Str} {scope : Scope} {f : Addr} {cd : Value} {A : Around} {outer : List Env} {s : Shared} {H : Hp} :
    PassesOwn (model (cxOf (L2.CX P w) P w G.K mg base N qual scope f cd A outer s H E).prog (cxOf (L2.CX P w) P w G.K mg base N qual scope f cd A outer s H E).w) (cxOf (L2.CX P w) P w G.K mg base N qual scope f cd A outer s H E).A
      (cxOf (L2.CX P w) P w G.K mg base N qual scope f cd A outer s H E).env (cxOf (L2.CX P w) P w G.K mg base N qual scope f cd A outer s H E).xe := passes_of rfl
theorem FnD.more {f : Addr} {fd : FuncData} {ps : List Str} {c c' : Nat} {S : FSpec} (F : FnD G P w mg base k f fd ps c S) (h : c ≤ c') : FnD G P w mg base k f fd ps c' S := by
  constructor
  intro A outer s H args us vs Q E hr hg e0 hb rv hl hs
  obtain ⟨u, n, B, ds, R, ex, hug, hc, hu, hB, hgd, hd, hs, hq, hx⟩ := hs
  exact F.run A outer s H args us vs Q E hr hg e0 hb rv hl ⟨u, n, B, ds, R, ex, hug, by omega, hu, hB, hgd, hd, hs, fun v H' d e g => hq v H' d e (g.less (by omega)), fun x C d H' e g => hx x C d H' e (g.less (by omega))⟩
theorem InitD.more {f : Addr} {fd : FuncData} {ps : List Str} {c c' cid : Nat} {S : FSpec} (F : InitD G P w mg base k f fd ps c cid S) (h : c ≤ c') : InitD G P w mg base k f fd ps c' cid S := by
  constructor
  intro A outer s H args us vs Q E hr hg e0 hb rv hl hs
  obtain ⟨u, n, B, ds, R, ex, x, dx, vs', hug, h1, h2, h3, h4, h5, h6, hc, hu, hB, hgd, hd, hs, hq, hx⟩ := hs
  exact F.run A outer s H args us vs Q E hr hg e0 hb rv hl ⟨u, n, B, ds, R, ex, x, dx, vs', hug, h1, h2, h3, h4, h5, h6, by omega, hu, hB, hgd, hd, hs, fun H' xs ds' e g => hq H' xs ds' e (g.less (by omega)), fun y C d H' e g => hx y C d H' e (g.less (by omega))⟩
/-- a weaker promise -/
theorem FnD.imp {f : Addr} {fd : FuncData} {ps : List Str} {c : Nat} {S S' : FSpec} (F : FnD G P w mg base k f fd ps c S) (h : ∀ ds R ex, S' ds R ex → S ds R ex) : FnD G P w mg base k f fd ps c S' := by
  constructor
  intro A outer s H args us vs Q E hr hg e0 hb rv hl hs
  obtain ⟨u, n, B, ds, R, ex, hug, hc, hu, hB, hgd, hd, hs, hq, hx⟩ := hs
  exact F.run A outer s H args us vs Q E hr hg e0 hb rv hl ⟨u, n, B, ds, R, ex, hug, hc, hu, hB, hgd, hd, h _ _ _ hs, hq, hx⟩
/-- a def as its callers know it -/
theorem Fk.of {f : Addr} {fd : FuncData} {x : Str} {ps : List Str} {c : Nat} {S : FSpec} (F : FnD G P w mg base k f fd ps c S) (hm : mg x = some (.ref f)) (hk : PySem.W.keepIn G.K (.ref f) = true) (hb : Binds G.K fd ps []) : Fk G P w mg base k x ps c S := ⟨f, fd, F, hm, hk, hb⟩
end
end Kn
set_option Elab.async false
set_option linter.all false
set_option maxRecDepth 100000
set_option maxHeartbeats 2100000
namespace Kn
open PySem L2 RZ
open PyProof.Rows (envOfC)
section
variable {G : Gd} {E : XK} {X : Cx} {σ : List (Option V)} {H H' : Hp} {k : Nat}
theorem de_one {op : BoolOp} {a : Expr} {pos : Pos} {c : Nat} {t : DT} (h : DE G E X c a t) : DE G E X c (.BoolOp op [a] pos) t := pe_one h
def dNeg (ta : DT) : DT := fun ex env Q => ta ex env fun d => ∃ i : Int, d = .int i ∧ Q (.int (-i))
theorem de_neg {a : Expr} {pos : Pos} {c : Nat} {ta : DT} (ha : DE G E X c a ta) : DE G E X c (.UnaryOp .USub a pos) (dNeg ta) := imp (pe_un un_neg ha) fun σ H Q' h => by
  obtain ⟨W, hn, Q, ht, kk⟩ := h
  refine ⟨W, hn, _, ht, fun v H1 d st hd ⟨i, e, hq⟩ => ?_⟩
  subst e
  cases hd
  exact ⟨i, rfl, kk _ H1 (.int (-i)) st (den_int _) hq⟩
/-- a built-in type by its name -/
theorem den_opq {B : Addr → Prop} {H : Hp} (v : V) : Den G B H (.opq v) v := rfl
theorem de_tyn {x : Str} {n : String} {pos : Pos} (hm : X.mg x = none) (hg : Gl X x := by rfl) (hv : bootBuiltins x = some (.type n) := by decide +kernel) (hn : x ≠ "__name__" := by decide) (hd : (x == ("__debug__" : Str)) = false := by decide) : DE G E X 0 (.Name x pos) (dC (.opq (.ty n))) :=
  imp (pe_bltn (v := .ty n) hg hm hv rfl hn hd) fun _ _ _ h => lift_c (fun _ _ => den_opq _) h
/-- an int of the module -/
theorem de_gint {x : Str} {i : Int} {pos : Pos} (hm : ∃ t, X.mg x = some (.int i t)) (hg : Gl X x := by rfl) (hd : (x == ("__debug__" : Str)) = false := by decide) : DE G E X 0 (.Name x pos) (dC (.int i)) := by
  obtain ⟨t, hm⟩ := hm
  exact imp (pe_glob (v := .int i) hg hm ⟨t, rfl⟩ hd) fun _ _ _ h => lift_c (fun _ _ => den_int i) h
def kindS : D → Option String
  | .non => some "NoneType"
  | .bl _ => some "bool"
  | .int _ => some "int"
  | .str _ => some "str"
  | .lst _ => some "list"
  | .tup _ => some "tuple"
  | .dic _ _ => some "dict"
  | _ => none
def isB (d : D) (T : String) : Option Bool := (kindS d).bind fun s => kitB s T
theorem Den.tyx {B : Addr → Prop} {d : D} {v : V} {s : String} (h : Den G B H d v) (e : kindS d = some s) : TyX G.K H v (.type s) := by
  cases d with
  | non => cases e; cases h; exact .base .non
  | bl b => cases e; cases h; exact .base (.bl b)
  | int i => cases e; cases h; exact .base (.int i)
  | str x => cases e; cases h; exact .base (.str x)
  | lst ds => cases e; obtain ⟨a, xs, rfl, _, ha, _⟩ := h; exact .base (.lst ha)
  | tup ds =>
    cases e
    obtain ⟨a, xs, rfl, _, ha, _⟩ := h
    rcases ha with (ha | ⟨o, ha⟩) | ⟨o, _, _, hk, hc, _⟩
    · exact .base (.tup ha)
    · exact .fTuple ha
    · exact .kTuple hk hc
  | ins c ds => cases e
  | opq w => cases e
  | urn => cases e
  | at_ a ds => cases e
  | dct ks ds => cases e
  | tupn ds => cases e
  | exc c ds => cases e
  | dic ks ds => cases e; obtain ⟨a, kvs, rfl, _, ha, _⟩ := h; exact .base (.dK ha)
  | dcT ks ds => cases e
  | dcf _ _ => cases e
/-- isinstance(x, T), T a built-in type -/
def gIsi : G2 := fun d c Q => ∃ T b, c = .opq (.ty T) ∧ isB d T = some b ∧ Q (.bl b)
theorem c_isi (hK : X.K = G.K) : CallR X (.builtin "isinstance") (rDL G (g2 gIsi)) := callr_imp call_isi fun xs H Q' h => by
  obtain ⟨B, d, c, x, y, Q, rfl, hd, hc, hf, ⟨T, b, rfl, hb, hq⟩, kk⟩ := rDL2 h
  cases hc
  unfold isB at hb
  cases hk : kindS d with
  | none => rw [hk] at hb; cases hb
  | some s =>
    rw [hk] at hb
    exact ⟨x, .ty T, .type s, .type T, b, rfl, .ty T, by rw [hK]; exact hd.tyx hk, kit_ty hb, kk _ H (.bl b) (Ext.refl _ _) (den_bl b) hq⟩
/-- isinstance(x, (T1, T2, ..)) -/
def anyB (d : D) : List String → Option Bool
  | [] => some false
  | T :: Ts => match isB d T with
    | some true => some true
    | some false => anyB d Ts
    | none => none
theorem any_kit {d : D} {s : String} {K : PySem.W.Frag} (hs : kindS d = some s) : ∀ {Ts : List String} {b : Bool}, anyB d Ts = some b → PySem.W.kitAny K (.type s) (Ts.map Value.type) = some b
  | [], b, h => h
  | T :: Ts, b, h => by
    have e : isB d T = kitB s T := by unfold isB; rw [hs]; rfl
    unfold anyB at h
    rw [e] at h
    show (match PySem.W.kitOne K (.type s) (.type T) with | some true => some true | some false => PySem.W.kitAny K (.type s) (Ts.map Value.type) | none => none) = some b
    cases hk : kitB s T with
    | none =>
      rw [hk] at h; cases h
    | some r =>
      rw [hk] at h
      rw [kit_ty hk]
      cases r with
      | true => exact h
      | false => exact any_kit hs h
theorem any_kind {d : D} : ∀ {Ts : List String} {b : Bool}, Ts ≠ [] → anyB d Ts = some b → ∃ s, kindS d = some s
  | [], _, h, _ => absurd rfl h
  | T :: Ts, b, _, h => by
    unfold anyB isB at h
    cases hk : kindS d with
    | none =>
      rw [hk] at h; cases h
    | some s => exact ⟨s, rfl⟩
theorem paired_ty : ∀ (Ts : List String), Paired ClsV (Ts.map V.ty) (Ts.map Value.type)
  | [] => .nil
  | T :: Ts => .cons (.ty T) (paired_ty Ts)
/-- a tuple that was made in the call: tracked -/
theorem c_isiT (hK : X.K = G.K) : CallR X (.builtin "isinstance") (fun xs H Q' => ∃ (B : Addr → Prop) (d : D) (x : V) (p : Addr) (Ts : List String) (b : Bool) (Q : D → Prop), xs = [x, .ref p] ∧ Den G B H d x ∧ H p = some (.tup (Ts.map V.ty)) ∧ Ts ≠ [] ∧ anyB d Ts = some b ∧ Q (.bl b) ∧ ∀ r H' rd, Ext none H H' → Den G B H' rd r → Q rd → Q' r H') := callr_imp call_isiT fun xs H Q' h => by
  obtain ⟨B, d, x, p, Ts, b, Q, rfl, hd, hp, hne, hb, hq, kk⟩ := h
  obtain ⟨s, hs⟩ := any_kind hne hb
  exact ⟨x, p, _, .type s, _, b, rfl, hp, paired_ty Ts, by rw [hK]; exact hd.tyx hs, any_kit hs hb, kk _ H (.bl b) (Ext.refl _ _) (den_bl b) hq⟩
def dIsiT (Ts : List String) (te : DT) : DT := fun ex env Q => te ex env fun d => ∃ b, anyB d Ts = some b ∧ Q (.bl b)
/-- isinstance(e, (T, ..)): the tuple's names as es -/
theorem de_isiT {e : Expr} {es : List Expr} {p pos p2 : Pos} {x1 c : Nat} {te : DT} {Ts : List String} (hK : X.K = G.K) (hm : X.mg "isinstance" = none) (he : DE G E X c e te) (hes : PA X es (fun σ H Q => Q (Ts.map V.ty) H)) (hne : Ts ≠ []) (hl : Ts.length ≤ 1000) (hg : Gl X "isinstance" := by rfl) (hv : bootBuiltins "isinstance" = some (.builtin "isinstance") := by decide +kernel)
    (hs : starEach [e, .Tuple es x1 p2] X.env = (false, eval e X.env) :: starEach [.Tuple es x1 p2] X.env := by rfl) (hs2 : starEach [.Tuple es x1 p2] X.env = (false, eval (.Tuple es x1 p2) X.env) :: starEach [] X.env := by rfl) (hpl : (backTo pos (starEach [.Tuple es x1 p2] X.env)).any (·.1) = false := by rfl) :
    DE G E X c (.Call (.Name "isinstance" p) [e, .Tuple es x1 p2] [] pos) (dIsiT Ts te) :=
  imp (pe_callB (c_isiT (G := G) hK) hg hm hv (pa_cons he (pa_cons (pe_tup hes) pa_nil hs2) hs) (by decide) (by decide) hs hpl) fun σ H Q' h => by
    obtain ⟨W, hn, Q, ht, kk⟩ := h
    refine ⟨W, hn, _, ht, fun v H1 d st hd ⟨b, hb, hq⟩ => ⟨by rw [List.length_map, sizeLine_eq]; omega, fun q hq0 => ?_⟩⟩
    refine ⟨W.XB, d, v, q, Ts, b, Q, rfl, den_upd hq0 hd, upd_same, hne, hb, hq, fun r H' rd ex hr hq2 => kk r H' rd ((st.new hq0).pure ex) hr hq2⟩
theorem ps_tyn {x : Str} {n : String} {pos : Pos} (hm : X.mg x = none) (hg : Gl X x := by rfl) (hv : bootBuiltins x = some (.type n) := by decide +kernel) (hn : x ≠ "__name__" := by decide) (hd : (x == ("__debug__" : Str)) = false := by decide) : PE X (.Name x pos) (tC (.ty n)) := pe_bltn hg hm hv rfl hn hd
def cutD (xs : List D) (lo hi : Option Int) : List D := (xs.drop (HT.sIx xs.length 0 lo)).take (HT.sIx xs.length xs.length hi - HT.sIx xs.length 0 lo)
theorem denL_cut {B : Addr → Prop} {ds : List D} {xs : List V} {lo hi : Option Int} (h : DenL G B H ds xs) : DenL G B H (cutD ds lo hi) (cutV xs lo hi) := by
  unfold cutD cutV
  rw [h.length]
  exact (h.drop _).take _
def gSl (lo hi : Option Int) : D → (D → Prop) → Prop := fun d Q => match d with
  | .lst ds => Q (.lst (cutD ds lo hi))
  | .tup ds => Q (.tup (cutD ds lo hi))
  | _ => False
abbrev DO := (Exc → Prop) → List Sl → (Option Int → Prop) → Prop
def oNone : DO := fun _ _ Q => Q none
def oSome (te : DT) : DO := fun ex env Q => te ex env fun d => ∃ i : Int, d = .int i ∧ Q (some i)
def liftO (G : Gd) (E : XK) (c : Nat) (t : DO) : TO := fun σ H Q' => ∃ W : Wd G E σ H, W.m + c ≤ W.n ∧ ∃ Q, t W.ex W.env Q ∧ ∀ o H', Step W c H' → Q o → Q' o H'
theorem do_none : PO X none (liftO G E 0 oNone) := ⟨fun pins s σ H Q' I h => po_none.run pins s σ H Q' I (by
  obtain ⟨W, hn, Q, ht, kk⟩ := h
  exact kk none H (Step.refl W) ht)⟩
theorem do_some {e : Expr} {c : Nat} {te : DT} (he : DE G E X c e te) : PO X (some e) (liftO G E c (oSome te)) := ⟨fun pins s σ H Q' I h => (po_some he).run pins s σ H Q' I (by
  obtain ⟨W, hn, Q, ht, kk⟩ := h
  refine ⟨W, hn, _, ht, fun v H1 d st hd ⟨i, e, hq⟩ => ?_⟩
  subst e
  cases hd
  exact ⟨i, rfl, kk (some i) H1 st hq⟩)⟩
def dSl (te : DT) (lo hi : DO) : DT := fun ex env Q => te ex env fun d => lo ex env fun l => hi ex env fun u => gSl l u d Q
theorem sl_any : SlR X (fun x lo hi H Q => rSlL X.K x lo hi H Q ∨ rSlA X.K x lo hi H Q) := SlR.or sl_list sl_tupA
theorem cutD_all {ds : List D} {n : Nat} {lo hi : Option Int} (hn : ds.length = n) (h1 : HT.sIx n 0 lo = 0) (h2 : HT.sIx n n hi = n) : cutD ds lo hi = ds := by
  unfold cutD
  rw [hn, h1, h2, List.drop_zero, Nat.sub_zero, ← hn, List.take_length]
theorem de_sl {e : Expr} {lo hi : Option Expr} {pos p2 : Pos} {c cl ch : Nat} {te : DT} {tl th : DO} (hK : X.K = G.K) (he : DE G E X c e te) (hl : PO X lo (liftO G E cl tl)) (hh : PO X hi (liftO G E ch th)) : DE G E X (c + (cl + ch)) (.Subscript e (.Slice lo hi none p2) pos) (dSl te tl th) :=
  imp (pe_slice sl_any he hl hh) fun σ H Q' h => by
    obtain ⟨W, hn, Q, ht, kk⟩ := h
    refine ⟨W, by omega, _, ht, fun v H1 d st hd hq => ⟨W.next st, by show W.m + cl ≤ W.n - c; omega, _, hq, fun l H2 st2 hq2 => ⟨(W.next st).next st2, by show W.m + ch ≤ W.n - c - cl; omega, _, hq2, fun u H3 st3 hq3 => ?_⟩⟩⟩
    have st13 : Step W (c + (cl + ch)) H3 := st.trans (st2.trans st3)
    have hd3 : Den G W.XB H3 d v := ((W.next st).next st2).den st3 ((W.next st).den st2 hd)
    cases d <;> try exact hq3.elim
    · rename_i ds
      obtain ⟨a, xs, rfl, na, ha, la, da⟩ := hd3
      refine .inl ⟨a, xs, rfl, SqL.of ha, fun p hp => kk _ _ (.lst (cutD ds l u)) (st13.new hp) (den_lst hp ((W.next st13).fresh hp) (Nat.le_trans (cutV_length xs l u) la) (denL_cut da)) hq3⟩
    · rename_i ds
      obtain ⟨a, xs, rfl, na, ha, la, da⟩ := hd3
      have hq4 : Q (.tup (cutD ds l u)) := hq3
      refine .inr ⟨a, xs, rfl, by rw [hK]; exact ha, fun ⟨h1, h2⟩ => ?_, fun _ p hp => kk _ _ (.tup (cutD ds l u)) (st13.new hp) (den_tup hp ((W.next st13).fresh hp) (Nat.le_trans (cutV_length xs l u) la) (denL_cut da)) hq4⟩
      rw [cutD_all da.length h1 h2] at hq4
      exact kk _ H3 (.tup ds) st13 ⟨a, xs, rfl, na, ha, la, da⟩ hq4
end
end Kn
set_option Elab.async false
set_option linter.all false
set_option maxRecDepth 100000
set_option maxHeartbeats 2100000
namespace Kn
open PySem L2 RZ
/-- a comprehension whose items are known, with a test that is known -/
theorem compL_filter {tg : DG} {tt : DB} {te : DT} {Q : List D → Prop} {env : List Sl} (p : D → Bool) (f : D → D) : ∀ {ds acc : List D},
    (∀ d ∈ ds, ∀ (K : D → Prop) (K' : Prop), (p d = true → K (f d)) → (p d = false → K') → tg d env fun env2 => tt noX env2 fun b => if b = true then te noX env2 K else K') →
    Q (acc ++ (ds.filter p).map f) → compL tg tt te Q env ds acc
  | [], acc, _, hq => by
    unfold compL
    simpa using hq
  | d :: ds, acc, h, hq => by
    unfold compL
    refine h d List.mem_cons_self _ _ (fun hp => ?_) fun hp => ?_
    · refine compL_filter p f (fun e he => h e (List.mem_cons_of_mem _ he)) ?_
      rw [List.filter_cons, if_pos hp] at hq
      simpa using hq
    · refine compL_filter p f (fun e he => h e (List.mem_cons_of_mem _ he)) ?_
      rw [List.filter_cons, if_neg (by rw [hp]; exact Bool.false_ne_true)] at hq
      exact hq
/-- without a test -/
theorem compL_map {tg : DG} {te : DT} {Q : List D → Prop} {env : List Sl} (f : D → D) : ∀ {ds acc : List D}, (∀ d ∈ ds, ∀ K : D → Prop, K (f d) → tg d env fun env2 => te noX env2 K) → Q (acc ++ ds.map f) → compL tg bYes te Q env ds acc
  | [], acc, _, hq => by
    unfold compL
    simpa using hq
  | d :: ds, acc, h, hq => by
    unfold compL
    refine h d List.mem_cons_self _ ?_
    exact compL_map f (fun e he => h e (List.mem_cons_of_mem _ he)) (by simpa using hq)
/-- a for loop by what holds between two turns -/
theorem sForL_inv {ex : Exc → Prop} {tg : DG} {tb : DS} {de : DEnds} (I : Nat → List Sl → Prop) : ∀ {ds : List D} {env : List Sl} (n : Nat), I n env →
    (∀ (i : Nat) (d : D) (env : List Sl), ds[i]? = some d → I (n + i) env → ∀ nx : List Sl → Prop, (∀ env', I (n + i + 1) env' → nx env') → tg d env fun env2 => tb ex { de with nx := nx, ct := nx, bk := de.nx } env2) →
    (∀ env, I (n + ds.length) env → de.nx env) → sForL ex tg tb de ds env
  | [], env, n, h0, _, hd => by
    unfold sForL
    exact hd env (by simpa using h0)
  | d :: ds, env, n, h0, hs, hd => by
    unfold sForL
    refine hs 0 d env rfl h0 _ fun env' h' => ?_
    refine sForL_inv I (n + 1) h' (fun i d' env'' hi hI nx hn => ?_) (fun env'' hI => hd env'' (by rw [List.length_cons, show n + (ds.length + 1) = n + 1 + ds.length by omega]; exact hI))
    refine hs (i + 1) d' env'' (by simpa using hi) (by rw [show n + (i + 1) = n + 1 + i by omega]; exact hI) nx fun e he => hn e (by rw [show n + 1 + i + 1 = n + (i + 1) + 1 by omega]; exact he)
theorem atI_cons {α : Type} {x : α} {xs : List α} : atI (x :: xs) 0 = some x := by
  have := atI_nat (xs := x :: xs) (j := 0) (v := x) rfl
  simpa using this
end Kn
set_option Elab.async false
set_option linter.all false
set_option maxRecDepth 100000
set_option maxHeartbeats 2100000
namespace Kn
open PySem L2 RZ
def D.isI : D → Bool
  | .int _ => true
  | _ => false
theorem isB_int : ∀ {d : D}, (kindS d).isSome = true → isB d "int" = some (match d with | .int _ => true | .bl _ => true | _ => false)
  | .non, _ => by decide +kernel
  | .bl b, _ => by show kitB "bool" "int" = some true; decide +kernel
  | .int i, _ => by show kitB "int" "int" = some true; decide +kernel
  | .str x, _ => by show kitB "str" "int" = some false; decide +kernel
  | .lst ds, _ => by show kitB "list" "int" = some false; decide +kernel
  | .tup ds, _ => by show kitB "tuple" "int" = some false; decide +kernel
  | .dic ks ds, _ => by show kitB "dict" "int" = some false; decide +kernel
theorem isB_bool : ∀ {d : D}, (kindS d).isSome = true → isB d "bool" = some (match d with | .bl _ => true | _ => false)
  | .non, _ => by decide +kernel
  | .bl b, _ => by show kitB "bool" "bool" = some true; decide +kernel
  | .int i, _ => by show kitB "int" "bool" = some false; decide +kernel
  | .str x, _ => by show kitB "str" "bool" = some false; decide +kernel
  | .lst ds, _ => by show kitB "list" "bool" = some false; decide +kernel
  | .tup ds, _ => by show kitB "tuple" "bool" = some false; decide +kernel
  | .dic ks ds, _ => by show kitB "dict" "bool" = some false; decide +kernel
theorem isB_list : ∀ {d : D}, (kindS d).isSome = true → isB d "list" = some (match d with | .lst _ => true | _ => false)
  | .non, _ => by decide +kernel
  | .bl b, _ => by show kitB "bool" "list" = some false; decide +kernel
  | .int i, _ => by show kitB "int" "list" = some false; decide +kernel
  | .str x, _ => by show kitB "str" "list" = some false; decide +kernel
  | .lst ds, _ => by show kitB "list" "list" = some true; decide +kernel
  | .tup ds, _ => by show kitB "tuple" "list" = some false; decide +kernel
  | .dic ks ds, _ => by show kitB "dict" "list" = some false; decide +kernel
theorem isB_tuple : ∀ {d : D}, (kindS d).isSome = true → isB d "tuple" = some (match d with | .tup _ => true | _ => false)
  | .non, _ => by decide +kernel
  | .bl b, _ => by show kitB "bool" "tuple" = some false; decide +kernel
  | .int i, _ => by show kitB "int" "tuple" = some false; decide +kernel
  | .str x, _ => by show kitB "str" "tuple" = some false; decide +kernel
  | .lst ds, _ => by show kitB "list" "tuple" = some false; decide +kernel
  | .tup ds, _ => by show kitB "tuple" "tuple" = some true; decide +kernel
  | .dic ks ds, _ => by show kitB "dict" "tuple" = some false; decide +kernel
/-- the items of a list or tuple -/
def D.items? : D → Option (List D)
  | .lst ds => some ds
  | .tup ds => some ds
  | _ => none
theorem any_seq : ∀ {d : D}, (kindS d).isSome = true → anyB d ["list", "tuple"] = some d.items?.isSome := fun {d} h => by
  unfold anyB anyB anyB
  rw [isB_list h, isB_tuple h]
  cases d <;> first | rfl | cases h
end Kn
set_option Elab.async false
set_option linter.all false
set_option maxRecDepth 100000
set_option maxHeartbeats 2100000
namespace Kn
open PySem L2 RZ
open PyProof.Rows (envOfC)
section
variable {G : Gd} {E : XK} {X : Cx} {σ : List (Option V)} {H H' : Hp} {k : Nat}
def rInTu (K : PySem.W.Frag) (f : Bool → Bool) : R2 := fun x y H Q => ∃ d ds, Dp K H x d ∧ Dp K H y (.tuple ds) ∧ SeqAt.shaped d = true ∧ SeqAt.shaped (.tuple ds) = true ∧ Q (.bl (f (ds.any fun z => PyData.eqv z d))) H
theorem op_inTu (hu : X.A.units + 65 < cLine) : OpR X (compareOp .In) (rInTu X.K id) := by
  intro pins s σ H x y v u Q I rx ry h; obtain ⟨d, ds, hd, he, sd, se, q⟩ := h
  obtain ⟨as, r1⟩ := Dp.reads I d x v hd rx; obtain ⟨bs, r2⟩ := Dp.reads I (.tuple ds) y u he ry
  exact SeqAt.in_tuple_reads r2 r1 (SeqAt.canLay_of_shaped se) (SeqAt.canLay_of_shaped sd) (PyProof.Rows.room_in_shaped sd hu) ⟨.bl _, H, I, rfl, q⟩
theorem op_niTu (hu : X.A.units + 65 < cLine) : OpR X (compareOp .NotIn) (rInTu X.K not) := by
  intro pins s σ H x y v u Q I rx ry h; obtain ⟨d, ds, hd, he, sd, se, q⟩ := h
  obtain ⟨as, r1⟩ := Dp.reads I d x v hd rx; obtain ⟨bs, r2⟩ := Dp.reads I (.tuple ds) y u he ry
  exact SeqAt.notIn_tuple_reads r2 r1 (SeqAt.canLay_of_shaped se) (SeqAt.canLay_of_shaped sd) (PyProof.Rows.room_in_shaped sd hu) ⟨.bl _, H, I, rfl, q⟩
def gInT : G2 := fun d e Q => ∃ p qs es, e = .tup es ∧ pd d = some p ∧ pdL es = some qs ∧ SeqAt.shaped p = true ∧ SeqAt.shaped (.tuple qs) = true ∧ Q (.bl (qs.any fun z => PyData.eqv z p))
def gNiT : G2 := fun d e Q => ∃ p qs es, e = .tup es ∧ pd d = some p ∧ pdL es = some qs ∧ SeqAt.shaped p = true ∧ SeqAt.shaped (.tuple qs) = true ∧ Q (.bl (!qs.any fun z => PyData.eqv z p))
theorem o_inT (hK : X.K = G.K) (hu : X.A.units + 65 < cLine) : OpR X (compareOp .In) (rD G gInT) := opr_imp (op_inTu hu) fun x y H Q' h => by
  obtain ⟨B, d, e, Q, hd, he, _, ⟨p, qs, es, e0, e1, e2, s1, s2, hq⟩, k⟩ := h
  subst e0
  exact ⟨p, qs, by rw [hK]; exact hd.dp _ _ _ e1, by rw [hK]; exact he.dp _ _ _ (by simp [pd, e2]), s1, s2, k _ H (.bl _) (Ext.refl _ _) (den_bl _) hq⟩
theorem o_niT (hK : X.K = G.K) (hu : X.A.units + 65 < cLine) : OpR X (compareOp .NotIn) (rD G gNiT) := opr_imp (op_niTu hu) fun x y H Q' h => by
  obtain ⟨B, d, e, Q, hd, he, _, ⟨p, qs, es, e0, e1, e2, s1, s2, hq⟩, k⟩ := h
  subst e0
  exact ⟨p, qs, by rw [hK]; exact hd.dp _ _ _ e1, by rw [hK]; exact he.dp _ _ _ (by simp [pd, e2]), s1, s2, k _ H (.bl _) (Ext.refl _ _) (den_bl _) hq⟩
def dRev (te : DT) : DT := fun ex env Q => te ex env fun d => ∃ ds, d = .lst ds ∧ Q (.lst ds.reverse)
theorem DenL.reverse {B : Addr → Prop} {H : Hp} : ∀ {ds : List D} {xs : List V}, DenL G B H ds xs → DenL G B H ds.reverse xs.reverse
  | [], _, h => by cases h; rfl
  | d :: ds, _, ⟨x, r, e, h1, h2⟩ => by
    subst e
    rw [List.reverse_cons, List.reverse_cons]; exact (DenL.reverse h2).append ⟨x, [], rfl, h1, rfl⟩
theorem de_revL {e : Expr} {c : Nat} {te : DT} {kk : Nat} {p1 p2 p3 pos : Pos} (he : DE G E X c e te) : DE G E X c (.Subscript e (.Slice none none (some (.UnaryOp .USub (.Constant (.int 1) kk p1) p2)) p3) pos) (dRev te) :=
  imp (pe_revL he) fun σ H Q' h => by
    obtain ⟨W, hn, Q, ht, kk⟩ := h
    refine ⟨W, hn, _, ht, fun v H1 d st hd ⟨ds, e, hq⟩ => ?_⟩
    subst e
    obtain ⟨a, xs, rfl, na, ha, la, da⟩ := hd
    refine ⟨a, xs, rfl, SqL.of ha, fun p hp => ?_⟩
    exact kk _ _ (.lst ds.reverse) (st.new hp) (den_lst hp ((W.next st).fresh hp) (by rw [List.length_reverse]; exact la) da.reverse) hq
def dCount (te tv : DT) : DT := fun ex env Q => te ex env fun d => ∃ is : List Int, d = .lst (is.map D.int) ∧ tv ex env fun e => ∃ i : Int, e = .int i ∧ Q (.int (is.count i : Nat))
theorem de_count {o e : Expr} {apos cpos : Pos} {c c2 : Nat} {te tv : DT} (ho : DE G E X c o te) (he : DE G E X c2 e tv)
    (hbase : attributeBase o "count" X.env (eval o X.env) = eval o X.env := by rfl)
    (hfew : ((backTo cpos (starEach [e] X.env)).all (fun x => !x.1) && (backToKw cpos (keywordEach [] X.env)).all (fun x => x.1.isSome) && decide (([e] : List Expr).length + ([] : List Keyword).length + (if ([] : List Keyword).isEmpty then 0 else 1) < 30)) = true := by rfl)
    (hline : (apos.endLine == cpos.line) = true := by rfl) (hs : starEach [e] X.env = (false, eval e X.env) ::
      starEach [] X.env := by rfl) (hplain : (backTo cpos (starEach [] X.env)).any (·.1) = false := by rfl) :
    DE G E X (c + c2) (.Call (.Attribute o "count" apos) [e] [] cpos) (dCount te tv) :=
  imp (pe_bm PySem.F.plainAttrs_list PySem.F.slot_list_count PySem.F.type_list_count mt_lcount ho (pa_cons he pa_nil hs) hbase hfew hline hs hplain) fun σ H Q' h => by
    obtain ⟨W, hn, Q, ht, kk⟩ := h
    refine ⟨W, by omega, _, ht, fun v H1 d st hd ⟨is, e, hq⟩ => ?_⟩
    subst e
    obtain ⟨a, xs, rfl, na, ha, la, da⟩ := hd
    have ex := da.ints
    subst ex
    refine ⟨.inl ⟨rfl, _, SqL.of ha⟩, W.next st, by show W.m + c2 ≤ W.n - c; omega, _, hq, fun v2 H2 e st2 he2 ⟨i, e2, hq2⟩ => ?_⟩
    subst e2
    cases he2
    have ha2 : H2 a = some (.lst (is.map V.int)) := st2.keep na ha
    exact ⟨a, is, i, rfl, rfl, SqL.of ha2, kk _ H2 (.int (is.count i : Nat)) (st.trans st2) (den_int _) hq2⟩
end
end Kn
set_option Elab.async false
set_option linter.all false
set_option maxRecDepth 100000
set_option maxHeartbeats 2100000
namespace Kn
open PySem L2 RZ
open PyProof.Rows (envOfC)
section
variable {G : Gd} {E : XK} {X : Cx} {σ : List (Option V)} {H H' : Hp} {tg tg1 : Expr} {k : Nat}
def compI (tg : DG) (tt : DB) (te : DT) (Q : List D → Prop) (env : List Sl) : List D → List D → Prop
  | [], acc => Q acc
  | d :: ds, acc => tg d env fun env2 => tt noX env2 fun b => if b = true then te noX env2 fun y => acc.length < sizeLine ∧ compI tg tt te Q env ds (acc ++ [y]) else compI tg tt te Q env ds acc
def compL2 (vs1 : List Nat) (tg : DG) (tt : DB) (ti1 : DA) (tg1 : DG) (tt1 : DB) (te : DT) (Q : List D → Prop) (env : List Sl) : List D → List D → Prop
  | [], acc => Q acc
  | d :: ds, acc => tg d env fun env2 => tt noX env2 fun b => if b = true then ti1 noX env2 fun es => compI tg1 tt1 te (fun acc2 => compL2 vs1 tg tt ti1 tg1 tt1 te Q env ds acc2) (inEnv env2 vs1) es acc else compL2 vs1 tg tt ti1 tg1 tt1 te Q env ds acc
def dComp2 (vs vs1 : List Nat) (ti : DA) (tg : DG) (tt : DB) (ti1 : DA) (tg1 : DG) (tt1 : DB) (te : DT) : DT := fun ex env Q => ti ex env fun ds => compL2 vs1 tg tt ti1 tg1 tt1 te (fun rs => Q (.lst rs)) (inEnv env vs) ds []
theorem ext_nb {u : Option Ur} {B : Addr → Prop} {b : Addr} {o : HO} (e : Ext u H H') (hu : ∀ p, Pr u p → B p.1) (nb : ¬ B b) (h : H b = some o) : H' b = some o := e b o h (NU.of hu nb)
/-- the state in which one item of the second clause is made -/
def Wd.inner2 (W : Wd G E0 σ H) (vs : List Nat) (H2 : Hp) (k : ∀ b o, ¬ W.XB b → H b = some o → H2 b = some o) (hB : ∀ a, W.B a → H2 a ≠ none) (hg : Good W.u H2 W.n) : Wd G E0 (wipe σ vs) H2 where
  u := W.u
  n := W.n
  m := W.m
  B := W.B
  H0 := H2
  env := inEnv W.env vs
  ex := fun _ => False
  ug := W.ug
  hu := W.hu
  hB := hB
  fr := Ext.refl _ _
  good := hg
  len := by unfold inEnv; rw [wipeE_len, List.length_map, wipe_length]; exact W.len
  sl := fun i s e => by
    rcases inEnv_get e with z | ⟨hi, s', h1, z⟩
    · subst z; trivial
    · subst z
      have so := W.sl i s' h1
      have ew : (wipe σ vs)[i]? = σ[i]? := by rw [wipe_get, if_neg (fun z => hi z.1)]
      rw [ew]
      cases s' with
      | emp => trivial
      | own a ds => trivial
      | slf a dx c ds => trivial
      | obj a o => trivial
      | dic a ks ds => trivial
      | val d =>
        obtain ⟨x, e1, e2⟩ := so
        exact ⟨x, e1, Den.keep k (fun b hb => .inl (.inl (xb_in hb))) d x e2⟩
  nd := fun i j a s t h1 _ hm => (inEnv_noown h1 hm).elim
  exc := fun _ _ _ _ _ _ _ z => z.elim
/-- no address that counts is free -/
theorem AccAt.free {W : Wd G E σ H} {c : Nat} {H1 H2 : Hp} {D0 : Addr} {n : Nat} {acc : List D} (st : Step W c H1) (A : AccAt G W H1 D0 n H2 acc) {p : Addr} (hp : H2 p = none) : ¬ (W.XB p ∨ p = D0) := fun hb => by
  rcases hb with hb | rfl
  · cases q : H1 p with
    | none => exact (W.next st).fresh q hb
    | some o =>
      rcases NU.em (u := W.u) (b := p) with hu | ⟨r, hr, rfl⟩
      · rw [A.keep p o q hu] at hp; cases hp
      · obtain ⟨⟨_, h1⟩, _⟩ := A.good.there hr
        rw [h1] at hp; cases hp
  · obtain ⟨xs, hxs, _⟩ := A.at_
    rw [hxs] at hp; cases hp
/-- more done beside the list -/
theorem AccAt.step {W : Wd G E σ H} {H1 H2 H3 : Hp} {D0 : Addr} {n : Nat} {acc : List D} (A : AccAt G W H1 D0 n H2 acc) (nu0 : NU W.u D0) (e : Ext W.u H2 H3) (g : Good W.u H3 n) : AccAt G W H1 D0 n H3 acc := by
  obtain ⟨⟨xs, h1, h2, h3⟩, k, _⟩ := A
  exact ⟨⟨xs, e _ _ h1 nu0, h2, h3.ext e fun p z => .inl (W.huX p z)⟩, fun b o hb nu => e _ _ (k b o hb nu) nu, g⟩
/-- one more item -/
theorem AccAt.push {W : Wd G E σ H} {H1 H2 : Hp} {D0 : Addr} {n : Nat} {acc : List D} {d : D} {y : V} {xs : List V} (A : AccAt G W H1 D0 n H2 acc) (hD : H1 D0 = none) (fr0 : ¬ W.XB D0) (hx : H2 D0 = some (.lst xs)) (hy : Den G (fun a => W.XB a ∨ a = D0) H2 d y) (hl : acc.length < sizeLine) :
    xs.length < sizeLine ∧ AccAt G W H1 D0 n (upd H2 D0 (.lst (xs ++ [y]))) (acc ++ [d]) := by
  obtain ⟨⟨xs', h1, h2, h3⟩, k, g⟩ := A
  rw [hx] at h1
  cases h1
  have el := h3.length
  have kk : ∀ b o, ¬ (W.XB b ∨ b = D0) → H2 b = some o → upd H2 D0 (.lst (xs ++ [y])) b = some o := fun b o nb hb => by rw [upd_ne (fun z => nb (.inr z))]; exact hb
  refine ⟨by omega, ⟨xs ++ [y], upd_same, by rw [List.length_append]; show xs.length + 1 ≤ _; omega, (DenL.keep kk (fun b hb => .inl hb) _ _ h3).append ⟨y, [], rfl, Den.keep kk (fun b hb => .inl hb) _ _ hy, rfl⟩⟩, fun b o hb nu => ?_, ?_⟩
  · rw [upd_ne (ne_of_none hb hD)]
    exact k b o hb nu
  · exact g.upd (fun p e => ⟨fun z => fr0 (by rw [show D0 = p.1 from z]; exact W.huX p e), fun z => fr0 (by rw [show D0 = p.2 from z]; exact .inl (W.hu p e).2)⟩) (fun φ z => by rw [hx] at z; cases z)
theorem lift_comp2 {ci : Nat} {ti ti1 : DA} {t t1 : DG} {tt tt1 : DB} {te : DT} {vs sl vs1 sl1 : List Nat} (hsl : ∀ i ∈ sl, i ∈ vs) (hsl1 : ∀ i ∈ sl1, i ∈ vs1) {Q' : VK} (h : lift G E ci (dComp2 vs vs1 ti t tt ti1 t1 tt1 te) σ H Q') :
    tLc2 (liftI G E ci ti) (liftG G E0 sl t) (liftB G E0 0 tt) (liftI G E0 0 ti1) (liftG G E0 sl1 t1) (liftB G E0 0 tt1) (lift G E0 0 te) vs vs1 σ H Q' := by
  obtain ⟨W, hn, Q, ht, kQ⟩ := h
  refine ⟨W, hn, _, ht, fun J H1 ds st wk hq => ?_⟩
  intro D0 hD
  have fr0 : ¬ W.XB D0 := (W.next st).fresh hD
  have nu0 : NU W.u D0 := W.nuX fr0
  refine ⟨fun i m H2 => ∃ acc, AccAt G W H1 D0 (W.n - ci) H2 acc ∧ i ≤ ds.length ∧ m = ds.length - i ∧ compL2 vs1 t tt ti1 t1 tt1 te (fun rs => Q (.lst rs)) (inEnv W.env vs) (ds.drop i) acc,
    ⟨ds.length, [], ⟨⟨[], upd_same, by simp, rfl⟩, fun b o hb _ => by rw [upd_ne (ne_of_none hb hD)]; exact hb, st.good.ext (Ext.new hD)⟩, Nat.zero_le _, rfl, hq⟩, ?_⟩
  rintro i m H2 ⟨acc, A, hi, rfl, hq2⟩
  have keepX : ∀ b o, ¬ W.XB b → H1 b = some o → H2 b = some o := fun b o nb hb => A.keep b o hb (W.nuX nb)
  by_cases hlt : i < ds.length
  case neg =>
    have e : i = ds.length := by omega
    rw [e, List.drop_length] at hq2
    obtain ⟨xs, hxs, hxl, hxd⟩ := A.at_
    exact .inl ⟨wk.stop i H2 keepX (by omega), kQ _ H2 (.lst acc) ⟨fun b o hb nu => A.keep b o (st.ext b o hb nu) nu, A.good⟩ ⟨D0, xs, rfl, fr0, hxs, hxl, hxd.fewer fun b z => .inl z⟩ hq2⟩
  obtain ⟨go, yl⟩ := wk.go i H2 (fun a => W.XB a ∨ a = D0) keepX (fun b hb => by
    rcases hb with hb | rfl
    · exact .inl hb
    · exact .inr hD) (fun p hp => A.free st hp) hlt
  refine .inr ⟨go, fun H5 => ∃ acc2, AccAt G W H1 D0 (W.n - ci) H5 acc2 ∧ compL2 vs1 t tt ti1 t1 tt1 te (fun rs => Q (.lst rs)) (inEnv W.env vs) (ds.drop (i + 1)) acc2,
    fun H5 ⟨acc2, a2, q2⟩ => ⟨ds.length - (i + 1), by omega, acc2, a2, hlt, rfl, q2⟩, fun x H3 hy => ?_⟩
  obtain ⟨ex2, d, hd, hden⟩ := yl x H3 hy
  rw [drop_cons hd] at hq2
  have A3 : AccAt G W H1 D0 (W.n - ci) H3 acc := A.step nu0 ex2.weak (A.good.ext ex2)
  obtain ⟨xs3, hxs3, _, _⟩ := A3.at_
  let W3 : Wd G E0 (wipe σ vs) H3 := W.inner st vs D0 H3 (W.n - ci) hD (by rw [hxs3]; simp) A3.keep A3.good
  have hden3 : Den G W3.XB H3 d x := hden.fewer fun b hb => xb_in hb
  refine ⟨W3, d, _, hden3, hq2, fun σ4 W4 al hsl4 hq4 => ⟨wipe_same hsl hsl4.1 (by rw [hsl4.2, wipe_length]), ?_⟩⟩
  have l4 := al.later
  have n4 : W4.n = W.n - ci := al.n
  have m4 : W4.m = W.m := l4.m
  have u4 : W4.u = W.u := l4.u
  have b4 : ∀ a, (W.XB a ∨ a = D0) → W4.B a := fun a ha => by rw [l4.B]; exact ha
  have b4' : ∀ a, W4.B a → (W.XB a ∨ a = D0) := fun a ha => by rw [l4.B] at ha; exact ha
  refine ⟨W4, by rw [n4, m4]; omega, _, by rw [l4.ex]; exact hq4, fun b H5 st5 hb => ?_⟩
  have e5 : Ext W.u H3 H5 := by have z := st5.ext; rw [u4] at z; exact z
  have g5 : Good W.u H5 (W.n - ci) := by have z := st5.good; rw [u4, n4] at z; exact z
  have A5 := A3.step nu0 e5 g5
  cases b with
  | false => exact ⟨acc, A5, hb⟩
  | true =>
    refine ⟨W4.next st5, by show W4.m + 0 ≤ W4.n - 0; rw [n4, m4]; omega, _, by rw [show (W4.next st5).ex = noX from l4.ex]; exact hb, fun J1 H6 es st6 wk1 hq6 => ?_⟩
    let W6 := (W4.next st5).next st6
    have e6 : Ext W.u H5 H6 := by have z := st6.ext; rw [show (W4.next st5).u = W.u from u4] at z; exact z
    have n6 : W6.n = W.n - ci := by show W4.n - 0 - 0 = _; rw [n4]; rfl
    have u6 : W6.u = W.u := u4
    have g6 : Good W.u H6 (W.n - ci) := by have z := W6.good; rw [u6, n6] at z; exact z
    have A6 := A5.step nu0 e6 g6
    refine ⟨fun j kk H7 => ∃ acc2, AccAt G W H1 D0 (W.n - ci) H7 acc2 ∧ (∀ b o, ¬ W6.XB b → H6 b = some o → H7 b = some o) ∧ j ≤ es.length ∧ kk = es.length - j ∧ compI t1 tt1 te (fun acc2 => compL2 vs1 t tt ti1 t1 tt1 te (fun rs => Q (.lst rs)) (inEnv W.env vs) (ds.drop (i + 1)) acc2) (inEnv W4.env vs1) (es.drop j) acc2,
      ⟨es.length, acc, A6, fun _ _ _ h => h, Nat.zero_le _, rfl, hq6⟩, ?_⟩
    rintro j m7 H7 ⟨acc2, A7, k7, hj, rfl, hq7⟩
    by_cases hlt2 : j < es.length
    case neg =>
      have e : j = es.length := by omega
      rw [e, List.drop_length] at hq7
      exact .inl ⟨wk1.stop j H7 k7 (by omega), acc2, A7, hq7⟩
    obtain ⟨go1, yl1⟩ := wk1.go j H7 (fun a => W.XB a ∨ a = D0) k7 (fun b hb => .inl (.inl (b4 b hb))) (fun p hp => A7.free st hp) hlt2
    refine .inr ⟨go1, fun H5 => ∃ acc3, AccAt G W H1 D0 (W.n - ci) H5 acc3 ∧ (∀ b o, ¬ W6.XB b → H6 b = some o → H5 b = some o) ∧ compI t1 tt1 te (fun acc2 => compL2 vs1 t tt ti1 t1 tt1 te (fun rs => Q (.lst rs)) (inEnv W.env vs) (ds.drop (i + 1)) acc2) (inEnv W4.env vs1) (es.drop (j + 1)) acc3,
      fun H5 ⟨acc3, a3, k3, q3⟩ => ⟨es.length - (j + 1), by omega, acc3, a3, k3, hlt2, rfl, q3⟩, fun x1 H8 hy1 => ?_⟩
    obtain ⟨ex8, d1, hd1, hden1⟩ := yl1 x1 H8 hy1
    rw [drop_cons hd1] at hq7
    have A8 : AccAt G W H1 D0 (W.n - ci) H8 acc2 := A7.step nu0 ex8.weak (A7.good.ext ex8)
    have k8 : ∀ b o, ¬ W6.XB b → H6 b = some o → H8 b = some o := fun b o nb hb => ex8 _ _ (k7 b o nb hb) NU.none
    have W8h : ∃ W8 : Wd G E0 (wipe σ4 vs1) H8, W8.n = W.n - ci ∧ W8.m = W.m ∧ W8.u = W.u ∧ W8.B = W4.B ∧ W8.env = inEnv W4.env vs1 ∧ W8.ex = noX :=
      ⟨W6.inner2 vs1 H8 k8 (fun a ha z => A8.free st z (b4' a ha)) (by rw [u6, n6]; exact A8.good), n6, m4, u6, rfl, rfl, rfl⟩
    obtain ⟨W8, n8, m8, u8, b8, v8, x8⟩ := W8h
    have hden8 : Den G W8.XB H8 d1 x1 := hden1.fewer fun b hb => by
      have z : XBof W8.B (inEnv W4.env vs1) (wipe σ4 vs1) b := by rw [← v8]; exact hb
      exact b4' b (by rw [← b8]; exact xb_in z)
    refine ⟨W8, d1, _, hden8, by rw [v8]; exact hq7, fun σ9 W9 al9 hsl9 hq9 => ⟨wipe_same hsl1 hsl9.1 (by rw [hsl9.2, wipe_length]), ?_⟩⟩
    have l9 := al9.later
    have n9 : W9.n = W.n - ci := al9.n.trans n8
    have m9 : W9.m = W.m := l9.m.trans m8
    have u9 : W9.u = W.u := l9.u.trans u8
    have b9 : ∀ a, (W.XB a ∨ a = D0) → W9.B a := fun a ha => by rw [l9.B, b8]; exact b4 a ha
    have hu6 : ∀ p, Pr W.u p → W6.XB p.1 := fun p e => .inl (b4 _ (.inl (W.huX p e)))
    refine ⟨W9, by rw [n9, m9]; omega, _, by rw [l9.ex, x8]; exact hq9, fun b1 H10 st10 hb1 => ?_⟩
    have e10 : Ext W.u H8 H10 := by have z := st10.ext; rw [u9] at z; exact z
    have g10 : Good W.u H10 (W.n - ci) := by have z := st10.good; rw [u9, n9] at z; exact z
    have A10 := A8.step nu0 e10 g10
    have k10 : ∀ b o, ¬ W6.XB b → H6 b = some o → H10 b = some o := fun b o nb hb => ext_nb e10 hu6 nb (k8 b o nb hb)
    cases b1 with
    | false => exact ⟨acc2, A10, k10, hb1⟩
    | true =>
      refine ⟨W9.next st10, by show W9.m + 0 ≤ W9.n - 0; rw [n9, m9]; omega, _, by rw [show (W9.next st10).ex = noX from l9.ex.trans x8]; exact hb1, fun y H11 dy st11 hy11 hq11 => ?_⟩
      have e11 : Ext W.u H10 H11 := by have z := st11.ext; rw [show (W9.next st10).u = W.u from u9] at z; exact z
      have g11 : Good W.u H11 (W.n - ci) := by have z := st11.good; rw [show (W9.next st10).u = W.u from u9, show (W9.next st10).n = W9.n - 0 from rfl, n9] at z; exact z
      have A11 := A10.step nu0 e11 g11
      obtain ⟨xs, hxs, _, _⟩ := A11.at_
      obtain ⟨p1, p2⟩ := A11.push hD fr0 hxs (hy11.fewer fun b hb => .inl (b9 b hb)) hq11.1
      refine ⟨xs, hxs, p1, _, p2, fun b o nb hb => ?_, hq11.2⟩
      rw [upd_ne (fun z => nb (.inl (b4 b (.inr z))))]
      exact ext_nb e11 hu6 nb (k10 b o nb hb)
theorem ds_setComp2 {i : Nat} {y : Str} {py : Pos} {elt iter iter1 : Expr} {ifs ifs1 : List Expr} {scope : Scope} {own : List (Str × Nat)} {vs1 : List Nat} {pos spos : Pos} {ci : Nat} {ti ti1 : DA} {t t1 : DG} {tt tt1 : DB} {te : DT} {sl sl1 : List Nat} (xk : Xk G E k X) (hN : X.N.Nodup) (hy : X.N[i]? = some y) (hyl : X.env.scope.names.lookup y = some .local)
    (hsw : swapsWith (.ListComp elt [⟨tg, iter, ifs, 0⟩, ⟨tg1, iter1, ifs1, 0⟩] scope pos) (some (.Name y py)) spos.line X.env = pure true) (hi : DI G E X tg ci iter ti) (ok : BlkOk X.N X.env.scope scope own) (hv : ∀ i ∈ vs1, i ∈ own.map (·.2))
    (hg : ∀ (s : Shared) (H : Hp) (C : Addr) (cl : List (Str × Addr)) (fp : List Addr), DTg G E0 (X.blk s H scope (compEnvC scope cl C X.env) fp) tg sl t) (ht : ∀ (s : Shared) (H : Hp) (C : Addr) (cl : List (Str × Addr)) (fp : List Addr), DTs G (X.blk s H scope (compEnvC scope cl C X.env) fp) 0 ifs tt)
    (hi1 : ∀ (s : Shared) (H : Hp) (C : Addr) (cl : List (Str × Addr)) (fp : List Addr), DI G E0 (X.blk s H scope (compEnvC scope cl C X.env) fp) tg1 0 iter1 ti1)
    (hg1 : ∀ (s : Shared) (H : Hp) (C : Addr) (cl : List (Str × Addr)) (fp : List Addr), DTg G E0 (X.blk s H scope (compEnvC scope cl C X.env) fp) tg1 sl1 t1) (ht1 : ∀ (s : Shared) (H : Hp) (C : Addr) (cl : List (Str × Addr)) (fp : List Addr), DTs G (X.blk s H scope (compEnvC scope cl C X.env) fp) 0 ifs1 tt1)
    (he : ∀ (s : Shared) (H : Hp) (C : Addr) (cl : List (Str × Addr)) (fp : List Addr), DE G E0 (X.blk s H scope (compEnvC scope cl C X.env) fp) 0 elt te) (hsl : ∀ i ∈ sl, i ∈ own.map (·.2)) (hsl1 : ∀ i ∈ sl1, i ∈ vs1) (hs : ∀ x, foldedSetIterable iter X.env x = pure x := by intro _; rfl) (hs1 : ∀ env x, foldedSetIterable iter1 env x = pure x := by intro _ _; rfl) :
    DSt G E X ci (.Assign [.Name y py] (.ListComp elt [⟨tg, iter, ifs, 0⟩, ⟨tg1, iter1, ifs1, 0⟩] scope pos) spos) (sSet i (dComp2 (own.map (·.2)) vs1 ti t tt ti1 t1 tt1 te)) :=
  impS (ps_setLc2 xk.calm hN hy hyl hsw hi ok hv hg ht hi1 hg1 ht1 he hs hs1) fun Dn σ H h => by
    obtain ⟨W, hn, de, hq, k1, k2, k3, k4⟩ := h
    refine lift_comp2 (Q' := fun v H' => gName i v σ H' Dn.nx) hsl hsl1 ⟨W, hn, _, hq, fun v H' d st hd hr => ?_⟩
    have hd' : Den G (W.next st).XB H' d v := hd
    exact k1 _ H' ((W.next st).put i hd') (((Later.next st).trans (Later.put _ i hd')).more (by omega)) hr
/-- two clauses without tests: what comes of known items -/
theorem compI_map {tg : DG} {te : DT} {Q : List D → Prop} {env : List Sl} (f : D → D) : ∀ {ds acc : List D}, acc.length + ds.length ≤ sizeLine → (∀ d ∈ ds, ∀ K : D → Prop, K (f d) → tg d env fun env2 => te noX env2 K) → Q (acc ++ ds.map f) → compI tg bYes te Q env ds acc
  | [], acc, _, _, hq => by
    unfold compI
    simpa using hq
  | d :: ds, acc, hl, h, hq => by
    unfold compI
    simp only [List.length_cons] at hl
    refine h d List.mem_cons_self _ ⟨by omega, ?_⟩
    exact compI_map f (by rw [List.length_append]; show acc.length + 1 + _ ≤ _; omega) (fun e he => h e (List.mem_cons_of_mem _ he)) (by simpa using hq)
theorem compL2_map {tg tg1 : DG} {te : DT} {ti1 : DA} {vs1 : List Nat} {Q : List D → Prop} {env : List Sl} (es : D → List D) (f : D → D → D) : ∀ {ds acc : List D}, acc.length + (ds.flatMap es).length ≤ sizeLine →
    (∀ d ∈ ds, ∀ K : List D → Prop, ∀ acc2 : List D, K (acc2 ++ (es d).map (f d)) → acc2.length + (es d).length ≤ sizeLine → tg d env fun env2 => ti1 noX env2 fun es1 => compI tg1 bYes te K (inEnv env2 vs1) es1 acc2) →
    Q (acc ++ ds.flatMap fun d => (es d).map (f d)) → compL2 vs1 tg bYes ti1 tg1 bYes te Q env ds acc
  | [], acc, _, _, hq => by
    unfold compL2
    simpa using hq
  | d :: ds, acc, hl, h, hq => by
    unfold compL2
    simp only [List.flatMap_cons, List.length_append] at hl
    refine h d List.mem_cons_self _ acc ?_ (by omega)
    refine compL2_map es f ?_ (fun e he => h e (List.mem_cons_of_mem _ he)) ?_
    · rw [List.length_append, List.length_map]; omega
    · simpa [List.flatMap_cons] using hq
end
end Kn
set_option Elab.async false
set_option linter.all false
set_option maxRecDepth 100000
set_option maxHeartbeats 2100000
namespace Kn
open PySem
open PySem.Spec PyProof.Rows L2
section
variable {P : Program} {w : World} {A : Around} {E0 : Value → Shared → Prop} {s : Shared}
theorem gather_tup {t : Addr} {us : List Value} {R : List Value → Shared → Prop} (ht : IsTup s.heap t us.toArray) (hz : us.length ≤ sizeLine)
    (h : R us { s with heap := (s.heap.push (seqObj "list" #[] 0)).update s.heap.objs.size (Obj.mapSeq (· ++ us.toArray)) }) : wpAny (model P w) A (collect (.ref t)) R E0 s := by
  obtain ⟨ob, hob, hcl, n, hdt⟩ := id ht
  unfold collect
  have hob2 : (s.heap.push (seqObj "list" #[] 0)).get? t = some ob := Heap.get?_push_of_some _ hob
  have hty : (Value.type "tuple" == Value.type "tuple") = true := by rfl
  refine wpAny_bind (wpAny_runValue (codeAny_builtin entry_proto_collect' (?_ : wpAny _ _ (do again (.builtin "list.__iadd__" ⟨[← newList [], .ref t], []⟩)) _ _ s)))
  refine wpAny_bind (wpAny_newList (wpAny_pure ⟨Code.quiet_builtin _ (by decide +kernel), codeAny_builtin entry_list_iadd' (?_ : wpAny _ _ (Builtin.List.listExtendWith (.ref s.heap.objs.size) (.ref t) (.ref s.heap.objs.size)) _ _ { s with heap := s.heap.push (seqObj "list" #[] 0) })⟩))
  unfold Builtin.List.listExtendWith; refine wpAny_bind (wpAny_typeOf (T := "tuple") ⟨ob, hob2, hcl⟩ (?_))
  rw [if_pos (by rw [hty]; simp)]
  refine wpAny_bind (listItems_at hob2 hdt (wpAny_bind (listItems_at (xs := #[]) (n := 0) (Heap.get?_push_size _ rfl) rfl (?_))))
  rw [if_neg (by simp)]
  refine wpAny_bind (listUpdate_at (xs := #[]) (n := 0) (Heap.get?_push_size _ rfl) rfl (wpAny_pure (?_)) (Nat.zero_le _) (by show (#[] ++ us.toArray).size ≤ sizeLine + 1; simp only [Array.size_append, List.size_toArray, List.length_nil]; omega))
  show wpAny (model P w) A (do
      let ob ← load s.heap.objs.size
      match ob.data with
      | .seq vs _ => pure vs.toList
      | _ => unsupported "internal:collect") R E0 { s with heap := (s.heap.push (seqObj "list" #[] 0)).update s.heap.objs.size (Obj.mapSeq (· ++ us.toArray)) }
  refine wpAny_bind (wpAny_load (get?_update_seq (Heap.get?_push_size _ rfl) _) (?_))
  show wpAny _ _ (pure ((#[] : Array Value) ++ us.toArray).toList) R E0 _
  rw [show ((#[] : Array Value) ++ us.toArray).toList = us by simp]
  exact wpAny_pure h
theorem sorted_tup {t : Addr} {us : List Value} {ltv : Value → Value → Bool} {R : Value → Shared → Prop} (O : SrtO.Swo ltv) (ht : IsTup s.heap t us.toArray) (hz : us.length ≤ sizeLine)
    (hS : 2 ≤ us.length → ∀ (h₁ : Heap) (a : Addr), h₁.get? a = some (seqObj "list" us.toArray 0) → (∀ b o, s.heap.get? b = some o → b ≠ a ∧ h₁.get? b = some o) → SrtO.SortableO P w A.in1.in1 { s with heap := h₁ } a us ltv)
    (h : ∀ out : List Value, SrtO.Srtd ltv out → SrtO.Stb ltv out us → R (.ref (s.heap.objs.size + 1)) { s with heap := sortedAll s.heap us out.toArray }) : wpAny (model P w) A (call (.builtin "sorted") [.ref t]) R E0 s := by
  refine Calls.call_function_entry kind_sorted plain_sorted entry_sorted (args_sorted1 _) (?_ : wpAny _ _ (Builtin.«sorted» _) _ _ _)
  unfold Builtin.«sorted»
  refine wpAny_bind (m := checkCount "sorted" 1 1 _) (wpAny_pure (wpAny_bind (gather_tup ht hz (wpAny_bind (wpAny_newList (?_) hz)))))
  have e1 : ((s.heap.push (seqObj "list" #[] 0)).update s.heap.objs.size (Obj.mapSeq (· ++ us.toArray))).objs.size = s.heap.objs.size + 1 := by rw [Heap.size_update, size_push']
  have e2 : (((s.heap.push (seqObj "list" #[] 0)).update s.heap.objs.size (Obj.mapSeq (· ++ us.toArray))).push (seqObj "list" us.toArray 0)).get? (s.heap.objs.size + 1) = some (seqObj "list" us.toArray 0) := by rw [← e1]; exact Heap.get?_push_size _ rfl
  have kp : ∀ b o, s.heap.get? b = some o → b ≠ s.heap.objs.size + 1 ∧ (((s.heap.push (seqObj "list" #[] 0)).update s.heap.objs.size (Obj.mapSeq (· ++ us.toArray))).push (seqObj "list" us.toArray 0)).get? b = some o := fun b o q => by
    have lt : b < s.heap.objs.size := Heap.lt_size q
    refine ⟨Nat.ne_of_lt (Nat.lt_succ_of_lt lt), Heap.get?_push_of_some _ ?_⟩
    rw [Heap.get?_update_ne _ _ _ _ (Nat.ne_of_lt lt)]; exact Heap.get?_push_of_some _ q
  show wpAny _ _ _ _ _ { s with heap := ((s.heap.push (seqObj "list" #[] 0)).update s.heap.objs.size (Obj.mapSeq (· ++ us.toArray))).push (seqObj "list" us.toArray 0) }
  rw [e1]
  refine wpAny_bind (wpAny_holding (wpAny_call_entry slot_list_sort ⟨_, e2, rfl⟩ entry_list_sort (SrtO.list_sort_ord O e2 hz (fun h2 => hS h2 _ _ e2 kp) fun out hs hb => ⟨_, rfl, wpAny_pure ⟨_, rfl, h out hs hb⟩⟩) (args_list_sort _)))
end
def rSortTI (K : PySem.W.Frag) : List V → Hp → VK → Prop := fun vs H Q => ∃ (a : Addr) (ns : List Int), vs = [V.ref a] ∧ SqT K H a (ns.map V.int) ∧ ∀ (ns' : List Int) (p : Addr), ns'.Perm ns → ns'.Pairwise (· ≤ ·) → H p = none → Q (.ref p) (upd H p (.lst (ns'.map V.int)))
variable {X : Cx} {G : Gd}
theorem cr_sortTI : CallR X (.builtin "sorted") (rSortTI X.K) := by
  intro pins s σ H vs us Q I r h; obtain ⟨a, ns, rfl, hs, q⟩ := h
  obtain ⟨its, rv, hl, hz⟩ := I.tuple hs
  rw [Vals.ref1 r]
  have hi := rv.ints
  refine sorted_tup SrtO.swo_int hl (by rw [← rv.length]; exact hz) (fun h2 h₁ a' _ _ => SrtO.ints_sortable hi h2) fun out h1 h2 => ?_
  obtain ⟨k1, k2, k3⟩ := SrtO.ints_out hi h1 h2; obtain ⟨ep, he'⟩ := sortedAll_at s.heap its out.toArray
  have hlen : ((out.map SrtO.iv).map V.int).length ≤ sizeLine := by rw [List.length_map, k2.length_eq]; rw [List.length_map] at hz; exact hz
  refine ⟨V.ref (s.heap.objs.size + 1), _, I.laid (t' := s.toks) (o := .lst ((out.map SrtO.iv).map V.int)) (fun _ _ => sortedAll_old) (Nat.le_succ _) ⟨hlen, out, ep, vals_of_ints k1, he'⟩, rfl, q _ _ k2 k3 (I.hok.fresh (Nat.le_succ _))⟩
def gSortA : D → (D → Prop) → Prop := fun d Q => ∃ ns : List Int, (d = .lst (ns.map D.int) ∨ d = .tup (ns.map D.int)) ∧ ∀ ns' : List Int, ns'.Perm ns → ns'.Pairwise (· ≤ ·) → Q (.lst (ns'.map D.int))
theorem c_sortA (hK : X.K = G.K) : CallR X (.builtin "sorted") (rDL G (g1 gSortA)) := by
  intro pins s σ H vs us Q' I r h
  obtain ⟨B, d, x, Q, rfl, hd, hf, ⟨ns, hds, hq⟩, k⟩ := rDL1 h
  have fin : ∀ (ns' : List Int) (p : Addr), ns.length ≤ sizeLine → ns'.Perm ns → ns'.Pairwise (· ≤ ·) → H p = none → Q' (.ref p) (upd H p (.lst (ns'.map V.int))) := fun ns' p hl h1 h2 hp =>
    k _ _ (.lst (ns'.map D.int)) (Ext.new hp) (den_lst hp (hf p hp) (by rw [List.length_map, h1.length_eq]; exact hl) DenL.of_ints) (hq ns' h1 h2)
  rcases hds with rfl | rfl
  · obtain ⟨a, ys, rfl, na, ha, la, da⟩ := hd
    have := da.ints
    subst this
    exact cr_sortedI pins s σ H _ us Q' I r ⟨a, ns, rfl, SqL.of ha, fun ns' p h1 h2 hp => fin ns' p (by simpa using la) h1 h2 hp⟩
  · obtain ⟨a, ys, rfl, na, ha, la, da⟩ := hd
    have := da.ints
    subst this
    exact cr_sortTI pins s σ H _ us Q' I r ⟨a, ns, rfl, by rw [hK]; exact ha, fun ns' p h1 h2 hp => fin ns' p (by simpa using la) h1 h2 hp⟩
end Kn
set_option Elab.async false
set_option linter.all false
set_option maxRecDepth 100000
set_option maxHeartbeats 2100000
namespace Kn
open PySem
open PySem.Spec PyProof.Rows L2
section
variable {P : Program} {w : World} {A : Around} {E0 : Value → Shared → Prop} {s : Shared}
theorem places_rev (n : Nat) : Builtin.Slice.slicePlaces ((n : Int) - 1) (-1) (-1) = n := by
  unfold Builtin.Slice.slicePlaces; rw [if_neg (by decide)]; by_cases h : (n : Int) - 1 > -1
  · rw [if_pos h]
    have : ((n : Int) - 1 - -1 - 1) / (- -1) + 1 = n := by
      rw [show (- -1 : Int) = 1 by rfl, Int.ediv_one]; omega
    rw [this]; rfl
  · rw [if_neg h]
    have : n = 0 := by omega
    subst this; rfl
theorem fm_congr {α β : Type} {f g : α → Option β} : ∀ {l : List α}, (∀ x ∈ l, f x = g x) → l.filterMap f = l.filterMap g
  | [], _ => rfl
  | x :: l, h => by rw [List.filterMap_cons, List.filterMap_cons, h x List.mem_cons_self, fm_congr fun y hy => h y (List.mem_cons_of_mem _ hy)]
theorem pick_back (xs : Array Value) : ((List.range xs.size).filterMap fun (m : Nat) => xs[(((xs.size : Int) - 1) + (m : Int) * -1).toNat]?).toArray = xs.toList.reverse.toArray := by
  have h := HT.pick_gen xs.toList.reverse.toArray 0 xs.size
  rw [show ((xs.toList.reverse.toArray.toList.drop 0).take xs.size) = xs.toList.reverse by rw [List.drop_zero]; exact List.take_of_length_le (by simp)] at h
  rw [← h]
  congr 1
  refine fm_congr fun m hm => ?_
  have hm' := List.mem_range.mp hm
  rw [show (((0 : Nat) : Int) + (m : Int) * 1).toNat = m by omega, show (((xs.size : Int) - 1) + (m : Int) * -1).toNat = xs.size - 1 - m by omega]
  have e1 : xs.toList.reverse.toArray[m]? = xs.toList.reverse[m]? := by simp
  rw [e1, List.getElem?_reverse (by simpa using hm')]
  simp
theorem getItem_tup_rev {t sl : Addr} {its : Array Value} {vs : Value} {R : Value → Shared → Prop} (ht : IsTup s.heap t its) (hs : s.heap.IsSliceOf sl .none .none vs) (ps : IsPart vs (some (-1))) (hsz : its.size ≤ sizeLine)
    (h : R (.ref s.heap.objs.size) { s with heap := s.heap.push { cls := .type "tuple", data := .seq its.toList.reverse.toArray } }) : wpAny (model P w) A (getItem (.ref t) (.ref sl)) R E0 s := by
  have ok : sizeOk (.seq its.toList.reverse.toArray) := by show its.toList.reverse.toArray.size ≤ sizeLine; simpa using hsz
  obtain ⟨os, hos, hcs, hds⟩ := id hs; have isSl : s.TypeIs (.ref sl) "slice" := ⟨os, hos, hcs⟩
  unfold getItem
  try with_reducible refine wpAny_holding (?_)
  first | refine wpAny_bind (wpAny_pure (?_)) | skip
  refine wpAny_bind (wpAny_sequenceKey ht.typeIs (by decide) (?_))
  refine wpAny_bind (wpAny_callSpecial?_slot (name := Str.ofString "__getitem__") ht.typeIs slot_tuple_getitem (wpAny_call_entry slot_tuple_getitem ht.typeIs entry_tuple_getitem (?_) (args_tuple_getitem _ _)))
  refine (?_ : wpAny _ _ (Builtin.Tuple.tupleItemsOf (.ref t) >>= _) _ _ s)
  refine wpAny_bind (tupleItemsOf_ ht (?_))
  refine wpAny_bind (wpAny_typeOf isSl (?_))
  rw [if_pos (by decide)]
  have key : wpAny (model P w) A.in1 (Builtin.Slice.sliceApplied (.ref sl) (pure (its.size : Int))) (fun r s' => r = ((its.size : Int) - 1, -1, its.size) ∧ s' = s) E0 s := by
    unfold Builtin.Slice.sliceApplied Builtin.Slice.sliceFields; refine wpAny_bind (wpAny_bind (wpAny_field hos hds (x := .none) rfl (wpAny_bind (wpAny_field hos hds (x := .none) rfl (wpAny_bind (wpAny_field hos hds (x := vs) rfl (wpAny_pure (?_))))))))
    refine wpAny_bind (HT.slicePart_ ps (?_))
    refine (?_ : wpAny _ _ (if ((-1 : Int) == 0) = true then _ else _) _ _ s)
    rw [if_neg (by decide)]
    refine wpAny_bind (slicePart_none (wpAny_bind (slicePart_none (wpAny_bind (wpAny_pure (?_))))))
    refine (?_ : wpAny _ _ (match Builtin.Slice.sliceAdjust none none (-1) (its.size : Int) with | (lo, hi) => pure (lo, (-1 : Int), Builtin.Slice.slicePlaces lo hi (-1))) _ _ s)
    rw [show Builtin.Slice.sliceAdjust none none (-1) (its.size : Int) = ((its.size : Int) - 1, -1) from rfl]
    refine (?_ : wpAny _ _ (pure (((its.size : Int) - 1), (-1 : Int), Builtin.Slice.slicePlaces ((its.size : Int) - 1) (-1) (-1))) _ _ s)
    rw [places_rev]
    exact wpAny_pure ⟨rfl, rfl⟩
  refine wpAny_bind (wpAny_mono key (fun r s' e => ?_) (fun e s' z => z))
  obtain ⟨rfl, rfl⟩ := e
  refine (?_ : wpAny _ _ (if ((((its.size : Int) - 1) == 0 && (-1 : Int) == 1 && its.size == its.size) = true) then _ else _) _ _ _)
  rw [if_neg (by simp), pick_back]
  first
    | exact wpAny_bind (m := Builtin.Tuple.tupleExact _) (wpAny_newObj_type (wpAny_pure ⟨_, rfl, wpAny_pure h⟩) ok)
    | exact wpAny_bind (m := Builtin.Tuple.tupleExact _) (wpAny_newObj_type (wpAny_bind (wpAny_pure (wpAny_pure ⟨_, rfl, wpAny_pure h⟩))) ok)
    | exact wpAny_bind (wpAny_bind (m := Builtin.Tuple.tupleExact _) (wpAny_newObj_type (wpAny_pure (wpAny_pure ⟨_, rfl, wpAny_pure h⟩)) ok))
    | exact wpAny_bind (wpAny_bind (m := Builtin.Tuple.tupleExact _) (wpAny_newObj_type (wpAny_pure ⟨_, rfl, wpAny_pure h⟩) ok))
end
section
variable {G : Gd} {E : XK} {X : Cx} {σ : List (Option V)} {H H' : Hp} {k : Nat}
open RZ
def tRevT (K : PySem.W.Frag) (te : TE) : TE := fun σ H Q => te σ H fun x H1 => ∃ a xs, x = .ref a ∧ SqT K H1 a xs ∧ ∀ p, H1 p = none → Q (.ref p) (upd H1 p (.tup xs.reverse))
theorem pe_revT {e : Expr} {te : TE} {kk : Nat} {p1 p2 p3 pos : Pos} (he : PE X e te) : PE X (.Subscript e (.Slice none none (some (.UnaryOp .USub (.Constant (.int 1) kk p1) p2)) p3) pos) (tRevT X.K te) := by
  refine ⟨fun pins s σ H Q I h => Subscript_ (thn (he.run pins s σ H _ I h) fun v s1 ⟨x, H1, I1, r1, a, xs, ex, hx, q⟩ => ?_)⟩
  subst ex
  cases r1
  have hst : PO X (some (.UnaryOp .USub (.Constant (.int 1) kk p1) p2)) (tPart (tUn (rU fun i => .int (-i)) (tC (.int 1)))) := po_some (pe_un un_neg pe_int)
  refine wpAny_Slice (thn (po_none.run pins s1 σ H1 (fun o H2 => o = none ∧ H2 = H1) I1 ⟨rfl, rfl⟩) fun vl s2 ⟨l, H2, I2, pl, el, e2⟩ => ?_); subst el e2
  refine thn (po_none.run pins s2 σ H2 (fun o H3 => o = none ∧ H3 = H2) I2 ⟨rfl, rfl⟩) (fun vu s3 ⟨u, H3, I3, pu, eu, e3⟩ => ?_)
  subst eu e3
  refine thn (hst.run pins s3 σ H3 (fun o H4 => o = some (-1) ∧ H4 = H3) I3 ⟨1, rfl, -1, rfl, rfl, rfl⟩) (fun vs s4 ⟨o, H4, I4, ps, eo, e4⟩ => ?_)
  subst eo e4
  cases pl
  cases pu
  have I5 : Inv X pins σ H4 { s4 with heap := s4.heap.push { cls := .type "slice", data := .fields #[.none, .none, vs] } } := I4.kept (t' := s4.toks) (fun b ob q => Heap.get?_push_of_some _ q)
  obtain ⟨its, r, ht, hz⟩ := I5.tuple hx
  have hlen := r.length
  refine (?_ : wpAny (model X.prog X.w) X.A (subscriptTail e (.Slice none none (some (.UnaryOp .USub (.Constant (.int 1) kk p1) p2)) p3) (.ref a) (.ref s4.heap.objs.size)) (EP X pins σ Q) X.xe { s4 with heap := s4.heap.push { cls := .type "slice", data := .fields #[.none, .none, vs] } })
  refine tail_any (ops := [.ref a, .ref s4.heap.objs.size]) ht.typeIs slot_tuple_getitem.lookup (?_) (by with_unfolding_all rfl)
  refine getItem_tup_rev ht (Heap.IsSliceOf.new _ .none .none vs) ps (by rw [List.size_toArray]; omega) ⟨.ref _, _, I5.laid (t' := s4.toks) (o := .tup xs.reverse) (fun b ob q => Heap.get?_push_of_some _ q) (Nat.le_refl _) ?_, rfl, q _ (I5.hok.fresh (Nat.le_refl _))⟩
  exact ⟨by rw [List.length_reverse]; exact hz, its.reverse, r.reverse, IsTup.new _ _⟩
def dRevT (te : DT) : DT := fun ex env Q => te ex env fun d => ∃ ds, d = .tup ds ∧ Q (.tup ds.reverse)
theorem de_revT {e : Expr} {c : Nat} {te : DT} {kk : Nat} {p1 p2 p3 pos : Pos} (hK : X.K = G.K) (he : DE G E X c e te) : DE G E X c (.Subscript e (.Slice none none (some (.UnaryOp .USub (.Constant (.int 1) kk p1) p2)) p3) pos) (dRevT te) :=
  imp (pe_revT he) fun σ H Q' h => by
    obtain ⟨W, hn, Q, ht, kk⟩ := h
    refine ⟨W, hn, _, ht, fun v H1 d st hd ⟨ds, e, hq⟩ => ?_⟩
    subst e
    obtain ⟨a, xs, rfl, na, ha, la, da⟩ := hd
    refine ⟨a, xs, rfl, by rw [hK]; exact ha, fun p hp => ?_⟩
    exact kk _ _ (.tup ds.reverse) (st.new hp) (den_tup hp ((W.next st).fresh hp) (by rw [List.length_reverse]; exact la) da.reverse) hq
/-- the values in the parameters' order: ix tells for each parameter where its value stands -/
structure Kk (K : PySem.W.Frag) (fd : FuncData) (ps ks : List Str) (ix : List Nat) : Prop where
  to : ∀ (s : Shared) (us : List Value), K.In s.heap → us.length = ks.length → BindsTo s fd ⟨[], ks.zip us⟩ (ps.zip (ix.map fun i => us.getD i .none))
  ok : ∀ i ∈ ix, i < ks.length
  len : ix.length = ps.length
theorem Kk.all {K : PySem.W.Frag} {fd : FuncData} {ps ks : List Str} {ix : List Nat} (h : ∀ us : List Value, us.length = ks.length → bindArgs fd ⟨[], ks.zip us⟩ = pure (ps.zip (ix.map fun i => us.getD i .none))) (h2 : ∀ i ∈ ix, i < ks.length) (h3 : ix.length = ps.length) : Kk K fd ps ks ix :=
  ⟨fun s us _ hl => .of_eq (h us hl), h2, h3⟩
theorem vals_perm {xs : List V} {us : List Value} (r : Vals xs us) : ∀ {ix : List Nat}, (∀ i ∈ ix, i < xs.length) → Vals (ix.map fun i => xs.getD i .non) (ix.map fun i => us.getD i .none)
  | [], _ => .nil
  | i :: ix, h => by
    have hi := h i List.mem_cons_self
    have hl := r.length
    refine .cons ?_ (vals_perm r fun j hj => h j (List.mem_cons_of_mem _ hj))
    obtain ⟨u, hu, ru⟩ := r.get (List.getElem?_eq_getElem hi)
    show RelV (xs.getD i .non) (us.getD i .none)
    rw [List.getD_eq_getElem?_getD, List.getD_eq_getElem?_getD, List.getElem?_eq_getElem hi, hu]
    exact ru
theorem denL_perm {B : Addr → Prop} {ds : List D} {xs : List V} (h : DenL G B H ds xs) : ∀ {ix : List Nat}, (∀ i ∈ ix, i < ds.length) → DenL G B H (ix.map fun i => ds.getD i .non) (ix.map fun i => xs.getD i .non)
  | [], _ => rfl
  | i :: ix, hx => by
    have hi := hx i List.mem_cons_self
    obtain ⟨x, e1, e2⟩ := h.get (List.getElem?_eq_getElem hi)
    refine ⟨xs.getD i .non, _, rfl, ?_, denL_perm h fun j hj => hx j (List.mem_cons_of_mem _ hj)⟩
    show Den G B H (ds.getD i .non) (xs.getD i .non)
    rw [List.getD_eq_getElem?_getD, List.getD_eq_getElem?_getD, List.getElem?_eq_getElem hi, e1]
    exact e2
structure FkK (G : Gd) (P : Program) (w : World) (mg : Str → Option Value) (base : Heap) (k : Nat) (x : Str) (ps ks : List Str) (ix : List Nat) (cf : Nat) (S : FSpec) : Prop where
  ex : ∃ (f : Addr) (fd : FuncData), FnD G P w mg base k f fd ps cf S ∧ mg x = some (.ref f) ∧ PySem.W.keepIn G.K (.ref f) = true ∧ Kk G.K fd ps ks ix
def dCallK (n : Nat) (ix : List Nat) (S : FSpec) (u : DA) : DT := fun ex env Q => u ex env fun ds => ds.length = n ∧ S (ix.map fun i => ds.getD i .non) Q ex
theorem de_callk {j : Nat} {x : Str} {ps ks : List Str} {ix : List Nat} {c cf : Nat} {S : FSpec} {kws : List Keyword} {u : DA} {p pos : Pos} (F : FkK G X.prog X.w X.mg X.base j x ps ks ix cf S) (xk : Xk G E k X) (ha : DK G E X c kws u) (hj : j ≤ k := by decide) (hg : Gl X x := by rfl) (hdb : (x == ("__debug__" : Str)) = false := by decide)
    (hall : (backToKw pos (keywordEach kws X.env)).all (·.1.isSome) = true := by rfl) (hks : (backToKw pos (keywordEach kws X.env)).filterMap (·.1) = ks := by rfl)
    (hpl : ((backTo pos (starEach [] X.env)).any (·.1) || (backToKw pos (keywordEach kws X.env)).any (·.1.isNone)) = false := by rfl) : DE G E X (c + cf) (.Call (.Name x p) [] kws pos) (dCallK ks.length ix S u) := by
  obtain ⟨f, fd, hF0, hm, hk, hb⟩ := F.ex
  have hF := hF0.mono hj
  rw [← xk.K] at hk hb
  refine ⟨fun pins s σ H Q' I h => ?_⟩
  obtain ⟨W, hn, Q, ht, kk⟩ := h
  have args := ha.run pos pins s σ H (fun vs H1 => vs.length = ks.length ∧ liftF G cf S (ix.map fun i => vs.getD i .non) H1 Q' E) I ⟨W, by omega, _, ht, fun vs H1 ds st hd ⟨hl, hs⟩ => ⟨by rw [← hd.length]; exact hl, lift_callee st hn (denL_perm hd fun i hi => by rw [hl]; exact hb.ok i hi) hs kk⟩⟩
  refine wpAny_Call_Name_kw (ld_glob I hg hm ?_ hdb); refine PySem.W.callWith_KW0 (h₀ := X.base) I.ok.mod.kin hk hall (thn args fun us s1 ⟨vs, H1, I1, r1, hl, q1⟩ => ⟨I1.kIn, ?_⟩) hpl
  rw [hks]
  refine wpAny_call ?_
  exact run_fnd (hK := xk.K) hF xk.room xk.gd xk.pass I1 (vals_perm r1 fun i hi => by rw [hl]; exact hb.ok i hi) (by rw [List.length_map]; exact hb.len) _ (hb.to s1 us I1.kIn (by rw [← r1.length]; exact hl)) q1
end
end Kn
set_option Elab.async false
set_option linter.all false
set_option maxRecDepth 100000
set_option maxHeartbeats 2100000
namespace Kn
open PySem L2 RZ
open PyProof.Rows (envOfC)
section
variable {G : Gd} {E : XK} {X : Cx} {σ : List (Option V)} {H H' : Hp} {k : Nat}
def gRepr : D → (D → Prop) → Prop := fun d Q => (∃ i : Int, d = .int i ∧ i.natAbs.log2 < 1920 ∧ Q (.str (toString i))) ∨
  ((∃ ds, d = .lst ds ∨ d = .tup ds) ∧ ∃ p, pd d = some p ∧ SeqAt.shaped p = true ∧ p.showable = true ∧ p.hasDict = false ∧ p.shown.length ≤ sizeLine ∧ Q (.str p.shown))
theorem c_repr (xk : Xk G E k X) : CallR X (.builtin "repr") (rDL G (g1 gRepr)) := by
  intro pins s σ H vs us Q' I r h
  obtain ⟨B, d, x, Q, rfl, hd, hf, hg, kk⟩ := rDL1 h
  rcases hg with ⟨i, rfl, hi, hq⟩ | ⟨⟨ds, hds⟩, p, hp, hsh, hsw, hnd, hlen, hq⟩
  · cases hd
    exact SkE.call_repr_int pins s σ H _ us Q' I r ⟨i, rfl, hi, kk _ H (.str _) (Ext.refl _ _) (den_str _) hq⟩
  · have hdp : Dp X.K H x p := by rw [xk.K]; exact hd.dp _ _ _ hp
    have hx : ∃ a, x = .ref a := by
      rcases hds with rfl | rfl
      · obtain ⟨a, xs, e, _⟩ := hd; exact ⟨a, e⟩
      · obtain ⟨a, xs, e, _⟩ := hd; exact ⟨a, e⟩
    obtain ⟨a, rfl⟩ := hx
    rw [Vals.ref1 r]
    obtain ⟨as, rr⟩ := Dp.reads I p (.ref a) (.ref a) hdp rfl
    refine PySem.repr_of_reads' (h₀ := s.heap) rr hsw (fun z => by rw [hnd] at z; cases z) xk.gd ?_ (fun _ _ e => e) (fun h' u tk hk => ?_) hlen
    · have := SeqAt.depth_of_shaped hsh
      have := xk.u (n := 70)
      omega
    · exact ⟨.str p.shown, H, I.kept (t' := tk) hk, ⟨u, rfl⟩, kk _ H (.str _) (Ext.refl _ _) (den_str _) hq⟩
end
end Kn
set_option Elab.async false
set_option linter.all false
set_option maxRecDepth 100000
set_option maxHeartbeats 2100000
namespace Kn
open PySem L2 RZ
open PyProof.Rows (envOfC)
section
variable {G : Gd} {E : XK} {X : Cx} {σ : List (Option V)} {H H' : Hp} {k : Nat}
/-- a tuple of texts of the module -/
def strsD (ts : List Str) : List D := ts.map D.str
theorem denL_strs {B : Addr → Prop} {H : Hp} : ∀ (ts : List Str), DenL G B H (strsD ts) (ts.map V.str)
  | [] => rfl
  | t :: ts => ⟨_, _, rfl, rfl, denL_strs ts⟩
def GTup (G : Gd) (mg : Str → Option Value) (x : Str) (ts : List Str) : Prop := ∃ a, mg x = some (.ref a) ∧ KTup G.K a (ts.map V.str) ∧ ts.length ≤ sizeLine
theorem de_gtup {x : Str} {ts : List Str} {pos : Pos} (hm : GTup G X.mg x ts) (hg : Gl X x := by rfl) (hd : (x == ("__debug__" : Str)) = false := by decide) : DE G E X 0 (.Name x pos) (dC (.tup (strsD ts))) := by
  obtain ⟨a, h1, h2, h3⟩ := hm
  exact imp (pe_glob (v := .ref a) hg h1 rfl hd) fun _ _ _ h => lift_c (d := .tup (strsD ts)) (fun B H => (⟨a, ts.map V.str, rfl, .inr h2, .inr h2, by simpa using h3, denL_strs ts⟩ : Den G B H (.tup (strsD ts)) (.ref a))) h
end
end Kn
set_option Elab.async false
set_option linter.all false
set_option maxRecDepth 100000
set_option maxHeartbeats 2100000
namespace Kn
open PySem L2 RZ
theorem shaped_str {x : Str} (h : PyData.strOk x = true) : SeqAt.shaped (.str x) = true := by
  unfold SeqAt.shaped
  rw [show PyData.canLay0 (.str x) = PyData.strOk x from rfl, h]; rfl
theorem shaped_int (i : Int) : SeqAt.shaped (.int i) = true := by rfl
theorem eq_str {a b : Str} {Q : D → Prop} (ha : PyData.strOk a = true) (hb : PyData.strOk b = true) (h : Q (.bl (a == b))) : gEq (.str a) (.str b) Q := ⟨_, _, rfl, rfl, shaped_str ha, shaped_str hb, h⟩
theorem ne_str {a b : Str} {Q : D → Prop} (ha : PyData.strOk a = true) (hb : PyData.strOk b = true) (h : Q (.bl (!(a == b)))) : gNe (.str a) (.str b) Q := ⟨_, _, rfl, rfl, shaped_str ha, shaped_str hb, h⟩
theorem eq_int {a b : Int} {Q : D → Prop} (h : Q (.bl (a == b))) : gEq (.int a) (.int b) Q := ⟨_, _, rfl, rfl, shaped_int a, shaped_int b, h⟩
theorem ne_int {a b : Int} {Q : D → Prop} (h : Q (.bl (!(a == b)))) : gNe (.int a) (.int b) Q := ⟨_, _, rfl, rfl, shaped_int a, shaped_int b, h⟩
theorem pdL_int : ∀ is : List Int, pdL (is.map D.int) = some (is.map PyData.int)
  | [] => rfl
  | i :: is => by simp [pdL, pd, pdL_int is]
theorem pdL_str : ∀ ts : List Str, pdL (strsD ts) = some (ts.map PyData.str)
  | [] => rfl
  | t :: ts => by
    have := pdL_str ts
    simp only [strsD, List.map_cons, pdL, pd] at this ⊢
    rw [this]
theorem eqvAll_int : ∀ is js : List Int, PyData.eqvAll (is.map PyData.int) (js.map PyData.int) = (is == js)
  | [], [] => rfl
  | [], _ :: _ => rfl
  | _ :: _, [] => rfl
  | i :: is, j :: js => by
    show ((i == j) && PyData.eqvAll (is.map PyData.int) (js.map PyData.int)) = _
    rw [eqvAll_int is js]
    rfl
theorem lay_int : ∀ is : List Int, PyData.canLayAll0 (is.map PyData.int) = true
  | [] => rfl
  | i :: is => by
    show (true && PyData.canLayAll0 (is.map PyData.int)) = true
    rw [lay_int is]; rfl
theorem depth_int : ∀ is : List Int, PyData.depthAll (is.map PyData.int) ≤ 1
  | [] => by decide
  | i :: is => by
    show max _ (PyData.depthAll (is.map PyData.int)) ≤ 1
    exact Nat.max_le.mpr ⟨Nat.zero_le _, depth_int is⟩
theorem eq_row {is js : List Int} {Q : D → Prop} (hr : ∀ is : List Int, SeqAt.shaped (.tuple (is.map PyData.int)) = true) (h : Q (.bl (is == js))) : gEq (.tup (is.map D.int)) (.tup (js.map D.int)) Q :=
  ⟨_, _, by simp [pd, pdL_int], by simp [pd, pdL_int], hr is, hr js, by rw [show PyData.eqv (.tuple (is.map PyData.int)) (.tuple (js.map PyData.int)) = PyData.eqvAll (is.map PyData.int) (js.map PyData.int) from rfl, eqvAll_int]; exact h⟩
theorem shaped_row (is : List Int) : SeqAt.shaped (.tuple (is.map PyData.int)) = true := by
  unfold SeqAt.shaped
  rw [show PyData.canLay0 (.tuple (is.map PyData.int)) = PyData.canLayAll0 (is.map PyData.int) from rfl, lay_int, Bool.true_and]
  have := depth_int is
  exact decide_eq_true (by show PyData.depthAll (is.map PyData.int) + 1 ≤ 64; omega)
end Kn
set_option Elab.async false
set_option linter.all false
set_option maxRecDepth 100000
set_option maxHeartbeats 2100000
namespace Kn
open PySem L2 RZ
section
variable {G : Gd} {E : XK} {X : Cx} {σ : List (Option V)} {H H' : Hp} {k : Nat}
theorem denL_rg {B : Addr → Prop} {H : Hp} (a : Int) : ∀ n : Nat, DenL G B H ((List.range n).map fun (i : Nat) => D.int (a + (i : Int))) ((List.range n).map fun i => V.int (a + (i : Nat))) := fun n => by
  have h : ∀ l : List Nat, DenL G B H (l.map fun (i : Nat) => D.int (a + (i : Int))) (l.map fun i => V.int (a + (i : Nat))) := fun l => by
    induction l with
    | nil => rfl
    | cons x l ih => exact ⟨_, _, rfl, rfl, ih⟩
  exact h _
/-- list(range(n)) -/
def dListRg (te : DT) : DT := fun ex env Q => te ex env fun d => ∃ n : Int, d = .int n ∧ n ≤ 16777216 ∧ -(2 ^ 62) ≤ n ∧ Q (.lst (rangeD 0 n.toNat))
theorem de_listRange {a : Expr} {c : Nat} {te : DT} {p p2 pos pos2 : Pos} (hc : X.calm = true) (hm : X.mg "list" = none) (hm2 : X.mg "range" = none) (ha : DE G E X c a te) (hg : Gl X "list" := by rfl) (hg2 : Gl X "range" := by rfl)
    (na : starEach [a] X.env = (false, eval a X.env) :: starEach [] X.env := by rfl) (nb : starEach [.Call (.Name "range" p2) [a] [] pos2] X.env = (false, eval (.Call (.Name "range" p2) [a] [] pos2) X.env) :: starEach [] X.env := by rfl) :
    DE G E X c (.Call (.Name "list" p) [.Call (.Name "range" p2) [a] [] pos2] [] pos) (dListRg te) :=
  imp (pe_listRg hc hg hm (prg_1 hg2 hm2 ha na) nb) fun σ H Q' h => by
    obtain ⟨W, hn, Q, ht, kk⟩ := h
    refine ⟨W, hn, _, ht, fun v H1 d st hd ⟨n, e, h1, h2, hq⟩ => ?_⟩
    subst e
    cases hd
    refine ⟨n, rfl, ⟨by omega, by omega, by omega, by omega, by omega⟩, fun q hq0 => ?_⟩
    have e2 : rgV 0 n = (List.range n.toNat).map fun i => V.int (0 + (i : Nat)) := by unfold rgV; rw [Int.sub_zero]
    refine kk _ _ (.lst (rangeD 0 n.toNat)) (st.new hq0) (den_lst hq0 ((W.next st).fresh hq0) (by rw [rgV_length, sizeLine_eq]; omega) ?_) hq
    rw [e2]
    exact denL_rg 0 n.toNat
end
end Kn
set_option Elab.async false
set_option linter.all false
set_option maxRecDepth 100000
set_option maxHeartbeats 2100000
namespace Kn
open PySem L2 RZ
end Kn
set_option Elab.async false
set_option linter.all false
set_option maxRecDepth 100000
set_option maxHeartbeats 2100000
namespace Kn
open PySem L2 RZ
end Kn
set_option Elab.async false
set_option linter.all false
set_option maxRecDepth 100000
set_option maxHeartbeats 2100000
namespace Kn
open PySem L2 RZ
end Kn
set_option Elab.async false
set_option linter.all false
set_option maxRecDepth 100000
set_option maxHeartbeats 2100000
namespace Kn
open PySem L2 RZ
end Kn
set_option Elab.async false
set_option linter.all false
set_option maxRecDepth 100000
set_option maxHeartbeats 2100000
namespace Kn
open PySem L2
end Kn
set_option Elab.async false
set_option linter.all false
set_option maxRecDepth 100000
set_option maxHeartbeats 2100000
namespace Kn
open PySem L2
section
variable {G : Gd} {E : XK} {X : Cx} {σ : List (Option V)} {H H' : Hp}
/-- no tuple stands at b -/
def NoTup (H : Hp) (b : Addr) : Prop := ∃ o, H b = some o ∧ (∀ xs, o ≠ .tup xs) ∧ ∀ q xs, o ≠ .frz q (.tup xs)
/-- a slot of the frame's own, taken for a value -/
def LendOk (G : Gd) (s : Sl) (v : D) : Prop := (∃ a ds, s = .own a ds ∧ v = .lst ds) ∨ (∃ a dx c ds, s = .slf a dx c ds ∧ v = .ins c ds ∧ ds.length = (G.fl c).length) ∨ ∃ a ks ds, s = .dic a ks ds ∧ v = .dcT ks ds
theorem LendOk.mine {s : Sl} {v : D} (h : LendOk G s v) : s.mine = true := by
  rcases h with ⟨a, ds, rfl, _⟩ | ⟨a, dx, c, ds, rfl, _⟩ | ⟨a, ks, ds, rfl, _⟩ <;> rfl
/-- the state in which a slot of the frame's own is taken for a value -/
theorem wd_lend (W : Wd G E σ H) {i : Nat} {s : Sl} {v : D} (he : W.env[i]? = some s) (ok : LendOk G s v) :
    ∃ (W' : Wd G E σ H) (a : Addr), W'.env = W.env.set i (.val v) ∧ W'.u = W.u ∧ W'.n = W.n ∧ W'.m = W.m ∧ W'.B = W.B ∧ W'.ex = W.ex ∧ W'.H0 = W.H0 ∧ σ[i]? = some (some (.ref a)) ∧ W.H0 a = none ∧ NoTup H a ∧ (∀ b, W.XB b → W'.XB b ∨ b = a) ∧ (∀ b, W'.XB b → W.XB b ∧ b ≠ a) := by
  have hil : i < W.env.length := (List.getElem?_eq_some_iff.mp he).1
  have hm := ok.mine
  have hsl := W.sl i _ he
  have hat : ∃ a o, σ[i]?.join = some (V.ref a) ∧ W.H0 a = none ∧ H a = some o ∧ (∀ xs, o ≠ .tup xs) ∧ (∀ q xs, o ≠ .frz q (.tup xs)) := by
    rcases ok with ⟨a, ds, rfl, _⟩ | ⟨a, dx, c, ds, rfl, _⟩ | ⟨a, ks, ds, rfl, _⟩
    · obtain ⟨xs, e1, h0, ha, _⟩ := hsl
      exact ⟨a, _, e1, h0, ha, fun _ z => (by cases z), fun _ _ z => (by cases z)⟩
    · obtain ⟨xs, e1, h0, ha, _⟩ := hsl
      exact ⟨a, _, e1, h0, ha, fun _ z => (by cases z), fun _ _ z => (by cases z)⟩
    · obtain ⟨L, e1, h0, ha, _⟩ := hsl
      exact ⟨a, _, e1, h0, ha, fun _ z => (by cases z), fun _ _ z => (by cases z)⟩
  obtain ⟨a, o, e1, h0, ha, n1, n2⟩ := hat
  have hsi := join_some e1
  have xb : ∀ b, XBof W.B (W.env.set i (.val v)) σ b → W.XB b ∧ b ≠ a := fun b hb => by
    rcases hb with hb | ⟨j, t, f1, m1, f2⟩
    · exact ⟨.inl hb, fun z => W.own_ne h0 (by rw [← z]; exact hb)⟩
    · by_cases hj : i = j
      · subst hj
        rw [List.getElem?_set_self hil] at f1; cases f1; cases m1
      · rw [List.getElem?_set_ne hj] at f1
        exact ⟨.inr ⟨j, t, f1, m1, f2⟩, fun z => hj (W.nd i j a _ t he f1 hm m1 hsi (by rw [← z]; exact f2))⟩
  have old : ∀ {j : Nat} {t : Sl}, (W.env.set i (.val v))[j]? = some t → t.mine = true → W.env[j]? = some t := fun {j t} f m => by
    by_cases hj : i = j
    · subst hj; rw [List.getElem?_set_self hil] at f; cases f; cases m
    · rw [List.getElem?_set_ne hj] at f; exact f
  refine ⟨{ u := W.u, n := W.n, m := W.m, B := W.B, H0 := W.H0, env := W.env.set i (.val v), ex := W.ex, ug := W.ug, hu := W.hu, hB := W.hB, fr := W.fr, good := W.good, len := by rw [List.length_set]; exact W.len, sl := fun j t e => ?_, nd := fun j l b t r f1 f2 m1 m2 f3 f4 => W.nd j l b t r (old f1 m1) (old f2 m2) m1 m2 f3 f4, exc := W.exc }, a, rfl, rfl, rfl, rfl, rfl, rfl, rfl, hsi, h0, ⟨o, ha, n1, n2⟩, fun b hb => ?_, xb⟩
  · by_cases hj : i = j
    · subst hj
      rw [List.getElem?_set_self hil] at e
      cases e
      rcases ok with ⟨a', ds, rfl, rfl⟩ | ⟨a', dx, c, ds, rfl, rfl, hcl⟩ | ⟨a', ks, ds, rfl, rfl⟩
      · obtain ⟨xs, e2, _, ha', hl, hd⟩ := hsl
        rw [e1] at e2; cases e2
        exact ⟨.ref a, e1, a, xs, rfl, fun z => (xb a z).2 rfl, ha', hl, hd.fewer fun b hb => (xb b hb).1⟩
      · obtain ⟨xs, e2, _, ha', hl, hd⟩ := hsl
        rw [e1] at e2; cases e2
        exact ⟨.ref a, e1, a, dx, xs, rfl, fun z => (xb a z).2 rfl, ha', by rw [← hd.length]; exact hcl, hd.fewer fun b hb => (xb b hb).1⟩
      · obtain ⟨L, e2, _, ha', hk, hx, hd⟩ := hsl
        rw [e1] at e2; cases e2
        exact ⟨.ref a, e1, a, L, rfl, fun z => (xb a z).2 rfl, ha', hk, hx.keep (fun _ _ _ h => h) (fun b hb => .inl (xb b hb).1), hd.fewer fun b hb => (xb b hb).1⟩
    · rw [List.getElem?_set_ne hj] at e
      exact (W.sl j t e).fewer fun b hb => (xb b hb).1
  · rcases hb with hb | ⟨j, t, f1, m1, f2⟩
    · exact .inl (.inl hb)
    · by_cases hj : i = j
      · subst hj
        rw [hsi] at f2; cases f2
        exact .inr rfl
      · exact .inl (.inr ⟨j, t, by show (W.env.set i (.val v))[j]? = some t; rw [List.getElem?_set_ne hj]; exact f1, m1, f2⟩)
theorem NoTup.ext {u : Option Ur} {b : Addr} (h : NoTup H b) (e : Ext u H H') (n : NU u b) : NoTup H' b := by
  obtain ⟨o, ho, h1⟩ := h
  exact ⟨o, e b o ho n, h1⟩
def bLend (G : Gd) (i : Nat) (t : DB) : DB := fun ex env Q => ∃ s v, env[i]? = some s ∧ LendOk G s v ∧ t ex (env.set i (.val v)) Q
theorem lend_un (W : Wd G E σ H) {a : Addr} (h0 : W.H0 a = none) : NU W.u a := W.nu h0
theorem dt_lend (i : Nat) {e : Expr} {c : Nat} {t : DB} (h : DPt G E X c e t) : DPt G E X c e (bLend G i t) := impT h fun σ H Q' hh => by
  obtain ⟨W, hn, Q, ⟨s, v, he, ok, ht⟩, kk⟩ := hh
  obtain ⟨W1, a, w1, w2, w3, w4, w5, w6, w7, hsi, h0, nt, x1, x2⟩ := wd_lend W he ok
  refine ⟨W1, by rw [w3, w4]; exact hn, Q, by rw [w1, w6]; exact ht, fun b H' st hq => ?_⟩
  exact kk b H' ⟨by rw [← w2]; exact st.ext, by rw [← w2, ← w3]; exact st.good⟩ hq
end
end Kn
set_option Elab.async false
set_option linter.all false
set_option maxRecDepth 100000
set_option maxHeartbeats 2100000
namespace Kn
open PySem L2 RZ
open PyProof.Rows (envOfC)
section
variable {G : Gd} {E : XK} {X : Cx} {σ : List (Option V)} {H H' : Hp} {k : Nat}
/-- fields, arguments; what holds of the answer and the new fields -/
abbrev MSpec := List D → List D → (D → List D → Prop) → Prop
def liftM (G : Gd) (c cid : Nat) (S : MSpec) : Sp := fun vs H Q _ => ∃ (u : Option Ur) (n : Nat) (B : Addr → Prop) (fs ds : List D) (R : D → List D → Prop) (x dx : Addr) (vs' xs : List V),
  u = G.u ∧ vs = .ref x :: vs' ∧ H x = some (.ins (G.cl cid) dx ((G.fl cid).zip xs)) ∧ xs.length = (G.fl cid).length ∧ ¬ B x ∧ (∀ p, Pr u p → x ≠ p.1 ∧ x ≠ p.2) ∧ c ≤ n ∧ (∀ p, Pr u p → B p.1 ∧ B p.2) ∧ (∀ a, B a → H a ≠ none) ∧ Good u H n ∧
  DenL G (fun a => B a ∨ a = x) H ds vs' ∧ DenL G (fun a => B a ∨ a = x) H fs xs ∧ S fs ds R ∧
  (∀ H' v xs' d fs', (∀ b o, H b = some o → b ≠ x → NU u b → H' b = some o) → Good u H' (n - c) → H' x = some (.ins (G.cl cid) dx ((G.fl cid).zip xs')) → xs'.length = (G.fl cid).length → DenL G (fun a => B a ∨ a = x) H' fs' xs' → Den G (fun a => B a ∨ a = x) H' d v → R d fs' → Q v H')
structure MutD (G : Gd) (P : Program) (w : World) (mg : Str → Option Value) (base : Heap) (k : Nat) (f : Addr) (fd : FuncData) (ps : List Str) (c cid : Nat) (S : MSpec) : Prop where
  run : ∀ (A : Around) (outer : List Env) (s : Shared) (H : Hp) (args : Args) (us : List Value) (vs : List V) (Q : VK) (E : XK), Room k A → A.guards = some [] → Env0 P w G.K mg base A outer s H →
    BindsTo s fd args (ps.zip us) → Vals vs us → vs.length = ps.length → liftM G c cid S vs H Q E → codeAny (model P w) A (.call (.ref f) args) (CR (L2.CX P w) outer P w H s Q E) s
theorem MutD.mono {P : Program} {w : World} {mg : Str → Option Value} {base : Heap} {j k : Nat} {f : Addr} {fd : FuncData} {ps : List Str} {c cid : Nat} {S : MSpec} (F : MutD G P w mg base j f fd ps c cid S) (h : j ≤ k) : MutD G P w mg base k f fd ps c cid S :=
  ⟨fun A outer s H args us vs Q E hr => F.run A outer s H args us vs Q E (hr.mono h)⟩
abbrev DT2 := (Exc → Prop) → List Sl → (D → List Sl → Prop) → Prop
def lift2 (G : Gd) (E : XK) (c : Nat) (t : DT2) : TE := fun σ H Q' => ∃ W : Wd G E σ H, W.m + c ≤ W.n ∧ ∃ Q, t W.ex W.env Q ∧ ∀ v H' d (W' : Wd G E σ H'), Later W c W' → Den G W'.XB H' d v → Q d W'.env → Q' v H'
abbrev DE2 (G : Gd) (E : XK) (X : Cx) (c : Nat) (e : Expr) (t : DT2) : Prop := PE X e (lift2 G E c t)
end
end Kn
set_option Elab.async false
set_option linter.all false
set_option maxRecDepth 100000
set_option maxHeartbeats 2100000
namespace Kn
open PySem L2 RZ
open PyProof.Rows (envOfC)
section
variable {G : Gd} {E : XK} {X : Cx} {σ : List (Option V)} {H H' : Hp} {k : Nat}
def s2Set (i : Nat) (t : DT2) : DS := fun ex de env => t ex env fun d env' => de.nx (env'.set i (.val d))
theorem ds2_set {i : Nat} {x : Str} {e : Expr} {pos pos' : Pos} {c : Nat} {t : DT2} (hN : X.N.Nodup) (hi : X.N[i]? = some x) (hx : Loc X.env.scope x) (he : DE2 G E X c e t) (hs : swapsWith e (some (.Name x pos')) pos.line X.env = pure false := by rfl)
    (hf : X.fn x = true ∨ X.env.scope.names.lookup x = some .local := by first | exact .inl rfl | exact .inr rfl) : DSt G E X c (.Assign [.Name x pos'] e pos) (s2Set i t) :=
  impS (ps_set hN hi hx he hs hf) fun Dn σ H h => by
    obtain ⟨W, hn, de, ht, k1, k2, k3, k4⟩ := h
    exact ⟨W, hn, _, ht, fun v H' d W' lt hd hq => k1 _ H' (W'.put i hd) ((lt.trans (Later.put W' i hd)).more (by omega)) hq⟩
end
end Kn
set_option Elab.async false
set_option linter.all false
set_option maxRecDepth 100000
set_option maxHeartbeats 2100000
namespace Kn
open PySem L2 RZ
end Kn
set_option Elab.async false
set_option linter.all false
set_option maxRecDepth 100000
set_option maxHeartbeats 2100000
namespace Kn
open PySem L2 RZ
open PyProof.Rows (envOfC)
end Kn
set_option Elab.async false
set_option linter.all false
set_option maxRecDepth 100000
set_option maxHeartbeats 2100000
namespace Kn
open PySem L2 RZ
open PyProof.Rows (envOfC)
section
variable {G : Gd} {E : XK} {X : Cx} {σ : List (Option V)} {H H' : Hp} {k : Nat}
structure KkM (K : PySem.W.Frag) (fd : FuncData) (ps ks : List Str) (ix : List Nat) : Prop where
  to : ∀ (s : Shared) (self : Value) (us : List Value), K.In s.heap → us.length = ks.length → BindsTo s fd ⟨[self], ks.zip us⟩ (ps.zip (self :: ix.map fun i => us.getD i .none))
  ok : ∀ i ∈ ix, i < ks.length
  len : ix.length + 1 = ps.length
theorem KkM.all {K : PySem.W.Frag} {fd : FuncData} {ps ks : List Str} {ix : List Nat} (h : ∀ (self : Value) (us : List Value), us.length = ks.length → bindArgs fd ⟨[self], ks.zip us⟩ = pure (ps.zip (self :: ix.map fun i => us.getD i .none))) (h2 : ∀ i ∈ ix, i < ks.length) (h3 : ix.length + 1 = ps.length) : KkM K fd ps ks ix :=
  ⟨fun s self us _ hl => .of_eq (h self us hl), h2, h3⟩
end
end Kn
set_option Elab.async false
set_option linter.all false
set_option maxRecDepth 100000
set_option maxHeartbeats 2100000
set_option Elab.async false
set_option linter.all false
set_option maxRecDepth 100000
set_option maxHeartbeats 2100000
namespace Kn
open PySem L2 RZ
open PyProof.Rows (envOfC)
section
variable {G : Gd} {E : XK} {X : Cx} {σ : List (Option V)} {H H' : Hp} {k : Nat}
structure Fqn (G : Gd) (P : Program) (w : World) (mg : Str → Option Value) (base : Heap) (k : Nat) (c : Nat) (cf : Nat) (S : FSpec) : Prop where
  ex : ∃ (f : Addr) (fd : FuncData) (ps : List Str), FnD G P w mg base k f fd ps cf S ∧ PySem.W.findIn G.K (.ref (G.cl c)) "__eq__" = some (some (.ref f)) ∧ PySem.W.isFn G.K (.ref f) = true ∧ Binds G.K fd ps [] ∧ ps.length = 2 ∧
    PySem.W.mroIn G.K (G.cl c) (.type "object") = some true ∧ PySem.W.findIn G.K (.ref (G.cl c)) "__ne__" = some (some (.builtin "object.__ne__"))
end
end Kn
set_option Elab.async false
set_option linter.all false
set_option maxRecDepth 100000
set_option maxHeartbeats 2100000
namespace Kn
open PySem L2 RZ
open PyProof.Rows (envOfC)
end Kn
set_option Elab.async false
set_option linter.all false
set_option maxRecDepth 100000
set_option maxHeartbeats 2100000
namespace Kn
open PySem L2 RZ
end Kn
set_option Elab.async false
set_option linter.all false
set_option maxRecDepth 100000
set_option maxHeartbeats 2100000
namespace Kn
open PySem L2 RZ
open PyProof.Rows (envOfC)
end Kn
set_option Elab.async false
set_option linter.all false
set_option maxRecDepth 100000
set_option maxHeartbeats 2100000
namespace Kn
open PySem L2 RZ
section
variable {G : Gd} {E : XK} {X : Cx} {σ : List (Option V)} {H H' : Hp} {k : Nat}
def dTupRg (te : DT) : DT := fun ex env Q => te ex env fun d => ∃ n : Int, d = .int n ∧ n ≤ 16777216 ∧ -(2 ^ 62) ≤ n ∧ Q (.tup (rangeD 0 n.toNat))
theorem de_tupleRange {a : Expr} {c : Nat} {te : DT} {p p2 pos pos2 : Pos} (hc : X.calm = true) (hm : X.mg "tuple" = none) (hm2 : X.mg "range" = none) (ha : DE G E X c a te) (hg : Gl X "tuple" := by rfl) (hg2 : Gl X "range" := by rfl)
    (na : starEach [a] X.env = (false, eval a X.env) :: starEach [] X.env := by rfl) (nb : starEach [.Call (.Name "range" p2) [a] [] pos2] X.env = (false, eval (.Call (.Name "range" p2) [a] [] pos2) X.env) :: starEach [] X.env := by rfl) :
    DE G E X c (.Call (.Name "tuple" p) [.Call (.Name "range" p2) [a] [] pos2] [] pos) (dTupRg te) :=
  imp (pe_tupRg hc hg hm (prg_1 hg2 hm2 ha na) nb) fun σ H Q' h => by
    obtain ⟨W, hn, Q, ht, kk⟩ := h
    refine ⟨W, hn, _, ht, fun v H1 d st hd ⟨n, e, h1, h2, hq⟩ => ?_⟩
    subst e
    cases hd
    refine ⟨n, rfl, ⟨by omega, by omega, by omega, by omega, by omega⟩, fun q hq0 => ?_⟩
    have e2 : rgV 0 n = (List.range n.toNat).map fun i => V.int (0 + (i : Nat)) := by unfold rgV; rw [Int.sub_zero]
    refine kk _ _ (.tup (rangeD 0 n.toNat)) (st.new hq0) (den_tup hq0 ((W.next st).fresh hq0) (by rw [rgV_length, sizeLine_eq]; omega) ?_) hq
    rw [e2]
    exact denL_rg 0 n.toNat
end
end Kn
set_option Elab.async false
set_option linter.all false
set_option maxRecDepth 100000
set_option maxHeartbeats 2100000
namespace Kn
open PySem L2 RZ
section
variable {G : Gd} {E : XK} {X : Cx} {σ : List (Option V)} {H H' : Hp} {k : Nat}
theorem DenL.eraseIdx {B : Addr → Prop} {H : Hp} : ∀ (i : Nat) {ds : List D} {xs : List V}, DenL G B H ds xs → DenL G B H (ds.eraseIdx i) (xs.eraseIdx i)
  | _, [], xs, h => by
    cases (show xs = [] from h)
    exact rfl
  | 0, d :: ds, xs, ⟨x, r, e, h1, h2⟩ => by subst e; exact h2
  | i + 1, d :: ds, xs, ⟨x, r, e, h1, h2⟩ => by subst e; exact ⟨x, _, rfl, h1, h2.eraseIdx i⟩
theorem pop_xb {W0 : Wd G E σ H} (W' : Wd G E σ H') {i : Nat} {a : Addr} {ds es : List D} (e : W'.env = W0.env.set i (.own a es)) (he : W0.env[i]? = some (.own a ds)) (hsi : σ[i]? = some (some (.ref a))) (hb : W'.B = W0.B) (b : Addr) (h : W'.XB b) : W0.XB b := by
  rcases h with h | ⟨j, s, e1, m1, e2⟩
  · exact .inl (by rw [← hb]; exact h)
  · by_cases hj : i = j
    · subst hj
      exact .inr ⟨i, _, he, rfl, e2⟩
    · rw [e, List.getElem?_set_ne hj] at e1
      exact .inr ⟨j, s, e1, m1, e2⟩
end
end Kn
set_option Elab.async false
set_option linter.all false
set_option maxRecDepth 100000
set_option maxHeartbeats 2100000
namespace Kn
open PySem L2 RZ
open PyProof.Rows (envOfC)
end Kn
set_option Elab.async false
set_option linter.all false
set_option maxRecDepth 100000
set_option maxHeartbeats 2100000
namespace Kn
open PySem L2 RZ
section
variable {G : Gd} {E : XK} {X : Cx} {σ : List (Option V)} {H H' : Hp} {k : Nat}
theorem wd_ownO (W : Wd G E σ H) {c : Nat} {H2 : Hp} (st : Step W c H2) {i : Nat} {p : Addr} {o : HO} (hp : H p = none) (h2 : H2 p = some o) (hc : ∀ q, o ≠ LamX.CodeO p q) :
    ∃ W' : Wd G E (σ.set i (some (.ref p))) H2, Later W c W' ∧ W'.env = W.env.set i (.obj p o) := by
  have fr0 : ¬ W.XB p := W.fresh hp
  have h0 : W.H0 p = none := by
    cases q : W.H0 p with
    | none => rfl
    | some o =>
      exfalso
      rw [W.fr p o q (W.nuX fr0)] at hp; cases hp
  have npo : ∀ {j : Nat} {s : Sl} {b : Addr}, W.env[j]? = some s → s.mine = true → σ[j]? = some (some (.ref b)) → b ≠ p := fun {j s b} e hm es z => by
    obtain ⟨_, o, ho⟩ := W.mine_at e hm es
    rw [z, hp] at ho; cases ho
  have xb : ∀ b, XBof W.B (W.env.set i (.obj p o)) (σ.set i (some (.ref p))) b → W.XB b ∨ b = p := fun b hb => by
    rcases hb with hb | ⟨j, s, e1, m1, e2⟩
    · exact .inl (.inl hb)
    · by_cases hj : i = j
      · subst hj
        by_cases hi : i < σ.length
        · rw [List.getElem?_set_self hi] at e2; cases e2; exact .inr rfl
        · rw [List.getElem?_eq_none (by rw [List.length_set]; omega)] at e2; cases e2
      · rw [List.getElem?_set_ne hj] at e1 e2
        exact .inl (.inr ⟨j, s, e1, m1, e2⟩)
  have sp : ∀ b, XBof W.B (W.env.set i (.obj p o)) (σ.set i (some (.ref p))) b → W.XB b ∨ H b = none := fun b hb => (xb b hb).imp id fun z => by rw [z]; exact hp
  have dk : ∀ {d : D} {v : V}, Den G W.XB H d v → Den G (XBof W.B (W.env.set i (.obj p o)) (σ.set i (some (.ref p)))) H2 d v := fun {d v} h => Den.keep (fun b o nb e => st.keep nb e) sp d v h
  have dkl : ∀ {es : List D} {ys : List V}, DenL G W.XB H es ys → DenL G (XBof W.B (W.env.set i (.obj p o)) (σ.set i (some (.ref p)))) H2 es ys := fun {es ys} h => DenL.keep (fun b o nb e => st.keep nb e) sp es ys h
  have own_st : ∀ {j : Nat} {s : Sl} {b : Addr} {o : HO}, W.env[j]? = some s → s.mine = true → σ[j]? = some (some (.ref b)) → H b = some o → H2 b = some o := fun {j s b o} e hm es ho => st.ext b o ho (lend_un W (W.mine_at e hm es).1)
  refine ⟨{ u := W.u, n := W.n - c, m := W.m, B := W.B, H0 := W.H0, env := W.env.set i (.obj p o), ex := W.ex, ug := W.ug, hu := W.hu, hB := W.hB, fr := W.fr.trans st.ext, good := st.good, len := by rw [List.length_set, List.length_set]; exact W.len, sl := fun j s e => ?_, nd := fun j l b s t e1 e2 m1 m2 e3 e4 => ?_, exc := W.exc },
    ⟨rfl, rfl, rfl, rfl, rfl, by show W.n ≤ W.n - c + c; omega, fun b o nb e => st.keep nb e, sp⟩, rfl⟩
  · by_cases hj : i = j
    · subst hj
      by_cases hi : i < W.env.length
      · rw [List.getElem?_set_self hi] at e
        cases e
        rw [getD_set, if_pos ⟨rfl, by rw [← W.len]; exact hi⟩]
        exact ⟨rfl, h0, h2, hc⟩
      · rw [List.getElem?_eq_none (by simpa using hi)] at e; cases e
    · rw [List.getElem?_set_ne hj] at e
      rw [getD_set, if_neg (fun z => hj z.1)]
      have z := W.sl j s e
      cases s with
      | emp => trivial
      | val d => obtain ⟨x, e1, e2⟩ := z; exact ⟨x, e1, dk e2⟩
      | own b es => obtain ⟨ys, e1, e2, e3, e4, e5⟩ := z; exact ⟨ys, e1, e2, own_st e rfl (join_some e1) e3, e4, dkl e5⟩
      | slf b dx cc es => obtain ⟨ys, e1, e2, e3, e4, e5⟩ := z; exact ⟨ys, e1, e2, own_st e rfl (join_some e1) e3, e4, dkl e5⟩
      | obj b o => obtain ⟨e1, e2, e3, e4⟩ := z; exact ⟨e1, e2, own_st e rfl (join_some e1) e3, e4⟩
      | dic b ks es => obtain ⟨L, e1, e2, e3, e4, e5, e6⟩ := z; exact ⟨L, e1, e2, own_st e rfl (join_some e1) e3, e4, e5.by dk, dkl e6⟩
  · by_cases hj : i = j
    · by_cases hlk : i = l
      · exact hj.symm.trans hlk
      · subst hj
        exfalso
        rw [List.getElem?_set_ne hlk] at e2 e4
        have hi : i < σ.length := by
          by_cases q : i < σ.length
          · exact q
          · rw [List.getElem?_eq_none (by rw [List.length_set]; omega)] at e3; cases e3
        rw [List.getElem?_set_self hi] at e3
        cases e3
        exact npo e2 m2 e4 rfl
    · rw [List.getElem?_set_ne hj] at e1 e3
      by_cases hlk : i = l
      · subst hlk
        exfalso
        have hi : i < σ.length := by
          by_cases q : i < σ.length
          · exact q
          · rw [List.getElem?_eq_none (by rw [List.length_set]; omega)] at e4; cases e4
        rw [List.getElem?_set_self hi] at e4
        cases e4
        exact npo e1 m1 e3 rfl
      · rw [List.getElem?_set_ne hlk] at e2 e4
        exact W.nd j l b s t e1 e2 m1 m2 e3 e4
theorem lift_obj {i : Nat} {W : Wd G E σ H} {o : HO} {a : Addr} (he : W.env[i]? = some (.obj a o)) : σ[i]? = some (some (.ref a)) ∧ W.H0 a = none ∧ H a = some o := by
  obtain ⟨e1, e2, e3, _⟩ := W.sl i _ he
  exact ⟨join_some e1, e2, e3⟩
end
end Kn
set_option Elab.async false
set_option linter.all false
set_option maxRecDepth 100000
set_option maxHeartbeats 2100000
namespace Kn
open PySem L2 RZ
end Kn
set_option Elab.async false
set_option linter.all false
set_option maxRecDepth 100000
set_option maxHeartbeats 2100000
namespace Kn
open PySem L2 RZ PyProof.Rows
end Kn
set_option Elab.async false
set_option linter.all false
set_option maxRecDepth 100000
set_option maxHeartbeats 2100000
namespace Kn
open PySem L2 RZ PyProof.Rows
end Kn
set_option Elab.async false
set_option linter.all false
set_option maxRecDepth 100000
set_option maxHeartbeats 2100000
namespace Kn
open PySem PySem.Spec L2 RZ
open PyProof.Rows
end Kn
set_option Elab.async false
set_option linter.all false
set_option maxRecDepth 100000
set_option maxHeartbeats 2100000
namespace Kn
open PySem L2 RZ
section
variable {G : Gd} {E : XK} {X : Cx} {σ : List (Option V)} {H H' : Hp} {k : Nat}
theorem DenL.snoc {B : Addr → Prop} : ∀ {ds : List D} {xs : List V}, DenL G B H ds xs → DenL G B H ds.reverse xs.reverse
  | [], _, h => by cases h; rfl
  | d :: ds, _, ⟨x, r, e, h1, h2⟩ => by
    subst e
    rw [List.reverse_cons, List.reverse_cons]; exact (DenL.snoc h2).append ⟨x, [], rfl, h1, rfl⟩
end
end Kn
set_option Elab.async false
set_option linter.all false
set_option maxRecDepth 100000
set_option maxHeartbeats 2100000
namespace Kn
open PySem L2 RZ
end Kn
set_option Elab.async false
set_option linter.all false
set_option maxRecDepth 100000
set_option maxHeartbeats 2100000
namespace Kn
open PySem PySem.Spec L2 RZ LamX
open PyProof.Rows (envOfC)
/-- the call of what was handed, at slot i: W is what the context takes of errors -/
def tAct (i : Nat) (f c' : Addr) (q : Str) (W : WX) (tl : XK → Hp → VK → Prop) : TE := fun σZ HZ Q => σZ[i]? = some (some (.ref f)) ∧ HZ c' = some (CodeO c' q) ∧ ∃ E : XK, (∀ cls d H', E cls d H' → W cls d σZ H') ∧ tl E HZ Q
end Kn
set_option Elab.async false
set_option linter.all false
set_option maxRecDepth 100000
set_option maxHeartbeats 2100000
namespace Kn
open PySem PySem.Spec L2 RZ LamX
open PyProof.Rows (envOfC)
/-- a def of the module whose code object stands at c -/
structure FunC (K : PySem.W.Frag) (x qual : Str) (st : Stmt) (f : Addr) (fd : FuncData) (c : Addr) : Prop where
  ex : ∃ (oc : Value) (od : Option Addr) (kV doc pm : Value) (an : Option Addr) (ct : Value) (osl : Array (Option Value)),
    fd = PySem.W.fnOf x qual (defArgs st) (defBody st) (defScope st) .none kV doc pm an (.ref c) ct ∧ K.lookup f = some ⟨oc, od, .func fd, osl⟩ ∧ PySem.W.codeIn K (.ref c) qual = true
  kp : PySem.W.keepIn
        K (.ref f) = true
/-- the reading of what is handed, what is wanted of the answer -/
abbrev LSpec := ((D → Prop) → (Exc → Prop) → Prop) → (D → Prop) → Prop
section
variable {G : Gd} {P : Program} {w : World} {mg : Str → Option Value} {base : Heap}
/-- what is handed at the heap H0, where B counts: read by T later, at most c draws -/
def Thunk (G : Gd) (c : Nat) (H0 : Hp) (B : Addr → Prop) (tl : XK → Hp → VK → Prop) (T : (D → Prop) → (Exc → Prop) → Prop) : Prop :=
  ∀ (E : XK) (HZ : Hp) (B' : Addr → Prop) (n : Nat) (Q0 : D → Prop) (ex0 : Exc → Prop) (Q' : VK), Ext G.u H0 HZ → Good G.u HZ n → c ≤ n → (∀ p, Pr G.u p → B' p.1 ∧ B' p.2) → (∀ b, B' b → B b ∨ H0 b = none) → (∀ b, B' b → HZ b ≠ none) → T Q0 ex0 →
    (∀ v H' d, Ext G.u HZ H' → Good G.u H' (n - c) → Den G B' H' d v → Q0 d → Q' v H') → (∀ x C d H', Ext G.u HZ H' → Good G.u H' (n - c) → ExcIs G B' H' x C d → ex0 x → E C d H') → tl E HZ Q'
/-- what a def that is handed a lambda asks -/
def liftL (G : Gd) (c : Nat) (S : LSpec) (tl : XK → Hp → VK → Prop) (H : Hp) (Q : VK) : Prop := ∃ (n : Nat) (B : Addr → Prop) (T : (D → Prop) → (Exc → Prop) → Prop) (R : D → Prop),
  c ≤ n ∧ (∀ p, Pr G.u p → B p.1 ∧ B p.2) ∧ (∀ a, B a → H a ≠ none) ∧ Good G.u H n ∧ Thunk G c H B tl T ∧ S T R ∧ ∀ v H' d, Ext G.u H H' → Good G.u H' (n - c) → Den G B H' d v → R d → Q v H'
/-- no error leaves -/
abbrev E1 : XK := fun _ _ _ => False
/-- what stands at slot 0 of the def at g can be called as tl -/
def ActOk (P : Program) (w : World) (K : PySem.W.Frag) (mg : Str → Option Value) (base : Heap) (N : List Str) (qg : Str) (sg : Scope) (g : Addr) (A : Around) (outer : List Env) (s : Shared) (H : Hp) (a : Str) (f c' : Addr) (q : Str) (tl : XK → Hp → VK → Prop) : Prop :=
  ∀ (cdv : Value) (W : WX) (pn : List (Addr × Obj)) (xe : Value → Shared → Prop) (p1 p2 : Pos), Takes ((cxOf (L2.CX P w) P w K mg base N qg sg g cdv A outer s H E1).tr pn xe) W →
    PE ((cxOf (L2.CX P w) P w K mg base N qg sg g cdv A outer s H E1).tr pn xe) (.Call (.Name a p1) [] [] p2) (tAct 0 f c' q W tl)
/-- the def x, that calls what it is handed -/
structure FnL (G : Gd) (P : Program) (w : World) (mg : Str → Option Value) (base : Heap) (k : Nat) (g : Addr) (fd : FuncData) (N : List Str) (qg : Str) (sg : Scope) (a : Str) (c : Nat) (S : LSpec) : Prop where
  hN : N[0]? = some a
  vis : Vis sg a
  run : ∀ (A : Around) (outer : List Env) (s : Shared) (H : Hp) (f c' : Addr) (q : Str) (tl : XK → Hp → VK → Prop) (Q : VK), Room k A → A.guards = some [] → Env0 P w G.K mg base A outer s H → BindsTo s fd ⟨[.ref f], []⟩ [(a, .ref f)] →
    ActOk P w G.K mg base N qg sg g A outer s H a f c' q tl → H c' = some (CodeO c' q) → liftL G c S tl H Q → codeAny (model P w) A (.call (.ref g) ⟨[.ref f], []⟩) (CR (L2.CX P w) outer P w H s Q E1) s
end
end Kn
set_option Elab.async false
set_option linter.all false
set_option maxRecDepth 100000
set_option maxHeartbeats 2100000
namespace Kn
open PySem PySem.Spec L2 RZ LamX
open PyProof.Rows (envOfC)
section
variable {G : Gd} {P : Program} {w : World} {mg : Str → Option Value} {base : Heap}
theorem FnL.mono {j k : Nat} {g : Addr} {fd : FuncData} {N : List Str} {qg : Str} {sg : Scope} {a : Str} {c : Nat} {S : LSpec} (F : FnL G P w mg base j g fd N qg sg a c S) (h : j ≤ k) : FnL G P w mg base k g fd N qg sg a c S :=
  ⟨F.hN, F.vis, fun A outer s H f c' q tl Q hr => F.run A outer s H f c' q tl Q (hr.mono h)⟩
end
end Kn
set_option Elab.async false
set_option linter.all false
set_option maxRecDepth 100000
set_option maxHeartbeats 2100000
namespace Kn
open PySem PySem.Spec L2 RZ LamX
open PyProof.Rows (envOfC)
end Kn
set_option Elab.async false
set_option linter.all false
set_option maxRecDepth 100000
set_option maxHeartbeats 2100000
namespace Kn
open PySem PySem.Spec L2 RZ LamX
open PyProof.Rows (envOfC AllBare IntsAre)
/-- the law's def answers True from the entry on, over the heap of which the script and the tables of cs may be known -/
def LawOkT (P : Program) (w : World) (K : PySem.W.Frag) (mg : Str → Option Value) (fa a : Addr) (ns : List Int) (s₁ : Shared) (cs : List (Addr × Addr)) : Prop :=
  ∀ (base : Heap) (H : Hp), K.In base → base.Ns mainGlobals mg → (∀ p ∈ cs, TabB base mg p.1 p.2) → (∀ p ∈ cs, H p.2 = some (.tbl #[])) → SqL K H a (ns.map V.int) → Env0 P w K mg base callerA [] s₁ H →
    codeAny (model P w) callerA (.call (.ref fa) ⟨[.ref a], []⟩) (CR (L2.CX P w) [] P w H s₁ (fun v _ => v = .bl true) (fun _ _ _ => False)) s₁
section
variable {P : Program} {w : World} {K : PySem.W.Frag} {mg mb : Str → Option Value} {fa a : Addr} {s₁ : Shared} {vs : List Value} {ns : List Int} {cs : List (Addr × Addr)}
theorem law_coreT (KX : K.In s₁.heap) (hns : s₁.heap.Ns mainGlobals mg) (hb : s₁.heap.Ns builtinsNs mb) (hbb : ∀ x : Str, x ≠ "__name__" → mb x = bootBuiltins x) (hlim : s₁.heap.NoLimit) (hg : s₁.gens = #[])
    (hbm : ∃ (bm : Addr) (ob : Obj), mg "__builtins__" = some (.ref bm) ∧ bm ≠ builtinsNs ∧
          s₁.heap.get? bm = some ob ∧ ob.cls = .type "module" ∧ ob.dict = some builtinsNs ∧ ob.data = .plain)
    (ha : s₁.heap.get? a = some { cls := .type "list", data := .seq vs.toArray }) (hT : ∀ p ∈ cs, s₁.heap.get? p.2 = some (PySem.W.tabObj #[])) (nT : ∀ p ∈ cs, K.lookup p.2 = none) (C : ∀ p ∈ cs, PySem.W.CodeHd s₁.heap p.1 p.2) (F : LawOkT P w K mg fa a ns s₁ cs)
    (H : Hp) (hH : ∀ p ∈ cs, H p.2 = some (.tbl #[])) (hO : ∀ b o, H b = some o → (b = a ∧ ∃ ob xs, o = .frz ob (.lst xs)) ∨ ∃ p ∈ cs, b = p.2) (hS : SqL K H a (ns.map V.int)) (ok : HOk P w H s₁.heap) (hK : H a ≠ none → K.lookup a = none) :
    codeAny (model P w) callerA (.call (.ref fa) ⟨[.ref a], []⟩) (fun r s' => r = .ok
      (.ret (.bool true)) ∧ OldK s₁.heap s'.heap ∧ s'.os = s₁.os ∧ AllBare s'.gens) s₁ := by
  -- what is neither a list nor an empty record is not tracked
  have off : ∀ {b : Addr} {o : Obj}, s₁.heap.get? b = some o → (∀ xs n, o.data ≠ .seq xs n) → o.data ≠ .fields #[] → H b = none := by
    intro b o e n1 n2
    cases q : H b with
    | none => rfl
    | some u =>
      exfalso
      rcases hO b u q with ⟨rfl, _⟩ | ⟨p, hp, rfl⟩
      · rw [ha] at e; cases e; exact n1 _ _ rfl
      · rw [hT p hp] at e; cases e; exact n2 rfl
  have dict_off : ∀ {b : Addr} {o : Obj} {es : Array DictEntry} {ep : Nat}, s₁.heap.get? b = some o → o.data = .dict es ep → H b = none := fun {b o es ep} e d =>
    off e (fun xs n z => by rw [d] at z; cases z) (fun z => by rw [d] at z; cases z)
  have kb : K.In (hidT s₁.heap H) := by
    intro b o e
    refine hidT_get (KX b o e) ?_
    cases q : H b with
    | none => rfl
    | some u =>
      exfalso
      rcases hO b u q with ⟨rfl, _⟩ | ⟨p, hp, rfl⟩
      · rw [hK (by rw [q]; simp)] at e; cases e
      · rw [nT p hp] at e; cases e
  have gl := ns_hid dict_off hns
  obtain ⟨mc, l1, l2⟩ := hlim
  have hM : Mod K mg (hidT s₁.heap H) := ⟨kb, gl, ⟨mb, ns_hid dict_off hb, hbb⟩, ⟨mc, ns_hid dict_off l1, l2⟩⟩
  have e0 : Env0 P w K mg (hidT s₁.heap H) callerA [] s₁ H := {
    frames := rfl, mod := hM, bs := fun b o e => of_hidT e, bsz := Nat.le_of_eq (hidT_size _ _), funs := trivial, frf := fun b hb => (List.not_mem_nil hb).elim, hok := ok, bare := .of_eq hg }
  have tb : ∀ p ∈ cs, TabB (hidT s₁.heap H) mg p.1 p.2 := by
    intro p hp
    have at_ := hT p hp
    refine ⟨?_, ?_, fun z => ?_⟩
    · obtain ⟨o, us, x1, x2, x3, x4, x5, x6, x7, e1, e2, e3, e4, r⟩ := C p hp
      refine ⟨o, us, x1, x2, x3, x4, x5, x6, x7, hidT_get e1 (off e1 (fun xs n z => by rw [e3] at z; cases z) fun z => ?_), e2, e3, e4, r⟩
      rw [e3] at z
      cases z
      cases e4
    · obtain ⟨bm, ob, b1, b2,
          b3, b4, b5, b6⟩ := hbm
      refine ⟨bm, ob, b1, b2, fun q => ?_, fun q => ?_, hidT_get b3 (off b3 (fun xs n z => by rw [b6] at z; cases z) fun z => by rw [b6] at z; cases z), b4, b5, b6⟩
      · obtain ⟨o, es, ep, e, d, _⟩ := hns
        rw [q, e] at b3
        cases b3
        rw [d] at b6; cases b6
      · rw [q, at_] at b3
        cases b3; cases b6
    · obtain ⟨o, es, ep, e, d, _⟩ := hns
      rw [z, at_] at e
      cases e; cases d
  refine codeAny_mono (F _ H kb gl tb hH hS e0) ?_
  intro r s' h
  cases r with
  | error e =>
    exfalso
    obtain ⟨_, _, _, _, _, _, _, _, _, _, _, _, z⟩ := h; exact z.elim
  | ok fl =>
    cases fl with
    | next => exact h.elim
    | brk => exact h.elim
    | cont => exact h.elim
    | ret u =>
      obtain ⟨v, H', os, bare, un, hok', r', q⟩ := h; rw [show v = .bl true from q] at r'
      cases r'
      have grown : ∀ p ∈ cs, ∃ more, s'.heap.get? p.2 = some (PySem.W.tabObj more) := fun p hp => by
        obtain ⟨more, z⟩ := un.tbls p.2 #[] (hH p hp); exact ⟨_, hok' p.2 _ z⟩
      have same : ∀ b o, (∀ p ∈ cs, b ≠ p.2) → s₁.heap.get? b = some o → s'.heap.get? b = some o := by
        intro b o nb e
        cases hq : H b with
        | none => exact un.keep b o e hq (by intro z; cases z) (by intro z; cases z)
        | some x =>
          rcases hO b x hq with ⟨_, ob, xs, rfl⟩ | ⟨p, hp, z⟩
          · have g1 := (ok b _ hq).1
            have g2 := (hok' b _ (un.frzs b ob _ hq)).1
            rw [e] at g1
            cases g1
            exact g2
          · exact (nb p hp z).elim
      refine ⟨rfl, ⟨fun b o e => ?_,
            fun b o e => ?_⟩, os, bare⟩
      · by_cases hb : ∃ p ∈ cs, b = p.2
        · obtain ⟨p, hp, rfl⟩ := hb
          obtain ⟨more, hm⟩ := grown p hp; rw [hT p hp] at e
          cases e; exact .inr (.inl ⟨((C p hp).tab (hT p hp)).isCodeTable, rfl, #[], more, rfl, by rw [Array.empty_append]; exact hm⟩)
        · exact .inl (same b o (fun p hp z => hb ⟨p, hp, z⟩) e)
      · by_cases hb : ∃ p ∈ cs, b = p.2
        · obtain ⟨p, hp, rfl⟩ := hb
          obtain ⟨more, hm⟩ := grown p hp; exact ⟨_, hm⟩
        · exact ⟨o, same b o (fun p hp z => hb ⟨p, hp, z⟩) e⟩
theorem law_topT (KX : K.In s₁.heap) (hns : s₁.heap.Ns mainGlobals mg) (hb : s₁.heap.Ns builtinsNs mb) (hbb : ∀ x : Str, x ≠ "__name__" → mb x = bootBuiltins x) (hlim : s₁.heap.NoLimit) (hg : s₁.gens = #[])
    (hbm : ∃ (bm : Addr) (ob : Obj), mg "__builtins__" = some (.ref bm) ∧ bm ≠ builtinsNs ∧
          s₁.heap.get? bm = some ob ∧ ob.cls = .type "module" ∧ ob.dict = some builtinsNs ∧ ob.data = .plain)
    (ha : s₁.heap.get? a = some { cls := .type "list", data := .seq vs.toArray }) (hi : IntsAre vs ns) (hl : ns.length ≤ sizeLine) (hT : ∀ p ∈ cs, s₁.heap.get? p.2 = some (PySem.W.tabObj #[])) (nT : ∀ p ∈ cs, K.lookup p.2 = none) (C : ∀ p ∈ cs, PySem.W.CodeHd s₁.heap p.1 p.2) (F : LawOkT P w K mg fa a ns s₁ cs) :
    codeAny (model P w) callerA (.call (.ref fa) ⟨[.ref a], []⟩) (fun r s' => r = .ok
      (.ret (.bool true)) ∧ OldK s₁.heap s'.heap ∧ s'.os = s₁.os ∧ AllBare s'.gens) s₁ := by
  have rv := vals_ints hi
  have nat : ∀ p ∈ cs, p.2 ≠ a := fun p hp z => by
    have e := hT p hp
    rw [z, ha] at e; cases e
  open Classical in
  let Tb : Addr → Option HO := fun b => if ∃ p ∈ cs, b = p.2 then some (.tbl #[]) else none
  have tb1 : ∀ p ∈ cs, Tb p.2 = some (.tbl #[]) := fun p hp => if_pos ⟨p, hp, rfl⟩
  have tb2 : ∀ b o, Tb b = some o → (∃ p ∈ cs, b = p.2) ∧ o = .tbl #[] := fun b o e => by
    by_cases h : ∃ p ∈ cs, b = p.2
    · rw [show Tb b = some (.tbl #[]) from if_pos h] at e
      exact ⟨h, (Option.some.inj e).symm⟩
    · rw [show Tb b = none from if_neg h] at e; cases e
  have okT : ∀ {H : Hp} b o, Tb b = some o → ObjOk P w H s₁.heap b o := fun {H} b o e => by
    obtain ⟨⟨p, hp, rfl⟩, rfl⟩ := tb2 b o e
    exact hT p hp
  cases hk : K.lookup a with
  | some o =>
    have e := KX a o hk
    rw [ha] at e
    cases e
    refine law_coreT KX hns hb hbb hlim hg hbm ha hT nT C F Tb tb1 (fun b u z => .inr (tb2 b u z).1) (.inr ⟨_, vs.toArray, _, hk, rfl, rfl, rfl, by rw [List.size_toArray, hi.length]; exact hl, by simpa using rv⟩) (fun b u z => okT b u z) (fun z => ?_)
    cases q : Tb a with
    | none => exact (z q).elim
    | some u =>
      obtain ⟨⟨p, hp, e⟩, _⟩ := tb2 a u q
      exact (nat p hp e.symm).elim
  | none =>
    let H : Hp := fun b => if b = a then some (.frz { cls := .type "list", data := .seq vs.toArray } (.lst (ns.map V.int))) else Tb b
    have Ha : H a = some (.frz { cls := .type "list", data := .seq vs.toArray } (.lst (ns.map V.int))) := if_pos rfl
    have Hn : ∀ {b}, b ≠ a → H b = Tb b := fun {b} hb => if_neg hb
    refine law_coreT KX hns hb hbb hlim hg hbm ha hT nT C F H (fun p hp => by rw [Hn (nat p hp)]; exact tb1 p hp) (fun b u z => ?_) (.inl (.inr ⟨_, Ha⟩)) (fun b u z => ?_) (fun _ => hk)
    · by_cases h : b = a
      · rw [h, Ha] at z
        cases z
        exact .inl ⟨h, _, _, rfl⟩
      · rw [Hn h] at z
        exact .inr (tb2 b u z).1
    · by_cases h : b = a
      · rw [h, Ha] at z
        cases z
        rw [h]; exact ⟨ha, by rw [List.length_map]; exact hl, vs, _, rv, ha⟩
      · rw [Hn h] at z
        exact okT b u z
end
end Kn
set_option Elab.async false
set_option linter.all false
set_option maxRecDepth 100000
set_option maxHeartbeats 4100000
namespace Kn
open PySem L2 RZ
open PyProof.Rows (envOfC)
/-- the law's pen: a new list of the cells and two numbers -/
def spPen (K : PySem.W.Frag) : Sp := fun vs H Q _ => ∃ (a : Addr) (ns : List Int), vs = [.ref a] ∧ SqL K H a (ns.map V.int) ∧ ns.length ≤ 63 ∧
  ∀ (H' : Hp) (p b : Addr) (cells : List Int), Ext none H H' → H p = none → H b = none → p ≠ b → cells.length ≤ 63 → H' p = some (.lst [.ref b, .int 0, .int 0]) → H' b = some (.lst (cells.map V.int)) → Q (.ref p) H'
theorem Ext.sl {H H' : Hp} {a : Addr} {xs : List V} (e : Ext none H H') (h : SqL K H a xs) : SqL K H' a xs := Kn.Ext.sqL e NU.none h
theorem cut_ints (ns : List Int) : cutV (ns.map V.int) none (some 60) = (ns.take 60).map V.int := by
  unfold cutV
  rw [HT.sIx_none, List.drop_zero, Nat.sub_zero, show HT.sIx (ns.map V.int).length (ns.map V.int).length (some 60) = min 60 (ns.map V.int).length from HT.sIx_nat _ _ 60, List.length_map, ← List.map_take]
  congr 1
  by_cases h : 60 ≤ ns.length
  · rw [Nat.min_eq_left h]
  · rw [Nat.min_eq_right (by omega), List.take_length, List.take_of_length_le (by omega)]
section
variable {P : Program} {w : World} {G : Gd} {mg : Str → Option Value} {fa a : Addr} {fd : FuncData} {s₁ : Shared} {ns : List Int} {k : Nat}
theorem line_4000 : ((2 ^ 4000 : Nat) : Int) ≤ atLine := by
  unfold atLine
  rw [show (4096 : Nat) = 96 + 4000 from rfl, Int.pow_add]
  have h : (0 : Int) < 2 ^ 4000 := by first | exact Int.pow_pos (by decide) | exact Int.pos_pow_of_pos 4000 (by decide)
  push_cast
  generalize (2 : Int) ^ 4000 = T at *
  omega
/-- nothing wanted of errors -/
abbrev EF : XK := fun _ _ _ => False
/-- the state behind the making of the urn at p, with its cells at b -/
theorem wd_urn {N : List Str} {x : V} {p b : Addr} {H' : Hp} {cells : List Int} {T : List (Addr × Str)} (hN : 2 ≤ N.length) (hpb : p ≠ b) (hcl : cells.length ≤ 63) (hp : H' p = some (.lst [.ref b, .int 0, .int 0])) (hb : H' b = some (.lst (cells.map V.int))) (h2 : (L2.start N [x]).length = N.length) (hT : LamX.Tabs T H') :
    ∃ W : Wd { G with u := some ((p, b), T) } EF ((L2.start N [x]).set 1 (some (.ref p))) H', W.n = 2 ^ 4000 ∧ W.m = 0 ∧ W.env = .emp :: .val .urn :: List.replicate (N.length - 2) .emp ∧ W.ex = noX := by
  have he : ∀ {i : Nat} {s : Sl}, (Sl.emp :: Sl.val .urn :: List.replicate (N.length - 2) Sl.emp)[i]? = some s → s = .emp ∨ (i = 1 ∧ s = .val .urn) := fun {i s} e => by
    match i with
    | 0 => exact .inl (Option.some.inj e).symm
    | 1 => exact .inr ⟨rfl, (Option.some.inj e).symm⟩
    | i + 2 =>
      have e' : (List.replicate (N.length - 2) Sl.emp)[i]? = some s := e
      rw [List.getElem?_replicate] at e'
      split at e'
      · exact .inl (Option.some.inj e').symm
      · cases e'
  have hno : ∀ {i : Nat} {s : Sl}, (Sl.emp :: Sl.val .urn :: List.replicate (N.length - 2) Sl.emp)[i]? = some s → s.mine = true → False := fun {i s} e hm => by
    rcases he e with z | ⟨_, z⟩
    · subst z; cases hm
    · subst z; cases hm
  refine ⟨{ u := some ((p, b), T), n := 2 ^ 4000, m := 0, B := fun c => c = p ∨ c = b ∨ ∃ t ∈ T, c = t.1, H0 := H', env := .emp :: .val .urn :: List.replicate (N.length - 2) .emp, ex := noX, ug := rfl, hu := fun q e => ?_, hB := fun c hc z => ?_, fr := Ext.refl _ _, good := ?_, len := ?_, sl := fun i s e => ?_, nd := fun i j c s t e1 e2 m1 => (hno e1 m1).elim, exc := fun _ _ _ _ _ _ _ z => z.elim }, rfl, rfl, rfl, rfl⟩
  · obtain ⟨r, er, q⟩ := e
    cases er
    rcases q with rfl | ⟨t, ht, rfl⟩
    · exact ⟨.inl rfl, .inr (.inl rfl)⟩
    · exact ⟨.inr (.inr ⟨t, ht, rfl⟩), .inr (.inr ⟨t, ht, rfl⟩)⟩
  · rcases hc with rfl | rfl | ⟨t, ht, rfl⟩
    · rw [hp] at z; cases z
    · rw [hb] at z; cases z
    · obtain ⟨ps, e, _⟩ := hT t ht
      rw [e] at z; cases z
  · refine ⟨⟨cells, 0, 0, hp, hb, hcl, hpb, by decide, by decide, ?_⟩, hT⟩
    rw [Int.zero_add]
    exact line_4000
  · rw [List.length_set, h2]
    simp only [List.length_cons, List.length_replicate]
    omega
  · rcases he e with z | ⟨rfl, z⟩
    · subst z; trivial
    · subst z
      refine ⟨.ref p, ?_, ((p, b), T), rfl, rfl⟩
      rw [List.getElem?_set_self (by omega)]
      rfl
/-- THE RULE for the law: its first statement makes the urn, the rest is read over it -/
theorem law_of {cs : List (Addr × Addr)} {T : List (Addr × Str)} {cd : Addr} (hcs : ∀ t ∈ T, ∃ p ∈ cs, p.2 = t.1) {st s0 : Stmt} {rest : List Stmt} {N : List Str} {c : Nat} {ts : DS} (hGu : G.u = none) (F : FunC G.K "law" "law" st fa fd cd) (Sc : FnScope N ["script"] (defScope st)) (hb : ∀ (s : Shared) (v : Value), BindsTo s fd ⟨[v], []⟩ [("script", v)])
    (hr : Room (k + 1) callerA) (hN : 2 ≤ N.length) (hbody : defBody st = s0 :: rest) (hc : c ≤ 2 ^ 4000) (hlen : ns.length ≤ 63)
    (h0 : ∀ (base : Heap) (H : Hp), Room k (callerA.deeper (envOfC "law" (defScope st) s₁.heap.objs.size fa (.ref cd))) → PS (cxOf (L2.CX P w) P w G.K mg base N "law" (defScope st) fa (.ref cd) callerA [] s₁ H EF) s0 (tAsg (tCall (spPen G.K) [] EF (tCons (tVar 0) tNil)) (gName 1)))
    (hder : ∀ (p b : Addr) (base : Heap) (H : Hp), (∀ p ∈ cs, LamX.TabB base mg p.1 p.2) → Room k (callerA.deeper (envOfC "law" (defScope st) s₁.heap.objs.size fa (.ref cd))) → DSs { G with u := some ((p, b), T) } EF (cxOf (L2.CX P w) P w G.K mg base N "law" (defScope st) fa (.ref cd) callerA [] s₁ H EF) c rest ts)
    (hS : ts noX { nx := fun _ => False, rt := fun d _ => d = .bl true } (.emp :: .val .urn :: List.replicate (N.length - 2) .emp)) : LawOkT P w G.K mg fa a ns s₁ cs := by
  intro base H KXb hmg hTB hTH hSq e0
  have hTabs : LamX.Tabs T H := fun t ht => by
    obtain ⟨p, hp, e⟩ := hcs t ht
    rw [← e]
    exact LamX.TabS.nil (hTH p hp)
  obtain ⟨oc, od, kV, doc, pm, an, ct, osl, rfl, lk, hcd⟩ := F.ex; have KX : G.K.In s₁.heap := PySem.W.Frag.In.keeps e0.mod.kin (fun b o e => (e0.bs b o e).1)
  have nolim : s₁.heap.NoLimit := Heap.NoLimit.keeps e0.mod.nolimit (fun b o e => (e0.bs b o e).1)
  have kinds : ∀ y ∈ (["script"] : List Str).zip [Value.ref a], (defScope st).names.lookup y.1 = some .local ∨
      ((defScope st).names.lookup y.1 = some .cell ∧ ((cellsFrom (s₁.heap.objs.size + 1) (defScope st).names []).lookup y.1).isSome = true) := by
    intro y hy
    obtain ⟨n1, v1⟩ := y
    rcases Sc.par n1 (List.of_mem_zip hy).1 with z | z
    · exact .inl z
    · exact .inr ⟨z, PySem.W.cellsFrom_some _ _ _ (.inl z)⟩
  refine codeAny_call_function hr.depth (KX _ _ lk) rfl Sc.co Sc.gen rfl (PySem.W.codeRec_of KX hcd) ?_
  refine hb _ _ _ _ _ _ (wpAny_newFunctionEnv_cells Sc.kind kinds ?_)
  intro env he s1 ic
  subst he
  refine ⟨nolim.keeps ic.toInCall.keep, codeAny_func ?_⟩
  have I : Inv (cxOf (L2.CX P w) P w G.K mg base N "law" (defScope st) fa (.ref cd) callerA [] s₁ H EF) [] (L2.start N [.ref a]) H s1 := inv_start Sc hr.hd e0 rfl (.cons rfl .nil) ic
  have rm := hr.deeper (envOfC "law" (defScope st) s₁.heap.objs.size fa (.ref cd))
  have hl2 : (L2.start N [V.ref a]).length = N.length := by
    unfold L2.start
    simp only [List.length_append, List.length_map, List.length_replicate, List.length_cons, List.length_nil]
    omega
  have body : PSs (cxOf (L2.CX P w) P w G.K mg base N "law" (defScope st) fa (.ref cd) callerA [] s₁ H EF) (defBody st) (tSeq (tAsg (tCall (spPen G.K) [] EF (tCons (tVar 0) tNil)) (gName 1)) fun Dn σ H' => ∃ p b, liftS { G with u := some ((p, b), T) } EF c ts Dn σ H') := by
    rw [hbody]
    exact pss_cons (h0 base H rm) ⟨fun pins s σ H' D I q => by
      obtain ⟨p, b, q⟩ := q
      exact (hder p b base H hTB rm).run pins s σ H' D I q⟩
  have run := body.run [] s1 (L2.start N [.ref a]) H { nx := fun _ _ => False, rt := fun v _ => v = .bl true } I (by
    refine ⟨.ref a, rfl, a, ns, rfl, hSq, hlen, fun H' p b cells hext hp0 hb0 hpb hcl hp hb' => ?_⟩
    obtain ⟨W, w1, w2, w3, w4⟩ := wd_urn (G := G) hN hpb hcl hp hb' hl2 (hTabs.ext fun b o e => hext b o e NU.none)
    refine ⟨p, b, W, by rw [w1, w2, Nat.zero_add]; exact hc, ({ nx := fun _ => False, rt := fun d _ => d = .bl true } : DEnds), by rw [w3, w4]; exact hS, fun _ _ _ _ z => z.elim, fun v σ' H' W' d lt hd hr' => ?_, fun _ _ _ _ z => z.elim, fun _ _ _ _ z => z.elim⟩
    subst hr'
    exact hd)
  refine wpAny_mono run ?_ (fun e s' hs => hs)
  intro fl s' hfl
  cases fl with
  | next => obtain ⟨σ', H', J, q⟩ := hfl; exact q.elim
  | ret v' => obtain ⟨v, σ', H', J, r1, q⟩ := hfl; exact ⟨v, H', J.os, J.bare, J.base, J.hok, r1, q⟩
  | brk => obtain ⟨σ', H', J, q⟩ := hfl; exact q.elim
  | cont => obtain ⟨σ', H', J, q⟩ := hfl; exact q.elim
end
end Kn
set_option Elab.async false
set_option linter.all false
set_option maxRecDepth 100000
set_option maxHeartbeats 2100000
namespace Kn
open PySem PySem.Spec L2 RZ
section
variable {G : Gd} {E : XK} {X : Cx} {σ : List (Option V)} {H H' : Hp} {k : Nat}
def D.atom : D → Bool
  | .non => true
  | .bl _ => true
  | .int _ => true
  | .str _ => true
  | _ => false
theorem den_atom {B B' : Addr → Prop} {H H' : Hp} {d : D} {v : V} (h : d.atom = true) (hd : Den G B H d v) : Den G B' H' d v := by
  cases d <;> first | exact hd | cases h
end
end Kn
set_option Elab.async false
set_option linter.all false
set_option maxRecDepth 100000
set_option maxHeartbeats 2100000
namespace Kn
open PySem L2 RZ
section
variable {α : Type} {tg : DG} {tt : DB} {te : DT} {Q : List D → Prop} {env : List Sl}
/-- [e for x in xs]: g says how an item lies, r what comes of it -/
theorem compL_of (g r : α → D) : ∀ {xs : List α} {acc : List D}, (∀ x ∈ xs, ∀ K : D → Prop, K (r x) → tg (g x) env fun env2 => te noX env2 K) → Q (acc ++ xs.map r) → compL tg bYes te Q env (xs.map g) acc
  | [], acc, _, hq => by
    unfold compL
    simpa using hq
  | x :: xs, acc, h, hq => by
    show compL tg bYes te Q env (g x :: xs.map g) acc
    unfold compL
    refine h x List.mem_cons_self _ ?_
    exact compL_of g r (fun y hy => h y (List.mem_cons_of_mem _ hy)) (by rw [List.append_assoc]; exact hq)
/-- .. with an if -/
theorem compL_ofF (g r : α → D) (p : α → Bool) : ∀ {xs : List α} {acc : List D}, (∀ x ∈ xs, ∀ (K : D → Prop) (K' : Prop), (p x = true → K (r x)) → (p x = false → K') → tg (g x) env fun env2 => tt noX env2 fun b => if b = true then te noX env2 K else K') → Q (acc ++ (xs.filter p).map r) → compL tg tt te Q env (xs.map g) acc
  | [], acc, _, hq => by
    unfold compL
    simpa using hq
  | x :: xs, acc, h, hq => by
    show compL tg tt te Q env (g x :: xs.map g) acc
    unfold compL
    refine h x List.mem_cons_self _ _ (fun hp => ?_) (fun hp => ?_)
    · refine compL_ofF g r p (fun y hy => h y (List.mem_cons_of_mem _ hy)) ?_
      rw [List.filter_cons, if_pos hp] at hq
      rw [List.append_assoc]; exact hq
    · refine compL_ofF g r p (fun y hy => h y (List.mem_cons_of_mem _ hy)) ?_
      rw [List.filter_cons, if_neg (by rw [hp]; decide)] at hq
      exact hq
/-- for x in xs -/
theorem sForL_of {ex : Exc → Prop} {tb : DS} {de : DEnds} (g : α → D) {xs : List α} (I : Nat → List Sl → Prop) (h0 : I 0 env)
    (hs : ∀ (i : Nat) (x : α) (env : List Sl), xs[i]? = some x → I i env → ∀ nx : List Sl → Prop, (∀ env', I (i + 1) env' → nx env') → tg (g x) env fun env2 => tb ex { de with nx := nx, ct := nx, bk := de.nx } env2)
    (hd : ∀ env, I xs.length env → de.nx env) : sForL ex tg tb de (xs.map g) env := by
  refine sForL_inv I 0 h0 (fun i x env hi hI nx hn => ?_) (fun env hI => hd env (by rw [Nat.zero_add, List.length_map] at hI; exact hI))
  rw [List.getElem?_map] at hi
  obtain ⟨y, hy, rfl⟩ := Option.map_eq_some_iff.mp hi
  rw [Nat.zero_add] at hI hn
  exact hs i y env hy hI nx hn
/-- for i in range(n) -/
theorem sForL_rng {ex : Exc → Prop} {tb : DS} {de : DEnds} {n : Nat} (I : Nat → List Sl → Prop) (h0 : I 0 env)
    (hs : ∀ (i : Nat) (env : List Sl), i < n → I i env → ∀ nx : List Sl → Prop, (∀ env', I (i + 1) env' → nx env') → tg (.int i) env fun env2 => tb ex { de with nx := nx, ct := nx, bk := de.nx } env2)
    (hd : ∀ env, I n env → de.nx env) : sForL ex tg tb de (rangeD 0 n) env := by
  have e : rangeD 0 n = (List.range n).map fun (i : Nat) => D.int i := by
    unfold rangeD
    refine List.map_congr_left fun i _ => ?_; rw [Int.zero_add]
  rw [e]
  refine sForL_of (fun (i : Nat) => D.int i) I h0 (fun i x env hi hI nx hn => ?_) (fun env hI => hd env (by rw [List.length_range] at hI; exact hI))
  obtain ⟨hlt, hx⟩ := List.getElem?_eq_some_iff.mp hi
  rw [List.getElem_range] at hx
  rw [← hx]
  exact hs i env (by rw [List.length_range] at hlt; exact hlt) hI nx hn
end
/-- a statement in a row: what stands behind it -/
theorem seq_to {t u : DS} {ex : Exc → Prop} {de : DEnds} {env : List Sl} (I : List Sl → Prop) (h1 : ∀ de' : DEnds, (∀ env', I env' → de'.nx env') → de'.rt = de.rt → t ex de' env) (h2 : ∀ env', I env' → u ex de env') : sSeq t u ex de env :=
  h1 { de with nx := fun env' => u ex de env' } (fun env' h => h2 env' h) rfl
theorem ite_of {b : Bool} {X Y : Prop} (h1 : b = true → X) (h2 : b = false → Y) : if b = true then X else Y := by
  cases b with
  | true => exact h1 rfl
  | false => exact h2 rfl
theorem small {n : Nat} (h : n ≤ 100000) : n ≤ sizeLine := by rw [sizeLine_eq]; omega
end Kn
set_option Elab.async false
set_option linter.all false
set_option maxRecDepth 100000
set_option maxHeartbeats 2100000
namespace Kn
open PySem L2 RZ
open PyProof.Rows (envOfC)
section
variable {G : Gd} {E : XK} {X : Cx} {σ : List (Option V)} {H H' : Hp} {k : Nat} {tg : Expr}
theorem wd_ownN (W : Wd G E σ H) {c : Nat} {H2 : Hp} (st : Step W c H2) {i : Nat} {p : Addr} {xs : List V} {ds : List D} (hp : H p = none) (h2 : H2 p = some (.lst xs)) (hl : xs.length ≤ sizeLine) (hd : DenL G (fun a => W.XB a ∨ a = p) H2 ds xs) :
    ∃ W' : Wd G E (σ.set i (some (.ref p))) H2, Later W c W' ∧ W'.env = W.env.set i (.own p ds) ∧ W'.n = W.n - c := by
  have fr0 : ¬ W.XB p := W.fresh hp
  have h0 : W.H0 p = none := by
    cases q : W.H0 p with
    | none => rfl
    | some o =>
      exfalso
      rw [W.fr p o q (W.nuX fr0)] at hp; cases hp
  let W1 := W.next st
  have npo : ∀ {j : Nat} {s : Sl} {b : Addr}, W.env[j]? = some s → s.mine = true → σ[j]? = some (some (.ref b)) → b ≠ p := fun {j s b} e hm es z => by
    obtain ⟨_, o, ho⟩ := W.mine_at e hm es
    rw [z, hp] at ho; cases ho
  have xb : ∀ b, XBof W.B (W.env.set i (.own p ds)) (σ.set i (some (.ref p))) b → W.XB b ∨ b = p := fun b hb => by
    rcases hb with hb | ⟨j, s, e1, m1, e2⟩
    · exact .inl (.inl hb)
    · by_cases hj : i = j
      · subst hj
        by_cases hi : i < σ.length
        · rw [List.getElem?_set_self hi] at e2; cases e2; exact .inr rfl
        · rw [List.getElem?_eq_none (by rw [List.length_set]; omega)] at e2; cases e2
      · rw [List.getElem?_set_ne hj] at e1 e2
        exact .inl (.inr ⟨j, s, e1, m1, e2⟩)
  have dk : ∀ {d : D} {v : V}, Den G W.XB H d v → Den G (XBof W.B (W.env.set i (.own p ds)) (σ.set i (some (.ref p)))) H2 d v := fun {d v} h =>
    Den.keep (fun b o nb e => st.keep nb e) (fun b hb => (xb b hb).imp id fun z => by rw [z]; exact hp) d v h
  have dkl : ∀ {es : List D} {ys : List V}, DenL G W.XB H es ys → DenL G (XBof W.B (W.env.set i (.own p ds)) (σ.set i (some (.ref p)))) H2 es ys := fun {es ys} h =>
    DenL.keep (fun b o nb e => st.keep nb e) (fun b hb => (xb b hb).imp id fun z => by rw [z]; exact hp) es ys h
  have own_st : ∀ {j : Nat} {s : Sl} {b : Addr} {o : HO}, W.env[j]? = some s → s.mine = true → σ[j]? = some (some (.ref b)) → H b = some o → H2 b = some o := fun {j s b o} e hm es ho => st.ext b o ho (W.nu (W.mine_at e hm es).1)
  refine ⟨{ u := W.u, n := W.n - c, m := W.m, B := W.B, H0 := W.H0, env := W.env.set i (.own p ds), ex := W.ex, ug := W.ug, hu := W.hu, hB := W.hB, fr := W.fr.trans st.ext, good := st.good, len := by rw [List.length_set, List.length_set]; exact W.len, sl := fun j s e => ?_, nd := fun j l b s t e1 e2 m1 m2 e3 e4 => ?_, exc := W.exc },
    ⟨rfl, rfl, rfl, rfl, rfl, by show W.n ≤ W.n - c + c; omega, fun b o nb e => st.keep nb e, fun b hb => (xb b hb).imp id fun z => by rw [z]; exact hp⟩, rfl, rfl⟩
  · by_cases hj : i = j
    · subst hj
      by_cases hi : i < W.env.length
      · rw [List.getElem?_set_self hi] at e
        cases e
        rw [getD_set, if_pos ⟨rfl, by rw [← W.len]; exact hi⟩]
        exact ⟨xs, rfl, h0, h2, hl, hd.fewer xb⟩
      · rw [List.getElem?_eq_none (by simpa using hi)] at e; cases e
    · rw [List.getElem?_set_ne hj] at e
      rw [getD_set, if_neg (fun z => hj z.1)]
      have z := W.sl j s e
      cases s with
      | emp => trivial
      | val d => obtain ⟨x, e1, e2⟩ := z; exact ⟨x, e1, dk e2⟩
      | own b es => obtain ⟨ys, e1, e2, e3, e4, e5⟩ := z; exact ⟨ys, e1, e2, own_st e rfl (join_some e1) e3, e4, dkl e5⟩
      | slf b dx cc es => obtain ⟨ys, e1, e2, e3, e4, e5⟩ := z; exact ⟨ys, e1, e2, own_st e rfl (join_some e1) e3, e4, dkl e5⟩
      | obj b o => obtain ⟨e1, e2, e3, e4⟩ := z; exact ⟨e1, e2, own_st e rfl (join_some e1) e3, e4⟩
      | dic b ks es => obtain ⟨L, e1, e2, e3, e4, e5, e6⟩ := z; exact ⟨L, e1, e2, own_st e rfl (join_some e1) e3, e4, e5.by dk, dkl e6⟩
  · by_cases hj : i = j
    · by_cases hlk : i = l
      · exact hj.symm.trans hlk
      · subst hj
        exfalso
        rw [List.getElem?_set_ne hlk] at e2 e4
        have hi : i < σ.length := by
          by_cases q : i < σ.length
          · exact q
          · rw [List.getElem?_eq_none (by rw [List.length_set]; omega)] at e3; cases e3
        rw [List.getElem?_set_self hi] at e3
        cases e3
        exact npo e2 m2 e4 rfl
    · rw [List.getElem?_set_ne hj] at e1 e3
      by_cases hlk : i = l
      · subst hlk
        exfalso
        have hi : i < σ.length := by
          by_cases q : i < σ.length
          · exact q
          · rw [List.getElem?_eq_none (by rw [List.length_set]; omega)] at e4; cases e4
        rw [List.getElem?_set_self hi] at e4
        cases e4
        exact npo e1 m1 e3 rfl
      · rw [List.getElem?_set_ne hlk] at e2 e4
        exact W.nd j l b s t e1 e2 m1 m2 e3 e4
def fListRg (te : DT) : DA := fun ex env Q => te ex env fun d => ∃ n : Nat, d = .int n ∧ n ≤ 100000 ∧ Q (rangeD 0 n)
theorem df_listRange {a : Expr} {c : Nat} {te : DT} {p p2 pos pos2 : Pos} (hc : X.calm = true) (hm : X.mg "list" = none) (hm2 : X.mg "range" = none) (ha : DE G E X c a te) (hg : Gl X "list" := by rfl) (hg2 : Gl X "range" := by rfl)
    (na : starEach [a] X.env = (false, eval a X.env) :: starEach [] X.env := by rfl) (nb : starEach [.Call (.Name "range" p2) [a] [] pos2] X.env = (false, eval (.Call (.Name "range" p2) [a] [] pos2) X.env) :: starEach [] X.env := by rfl) :
    DF G E X c (.Call (.Name "list" p) [.Call (.Name "range" p2) [a] [] pos2] [] pos) (fListRg te) :=
  imp (pe_listRg hc hg hm (prg_1 hg2 hm2 ha na) nb) fun σ H Q' h => by
    obtain ⟨W, hn, Q, ht, kk⟩ := h
    refine ⟨W, hn, _, ht, fun v H1 d st hd ⟨n, e, h1, hq⟩ => ?_⟩
    subst e
    cases hd
    refine ⟨(n : Int), rfl, ⟨by omega, by omega, by omega, by omega, by omega⟩, fun q hq0 => ?_⟩
    have e2 : rgV 0 (n : Int) = (List.range n).map fun i => V.int (0 + (i : Nat)) := by unfold rgV; rw [Int.sub_zero, Int.toNat_natCast]
    have hp0 : H q = none := by
      cases z : H q with
      | none => rfl
      | some o =>
        exfalso
        rw [st.ext q o z (W.nuX ((W.next st).fresh hq0))] at hq0; cases hq0
    refine kk q _ (rangeD 0 n) _ (st.new hq0) hp0 upd_same (by rw [rgV_length, sizeLine_eq]; omega) ?_ hq
    rw [e2]
    exact denL_rg 0 n
end
end Kn
set_option Elab.async false
set_option linter.all false
set_option maxRecDepth 100000
set_option maxHeartbeats 2100000
namespace Kn
open PySem L2 RZ PyProof.Rows
end Kn
set_option Elab.async false
set_option linter.all false
set_option maxRecDepth 100000
set_option maxHeartbeats 2100000
namespace Kn
open PySem L2 RZ PyProof.Rows
end Kn
set_option Elab.async false
set_option linter.all false
set_option maxRecDepth 100000
set_option maxHeartbeats 2100000
namespace Kn
open PySem L2 RZ PyProof.Rows
/-- how far the zip has come -/
structure ZS (z TI TO i1 i2 a b : Addr) (k : Nat) (h : Heap) : Prop where
  z : (k = 0 ∧ IsZip h z TI TO .none) ∨ ∃ T fl oT, IsZipHeld h z TI TO T fl ∧ h.get? T = some oT ∧ T ≠ z ∧ T ≠ i1 ∧ T ≠ i2
  ti : IsPair h TI (.ref i1) (.ref i2)
  to : ∃ x y, IsPair h TO x y
  g1 : h.IsTupleIter i1 a k
  g2 : h.IsTupleIter i2 b k
end Kn
set_option Elab.async false
set_option linter.all false
set_option maxRecDepth 100000
set_option maxHeartbeats 2100000
namespace Kn
open PySem L2 RZ PyProof.Rows
theorem ZS.keep {z TI TO i1 i2 a b : Addr} {k : Nat} {h h' : Heap} (S : ZS z TI TO i1 i2 a b k h) (k1 : ∀ c ∈ [z, TI, TO, i1, i2], ∀ o, h.get? c = some o → h'.get? c = some o)
    (k2 : ∀ c o, h.get? c = some o → ∃ o', h'.get? c = some o') : ZS z TI TO i1 i2 a b k h' := by
  obtain ⟨x, y, hTO⟩ := S.to
  refine ⟨?_, k1 TI (by simp) _ S.ti, ⟨x, y, k1 TO (by simp) _ hTO⟩, S.g1.at fun o => k1 i1 (by simp) o, S.g2.at fun o => k1 i2 (by simp) o⟩
  rcases S.z with ⟨e, hz⟩ | ⟨T, fl, oT, hz, hT, t1, t2, t3⟩
  · exact .inl ⟨e, k1 z (by simp) _ hz⟩
  · obtain ⟨o', e'⟩ := k2 T oT hT
    exact .inr ⟨T, fl, o', k1 z (by simp) _ hz, e', t1, t2, t3⟩
end Kn
set_option Elab.async false
set_option linter.all false
set_option maxRecDepth 100000
set_option maxHeartbeats 2100000
namespace Kn
open PySem L2 RZ PyProof.Rows
end Kn
set_option Elab.async false
set_option linter.all false
set_option maxRecDepth 100000
set_option maxHeartbeats 2100000
namespace Kn
open PySem L2 RZ PyProof.Rows
end Kn
set_option Elab.async false
set_option linter.all false
set_option maxRecDepth 100000
set_option maxHeartbeats 2100000
namespace Kn
open PySem L2 RZ PyProof.Rows
end Kn
set_option Elab.async false
set_option linter.all false
set_option maxRecDepth 100000
set_option maxHeartbeats 4100000
namespace Kn
open PySem L2 RZ
section
variable {G : Gd} {P : Program} {w : World} {mg : Str → Option Value} {base : Heap} {f : Addr} {fd : FuncData}
def rowD (r : List Int) : D := .tup (r.map D.int)
def atR (r : List Int) (i : Int) : Int := r.getD i.toNat 0
theorem atR_in {r : List Int} {i n : Int} (h0 : 0 ≤ i) (h1 : i < r.length) (hv : ∀ x ∈ r, 0 ≤ x ∧ x < n) : atI (r.map D.int) i = some (.int (atR r i)) ∧ 0 ≤ atR r i ∧ atR r i < n := by
  obtain ⟨k, rfl⟩ := Int.eq_ofNat_of_zero_le h0
  have hk : k < r.length := by omega
  have e : atR r (k : Int) = r[k] := by
    unfold atR
    rw [Int.toNat_natCast, List.getD_eq_getElem?_getD, List.getElem?_eq_getElem hk]; rfl
  rw [e]
  exact ⟨atI_nat (by rw [List.getElem?_map, List.getElem?_eq_getElem hk]; rfl), hv _ (List.getElem_mem hk)⟩
/-- a bound: None or an int -/
def bndD : Option Int → D
  | none => .non
  | some i => .int i
def inB (i : Int) (lo hi : Option Int) : Bool := (lo.all fun l => decide (l ≤ i)) && hi.all fun h => decide (i ≤ h)
def withinB (d : D) (lo hi : Option Int) : Bool := match d with
  | .int i => inB i lo hi
  | _ => false
theorem bnd_no (o : Option Int) : ∀ v, bndD o ≠ .opq v := by intro v h; cases o <;> cases h
theorem isI_of {d : D} (h : D.isI d = true) : ∃ i, d = .int i := by cases d <;> first | exact ⟨_, rfl⟩ | cases h
theorem kind_items {d : D} {xs : List D} (h : d.items? = some xs) : (kindS d).isSome = true := by cases d <;> first | rfl | cases h
theorem kinds_isI {xs : List D} (h : xs.all D.isI = true) : ∀ x ∈ xs, (kindS x).isSome = true := fun x hx => by
  obtain ⟨i, e⟩ := isI_of (List.all_eq_true.mp h x hx)
  rw [e]; rfl
theorem all_isI (is : List Int) : (is.map D.int).all D.isI = true := by simp [List.all_map, D.isI]
theorem pdL_none {is : List Int} : pd (.lst (is.map D.int)) = some (.list (is.map PyData.int)) := by simp [pd, pdL_int]
theorem shaped_lst (is : List Int) : SeqAt.shaped (.list (is.map PyData.int)) = true := shaped_row is
theorem ne_nil {is : List Int} {Q : D → Prop} (h : Q (.bl (!is.isEmpty))) : gNe (.lst (is.map D.int)) (.lst []) Q := by
  refine ⟨_, .list [], pdL_none, rfl, shaped_lst is, shaped_lst [], ?_⟩
  cases is with
  | nil => exact h
  | cons a l => exact h
theorem pow18 : PowOk 10 18 := powOk_of (a := 4) (by decide) (by decide) (by decide)
theorem abs_lt_pow {x : Int} {n : Nat} (h0 : 0 ≤ x) (h : x < 2 ^ n) : x.natAbs < 2 ^ n := by
  have h1 : ((x.natAbs : Nat) : Int) = x := Int.natAbs_of_nonneg h0
  have h2 : ((x.natAbs : Nat) : Int) < ((2 ^ n : Nat) : Int) := by rw [h1]; push_cast; exact h
  exact_mod_cast h2
theorem pos_of {j : Int} (h : decide (0 < j) = true) : 0 < j := of_decide_eq_true h
theorem line_pos : (1 : Int) ≤ atLine := by
  unfold atLine
  first | exact Int.pow_pos (by decide) | exact Int.pos_pow_of_pos 4096 (by decide) | exact pow_pos (by decide) 4096
theorem pow_split (n : Nat) : (2 : Int) ^ (n + 4096) = 2 ^ n * atLine := by unfold atLine; rw [Int.pow_add]
theorem draw_pow1 {m k k2 t : Int} (hm : 0 ≤ m) (hm2 : m < 2 ^ 62) (hk : 0 ≤ k) (hk2 : k < 2 ^ 62) (hj : 0 ≤ k2) (hj2 : k2 < 2 ^ 62) (h0 : 0 ≤ t) (h1 : t < atLine) : PowOk (m + k * t + k2) 5 := by
  have hT := line_pos
  have hkt : k * t ≤ 2 ^ 62 * atLine := Int.mul_le_mul (by omega) (by omega) h0 (by decide)
  have hkt0 : 0 ≤ k * t := Int.mul_nonneg hk h0
  refine powOk_of (a := 104 + 4096) (abs_lt_pow (by omega) ?_) (by decide) (by decide)
  rw [pow_split]
  generalize k * t = u at *
  generalize atLine = T at *
  omega
theorem draw_wide {k t : Int} (hk : 0 ≤ k) (hk2 : k < 2 ^ 62) (h0 : 0 ≤ t) (h1 : t < atLine) : CMulW (k * t) t := by
  have hT := line_pos
  have hkt : k * t ≤ 2 ^ 62 * atLine := Int.mul_le_mul (by omega) (by omega) h0 (by decide)
  have hkt0 : 0 ≤ k * t := Int.mul_nonneg hk h0
  refine wide_mul (a := 104 + 4096) (b := 4096) (abs_lt_pow hkt0 ?_) (abs_lt_pow h0 h1) (by decide) (by decide) (by decide)
  rw [pow_split]
  generalize k * t = u at *
  generalize atLine = T at *
  omega
theorem draw_pow2 {m c2 c1 k k2 t : Int} (hm : 0 ≤ m) (hm2 : m < 2 ^ 62) (a0 : 0 ≤ c2) (a1 : c2 < 2 ^ 62) (b0 : 0 ≤ c1) (b1 : c1 < 2 ^ 62) (hk : 0 ≤ k) (hk2 : k < 2 ^ 62) (hj : 0 ≤ k2) (hj2 : k2 < 2 ^ 62) (h0 : 0 ≤ t) (h1 : t < atLine) : PowOk (m * (c2 * t + c1) + k * t * t + k2) 3 := by
  have hT := line_pos
  have e1 : c2 * t ≤ 2 ^ 62 * atLine := Int.mul_le_mul (by omega) (by omega) h0 (by decide)
  have e1' : 0 ≤ c2 * t := Int.mul_nonneg a0 h0
  have e2 : m * (c2 * t + c1) ≤ 2 ^ 62 * (2 ^ 62 * atLine + 2 ^ 62) := Int.mul_le_mul (by omega) (by omega) (by omega) (by decide)
  have e2' : 0 ≤ m * (c2 * t + c1) := Int.mul_nonneg hm (by omega)
  have e3 : k * t ≤ 2 ^ 62 * atLine := Int.mul_le_mul (by omega) (by omega) h0 (by decide)
  have e3' : 0 ≤ k * t := Int.mul_nonneg hk h0
  have e4 : k * t * t ≤ 2 ^ 62 * atLine * atLine := Int.mul_le_mul e3 (by omega) h0 (by omega)
  have e4' : 0 ≤ k * t * t := Int.mul_nonneg e3' h0
  have e5 : atLine ≤ atLine * atLine := by
    have := Int.mul_le_mul_of_nonneg_left hT (show (0 : Int) ≤ atLine by omega)
    rw [Int.mul_one] at this
    exact this
  refine powOk_of (a := (200 + 4096) + 4096) (abs_lt_pow (by omega) ?_) (by decide) (by decide)
  rw [pow_split, pow_split]
  have e6 : (2 : Int) ^ 200 * atLine * atLine = 2 ^ 200 * (atLine * atLine) := Int.mul_assoc _ _ _
  have e7 : (2 : Int) ^ 62 * atLine * atLine = 2 ^ 62 * (atLine * atLine) := Int.mul_assoc _ _ _
  rw [e6]
  rw [e7] at e4
  generalize m * (c2 * t + c1) = u at *
  generalize k * t * t = v at *
  generalize atLine * atLine = S at *
  generalize atLine = T at *
  omega
theorem in_strs {m : Str} {ts : List Str} {Q : D → Prop} (hm : PyData.strOk m = true) (hts : SeqAt.shaped (.tuple (ts.map PyData.str)) = true) (h : Q (.bl (ts.any (· == m)))) : gInT (.str m) (.tup (strsD ts)) Q :=
  ⟨.str m, ts.map PyData.str, strsD ts, rfl, rfl, pdL_str ts, shaped_str hm, hts, by rw [List.any_map]; exact h⟩
theorem ne_lst {is js : List Int} {Q : D → Prop} (h : Q (.bl (!(is == js)))) : gNe (.lst (is.map D.int)) (.lst (js.map D.int)) Q :=
  ⟨_, _, pdL_none, pdL_none, shaped_lst is, shaped_lst js, by rw [show PyData.eqv (.list (is.map PyData.int)) (.list (js.map PyData.int)) = PyData.eqvAll (is.map PyData.int) (js.map PyData.int) from rfl, eqvAll_int]; exact h⟩
theorem eq_lst {is js : List Int} {Q : D → Prop} (h : Q (.bl (is == js))) : gEq (.lst (is.map D.int)) (.lst (js.map D.int)) Q :=
  ⟨_, _, pdL_none, pdL_none, shaped_lst is, shaped_lst js, by rw [show PyData.eqv (.list (is.map PyData.int)) (.list (js.map PyData.int)) = PyData.eqvAll (is.map PyData.int) (js.map PyData.int) from rfl, eqvAll_int]; exact h⟩
theorem neC {x c : D} {ex : Exc → Prop} {env : List Sl} {Q : D → Prop} (h : gNe x c Q) : dC c ex env fun y => gNe x y Q := h
/-- a test whose answer is known -/
def Tst (t : DB) (ex : Exc → Prop) (env : List Sl) (x : Bool) : Prop := ∀ K : Bool → Prop, K x → t ex env K
section
variable {t u : DB} {ex : Exc → Prop} {env : List Sl} {x y : Bool}
theorem tst_or (h1 : Tst t ex env x) (h2 : x = false → Tst u ex env y) : Tst (bOr t u) ex env (x || y) := fun K hK => h1 _ (by
  cases x with
  | true => exact hK
  | false => exact h2 rfl K hK)
theorem tst_and (h1 : Tst t ex env x) (h2 : x = true → Tst u ex env y) : Tst (bAnd t u) ex env (x && y) := fun K hK => h1 _ (by
  cases x with
  | true => exact h2 rfl K hK
  | false => exact hK)
theorem sif_of {a b : DS} {de : DEnds} (h : Tst t ex env x) (h1 : x = true → a ex de env) (h2 : x = false → b ex de env) : sIf t a b ex de env := h _ (by
  cases x with
  | true => exact h1 rfl
  | false => exact h2 rfl)
end
def rowP (r : List Int) : PyData := .tuple (r.map PyData.int)
def Small (r : List Int) : Prop := r.length ≤ 5 ∧ ∀ i ∈ r, 0 ≤ i ∧ i < 8
theorem pd_rows : ∀ rows : List (List Int), pdL (rows.map rowD) = some (rows.map rowP)
  | [] => rfl
  | r :: rows => by
    have h := pd_rows rows
    simp only [List.map_cons, pdL, h]
    rw [show pd (rowD r) = some (rowP r) by simp [rowD, rowP, pd, pdL_int]]
theorem small_cases {i : Int} (h : 0 ≤ i ∧ i < 8) : i = 0 ∨ i = 1 ∨ i = 2 ∨ i = 3 ∨ i = 4 ∨ i = 5 ∨ i = 6 ∨ i = 7 := by omega
theorem int_facts {i : Int} (h : 0 ≤ i ∧ i < 8) : PyData.weight (.int i) ≤ 3 ∧ PyData.showable (.int i) = true ∧ PyData.intsShort 13 (.int i) = true := by
  rcases small_cases h with rfl | rfl | rfl | rfl | rfl | rfl | rfl | rfl <;> decide +kernel
theorem ints_facts : ∀ {r : List Int}, (∀ i ∈ r, 0 ≤ i ∧ i < 8) → PyData.weightAll (r.map PyData.int) ≤ 4 * r.length ∧ PyData.showableAll (r.map PyData.int) = true ∧ PyData.intsShortAll 13 (r.map PyData.int) = true ∧ PyData.hasDictAll (r.map PyData.int) = false
  | [], _ => by decide
  | i :: r, h => by
    obtain ⟨h1, h2, h3⟩ := int_facts (h i List.mem_cons_self)
    obtain ⟨k1, k2, k3, k4⟩ := ints_facts (r := r) fun j hj => h j (List.mem_cons_of_mem _ hj)
    refine ⟨?_, ?_, ?_, ?_⟩
    · show PyData.weight (.int i) + 1 + PyData.weightAll (r.map PyData.int) ≤ _
      rw [List.length_cons]; omega
    · show (PyData.showable (.int i) && PyData.showableAll (r.map PyData.int)) = true
      rw [h2, k2]; rfl
    · show (PyData.intsShort 13 (.int i) && PyData.intsShortAll 13 (r.map PyData.int)) = true
      rw [h3, k3]; rfl
    · show (PyData.hasDict (.int i) || PyData.hasDictAll (r.map PyData.int)) = false
      rw [k4]; rfl
theorem rows_facts : ∀ {rows : List (List Int)}, (∀ r ∈ rows, Small r) → PyData.weightAll (rows.map rowP) ≤ 21 * rows.length ∧ PyData.showableAll (rows.map rowP) = true ∧ PyData.intsShortAll 13 (rows.map rowP) = true ∧ PyData.hasDictAll (rows.map rowP) = false ∧ PyData.canLayAll0 (rows.map rowP) = true ∧ PyData.depthAll (rows.map rowP) ≤ 2
  | [], _ => by decide
  | r :: rows, h => by
    obtain ⟨hl, hv⟩ := h r List.mem_cons_self
    obtain ⟨h1, h2, h3, h4⟩ := ints_facts hv
    obtain ⟨k1, k2, k3, k4, k5, k6⟩ := rows_facts (rows := rows) fun j hj => h j (List.mem_cons_of_mem _ hj)
    have hd := depth_int r
    refine ⟨?_, ?_, ?_, ?_, ?_, ?_⟩
    · show PyData.weightAll (r.map PyData.int) + 1 + PyData.weightAll (rows.map rowP) ≤ _
      rw [List.length_cons]; omega
    · show (PyData.showableAll (r.map PyData.int) && PyData.showableAll (rows.map rowP)) = true
      rw [h2, k2]; rfl
    · show (PyData.intsShortAll 13 (r.map PyData.int) && PyData.intsShortAll 13 (rows.map rowP)) = true
      rw [h3, k3]; rfl
    · show (PyData.hasDictAll (r.map PyData.int) || PyData.hasDictAll (rows.map rowP)) = false
      rw [h4, k4]; rfl
    · show (PyData.canLayAll0 (r.map PyData.int) && PyData.canLayAll0 (rows.map rowP)) = true
      rw [lay_int, k5]; rfl
    · show max (PyData.depthAll (r.map PyData.int) + 1) (PyData.depthAll (rows.map rowP)) ≤ 2
      omega
/-- repr of a list of small rows is its shown text -/
theorem repr_rows {rows : List (List Int)} {Q : D → Prop} (h : ∀ r ∈ rows, Small r) (hl : rows.length ≤ 4000) (hq : Q (.str (PyData.shown (.list (rows.map rowP))))) : gRepr (.lst (rows.map rowD)) Q := by
  obtain ⟨h1, h2, h3, h4, h5, h6⟩ := rows_facts h
  have hdep : PyData.depth (.list (rows.map rowP)) ≤ 3 := by show PyData.depthAll (rows.map rowP) + 1 ≤ 3; omega
  refine .inr ⟨⟨_, .inl rfl⟩, .list (rows.map rowP), ?_, ?_, h2, h4, ?_, hq⟩
  · show (pdL (rows.map rowD)).map PyData.list = _
    rw [pd_rows]; rfl
  · unfold SeqAt.shaped
    rw [show PyData.canLay0 (.list (rows.map rowP)) = PyData.canLayAll0 (rows.map rowP) from rfl, h5, Bool.true_and]; exact decide_eq_true (by omega)
  · have hlay : PyData.layable0 (.list (rows.map rowP)) = true := by
      unfold PyData.layable0
      rw [show PyData.canLay0 (.list (rows.map rowP)) = PyData.canLayAll0 (rows.map rowP) from rfl, h5, decide_eq_true (show PyData.depth (.list (rows.map rowP)) ≤ 64 by omega), decide_eq_true (show PyData.weight (.list (rows.map rowP)) ≤ 2 ^ 20 by show PyData.weightAll (rows.map rowP) ≤ 2 ^ 20; omega)]
      rfl
    have := PyProof.Rows.shown_le13 hlay (show PyData.intsShort 13 (.list (rows.map rowP)) = true from h3)
    rw [sizeLine_eq]; omega
theorem nilR {ex : Exc → Prop} {env : List Sl} {d : D} {Q : D → Prop} (h : gRepr d Q) : aNil ex env fun xs => g1 gRepr (d :: xs) Q := h
/-- a row of b things below n -/
def RowIn (b n : Nat) (r : List Int) : Prop := r.length = b ∧ ∀ i ∈ r, 0 ≤ i ∧ i < (n : Int)
theorem atR_at {r : List Int} {i : Int} (h0 : 0 ≤ i) (h1 : i < r.length) : atI (r.map D.int) i = some (.int (atR r i)) := by
  obtain ⟨j, rfl⟩ := Int.eq_ofNat_of_zero_le h0; have hj : j < r.length := by omega
  refine atI_nat ?_
  rw [List.getElem?_map, List.getElem?_eq_getElem hj]
  simp [atR, List.getD_eq_getElem?_getD, List.getElem?_eq_getElem hj]
theorem d_and {ta tb : DT} {ex : Exc → Prop} {env : List Sl} {Q : D → Prop} {x y : Bool} (h1 : ∀ K : D → Prop, K (.bl x) → ta ex env K) (h2 : x = true → ∀ K : D → Prop, K (.bl y) → tb ex env K) (hq : Q (.bl (x && y))) : dAnd ta tb ex env Q := h1 _ ⟨x, rfl, by
  cases x with
  | true => exact h2 rfl _ hq
  | false => exact hq⟩
theorem cut_toN {xs : List D} {k : Nat} : cutD xs none (some (k : Int)) = xs.take k := by
  unfold cutD
  rw [show HT.sIx xs.length xs.length (some (k : Int)) = min k xs.length from HT.sIx_nat xs.length xs.length k, HT.sIx_none, List.drop_zero, Nat.sub_zero]
  by_cases h : k ≤ xs.length
  · rw [Nat.min_eq_left h]
  · rw [Nat.min_eq_right (by omega), List.take_of_length_le
        (Nat.le_refl _), List.take_of_length_le (by omega)]
theorem cut_fromN {xs : List D} {k : Nat} : cutD xs (some (k : Int)) none = xs.drop k := by
  unfold cutD
  rw [show HT.sIx xs.length 0 (some (k : Int)) = min k xs.length from HT.sIx_nat xs.length 0 k, HT.sIx_none]
  by_cases h : k ≤ xs.length
  · rw [Nat.min_eq_left h,
        List.take_of_length_le (by simp)]
  · rw [Nat.min_eq_right (by omega), List.drop_eq_nil_of_le (by omega), List.drop_eq_nil_of_le (by omega)]
    simp
theorem nilT {ex : Exc → Prop} {env : List Sl} {ds : List D} {Q : D → Prop} (h : Q (.tup ds)) : aNil ex env fun xs => g1 gTuple (.lst ds :: xs) Q := h
def idx (n : Nat) : List Int := (List.range n).map fun (i : Nat) => (i : Int)
theorem range_idx (n : Nat) : rangeD 0 n = (idx n).map D.int := by
  unfold rangeD idx
  rw [List.map_map]
  exact List.map_congr_left fun i _ => by show D.int (0 + (i : Int)) = D.int i; rw [Int.zero_add]
theorem idx_val {n : Nat} {i : Int} (h : i ∈ idx n) : 0 ≤ i ∧ i < n := by
  obtain ⟨k, hk, rfl⟩ := List.mem_map.mp h
  have := List.mem_range.mp hk
  omega
theorem idx_len (n : Nat) : (idx n).length = n := by simp [idx]
theorem atR_idx {n : Nat} {i : Int} (h0 : 0 ≤ i) (h1 : i < n) : atR (idx n) i = i := by
  obtain ⟨k, rfl⟩ := Int.eq_ofNat_of_zero_le h0
  unfold atR idx
  rw [Int.toNat_natCast, List.getD_eq_getElem?_getD, List.getElem?_map, List.getElem?_range (by omega)]
  rfl
theorem atR_map {r : List Int} {f : Int → Int} {i : Int} (h0 : 0 ≤ i) (h1 : i < r.length) : atR (r.map f) i = f (atR r i) := by
  obtain ⟨k, rfl⟩ := Int.eq_ofNat_of_zero_le h0
  have hk : k < r.length := by omega
  unfold atR
  rw [Int.toNat_natCast, List.getD_eq_getElem?_getD, List.getD_eq_getElem?_getD, List.getElem?_map, List.getElem?_eq_getElem hk]
  rfl
theorem eqv_row (a b : List Int) : PyData.eqv (rowP a) (rowP b) = (a == b) := eqvAll_int a b
theorem eqC {x c : D} {ex : Exc → Prop} {env : List Sl} {Q : D → Prop} (h : gEq x c Q) : dC c ex env fun y => gEq x y Q := h
theorem ixN_nat {k n : Nat} (h : k < n) : ixN n (k : Int) = some k := by
  unfold ixN
  rw [if_pos (by omega), if_pos (by omega), Int.toNat_natCast]
end
end Kn
set_option Elab.async false
set_option linter.all false
set_option maxRecDepth 100000
set_option maxHeartbeats 2100000
namespace Kn
open PySem PySem.Spec PyProof.Rows L2 RZ
end Kn
set_option Elab.async false
set_option linter.all false
set_option maxRecDepth 100000
set_option maxHeartbeats 2100000
namespace Kn
open PySem L2 RZ PyProof.Rows
theorem shaped_rowsL {rows : List (List Int)} (h : ∀ r ∈ rows, Small r) : SeqAt.shaped (.list (rows.map rowP)) = true := by
  obtain ⟨_, _, _, _, h5, h6⟩ := rows_facts h
  unfold SeqAt.shaped
  rw [show PyData.canLay0 (.list (rows.map rowP)) = PyData.canLayAll0 (rows.map rowP) from rfl, h5, Bool.true_and]
  exact decide_eq_true (by show PyData.depthAll (rows.map rowP) + 1 ≤ 64; omega)
theorem eq_rows0 {rows : List (List Int)} {Q : D → Prop} (h : ∀ r ∈ rows, Small r) (hq : Q (.bl (rows == []))) : gEq (.lst (rows.map rowD)) (.lst []) Q := by
  refine ⟨.list (rows.map rowP), .list [], by show (pdL (rows.map rowD)).map PyData.list = _; rw [pd_rows]; rfl, rfl, shaped_rowsL h, shaped_lst [], ?_⟩
  cases rows with
  | nil => exact hq
  | cons x r => exact hq
end Kn
set_option Elab.async false
set_option linter.all false
set_option maxRecDepth 100000
set_option maxHeartbeats 2100000
namespace Kn
open PySem L2 RZ
section
variable {G : Gd} {E : XK} {X : Cx} {σ : List (Option V)} {H H' : Hp} {k : Nat}
def PrsD (p : D → D → Prop) (ds es : List D) : Prop := ds.length = es.length ∧ ∀ (i : Nat) (d e : D), ds[i]? = some d → es[i]? = some e → p d e
/-- the own == of these says True -/
structure EqF (G : Gd) (P : Program) (w : World) (mg : Str → Option Value) (base : Heap) (j : Nat) (ok : Nat → List D → List D → Prop) : Prop where
  own : ∀ c ds es, ok c ds es → ∃ S, Fqn G P w mg base j c 0 S ∧ ∀ R ex, R (.bl true) → S [.ins c ds, .ins c es] R ex
/-- where a builtin stands that calls back -/
structure Fr (G : Gd) (E : XK) (B : Addr → Prop) (n : Nat) (ex : Exc → Prop) (H : Hp) : Prop where
  hu : ∀ p, Pr G.u p → B p.1 ∧ B p.2
  hB : ∀ a, B a → H a ≠ none
  good : Good G.u H n
  exc : ∀ x C d H', Ext G.u H H' → Good G.u H' n → ExcIs G B H' x C d → ex x → E C d H'
theorem Fr.next {B : Addr → Prop} {n : Nat} {ex : Exc → Prop} (F : Fr G E B n ex H) (e : Ext G.u H H') (g : Good G.u H' n) : Fr G E B n ex H' := by
  refine ⟨F.hu, fun a ha z => ?_, g, fun x C d H2 e2 => F.exc x C d H2 (e.trans e2)⟩
  rcases NU.em (u := G.u) (b := a) with nu | ⟨r, hr, rfl⟩
  · cases q : H a with
    | none => exact F.hB a ha q
    | some o => rw [e a o q nu] at z; cases z
  · obtain ⟨⟨o, h1⟩, _⟩ := g.there hr
    rw [h1] at z; cases z
theorem Fr.den {B : Addr → Prop} {n : Nat} {ex : Exc → Prop} (F : Fr G E B n ex H) (e : Ext G.u H H') {d : D} {v : V} (h : Den G B H d v) : Den G B H' d v := h.ext e fun p hp => (F.hu p hp).1
theorem EqF.or {P : Program} {w : World} {mg : Str → Option Value} {base : Heap} {j : Nat} {ok ok' : Nat → List D → List D → Prop} (a : EqF G P w mg base j ok) (b : EqF G P w mg base j ok') : EqF G P w mg base j (fun c ds es => ok c ds es ∨ ok' c ds es) :=
  ⟨fun c ds es o => o.elim (a.own c ds es) (b.own c ds es)⟩
theorem PrsD.nil {p : D → D → Prop} : PrsD p [] [] := ⟨rfl, fun i d e h => by simp at h⟩
theorem PrsD.cons {p : D → D → Prop} {d e : D} {ds es : List D} (h : p d e) (t : PrsD p ds es) : PrsD p (d :: ds) (e :: es) := by
  refine ⟨by rw [List.length_cons, List.length_cons, t.1], fun i a b h1 h2 => ?_⟩
  cases i with
  | zero => simp at h1 h2; subst h1; subst h2; exact h
  | succ i => simp at h1 h2; exact t.2 i a b h1 h2
end
end Kn
set_option Elab.async false
set_option linter.all false
set_option maxRecDepth 100000
set_option maxHeartbeats 2100000
namespace Kn
open PySem L2 RZ
end Kn
set_option Elab.async false
set_option linter.all false
set_option maxRecDepth 100000
set_option maxHeartbeats 2100000
namespace Kn
open PySem L2 RZ
end Kn
set_option Elab.async false
set_option linter.all false
set_option maxRecDepth 100000
set_option maxHeartbeats 3200000
namespace Kn
open PySem PySem.Spec PyProof.Rows L2 RZ
/-- a set as it is made -/
abbrev newSet (w : World) : Obj := { cls := .type "set", dict := none, data := .set #[] 0 (.fresh 0 0 (!w.params.followText "set-order")) }
section
variable {P : Program} {w : World} {A : Around}
      {E : Value → Shared → Prop} {s : Shared}
/-- set(x): the set is made, then filled by its own __init__ -/
theorem setof_call {x : Value} {Q : Value → Shared → Prop}
    (go : ∀ S, S = s.heap.objs.size → wpAny (model P w) A.in1.in1 (Builtin.«set.__init__» ⟨[.ref S, x], []⟩) (fun fin s' => match fin with
      | .done f => wants (fun r s2 => r = .none ∧ Q (.ref S) s2) E (.ok f) s'
      | .again c => c.quiet = true ∧ codeAny (model P w) A.in1 c (wants (fun r s2 => r = .none ∧ Q (.ref S) s2) E) s') (fun e s' => wants (fun r s2 => r = .none ∧ Q (.ref S) s2) E (.error e) s') { s with heap := s.heap.push (newSet w) }) :
    wpAny (model P w) A (call (.type "set") [x]) Q E s := by
  have at_ : (s.heap.push (newSet w)).get? s.heap.objs.size = some (newSet w) := Heap.get?_push_size _ rfl
  have ty : Shared.TypeIs { s with heap := s.heap.push (newSet w) } (.ref s.heap.objs.size) "set" := ⟨_, at_, rfl⟩
  have m := F.called_set.mro; have k1 := F.called_set.made; have k2 := F.called_set.sub; have k3 := F.called_set.notType; have k4 := F.called_set.canCreate; have k5 := F.typeCall_set_1 x
  have k6 := F.called_set.init.lookup; have k7 := F.called_set.init.bind (.ref s.heap.objs.size)
  obtain ⟨c, tl, m⟩ := m
  apply wpAny_call; apply codeAny_of_tree
  show wpAny _ _ (callAny (.type "set") _) _ _ _; refine wpAny_pure ⟨Code.quiet_builtin _ (by decide +kernel), ?_⟩
  apply codeAny_builtin F.entry_type_call
  rw [Around.under_plain (weight_type_call_type "set" [x] []) rfl]
  repeat (any_goals (first
        | assumption | wp_step))
  refine codeAny_mono (code_set_led1 x (E := E) (Q₁ := fun obj s1 => obj = .ref s.heap.objs.size ∧ s1 = { s with heap := s.heap.push (newSet w) }) ⟨rfl, rfl⟩) ?_
  rintro (e | f) s1 hr
  · exact hr
  · cases f <;> first | exact hr.elim | skip
    obtain ⟨rfl, rfl⟩ := hr
    repeat (any_goals (first
          | assumption | wp_step))
    refine codeAny_mono (codeAny_call_builtin F.called_set.init.plain F.entry_set_init (check_set_init_1 ty (go _ rfl))) ?_
    rintro (e | f) s2 hr
    · exact hr
    · cases f <;> first | exact hr.elim | skip
      obtain ⟨rfl, hq⟩ := hr
      repeat (any_goals (first
            | assumption | wp_step))
/-- set(l), l a list: the loop over its items is asked for -/
theorem setof_list {l : Addr} {items : Array Value} {Q : Value → Shared → Prop} (hh : A.handled = none) (hl : s.heap.IsList l items)
    (go : ∀ (S I : Addr) (s3 : Shared) (R : Result → Shared → Prop), S = s.heap.objs.size → S ∉ [I, l] → (∀ b o, s.heap.get? b = some o → s3.heap.get? b = some o ∧ b ∉ [S, I]) → s.heap.get? S = none → s.heap.get? I = none → s3.heap.get? S = some (newSet w) →
      WalksS P w A.in1.in1.in1 I [I, l] [I] (fun a b => b = a) items.size (fun i v => items[i]? = some v) (fun i s' => s'.heap.IsListIter I l i ∧ s'.heap.IsList l items) → s3.heap.IsListIter I l 0 ∧ s3.heap.IsList l items →
      (∀ s', Moved [S, I] (fun a b => b = a) s3 s' → Q (.ref S) { s with heap := s'.heap, toks := s'.toks } → R (.ok (.ret .none)) s') → codeAny (model P w) A.in1.in1 (.builtin "set.update.loop" ⟨[.ref S, .ref I], []⟩) R s3) :
    wpAny (model P w) A (call (.type
          "set") [.ref l]) Q E s := by
  have fresh : ∀ b, s.heap.objs.size ≤ b → s.heap.get? b = none := fun b hb => Option.eq_none_iff_forall_ne_some.mpr fun o e => Nat.not_lt.mpr hb (Heap.lt_size e)
  have lt : l < s.heap.objs.size := by
    obtain ⟨o, e, -⟩ := hl
    exact Heap.lt_size e
  refine setof_call fun S eS => ?_
  subst eS
  have made : (s.heap.push (newSet w)).get? s.heap.objs.size = some (newSet w) := Heap.get?_push_size _ rfl
  obtain ⟨⟨_, dd, dt, sl⟩, there, ec, nl, ed⟩ := hl
  simp only at ec ed
  subst ec ed
  have there2 : (s.heap.push (newSet w)).get? l = some { cls := .type "list", dict := dd, data := .seq items nl, slots := sl } := Heap.get?_push_of_some _ there
  have isL : (s.heap.push (newSet w)).IsList l items := ⟨_, there2, rfl, nl, rfl⟩
  have q1 := F.sub_list_set; have q2 := F.sub_list_frozenset
  have q3 : (Value.type "list" == Value.type "dict") = false := by decide
  unfold Builtin.«set.__init__» noKeywords Builtin.Frozenset.updateFrom; generalize pi : pyIter = it
  wp_walk
  subst pi
  refine wpAny_pyIter_list isL (wpAny_bind (wpAny_runValue ?_))
  have size : (s.heap.push (newSet w)).objs.size = s.heap.objs.size + 1 := Heap.size_push ..
  have nl1 : l ≠ (s.heap.push (newSet w)).objs.size := by rw [size]; exact Nat.ne_of_lt (Nat.lt_succ_of_lt lt)
  have off : s.heap.objs.size ∉ [(s.heap.push (newSet w)).objs.size, l] := by
    rw [size, List.mem_cons, List.mem_singleton]
    exact not_or.mpr ⟨Nat.ne_of_lt (Nat.lt_succ_self _), Nat.ne_of_gt lt⟩
  refine go _ _ _ _ rfl off ?_ (fresh _ (Nat.le_refl _)) (fresh _ (by rw [size]; exact Nat.le_succ _)) (Heap.get?_push_of_some _ made) ((Walks.list (w := w) (prog := P) (A := A.in1.in1.in1) (by simp [hh]) _ l nl1 items).toS) ⟨⟨_, Heap.get?_push_size _ rfl, rfl, rfl⟩, isL.push _⟩ ?_
  · intro b o e
    have small := Heap.lt_size e
    refine ⟨Heap.get?_push_of_some _ (Heap.get?_push_of_some _ e), ?_⟩
    rw [size, List.mem_cons, List.mem_singleton]
    exact not_or.mpr ⟨Nat.ne_of_lt small, Nat.ne_of_lt (Nat.lt_succ_of_lt small)⟩
  · intro s' mv z
    have e : s' = { s with heap := s'.heap, toks := s'.toks } := mv.eq_with
    rw [← e] at z
    exact wpAny_pure (wpAny_pure ⟨rfl, z⟩)
end
end Kn
set_option Elab.async false
set_option linter.all false
set_option maxRecDepth 100000
set_option maxHeartbeats 2100000
namespace Kn
open PySem PySem.Spec PyProof.Rows L2 RZ
end Kn
set_option Elab.async false
set_option linter.all false
set_option maxRecDepth 100000
set_option maxHeartbeats 2100000
namespace Kn
open PySem L2 RZ
open PyProof.Rows (envOfC)
end Kn
set_option Elab.async false
set_option linter.all false
set_option maxRecDepth 100000
set_option maxHeartbeats 2100000
namespace Kn
open PySem PySem.Spec PyProof.Rows L2 RZ
/-- the order of tuples of ints -/
def lexL : List Int → List Int → Bool
  | [], [] => false
  | [], _ :: _ => true
  | _ :: _, [] => false
  | x :: xs, y :: ys => if x = y then lexL xs ys else decide (x < y)
theorem lexL_asym : ∀ x y : List Int, lexL x y = true → lexL y x = false
  | [], [], h => by cases h
  | [], _ :: _, _ => rfl
  | _ :: _, [], h => by cases h
  | x :: xs, y :: ys, h => by
    unfold lexL at h ⊢
    by_cases e : x = y
    · subst e
      rw [if_pos rfl] at h ⊢
      exact lexL_asym xs ys h
    · rw [if_neg e] at h
      rw [if_neg fun z => e z.symm]
      have := of_decide_eq_true h; exact decide_eq_false (by omega)
theorem lexL_tr : ∀ x y z : List Int, lexL y x = false → lexL z y = false → lexL z x = false
  | [], [], [], _, _ => rfl
  | [], [], _ :: _, _, _ => rfl
  | [], _ :: _, [], _, h => by cases h
  | [], _ :: _, _ :: _, _, _ =>
        rfl
  | _ :: _, [], _, h, _ =>
        by cases h
  | _ :: _, _ :: _, [], _, h => by cases h
  | x :: xs, y :: ys, z :: zs, h1, h2 =>
        by
    unfold lexL at h1 h2 ⊢
    by_cases a : y = x
    · subst a
      rw [if_pos rfl] at h1
      by_cases b : z = y
      · subst b
        rw [if_pos rfl] at h2 ⊢
        exact lexL_tr xs ys zs h1 h2
      · rw [if_neg b] at h2 ⊢
        exact h2
    · rw [if_neg a] at h1
      have a1 := of_decide_eq_false h1
      by_cases b : z = y
      · subst b
        rw [if_neg a]
        exact h1
      · rw [if_neg b] at h2
        have b1 := of_decide_eq_false h2
        rw [if_neg (show ¬ z = x by omega)]
        exact decide_eq_false
              (by omega)
theorem swo_lexL (k : Value → List Int) : SrtO.Swo fun v u => lexL (k v) (k u) := ⟨fun x y => lexL_asym _ _, fun x y z => lexL_tr _ _ _⟩
/-- a tuple of these ints stands at v -/
def TupV (h : Heap) (v : Value) (ns : List Int) : Prop := ∃ a o its n, v = .ref a ∧ h.get? a = some o ∧ o.cls = .type "tuple" ∧ o.data = .seq (List.toArray its) n ∧ IntsAre its ns
theorem TupV.keeps {h h' : Heap} {v : Value} {ns : List Int} (x : TupV h v ns) (k : ∀ b o, h.get? b = some o → o.cls = .type "tuple" → h'.get? b = some o) : TupV h' v ns := by
  obtain ⟨a, o, its, n, e, ho, hc, r⟩ := x
  exact ⟨a, o, its, n, e, k _ _ ho hc, hc, r⟩
section
variable {prog : Program} {w : World} {A :
      Around} {E : Value → Shared → Prop} {s : Shared}
theorem lex_ints {b : Bool} {Q : Bool → Shared → Prop} : ∀ {xs ys : List Int} {us vs : List Value} {i : Nat}, IntsAre us xs → IntsAre vs ys → xs.length = ys.length → Q (lexL xs ys) s → PySem.W.KatLex prog w A b false Q (us.zip vs) i s := by
  intro xs ys us vs i hu hv
  induction hu generalizing ys vs i with
  | nil =>
    intro hl hq
    cases hv with
    | nil => exact PySem.W.kat_nil hq
    | cons n t r => cases hl
  | cons x t ru ih =>
    intro hl hq
    cases hv with
    | nil => cases hl
    | cons y t' rv =>
      refine PySem.W.kat_cons (SeqAt.EqAt.int_int x t y t' prog w _ _ ?_); refine PySem.W.kat_go (fun e1 => ?_) (fun e1 => ?_)
      · have ex : x = y := by simpa using e1
        subst ex
        refine PySem.W.kat_yes (ih rv (by simpa using hl) ?_)
        unfold lexL at hq
        rw [if_pos rfl] at hq
        exact hq
      · have ex : ¬ x = y := by simpa using e1
        unfold lexL at hq
        rw [if_neg ex] at hq
        exact PySem.W.kat_no (TS.oneLt_ints _ hq)
theorem tups_cmp {vs : List Value} {k : Value → List Int} {d : Nat} (hp : ∀ v ∈ vs, TupV s.heap v (k v) ∧ (k v).length = d) : SrtO.Cmp prog w A s (tuples' true) (fun p => p.1 ∈ vs) (SrtO.lt2 fun v u => lexL (k v) (k u)) := by
  intro p q hm hm'
  obtain ⟨h1, l1⟩ := hp _ hm
  obtain ⟨h2, l2⟩ := hp _ hm'
  show wpAny (model prog w) A (keyLt' (tuples' true) p.1 q.1) (fun r s' => s' = s ∧ r = lexL (k p.1) (k q.1)) (fun _ _ => False) s
  generalize k p.1 = x at h1 l1 ⊢
  generalize k q.1 = y at h2 l2 ⊢
  obtain ⟨a, o, its, n, e, ho, hc, hd, hi⟩ := h1
  obtain ⟨a', o', its', n', e', ho', hc', hd', hi'⟩ := h2
  rw [e, e']
  refine PySem.W.kat_lt ho hd ho' hd' ?_; have s1 : its.toArray.size = d := by rw [List.size_toArray, hi.length, l1]
  have s2 : its'.toArray.size = d := by rw [List.size_toArray, hi'.length, l2]
  rw [s1, s2, decide_eq_false (Nat.lt_irrefl d)]
  exact lex_ints hi hi' (by rw [l1, l2]) ⟨rfl, rfl⟩
theorem tup_firsts {h : Heap} {k : Value → List Int} {d : Nat} (hd : 1 ≤ d) : ∀ {vs : List Value}, (∀ v ∈ vs, TupV h v (k v) ∧ (k v).length = d) → ∃ fs : List Value, PySem.W.KatTups h vs fs ∧ fs.length = vs.length ∧ ∀ f ∈ fs, ∃ x t, f = Value.int x t
  | [], _ => ⟨[], PySem.W.KatTups.nil, rfl, nofun⟩
  | v :: vs, x => by
    obtain ⟨fs, f1, f2, f3⟩ := tup_firsts hd fun u hu => x u (List.mem_cons_of_mem _ hu)
    obtain ⟨⟨a, o, its, n, rfl, ho, hc, hdt, hi⟩, hl⟩ := x v List.mem_cons_self
    rw [← hl] at hd
    generalize k (.ref a) = ns at hi hd
    cases hi with
    | nil => simp at hd
    | cons i t r =>
      refine ⟨.int i t :: fs, PySem.W.KatTups.cons ho hc hdt (by simp) f1, by rw [List.length_cons, List.length_cons, f2], fun f hf => ?_⟩
      rcases List.mem_cons.mp
            hf with rfl | hf
      · exact ⟨i, t, rfl⟩
      · exact f3 f hf
theorem tups_sortable {a : Addr} {vs : List Value} {k : Value → List Int} {d : Nat} (hd : 1 ≤ d) (h0 : 0 < vs.length) (hp : ∀ v ∈ vs, TupV s.heap v (k v) ∧ (k v).length = d) (ha : ∀ o, s.heap.get? a = some o → o.cls ≠ .type "tuple") : SrtO.SortableO prog w A s a vs fun v u => lexL (k v) (k u) := by
  intro h' keep
  have hp' : ∀ v ∈ vs, TupV h' v (k v) ∧ (k v).length = d := fun v hm => ⟨(hp v hm).1.keeps fun b o e c => keep b o (fun z => by subst z; exact ha o e c) e, (hp v hm).2⟩
  obtain ⟨fs, h1, h2, h3⟩ := tup_firsts hd hp'
  refine ⟨tuples' true, fun Q E hq => ?_, tups_cmp hp'⟩
  refine PySem.W.kat_kind (T := .type "int")
        h1 (by omega) (fun f hm => ?_) (by rfl) ?_
  · obtain ⟨x, t,
        rfl⟩ := h3 f hm
    exact PySem.W.Looks.now
  · have e : (Value.type "int" != Value.type "tuple") = true := by decide
    rw [e]
    exact hq
theorem sorted_tups {l : Addr} {vs : List Value} {k : Value → List Int} {d : Nat} {Q : Value → Shared → Prop} (hd : 1 ≤ d) (hl : s.heap.IsList l vs.toArray) (hz : vs.length ≤ sizeLine) (hp : ∀ v ∈ vs, TupV s.heap v (k v) ∧ (k v).length = d)
    (h : ∀ (h' : Heap) (r : Addr) (out : List Value), SrtO.Srtd (fun v u => lexL (k v) (k u)) out → SrtO.Stb (fun v u => lexL (k v) (k u)) out vs → (∀ b o, s.heap.get? b = some o → h'.get? b = some o) → s.heap.objs.size ≤ r → (∃ n, h'.get? r = some (seqObj "list" out.toArray n)) → Q (.ref r) { s with heap := h' }) :
    wpAny (model prog w) A (call (.builtin
          "sorted") [.ref l]) Q E s := by
  refine SrtO.sorted_ord (swo_lexL k) hl hz (fun h2 h₁ a ha kk => ?_) fun out hs hb => ?_
  · refine tups_sortable (s := { s with heap := h₁ }) hd (by omega) (fun v hm => ⟨(hp v hm).1.keeps fun b o e _ => (kk b o e).2, (hp v hm).2⟩) fun o e c => ?_
    obtain rfl : seqObj "list" vs.toArray 0 = o := Option.some.inj (ha.symm.trans e); exact absurd (Value.type.inj c) (by decide)
  · exact h _ _ out hs hb (fun b o e => sortedAll_old e)
        (Nat.le_succ _) (sortedAll_at s.heap vs out.toArray)
end
end Kn
set_option Elab.async false
set_option linter.all false
set_option maxRecDepth 100000
set_option maxHeartbeats 2100000
namespace Kn
open PySem PySem.Spec PyProof.Rows L2 RZ
section
variable {X : Cx}
def addrV : V → Addr | .ref a => a | _ => 0
def rSortTL (K : PySem.W.Frag) : List V → Hp → VK → Prop := fun vs H Q => ∃ (a : Addr) (ks : List (Addr × List Int)) (d : Nat), vs = [V.ref a] ∧ SqL K H a (ks.map fun p => V.ref p.1) ∧ 1 ≤ d ∧ (∀ p ∈ ks, SqT K H p.1 (p.2.map V.int) ∧ p.2.length = d) ∧
  ∀ (ls : List (Addr × List Int)) (p : Addr), ls.Perm ks → ls.Pairwise (fun x y => lexL y.2 x.2 = false) → H p = none → Q (.ref p) (upd H p (.lst (ls.map fun p => V.ref p.1)))
theorem ints_eq {a b : List Int} (h : a.map V.int = b.map V.int) : a = b := by
  have := congrArg (List.map fun v => match v with | V.int i => i | _ => 0) h
  rw [List.map_map, List.map_map] at this
  have e : ∀ l : List Int, l.map ((fun v => match v with | V.int i => i | _ => 0) ∘ V.int) = l := fun l => (List.map_congr_left fun i _ => rfl).trans (List.map_id l)
  rwa [e, e] at this
theorem cr_sortTL : CallR X (.builtin "sorted") (rSortTL X.K) := by
  classical
  intro pins s σ H vs us Q I r h; obtain ⟨a, ks, d, rfl, hs, hd, hx, q⟩ := h
  obtain ⟨its, rv, hl, hz⟩ := I.list hs; obtain ⟨u, rfl, ru⟩ := vals1 r
  obtain rfl : u = Value.ref a := ru; obtain ⟨e1, e2⟩ := refs_back rv fun x m => by
    obtain ⟨p, _, e⟩ := List.mem_map.mp m
    exact ⟨p.1, e.symm⟩
  let k : V → List Int := fun x => if h : ∃ ns : List Int, SqT X.K H (addrV x) (ns.map V.int) then h.choose else []
  have kEq : ∀ p ∈ ks, k (.ref p.1) = p.2 := fun p hp => by
    have ex : ∃ ns : List Int, SqT X.K H (addrV (.ref p.1)) (ns.map V.int) := ⟨p.2, (hx p hp).1⟩
    show (if h : ∃ ns : List Int, SqT X.K H (addrV (.ref p.1)) (ns.map V.int) then h.choose else []) = p.2
    rw [dif_pos ex]
    exact ints_eq (I.tuple_inj ex.choose_spec (hx p hp).1)
  have zOf : (ks.map fun p => V.ref p.1).map (fun x => (addrV x, k x)) = ks := by
    rw [List.map_map]
    refine Eq.trans (List.map_congr_left fun p hp => ?_) (List.map_id ks)
    show (p.1, k (.ref p.1)) = p
    rw [kEq p hp]
  refine sorted_tups (k := fun u => k (backV u)) hd hl.isList (by rw [← rv.length]; exact hz) (fun v hv => ?_) fun h' r out h1 h2 kp hr hn => ?_
  · obtain ⟨t, rfl⟩ := e2 v hv
    have hm : V.ref t ∈ ks.map fun p => V.ref p.1 := by rw [e1]; exact List.mem_map.mpr ⟨_, hv, rfl⟩
    obtain ⟨p, hp, e⟩ := List.mem_map.mp hm; have et : p.1 = t := by cases e; rfl
    obtain ⟨ht, hlen⟩ := hx p hp
    have ek : k (backV (.ref t)) = p.2 := by rw [← et]; exact kEq p hp
    rw [et] at ht
    obtain ⟨its2, r2, ⟨o, ho, hc, n, hdt⟩, _⟩ := I.tuple ht
    show TupV s.heap (.ref t) (k (backV (.ref t))) ∧ (k (backV (.ref t))).length = d
    rw [ek]
    exact ⟨⟨t, o, its2, n, rfl, ho, hc, hdt, r2.ints⟩, hlen⟩
  · have h3 : ∀ u ∈ out, ∃ a, u = Value.ref a
        := fun u hu => e2 u (h2.perm.mem_iff.mp hu)
    obtain ⟨n, hn⟩ := hn
    have pm : (out.map backV).Perm (ks.map fun p => V.ref p.1) := by rw [e1]; exact h2.perm.map _
    have back : ((out.map backV).map (fun x => (addrV x, k x))).map (fun p => V.ref p.1) = out.map backV := by
      rw [List.map_map]
      refine Eq.trans (List.map_congr_left fun x hx' => ?_) (List.map_id _)
      obtain ⟨v, hv, rfl⟩ := List.mem_map.mp hx'
      obtain ⟨t, rfl⟩ := h3 v hv
      rfl
    have lenO : (out.map backV).length = ks.length := by rw [pm.length_eq, List.length_map]
    have z := q ((out.map backV).map (fun x => (addrV x, k x))) r (by have := pm.map (fun x => (addrV x, k x)); rwa [zOf] at this) ?_ (I.hok.fresh hr)
    · rw [back] at z
      refine ⟨.ref r, upd H r (.lst (out.map backV)), I.laid (t' := s.toks) kp hr ⟨?_, out, n, vals_back h3, hn⟩, rfl, z⟩
      rw [lenO, ← List.length_map (f := fun p : Addr × List Int => V.ref p.1)]
      exact hz
    · rw [List.map_map]
      refine List.pairwise_map.mpr (h1.imp fun {x y} hxy => ?_)
      exact hxy
end
end Kn
set_option Elab.async false
set_option linter.all false
set_option maxRecDepth 100000
set_option maxHeartbeats 2100000
namespace Kn
open PySem L2 RZ
section
variable {G : Gd} {X : Cx} {B : Addr → Prop} {H : Hp}
theorem rows_ks : ∀ {rs : List (List Int)} {ys : List V}, DenL G B H (rs.map rowD) ys → ∃ ks : List (Addr × List Int), ys = ks.map (fun p => V.ref p.1) ∧ ks.map (·.2) = rs ∧ ∀ p ∈ ks, SqT G.K H p.1 (p.2.map V.int) ∧ Den G B H (rowD p.2) (.ref p.1)
  | [], ys, h => by
    cases (show ys = [] from h)
    exact ⟨[], rfl, rfl, nofun⟩
  | r :: rs, ys, ⟨x, zs, e, h1, h2⟩ => by
    obtain ⟨ks, e1, e2, e3⟩ := rows_ks h2
    have h0 := h1
    obtain ⟨a, xs, rfl, na, ha, la, da⟩ := h1
    rw [DenL.ints da] at ha
    refine ⟨(a, r) :: ks, by rw [e, e1]; rfl, by rw [List.map_cons, e2], fun p hp => ?_⟩
    rcases List.mem_cons.mp
          hp with rfl | hp
    · exact ⟨ha, h0⟩
    · exact e3 p hp
theorem denL_ks {H' : Hp} : ∀ {ls : List (Addr × List Int)}, (∀ p ∈ ls, Den G B H' (rowD p.2) (.ref p.1)) → DenL G B H' ((ls.map (·.2)).map rowD) (ls.map fun p => V.ref p.1)
  | [], _ => rfl
  | p :: ls, h => ⟨_, _, rfl, h p List.mem_cons_self, denL_ks fun q hq => h q (List.mem_cons_of_mem _ hq)⟩
/-- sorted of a list of rows of one length -/
def gSortR : D → (D → Prop) → Prop := fun d Q => ∃ (rs : List (List Int)) (n : Nat), d = .lst (rs.map rowD) ∧ 1 ≤ n ∧ (∀ r ∈ rs, r.length = n) ∧ ∀ out : List (List Int), out.Perm rs → out.Pairwise (fun x y => lexL y x = false) → Q (.lst (out.map rowD))
theorem c_sortR (hK : X.K = G.K) : CallR X (.builtin "sorted") (rDL G (g1 gSortR)) := callr_imp cr_sortTL fun xs H Q' h => by
  obtain ⟨B, d, x, Q, rfl, hd, hf, ⟨rs, n, rfl, hn, hl, hq⟩, kk⟩ := rDL1 h
  obtain ⟨a, ys, rfl, na, ha, la, da⟩ := hd
  obtain ⟨ks, rfl, e2, e3⟩ := rows_ks da
  refine ⟨a, ks, n, rfl, SqL.of ha, hn, fun p hp => ⟨by rw [hK]; exact (e3 p hp).1, hl _ (by rw [← e2]; exact List.mem_map.mpr ⟨p, hp, rfl⟩)⟩, fun ls p hperm hs hp => ?_⟩
  have hlen : (ls.map fun p => V.ref p.1).length ≤ sizeLine := by
    rw [List.length_map, hperm.length_eq]
    rw [List.length_map] at la
    exact la
  refine kk _ _ (.lst ((ls.map (·.2)).map rowD)) (Ext.new hp) (den_lst hp (hf p hp) hlen (denL_ks fun q hq => (e3 q (hperm.mem_iff.mp hq)).2)) (hq _ ?_ ?_)
  · rw [← e2]
    exact hperm.map _
  · exact List.pairwise_map.mpr hs
end
end Kn
set_option Elab.async false
set_option linter.all false
set_option maxRecDepth 100000
set_option maxHeartbeats 2100000
namespace Kn
open PySem PySem.Spec PyProof.Rows L2 RZ
abbrev tkd (P : Program) (w : World) : HeapKind P w (List Int) := tupleKind (intKind P w)
/-- what a dict of rows holds at a row -/
def atL (L : List (List Int × Addr × V)) (r : List Int) : Option V := (L.find? fun x => decide (x.1 = r)).map (·.2.2)
def putIn (r : List Int) (v : V) (x : List Int × Addr × V) : List Int × Addr × V := if x.1 = r then (x.1, x.2.1, v) else x
def putL (L : List (List Int × Addr × V)) (r : List Int) (b : Addr) (v : V) : List (List Int × Addr × V) := if (atL L r).isSome then L.map (putIn r v) else L ++ [(r, b, v)]
abbrev LX : List (List Int × Addr × V) → List (List Int × Addr × Value) → Prop := Paired fun p q => p.1 = q.1 ∧ p.2.1 = q.2.1 ∧ RelV p.2.2 q.2.2
theorem lx_keys : ∀ {L : List (List Int × Addr × V)} {xs : List (List Int × Addr × Value)}, LX L xs → xs.map (·.1) = L.map (·.1)
  | [], _, .nil => rfl
  | _ :: _, _, .cons h t => by rw [List.map_cons, List.map_cons, lx_keys t, h.1]
theorem lx_at : ∀ {L : List (List Int × Addr × V)} {xs : List (List Int × Addr × Value)}, LX L xs → ∀ r, RelO (atL L r) ((atKey xs r).map (·.2))
  | [], _, .nil, r => trivial
  | p :: L, _, @Paired.cons _ _ _ _ q _ xs h t, r => by
    unfold atL atKey
    rw [List.find?_cons, List.find?_cons, h.1]
    by_cases e : q.1 = r
    · rw [decide_eq_true e]
      exact h.2.2
    · rw [decide_eq_false e]
      exact lx_at t r
theorem relO_some {o : Option V} {u : Option Value} (h : RelO o u) : o.isSome = u.isSome := by
  cases o <;> cases u <;> first | rfl | cases h
theorem lx_mem : ∀ {L : List (List Int × Addr × V)} {xs : List (List Int × Addr × Value)}, LX L xs → ∀ x ∈ xs, ∃ p ∈ L, p.1 = x.1 ∧ p.2.1 = x.2.1
  | [], _, .nil, _, hx => nomatch hx
  | p :: L, _, .cons h t, x, hx => by
    rcases List.mem_cons.mp
          hx with rfl | hx
    · exact ⟨p, List.mem_cons_self, h.1, h.2.1⟩
    · obtain ⟨p', hp, e⟩ := lx_mem t x hx
      exact ⟨p', List.mem_cons_of_mem _ hp, e⟩
theorem lx_repl (r : List Int) {v : V} {u : Value} (hv : RelV v u) : ∀ {L : List (List Int × Addr × V)} {xs : List (List Int × Addr × Value)}, LX L xs → LX (L.map (putIn r v)) (xs.map (putAt r u))
  | [], _, .nil => .nil
  | p :: L, _, @Paired.cons _ _ _ _ q _ xs h t => by
    rw [List.map_cons, List.map_cons]; refine .cons ?_ (lx_repl r hv t)
    unfold putIn putAt
    by_cases e : p.1 = r
    · rw [if_pos e, if_pos (h.1 ▸ e)]; exact ⟨h.1, h.2.1, hv⟩
    · rw [if_neg e, if_neg (h.1 ▸ e)]; exact h
theorem lx_put {L : List (List Int × Addr × V)} {xs : List (List Int × Addr × Value)} (h : LX L xs) (r : List Int) (b : Addr) {v : V} {u : Value} (hv : RelV v u) : LX (putL L r b v) (storedH xs r b u) := by
  have e : (atL L r).isSome = (atKey xs r).isSome := by rw [relO_some (lx_at h r), Option.isSome_map]
  unfold putL storedH
  rw [e]
  split
  · exact lx_repl r hv h
  · exact Paired.snoc h ⟨rfl, rfl, hv⟩
theorem putIn_keys (L : List (List Int × Addr × V)) (r : List Int) (v : V) : (L.map (putIn r v)).map (·.1) = L.map (·.1) := by
  rw [List.map_map]
  refine List.map_congr_left fun x _ => ?_; show (putIn r v x).1 = x.1
  unfold putIn
  split <;> rfl
theorem putL_len (L : List (List Int × Addr × V)) (r : List Int) (b : Addr) (v : V) : (putL L r b v).length ≤ L.length + 1 := by
  unfold putL
  split
  · rw [List.length_map]; omega
  · rw [List.length_append];
        simp
/-- the keys stand as tuples of ints -/
def KeysS (K : PySem.W.Frag) (H : Hp) (L : List (List Int × Addr × V)) : Prop := ∀ p ∈ L, SqT K H p.2.1 (p.1.map V.int)
section
variable {X : Cx} {pins : List (Addr × Obj)} {σ : List (Option V)} {H : Hp} {s : Shared} {a b : Addr} {L : List (List Int × Addr × V)} {r : List Int} {A : Around} {E : Value → Shared → Prop}
theorem dic_rd (I : Inv X pins σ H s) (e : H a = some (DicO a L)) (hk : KeysS X.K H L) : (a == sysModules) = false ∧ L.length ≤ sizeLine ∧ (L.map (·.1)).Nodup ∧ ∃ xs, LX L xs ∧ s.heap.DictOfH (tkd X.prog X.w) a xs := by
  have c : DicAt s.heap a L := (I.hok a _ e).1
  obtain ⟨xs, o, es, ep, hx, ho, hd, hdat, he⟩ := c.ex
  refine ⟨c.low, c.few, c.nd, xs, hx, o, es, ep, ho, hd, hdat, he, fun x hxm => ?_, by rw [lx_keys hx]; exact c.nd⟩
  obtain ⟨p, hp, e1, e2⟩ := lx_mem hx x hxm
  rw [← e1, ← e2]
  exact I.isT (hk p hp)
theorem dicO_new {P : Program} {w : World} {H : Hp} {h : Heap} (c : DicAt h a L) : ObjOk P w H h a (DicO a L) := by
  obtain ⟨xs, o, es, ep, hx, ho, r⟩ := c.ex
  refine ⟨c, ⟨o, ho⟩, fun h1 h2 p k => ?_⟩
  have p' : DicAt h1 a L := p
  obtain ⟨xs', o', es', ep', hx', ho', r'⟩ := p'.ex
  exact ⟨p'.low, p'.few, p'.nd, xs', o', es', ep', hx', k o' ho', r'⟩
theorem dicAt_of {P : Program} {w : World} {h : Heap} {xs : List (List Int × Addr × Value)} (lo : (a == sysModules) = false) (few : L.length ≤ sizeLine) (hx : LX L xs) (hd : h.DictOfH (tkd P w) a xs) : DicAt h a L := by
  obtain ⟨o, es, ep, ho, h1, h2, h3, _, h5⟩ := hd
  exact ⟨lo, few, by rw [← lx_keys hx]; exact h5, xs, o, es, ep, hx, ho, h1, h2, h3⟩
theorem dic_notIn {Q : Value → Shared → Prop} (hu : A.units + 1 < cLine) (I : Inv X pins σ H s) (e : H a = some (DicO a L)) (hk : KeysS X.K H L) (hb : SqT X.K H b (r.map V.int)) (h : ∀ s', Inv X pins σ H s' → Q (.bool (!(atL L r).isSome)) s') :
    wpAny (model X.prog X.w) A (compareOp .NotIn (.ref b) (.ref a)) Q E s := by
  obtain ⟨z, _, _, xs, hx, dd⟩ := dic_rd I e hk
  refine wpAny_notIn_heap (tupleKind_room_in1 hu) (I.isT hb) z dd ?_
  have q := relO_some (lx_at hx r)
  rw [Option.isSome_map] at q
  rw [← q]
  exact h _ (I.tok _)
/-- d[r] = v -/
theorem dic_put {v : V} {u : Value} {Q : Unit → Shared → Prop} (hu : A.units + 1 < cLine) (I : Inv X pins σ H s) (e : H a = some (DicO a L)) (hk : KeysS X.K H L) (hb : SqT X.K H b (r.map V.int)) (hl : L.length < sizeLine) (rv : RelV v u)
    (h : ∀ s', Inv X pins σ (upd H a (DicO a (putL L r b v))) s' → Q () s') : wpAny (model X.prog X.w) A (setItem (.ref a) (.ref b) u) Q E s := by
  obtain ⟨z, few, _, xs, hx, dd⟩ := dic_rd I e hk
  have hz : xs.length ≤ sizeLine := by rw [← Paired.length hx]; exact few
  refine wpAny_setItem_heap (hsz := hz) (tupleKind_room_in1 hu) (I.isT hb) dd fun h' dd' hs => h _ ?_
  have c : DicAt h' a (putL L r b v) := dicAt_of z (by have := putL_len L r b v; omega) (lx_put hx r b rv) dd'
  obtain ⟨q, _, _, hq, _⟩ := dd'
  exact d_write I (by rw [e]; exact True.intro) hs ⟨q, hq⟩ (dicO_new c)
/-- {} -/
theorem dic_empty (h : Heap) (hb : sysModules < h.objs.size) : DicAt (h.push { cls := .type "dict", data := .dict #[] }) h.objs.size [] :=
  ⟨beq_eq_false_iff_ne.mpr (Ne.symm (Nat.ne_of_lt hb)), Nat.zero_le _, List.nodup_nil, [], _, #[], 0, .nil, Heap.get?_push_size _ rfl, ⟨rfl, rfl, rfl⟩, rfl, rfl⟩
end
section
variable {X : Cx} {o i e value : Expr}
      {pos pos' tpos : Pos} {td ty tv : TE}
/-- y in d -/
def rLIn (K : PySem.W.Frag) (neg : Bool) : V → V → Hp → VK → Prop := fun y x H Q => ∃ a L b r, x = .ref a ∧ y = .ref b ∧ H a = some (DicO a L) ∧ KeysS K H L ∧ SqT K H b (r.map V.int) ∧ Q (.bl (if neg then !(atL L r).isSome else (atL L r).isSome)) H
theorem or_lnotin (hu : X.A.units + 1 < cLine) : OpR X (compareOp .NotIn) (rLIn X.K true) := by
  intro pins s σ H x y v u Q I rx ry h; obtain ⟨a, L, b, r, rfl, rfl, hd, hk, hb, q⟩ := h
  cases rx; cases ry
  exact dic_notIn hu I hd hk hb fun s' I' => ⟨.bl (!(atL L r).isSome), H, I', rfl, q⟩
/-- d[y] = v -/
def sLPut (K : PySem.W.Frag) (td ty tv : TE) : TS := fun D σ H => tv σ H fun v H1 => td σ H1 fun x H2 => ty σ H2 fun y H3 => ∃ a L b r, x = .ref a ∧ y = .ref b ∧ H3 a = some (DicO a L) ∧ KeysS K H3 L ∧ SqT K H3 b (r.map V.int) ∧ L.length < sizeLine ∧ D.nx σ (upd H3 a (DicO a (putL L r b v)))
theorem ps_lput (hu : X.A.units + 1 < cLine) (ho : PE X o td) (hi : PE X i ty) (hv : PE X value tv) (hs : swapsWith value (some (.Subscript o i pos')) pos.line X.env = pure false) :
    PS X (.Assign [.Subscript o i pos'] value pos) (sLPut X.K td ty tv) := by
  refine ⟨fun pins s σ H D I h => ?_⟩; refine wpAny_Assign_Subscript (thn (hv.run pins s σ H _ I h) fun r s1 ⟨v, H1, I1, rv, q1⟩ => thn (ho.run pins s1 σ H1 _ I1 q1) fun u s2 ⟨x, H2, I2, rx, q2⟩ => thn (hi.run pins s2 σ H2 _ I2 q2) fun iv s3 ⟨y, H3, I3, ry, a, L, b, k, ex, ey, hd, hk, hb, hl, q3⟩ => ?_) hs
  subst ex ey
  obtain rfl : u = Value.ref a := rx; obtain rfl : iv = Value.ref b := ry
  exact dic_put hu I3 hd hk hb hl rv fun s4 I4 => ⟨σ, _, I4, q3⟩
end
end Kn
set_option Elab.async false
set_option linter.all false
set_option maxRecDepth 100000
set_option maxHeartbeats 2100000
namespace Kn
open PySem L2 RZ
open PyProof.Rows (envOfC)
section
variable {G : Gd} {E : XK} {X : Cx} {σ : List (Option V)} {H H' : Hp} {k : Nat}
/-- the value is the row r -/
def rowK (d : D) (r : List Int) : Prop := d = .tup (r.map D.int) ∨ d = .tupn (r.map D.int)
theorem rowK_t {r : List Int} : rowK (.tup (r.map D.int)) r := .inl rfl
theorem Den.key {B : Addr → Prop} {d : D} {v : V} {r : List Int} (hk : rowK d r) (h : Den G B H d v) : ∃ b, v = .ref b ∧ (¬ B b ∨ KTup G.K b (r.map V.int)) ∧ SqT G.K H b (r.map V.int) ∧ r.length ≤ sizeLine := by
  have h' : Den G B H (.tup (r.map D.int)) v := by
    rcases hk with rfl | rfl
    · exact h
    · obtain ⟨a, xs, o, rfl, nb, hs, _, _, hl, hd⟩ := h
      exact ⟨a, xs, rfl, .inl nb, .inl (.inr ⟨o, hs⟩), hl, hd⟩
  obtain ⟨a, xs, rfl, nb, hs, hl, hd⟩ := h'
  have e := hd.ints
  subst e
  rw [List.length_map] at hl
  exact ⟨a, rfl, nb, hs, hl⟩
def putKs (ks : List (List Int)) (r : List Int) : List (List Int) := if r ∈ ks then ks else ks ++ [r]
def putDs (ks : List (List Int)) (ds : List D) (r : List Int) (d : D) : List D := if r ∈ ks then (ks.zip ds).map (fun x => if x.1 = r then d else x.2) else ds ++ [d]
theorem KeysOk.s {B : Addr → Prop} {L : List (List Int × Addr × V)} (h : KeysOk G.K B H L) : KeysS G.K H L := fun p hp => (h p hp).2.1
theorem atL_mem (L : List (List Int × Addr × V)) (r : List Int) : (atL L r).isSome = decide (r ∈ L.map (·.1)) := by
  unfold atL
  rw [Option.isSome_map]
  by_cases h : r ∈ L.map (·.1)
  · rw [decide_eq_true h]
    obtain ⟨x, hx, e⟩ := List.mem_map.mp h
    exact List.find?_isSome.mpr ⟨x, hx, decide_eq_true e⟩
  · rw [decide_eq_false h]
    cases z : (L.find? fun x => decide (x.1 = r)) with
    | none => rfl
    | some x =>
      exfalso
      have hx := List.mem_of_find?_eq_some z
      have he := List.find?_some z
      exact h (List.mem_map.mpr ⟨x, hx, of_decide_eq_true he⟩)
theorem put_map : ∀ {L : List (List Int × Addr × V)} {ds : List D} {r : List Int} {d : D} {v : V} {B : Addr → Prop}, DenL G B H ds (L.map (·.2.2)) → Den G B H d v →
    DenL G B H (((L.map (·.1)).zip ds).map fun x => if x.1 = r then d else x.2) ((L.map (putIn r v)).map (·.2.2))
  | [], [], _, _, _, _, _, _ => rfl
  | [], _ :: _, _, _, _, _, h, _ => by obtain ⟨_, _, e, _⟩ := h; cases e
  | p :: L, [], _, _, _, _, h, _ => by cases h
  | p :: L, d0 :: ds, r, d, v, B, ⟨x, q, e1, h1, h2⟩, hv => by
    cases e1
    refine ⟨(putIn r v p).2.2, (L.map (putIn r v)).map (·.2.2), rfl, ?_, put_map (L := L) h2 hv⟩
    unfold putIn
    by_cases c : p.1 = r
    · show Den G B H (if p.1 = r then d else d0) _
      rw [if_pos c, if_pos c]; exact hv
    · show Den G B H (if p.1 = r then d else d0) _
      rw [if_neg c, if_neg c]; exact h1
theorem putL_keys (L : List (List Int × Addr × V)) (r : List Int) (b : Addr) (v : V) : (putL L r b v).map (·.1) = putKs (L.map (·.1)) r := by
  unfold putL putKs
  rw [atL_mem]
  by_cases h : r ∈ L.map (·.1)
  · rw [if_pos (decide_eq_true h), if_pos h, putIn_keys]
  · rw [if_neg (by rw [decide_eq_false h]; simp), if_neg h, List.map_append]; rfl
theorem putL_vals {B : Addr → Prop} {L : List (List Int × Addr × V)} {ds : List D} {r : List Int} {b : Addr} {d : D} {v : V} (h : DenL G B H ds (L.map (·.2.2))) (hv : Den G B H d v) : DenL G B H (putDs (L.map (·.1)) ds r d) ((putL L r b v).map (·.2.2)) := by
  by_cases c : r ∈ L.map (·.1)
  · have e1 : putL L r b v = L.map (putIn r v) := by unfold putL; rw [atL_mem, if_pos (decide_eq_true c)]
    have e2 : putDs (L.map (·.1)) ds r d = ((L.map (·.1)).zip ds).map (fun x => if x.1 = r then d else x.2) := by unfold putDs; rw [if_pos c]
    rw [e1, e2]; exact put_map h hv
  · have e1 : putL L r b v = L ++ [(r, b, v)] := by unfold putL; rw [atL_mem, decide_eq_false c]; rfl
    have e2 : putDs (L.map (·.1)) ds r d = ds ++ [d] := by unfold putDs; rw [if_neg c]
    rw [e1, e2, List.map_append]
    exact h.append ⟨v, [], rfl, hv, rfl⟩
theorem putL_ok {K : PySem.W.Frag} {B : Addr → Prop} {L : List (List Int × Addr × V)} {r : List Int} {b : Addr} {v : V} (h : KeysOk K B H L) (hb : (¬ B b ∨ KTup K b (r.map V.int)) ∧ SqT K H b (r.map V.int) ∧ r.length ≤ sizeLine) : KeysOk K B H (putL L r b v) := fun p hp => by
  unfold putL at hp
  split at hp
  · obtain ⟨q, hq, e⟩ := List.mem_map.mp hp
    have z := h q hq
    have e2 : p.1 = q.1 ∧ p.2.1 = q.2.1 := by
      rw [← e]; unfold putIn; split <;> exact ⟨rfl, rfl⟩
    rw [e2.1, e2.2]; exact z
  · rcases List.mem_append.mp
        hp with hp | hp
    · exact h p hp
    · rw [List.mem_singleton.mp hp]; exact hb
def gInDT (neg : Bool) : G2 := fun k d Q => ∃ ks ds r, rowK k r ∧ d = .dcT ks ds ∧ Q (.bl (if neg then !decide (r ∈ ks) else decide (r ∈ ks)))
theorem rd_inDT {neg : Bool} {x y : V} {Q' : VK} (hK : X.K = G.K) (h : rD G (gInDT neg) x y H Q') : rLIn X.K neg x y H Q' := by
  obtain ⟨B, d, e, Q, hd, he, hf, ⟨ks, ds, r, hk, rfl, hq⟩, kk⟩ := h
  obtain ⟨a, L, rfl, na, hat, hks, hkk, hds⟩ := he
  obtain ⟨b, rfl, nb, hb, _⟩ := hd.key hk
  rw [hK]
  subst hks
  refine ⟨a, L, b, r, rfl, rfl, hat, hkk.s, hb, ?_⟩
  rw [atL_mem]
  exact kk _ H _ (Ext.refl _ _) (den_bl _) hq
theorem o_niD (hK : X.K = G.K) (hu : X.A.units + 1 < cLine) : OpR X (compareOp .NotIn) (rD G (gInDT true)) := opr_imp (or_lnotin hu) fun x y H Q' h => rd_inDT hK h
abbrev DKt := (Exc → Prop) → List Sl → (List (List Int) → List D → Prop) → Prop
def liftK (G : Gd) (E : XK) (c : Nat) (t : DKt) : TE := fun σ H Q' => ∃ W : Wd G E σ H, W.m + c ≤ W.n ∧ ∃ Q, t W.ex W.env Q ∧
  ∀ p H' ks ds L, Step W c H' → H p = none → H' p = some (DicO p L) → L.map (·.1) = ks → KeysOk G.K (fun a => W.XB a ∨ a = p) H' L → DenL G (fun a => W.XB a ∨ a = p) H' ds (L.map (·.2.2)) → Q ks ds → Q' (.ref p) H'
abbrev DNd (G : Gd) (E : XK) (X : Cx) (c : Nat) (e : Expr) (t : DKt) : Prop := PE X e (liftK G E c t)
theorem wd_dic (W : Wd G E σ H) {c : Nat} {H2 : Hp} (st : Step W c H2) {i : Nat} {p : Addr} {ks : List (List Int)} {ds : List D} {L : List (List Int × Addr × V)} (hp : H p = none) (h2 : H2 p = some (DicO p L)) (hk : L.map (·.1) = ks) (hx : KeysOk G.K (fun a => W.XB a ∨ a = p) H2 L) (hd : DenL G (fun a => W.XB a ∨ a = p) H2 ds (L.map (·.2.2))) :
    ∃ W' : Wd G E (σ.set i (some (.ref p))) H2, Later W c W' ∧ W'.env = W.env.set i (.dic p ks ds) ∧ W'.n = W.n - c := by
  have fr0 : ¬ W.XB p := W.fresh hp
  have h0 : W.H0 p = none := by
    cases q : W.H0 p with
    | none => rfl
    | some o =>
      exfalso
      rw [W.fr p o q (W.nuX fr0)] at hp; cases hp
  have npo : ∀ {j : Nat} {s : Sl} {b : Addr}, W.env[j]? = some s → s.mine = true → σ[j]? = some (some (.ref b)) → b ≠ p := fun {j s b} e hm es z => by
    obtain ⟨_, o, ho⟩ := W.mine_at e hm es
    rw [z, hp] at ho; cases ho
  have xb : ∀ b, XBof W.B (W.env.set i (.dic p ks ds)) (σ.set i (some (.ref p))) b → W.XB b ∨ b = p := fun b hb => by
    rcases hb with hb | ⟨j, s, e1, m1, e2⟩
    · exact .inl (.inl hb)
    · by_cases hj : i = j
      · subst hj
        by_cases hi : i < σ.length
        · rw [List.getElem?_set_self hi] at e2; cases e2; exact .inr rfl
        · rw [List.getElem?_eq_none (by rw [List.length_set]; omega)] at e2; cases e2
      · rw [List.getElem?_set_ne hj] at e1 e2
        exact .inl (.inr ⟨j, s, e1, m1, e2⟩)
  have sp : ∀ b, XBof W.B (W.env.set i (.dic p ks ds)) (σ.set i (some (.ref p))) b → W.XB b ∨ H b = none := fun b hb => (xb b hb).imp id fun z => by rw [z]; exact hp
  have dk : ∀ {d : D} {v : V}, Den G W.XB H d v → Den G (XBof W.B (W.env.set i (.dic p ks ds)) (σ.set i (some (.ref p)))) H2 d v := fun {d v} h => Den.keep (fun b o nb e => st.keep nb e) sp d v h
  have dkl : ∀ {es : List D} {ys : List V}, DenL G W.XB H es ys → DenL G (XBof W.B (W.env.set i (.dic p ks ds)) (σ.set i (some (.ref p)))) H2 es ys := fun {es ys} h => DenL.keep (fun b o nb e => st.keep nb e) sp es ys h
  have own_st : ∀ {j : Nat} {s : Sl} {b : Addr} {o : HO}, W.env[j]? = some s → s.mine = true → σ[j]? = some (some (.ref b)) → H b = some o → H2 b = some o := fun {j s b o} e hm es ho => st.ext b o ho (lend_un W (W.mine_at e hm es).1)
  refine ⟨{ u := W.u, n := W.n - c, m := W.m, B := W.B, H0 := W.H0, env := W.env.set i (.dic p ks ds), ex := W.ex, ug := W.ug, hu := W.hu, hB := W.hB, fr := W.fr.trans st.ext, good := st.good, len := by rw [List.length_set, List.length_set]; exact W.len, sl := fun j s e => ?_, nd := fun j l b s t e1 e2 m1 m2 e3 e4 => ?_, exc := W.exc },
    ⟨rfl, rfl, rfl, rfl, rfl, by show W.n ≤ W.n - c + c; omega, fun b o nb e => st.keep nb e, sp⟩, rfl, rfl⟩
  · by_cases hj : i = j
    · subst hj
      by_cases hi : i < W.env.length
      · rw [List.getElem?_set_self hi] at e
        cases e
        rw [getD_set, if_pos ⟨rfl, by rw [← W.len]; exact hi⟩]
        exact ⟨L, rfl, h0, h2, hk, hx.keep (fun _ _ _ h => h) (fun b hb => .inl (xb b hb)), hd.fewer xb⟩
      · rw [List.getElem?_eq_none (by simpa using hi)] at e; cases e
    · rw [List.getElem?_set_ne hj] at e
      rw [getD_set, if_neg (fun z => hj z.1)]
      have z := W.sl j s e
      cases s with
      | emp => trivial
      | val d => obtain ⟨x, e1, e2⟩ := z; exact ⟨x, e1, dk e2⟩
      | own b es => obtain ⟨ys, e1, e2, e3, e4, e5⟩ := z; exact ⟨ys, e1, e2, own_st e rfl (join_some e1) e3, e4, dkl e5⟩
      | slf b dx cc es => obtain ⟨ys, e1, e2, e3, e4, e5⟩ := z; exact ⟨ys, e1, e2, own_st e rfl (join_some e1) e3, e4, dkl e5⟩
      | obj b o => obtain ⟨e1, e2, e3, e4⟩ := z; exact ⟨e1, e2, own_st e rfl (join_some e1) e3, e4⟩
      | dic b ks es => obtain ⟨L, e1, e2, e3, e4, e5, e6⟩ := z; exact ⟨L, e1, e2, own_st e rfl (join_some e1) e3, e4, e5.by dk, dkl e6⟩
  · by_cases hj : i = j
    · by_cases hlk : i = l
      · exact hj.symm.trans hlk
      · subst hj
        exfalso
        rw [List.getElem?_set_ne hlk] at e2 e4
        have hi : i < σ.length := by
          by_cases q : i < σ.length
          · exact q
          · rw [List.getElem?_eq_none (by rw [List.length_set]; omega)] at e3; cases e3
        rw [List.getElem?_set_self hi] at e3
        cases e3
        exact npo e2 m2 e4 rfl
    · rw [List.getElem?_set_ne hj] at e1 e3
      by_cases hlk : i = l
      · subst hlk
        exfalso
        have hi : i < σ.length := by
          by_cases q : i < σ.length
          · exact q
          · rw [List.getElem?_eq_none (by rw [List.length_set]; omega)] at e4; cases e4
        rw [List.getElem?_set_self hi] at e4
        cases e4
        exact npo e1 m1 e3 rfl
      · rw [List.getElem?_set_ne hlk] at e2 e4
        exact W.nd j l b s t e1 e2 m1 m2 e3 e4
theorem lift_dic {i : Nat} {W : Wd G E σ H} {ks : List (List Int)} {ds : List D} {a : Addr} (he : W.env[i]? = some (.dic a ks ds)) : ∃ L, σ[i]? = some (some (.ref a)) ∧ W.H0 a = none ∧ H a = some (DicO a L) ∧ L.map (·.1) = ks ∧ KeysOk G.K W.XB H L ∧ DenL G W.XB H ds (L.map (·.2.2)) := by
  obtain ⟨L, e1, e2, e3, e4, e5, e6⟩ := W.sl i _ he
  exact ⟨L, join_some e1, e2, e3, e4, e5, e6⟩
/-- x[y] = v -/
def sDput (i : Nat) (te tk : DT) : DS := fun ex de env => te ex env fun d => tk ex env fun y => ∃ a ks ds r, env[i]? = some (.dic a ks ds) ∧ rowK y r ∧ ks.length < sizeLine ∧ de.nx (env.set i (.dic a (putKs ks r) (putDs ks ds r d)))
theorem ds_dput {i : Nat} {x : Str} {e b : Expr} {pos p p2 : Pos} {c c2 : Nat} {te ti : DT} (hK : X.K = G.K) (hu : X.A.units + 1 < cLine) (hN : X.N[i]? = some x) (he : DE G E X c e te) (hi : DE G E X c2 b ti) (hv : Vis X.env.scope x := by first | exact Or.inl rfl | exact Or.inr (Or.inl rfl) | exact Or.inr (Or.inr rfl))
    (hd : (x == ("__debug__" : Str)) = false := by decide) (hcd : (x == ("__classdict__" : Str)) = false := by decide) (hs : swapsWith e (some (.Subscript (.Name x p) b p2)) pos.line X.env = pure false := by rfl)
    (h0 : ∀ (W : List Sl), True := by intro _; trivial) : DSt G E X (c + c2) (.Assign [.Subscript (.Name x p) b p2] e pos) (fun ex de env => (∃ a ks ds, env[i]? = some (.dic a ks ds)) ∧ sDput i te ti ex de env) :=
  impS (ps_lput hu (pe_var (i := i) hN hv hd hcd) hi he hs) fun Dn σ H h => by
    obtain ⟨W, hn, de, ⟨⟨a, ks, ds, hei⟩, ht⟩, k1, k2, k3, k4⟩ := h
    refine ⟨W, by omega, _, ht, fun v H1 d st hdv hq => ?_⟩
    obtain ⟨L, hsi, h0, ha, hk, hx, hds⟩ := lift_dic (W := W) hei
    refine ⟨.ref a, hsi, W.next st, by show W.m + c2 ≤ W.n - c; omega, _, hq, fun v2 H2 e2 st2 hv2 ⟨a', ks', ds', r, hei', hkd, hl, hnx⟩ => ?_⟩
    have z : some (Sl.dic a ks ds) = some (Sl.dic a' ks' ds') := hei.symm.trans hei'
    cases z
    obtain ⟨b', rfl, nb, hb, hl2⟩ := hv2.key hkd
    have st3 := st.trans st2
    have hei3 : (W.next st3).env[i]? = some (.dic a ks ds) := hei
    have ha2 : H2 a = some (DicO a L) := st3.ext a _ ha (lend_un W h0)
    have hx2 : KeysOk G.K W.XB H2 L := hx.ext st3.ext W.huX
    have hds2 : DenL G W.XB H2 ds (L.map (·.2.2)) := hds.ext st3.ext W.huX
    have hv1 : Den G W.XB H2 d v := (W.next st).den st2 hdv
    refine ⟨a, L, b', r, rfl, rfl, ha2, by rw [hK]; exact hx2.s, by rw [hK]; exact hb, by rw [← hk, List.length_map] at hl; exact hl, ?_⟩
    have kp := mut_keep (o1 := DicO a (putL L r b' v)) (W.next st3) hei3 rfl hsi
    have hx3 : KeysOk G.K W.XB (upd H2 a (DicO a (putL L r b' v))) (putL L r b' v) := (putL_ok hx2 ⟨nb, hb, hl2⟩).keep kp fun b hb => .inl hb
    have hd3 : DenL G W.XB (upd H2 a (DicO a (putL L r b' v))) (putDs ks ds r d) ((putL L r b' v).map (·.2.2)) := by
      rw [← hk]
      exact DenL.keep kp (fun b hb => .inl hb) _ _ (putL_vals hds2 hv1)
    have hk3 : (putL L r b' v).map (·.1) = putKs ks r := by rw [← hk]; exact putL_keys L r b' v
    obtain ⟨W', l1, l2, l3⟩ := wd_mut (o1 := DicO a (putL L r b' v)) (s1 := .dic a (putKs ks r) (putDs ks ds r d)) (W.next st3) hei3 rfl hsi rfl ⟨putL L r b' v, rfl, h0, upd_same, hk3, hx3, hd3⟩
    exact k1 σ _ W' (((Later.next st3).trans l1).more (by omega)) (by rw [l2]; exact hnx)
/-- from here on the dict in slot i stays as it is -/
def sFreezeD (i : Nat) (t : DS) : DS := fun ex de env => ∃ a ks ds, env[i]? = some (.dic a ks ds) ∧ t ex de (env.set i (.val (.dcT ks ds)))
theorem ds_freezeD {i : Nat} {sts : List Stmt} {c : Nat} {t : DS} (h : DSs G E X c sts t) : DSs G E X c sts (sFreezeD i t) := impSs h fun Dn σ H h => by
  obtain ⟨W, hn, de, ⟨a0, ks, ds, he, ht⟩, k1, k2, k3, k4⟩ := h
  obtain ⟨W1, a, w1, w2, w3, w4, w5, w6, w7, hsi, h0, nt, x1, x2⟩ := wd_lend (v := .dcT ks ds) W he (.inr (.inr ⟨a0, ks, ds, rfl, rfl⟩))
  have lt : Later W 0 W1 := ⟨w2, w5, w7, w6, w4, by rw [w3]; omega, fun _ _ _ h => h, fun b hb => .inl (x2 b hb).1⟩
  exact ⟨W1, by rw [w3, w4]; exact hn, de, by rw [w1, w6]; exact ht, fun σ' H' W2 l2 q => k1 σ' H' W2 ((lt.trans l2).more (by omega)) q, fun v σ2 H' W2 d l2 hd hr => k2 v σ2 H' W2 d ((lt.trans l2).more (by omega)) (by rw [lt.B] at hd; exact hd) hr, fun σ' H' W2 l2 q => k3 σ' H' W2 ((lt.trans l2).more (by omega)) q, fun σ' H' W2 l2 q => k4 σ' H' W2 ((lt.trans l2).more (by omega)) q⟩
abbrev TSpec := List D → (List (List Int) → List D → Prop) → (Exc → Prop) → Prop
def liftT (G : Gd) (c : Nat) (S : TSpec) : Sp := fun vs H Q E => ∃ (u : Option Ur) (n : Nat) (B : Addr → Prop) (ds : List D) (R : List (List Int) → List D → Prop) (ex : Exc → Prop),
  u = G.u ∧ c ≤ n ∧ (∀ p, Pr u p → B p.1 ∧ B p.2) ∧ (∀ a, B a → H a ≠ none) ∧ Good u H n ∧ DenL G B H ds vs ∧ S ds R ex ∧
  (∀ a H' ks es L, Ext u H H' → Good u H' (n - c) → H a = none → H' a = some (DicO a L) → L.map (·.1) = ks → KeysOk G.K (fun b => B b ∨ b = a) H' L → DenL G (fun b => B b ∨ b = a) H' es (L.map (·.2.2)) → R ks es → Q (.ref a) H') ∧
  (∀ x C d H', Ext u H H' → Good u H' (n - c) → ExcIs G B H' x C d → ex x → E C d H')
/-- the def at f keeps S, returns a new dict -/
structure FnT (G : Gd) (P : Program) (w : World) (mg : Str → Option Value) (base : Heap) (k : Nat) (f : Addr) (fd : FuncData) (ps : List Str) (c : Nat) (S : TSpec) : Prop where
  run : ∀ (A : Around) (outer : List Env) (s : Shared) (H : Hp) (args : Args) (us : List Value) (vs : List V) (Q : VK) (E : XK), Room k A → A.guards = some [] → Env0 P w G.K mg base A outer s H →
    BindsTo s fd args (ps.zip us) → Vals vs us → vs.length = ps.length → liftT G c S vs H Q E → codeAny (model P w) A (.call (.ref f) args) (CR (L2.CX P w) outer P w H s Q E) s
theorem FnT.more {P : Program} {w : World} {mg : Str → Option Value} {base : Heap} {j k : Nat} {f : Addr} {fd : FuncData} {ps : List Str} {c d : Nat} {S : TSpec} (F : FnT G P w mg base j f fd ps c S) (h : j ≤ k) (hc : c ≤ d) : FnT G P w mg base k f fd ps d S :=
  ⟨fun A outer s H args us vs Q E hr hg e0 hb rv hl hs => F.run A outer s H args us vs Q E (hr.mono h) hg e0 hb rv hl (by
    obtain ⟨u, n, B, ds, R, ex, h1, h2, h3, h4, h5, h6, h7, h8, h9⟩ := hs
    exact ⟨u, n, B, ds, R, ex, h1, by omega, h3, h4, h5, h6, h7, fun a H' ks es L e g => h8 a H' ks es L e (g.less (by omega)), fun x C d' H' e g => h9 x C d' H' e (g.less (by omega))⟩)⟩
end
end Kn
set_option Elab.async false
set_option linter.all false
set_option maxRecDepth 100000
set_option maxHeartbeats 2100000
namespace Kn
open PySem PySem.Spec PyProof.Rows L2 RZ
end Kn
set_option Elab.async false
set_option linter.all false
set_option maxRecDepth 100000
set_option maxHeartbeats 2100000
namespace Kn
open PySem PySem.Spec L2 RZ
end Kn
set_option Elab.async false
set_option linter.all false
set_option maxRecDepth 100000
set_option maxHeartbeats 2100000
namespace Kn
open PySem PySem.Spec PyProof.Rows L2 RZ
end Kn
set_option Elab.async false
set_option linter.all false
set_option maxRecDepth 100000
set_option maxHeartbeats 2100000
namespace Kn
open PySem L2 RZ StX
open PyProof.Rows (envOfC)
section
variable {G : Gd} {E : XK} {X : Cx} {σ : List (Option V)} {H H' : Hp} {k : Nat}
/-- fields so far, arguments; what holds of the answer and the fields then; what errors may come -/
abbrev XSpec := List D → List D → (D → List D → Prop) → (Exc → Prop) → Prop
def liftX (G : Gd) (c cid : Nat) (S : XSpec) : Sp := fun vs H Q E => ∃ (u : Option Ur) (n : Nat) (B : Addr → Prop) (fs ds : List D) (R : D → List D → Prop) (ex : Exc → Prop) (x dx : Addr) (vs' xs : List V),
  u = G.u ∧ vs = .ref x :: vs' ∧ H x = some (.ins (G.cl cid) dx ((G.fl cid).zip xs)) ∧ xs.length ≤ (G.fl cid).length ∧ ¬ B x ∧ (∀ p, Pr u p → x ≠ p.1 ∧ x ≠ p.2) ∧ c ≤ n ∧ (∀ p, Pr u p → B p.1 ∧ B p.2) ∧ (∀ a, B a → H a ≠ none) ∧ Good u H n ∧
  DenL G (fun a => B a ∨ a = x) H ds vs' ∧ DenL G (fun a => B a ∨ a = x) H fs xs ∧ S fs ds R ex ∧
  (∀ H' v xs' d fs', (∀ b o, H b = some o → b ≠ x → NU u b → H' b = some o) → Good u H' (n - c) → H' x = some (.ins (G.cl cid) dx ((G.fl cid).zip xs')) → xs'.length ≤ (G.fl cid).length → DenL G (fun a => B a ∨ a = x) H' fs' xs' → Den G (fun a => B a ∨ a = x) H' d v → R d fs' → Q v H') ∧
  (∀ y C d H', (∀ b o, H b = some o → b ≠ x → NU u b → H' b = some o) → Good u H' (n - c) → ExcIs G B H' y C d → ex y → E C d H')
structure MutX (G : Gd) (P : Program) (w : World) (mg : Str → Option Value) (base : Heap) (k : Nat) (f : Addr) (c cid : Nat) (S : XSpec) : Prop where
  run : ∀ (A : Around) (outer : List Env) (s : Shared) (H : Hp) (us : List Value) (vs : List V) (Q : VK) (E : XK), Room k A → A.guards = some [] → Env0 P w G.K mg base A outer s H → Vals vs us →
    liftX G c cid S vs H Q E → codeAny (model P w) A (.call (.ref f) ⟨us, []⟩) (CR (L2.CX P w) outer P w H s Q E) s
theorem MutX.mono {P : Program} {w : World} {mg : Str → Option Value} {base : Heap} {j k : Nat} {f : Addr} {c cid : Nat} {S : XSpec} (F : MutX G P w mg base j f c cid S) (h : j ≤ k) : MutX G P w mg base k f c cid S :=
  ⟨fun A outer s H us vs Q E hr => F.run A outer s H us vs Q E (hr.mono h)⟩
end
end Kn
set_option Elab.async false
set_option linter.all false
set_option maxRecDepth 100000
set_option maxHeartbeats 2100000
namespace Kn
open PySem L2 RZ
open PyProof.Rows (envOfC)
end Kn
set_option Elab.async false
set_option linter.all false
set_option maxRecDepth 100000
set_option maxHeartbeats 2100000
namespace Kn
open PySem L2 RZ
section
variable {G : Gd} {E : XK} {X : Cx} {σ : List (Option V)} {H H' : Hp} {k : Nat}
def sSwap (i : Nat) (ta tb : DT) (u : DA) : DS := fun ex de env => u ex env fun ds => ∃ (v w : Int), ds = [.int v, .int w] ∧ ∃ a es, env[i]? = some (.own a es) ∧ ta ex env fun x => ∃ j n, x = .int j ∧ ixN es.length j = some n ∧
  tb ex (env.set i (.own a (es.set n (.int v)))) fun y => ∃ j2 n2, y = .int j2 ∧ ixN es.length j2 = some n2 ∧ de.nx ((env.set i (.own a (es.set n (.int v)))).set i (.own a ((es.set n (.int v)).set n2 (.int w))))
theorem ds_swap {i : Nat} {x : Str} {ea eb va vb : Expr} {p1 p2 q1 q2 pt pos pt2 : Pos} {kt k2 : Nat} {c c1 c2 : Nat} {ta tb : DT} {u : DA} (hK : X.K = G.K) (hc : X.calm = true) (hN : X.N[i]? = some x) (hu : DEs G E X c [va, vb] u) (ha : DE G E X c1 ea ta) (hb : DE G E X c2 eb tb)
    (hv : Vis X.env.scope x := by first | exact Or.inl rfl | exact Or.inr (Or.inl rfl) | exact Or.inr (Or.inr rfl)) (hd : (x == ("__debug__" : Str)) = false := by decide) (hcd : (x == ("__classdict__" : Str)) = false := by decide)
    (h1 : ∀ v, assign (.Subscript (.Name x p1) ea q1) X.env v = (do
      let ov ← holding [v] (eval (.Name x p1) X.env)
      let iv ← holding [v, ov] (eval ea X.env)
      standAt q1
      holding [v, ov, iv]
        (setItem ov iv v)
      release [v, ov, iv] []) := by intro _; rfl)
    (h2 : ∀ v, assign (.Subscript (.Name x p2) eb q2) X.env v = (do
      let ov ← holding [v] (eval (.Name x p2) X.env)
      let iv ← holding [v, ov] (eval eb X.env)
      standAt q2
      holding [v, ov, iv]
        (setItem ov iv v)
      release [v, ov, iv] []) := by intro _; rfl)
    (hs : swapsWithSole [.Tuple [.Subscript (.Name x p1) ea q1, .Subscript (.Name x p2) eb q2] kt pt] (.Tuple [va, vb] k2 pt2) pos.line X.env = pure false := by rfl)
    (hw : swappedStores [.Tuple [.Subscript (.Name x p1) ea q1, .Subscript (.Name x p2) eb q2] kt pt] (.Tuple [va, vb] k2 pt2) X.env = pure none := by with_unfolding_all rfl)
    (hst : (assignEach [.Subscript (.Name x p1) ea q1, .Subscript (.Name x p2) eb q2] X.env).findIdx? (·.1) = none := by rfl) (hln : (assignEach [.Subscript (.Name x p1) ea q1, .Subscript (.Name x p2) eb q2] X.env).length = 2 := by rfl)
    (hm1 : (assignEach [.Subscript (.Name x p1) ea q1, .Subscript (.Name x p2) eb q2] X.env).map (·.2) = assign (.Subscript (.Name x p1) ea q1) X.env :: (assignEach [.Subscript (.Name x p2) eb q2] X.env).map (·.2) := by rfl)
    (hm2 : (assignEach [.Subscript (.Name x p2) eb q2] X.env).map (·.2) = assign (.Subscript (.Name x p2) eb q2) X.env :: (assignEach [] X.env).map (·.2) := by rfl)
    (ht1 : (assignEach [.Tuple [.Subscript (.Name x p1) ea q1, .Subscript (.Name x p2) eb q2] kt pt] X.env).map (·.2) = [assign (.Tuple [.Subscript (.Name x p1) ea q1, .Subscript (.Name x p2) eb q2] kt pt) X.env] := by rfl) :
    DSt G E X (c + c1 + c2) (.Assign [.Tuple [.Subscript (.Name x p1) ea q1, .Subscript (.Name x p2) eb q2] kt pt] (.Tuple [va, vb] k2 pt2) pos) (sSwap i ta tb u) :=
  impS (ps_asg (pe_tup hu) (pg_tup (n := 2) hc (pgs_cons (pg_sub (pe_var (i := i) hN hv hd hcd) ha set_list h1) (pgs_cons (pg_sub (pe_var (i := i) hN hv hd hcd) hb set_list h2) pgs_nil hm2) hm1) hln hst) hs hw ht1) fun Dn σ H h => by
    obtain ⟨W, hn, de, ht, k1, k2', k3, k4⟩ := h
    refine ⟨W, by omega, _, ht, fun vs H1 ds st hdv ⟨v, w, e1, a, es, hei, hq⟩ => ⟨by rw [← hdv.length, e1, sizeLine_eq]; simp, fun p hp => ?_⟩⟩
    subst e1
    obtain ⟨y1, y2, rfl, d1, d2⟩ := denL2 hdv
    have st1 := st.new (o := .tup [y1, y2]) hp
    have hd1 : Den G W.XB (upd H1 p (.tup [y1, y2])) (.int v) y1 := den_upd hp d1
    have hd2 : Den G W.XB (upd H1 p (.tup [y1, y2])) (.int w) y2 := den_upd hp d2
    obtain ⟨xs, hsi, h0, hao, hl, hds⟩ := lift_own (W := W.next st1) hei
    refine ⟨p, [y1, y2], rfl, by rw [hK]; exact .inl (.inl upd_same), rfl, y1, [y2], rfl, .ref a, hsi, W.next st1, by show W.m + c1 ≤ W.n - c; omega, _, hq, fun v2 H2 e2 st2 hv2 ⟨j, n, e3, hj, hq2⟩ => ?_⟩
    subst e3
    have ha2 : H2 a = some (.lst xs) := st2.ext a _ hao (W.nu h0)
    have el := hds.length
    obtain ⟨W', l1, l2⟩ := own_step (xs := xs) (ys := xs.set n y1) (es := es.set n (.int v)) (st1.trans st2) (W := W) hei hsi h0 (by rw [List.length_set]; exact hl) ((hds.ext st2.ext (W.next st1).huX).set n ((W.next st1).den st2 hd1))
    refine ⟨a, xs, j, n, rfl, hv2, ha2, by rw [← el]; exact hj, ?_⟩
    cases hd2
    cases hd1
    have he2 : W'.env[i]? = some (.own a (es.set n (.int v))) := by rw [l2, List.getElem?_set_self (List.getElem?_eq_some_iff.mp hei).1]
    obtain ⟨xs2, hsi2, h02, hao2, hl2, hds2⟩ := lift_own (W := W') he2
    rw [upd_same] at hao2
    cases hao2
    rw [← l2, ← show W'.ex = W.ex from l1.ex] at hq2
    refine ⟨.int w, [], rfl, .ref a, hsi, W', by have := l1.n; have e1 := l1.m; omega, _, hq2, fun v3 H3 e4 st3 hv3 ⟨j2, n2, e5, hj2, hq3⟩ => ?_⟩
    subst e5
    have ha3 : H3 a = some (.lst (xs.set n (.int v))) := st3.ext a _ upd_same (W'.nu h02)
    obtain ⟨W2, m1, m2⟩ := own_step (xs := xs.set n (.int v)) (ys := (xs.set n (.int v)).set n2 (.int w)) (es := (es.set n (.int v)).set n2 (.int w)) st3 (W := W') he2 hsi h02 (by rw [List.length_set, List.length_set]; exact hl) ((hds2.ext st3.ext W'.huX).set n2 (den_int w))
    refine ⟨a, xs.set n (.int v), j2, n2, rfl, hv3, ha3, by rw [List.length_set, ← el]; exact hj2, rfl, ?_⟩
    exact k1 σ _ W2 ((l1.trans m1).more (by omega)) (by rw [m2]; exact hq3)
end
end Kn
set_option Elab.async false
set_option linter.all false
set_option maxRecDepth 100000
set_option maxHeartbeats 2100000
namespace Kn
open PySem PySem.Spec PyProof.Rows L2 RZ
section
variable {G : Gd} {E : XK} {X : Cx} {σ : List (Option V)} {H H' : Hp} {k : Nat} {tg : Expr}
theorem cr_range1 : CallR X (.type "range") (fun vs H Q => ∃ j, vs = [V.int j] ∧ ∀ p, H p = none → Q (.ref p) (upd H p (.rng 0 j))) := by
  intro pins s σ H vs us Q I r h; obtain ⟨j, rfl, q⟩ := h
  obtain ⟨u1, rfl, t, rfl⟩ := vals1 r
  exact call_range_1 ⟨.ref s.heap.objs.size, upd H s.heap.objs.size (.rng 0 j), I.laid (t' := s.toks + 1 + 1) (fun b o e => Heap.get?_push_of_some _ e) (Nat.le_refl _) ⟨s.toks, t, s.toks + 1, Heap.get?_push_size _ rfl⟩, rfl, q _ (I.hok.fresh (Nat.le_refl _))⟩
/-- a range object that is there already, walked -/
theorem rng_walk {pins : List (Addr × Obj)} {s : Shared} {R : It → Hp → Prop} {Er : Value → Shared → Prop} {a : Addr} {lo hi : Int} (I : Inv X pins σ H s) (ha : H a = some (.rng lo hi)) (h1 : -(2 ^ 62) ≤ lo) (h2 : lo < 2 ^ 62) (h3 : -(2 ^ 62) ≤ hi) (h4 : hi < 2 ^ 62)
    (q : R (Itr lo (hi - lo).toNat) H) : wpAny (model X.prog X.w) X.A (pyIter (.ref a)) (PIE X pins σ tg R) Er s := by
  obtain ⟨t, u, v, ho⟩ := (show ObjOk X.prog X.w H s.heap a (.rng lo hi) from I.hok a _ ha)
  refine wpAny_pyIter_range (show IsRange s.heap a lo hi 1 t u v from ho) (small_one h1 h2 h3 h4) ?_
  refine ⟨s.heap.objs.size, [s.heap.objs.size], _, _, H, rfl, I.kept (t' := s.toks) fun b o e => Heap.get?_push_of_some _ e, turn_range _ lo (hi - lo).toNat, ?_, fun b hb => ?_, q⟩
  · have e1 : lo + ((0 : Nat)
        : Int) * 1 = lo := by simp
    have e2 : (((hi - lo).toNat : Nat) : Int) - ((0 : Nat) : Int) =
          Builtin.Range.rangeSize lo hi 1 := by rw [rangeSize_one]; split <;> omega
    show IsRangeIter _ _ (lo + ((0 : Nat) : Int) * 1) ((((hi - lo).toNat : Nat) : Int) - ((0 : Nat) : Int)) 1; rw [e1, e2]; exact Heap.get?_push_size _ rfl
  · have e : b = s.heap.objs.size := by simpa using hb
    subst e; exact I.fpOk (Nat.le_refl _) (I.hok.fresh (Nat.le_refl _))
/-- x = range(e) -/
def sRng (i : Nat) (te : DT) : DS := fun ex de env => te ex env fun d => ∃ j : Int, d = .int j ∧ ∀ a, de.nx (env.set i (.obj a (.rng 0 j)))
theorem ds_rng {i : Nat} {x : Str} {e : Expr} {p pos pos' cpos : Pos} {c : Nat} {te : DT} (hN : X.N.Nodup) (hi : X.N[i]? = some x) (hx : Loc X.env.scope x) (hm : X.mg "range" = none) (he : DE G E X c e te) (hg : Gl X "range" := by rfl)
    (hst : starEach [e] X.env = (false, eval e X.env) :: starEach [] X.env := by rfl) (hpl : (backTo cpos (starEach [] X.env)).any (·.1) = false := by rfl)
    (hs : swapsWith (.Call (.Name "range" p) [e] [] cpos) (some (.Name x pos')) pos.line X.env = pure false := by rfl) (hf : X.fn x = true ∨ X.env.scope.names.lookup x = some .local := by first | exact .inl rfl | exact .inr rfl) :
    DSt G E X c (.Assign [.Name x pos'] (.Call (.Name "range" p) [e] [] cpos) pos) (sRng i te) :=
  impS (ps_set hN hi hx (pe_callTy cr_range1 hg hm (by decide +kernel) (pa_cons he pa_nil hst) (by decide) (by decide) hst hpl) hs hf) fun Dn σ H h => by
    obtain ⟨W, hn, de, ht, k1, k2, k3, k4⟩ := h
    refine ⟨W, hn, _, ht, fun v H1 d st hd ⟨j, e1, hq⟩ => ?_⟩
    subst e1
    cases hd
    refine ⟨j, rfl, fun p hp => ?_⟩
    have hp0 : H p = none := by
      cases q : H p with
      | none => rfl
      | some o =>
        exfalso
        by_cases nu : NU W.u p
        · rw [st.ext p o q nu] at hp; cases hp
        · exact (W.next st).fresh hp (by
            by_cases z : W.XB p
            · exact z
            · exact absurd (W.nuX z) nu)
    obtain ⟨W', l1, l2⟩ := wd_ownO W (c := c) (st.new hp) (i := i) (o := .rng 0 j) hp0 upd_same (fun q z => by unfold LamX.CodeO at z; cases z)
    exact k1 _ _ W' l1 (by rw [l2]; exact hq p)
/-- for .. in x, x such a name -/
def iRngV (i : Nat) : DA := fun ex env Q => ∃ a j, env[i]? = some (.obj a (.rng 0 j)) ∧ j ≤ 16777216 ∧ -(2 ^ 62) ≤ j ∧ Q (rangeD 0 j.toNat)
theorem di_rngV {i : Nat} {x : Str} {p : Pos} (hN : X.N[i]? = some x) (hv : Vis X.env.scope x := by first | exact Or.inl rfl | exact Or.inr (Or.inl rfl) | exact Or.inr (Or.inr rfl)) (hd : (x == ("__debug__" : Str)) = false := by decide) (hcd : (x == ("__classdict__" : Str)) = false := by decide) :
    DI G E X tg 0 (.Name x p) (iRngV i) := by
  refine ⟨fun pins s σ H R I h => ?_⟩; obtain ⟨W, hn, Q, ⟨a, j, he, h1, h2, hq⟩, kk⟩ := h
  obtain ⟨hsi, h0, ha⟩ := lift_obj he
  refine thn ((pe_var (X := X) (pos := p) (i := i) hN hv hd hcd).run pins s σ H (fun y H1 => y = .ref a ∧ H1 = H) I ⟨.ref a, hsi, rfl, rfl⟩) fun v s1 ⟨y, H1, I1, r1, e1, e2⟩ => ?_
  subst e1; subst e2
  cases r1
  have hs := sizeLine_eq
  refine rng_walk I1 ha (by omega) (by omega) h2 (by omega) (kk _ H1 _ (Step.refl W) (walks_rng ?_) ?_)
  · omega
  · rw [Int.sub_zero]; exact hq
end
end Kn
set_option Elab.async false
set_option linter.all false
set_option maxRecDepth 100000
set_option maxHeartbeats 2100000
namespace Kn
open PySem L2 RZ
open PyProof.Rows (envOfC)
end Kn
set_option Elab.async false
set_option linter.all false
set_option maxRecDepth 100000
set_option maxHeartbeats 2100000
namespace Kn
open PySem L2 RZ
end Kn
set_option Elab.async false
set_option linter.all false
set_option maxRecDepth 100000
set_option maxHeartbeats 2100000
namespace Kn
open PySem L2 RZ
end Kn
set_option Elab.async false
set_option linter.all false
set_option maxRecDepth 100000
set_option maxHeartbeats 2100000
namespace Kn
open PySem L2 RZ
end Kn
set_option Elab.async false
set_option linter.all false
set_option maxRecDepth 100000
set_option maxHeartbeats 2100000
namespace Kn
open PySem PySem.Spec PyProof.Rows L2 RZ
end Kn
set_option Elab.async false
set_option linter.all false
set_option maxRecDepth 100000
set_option maxHeartbeats 2100000
namespace Kn
open PySem L2 RZ
open PyProof.Rows (envOfC)
end Kn
set_option Elab.async false
set_option linter.all false
set_option maxRecDepth 100000
set_option maxHeartbeats 2100000
namespace Kn
open PySem L2 RZ
end Kn
set_option Elab.async false
set_option linter.all false
set_option maxRecDepth 100000
set_option maxHeartbeats 2100000
namespace Pg
open PySem
open PySem.Spec PyProof.Rows L2
theorem strsB_ok : ∀ {vs : List Value} {ys : List Str}, strsB vs ys = true → Vals (ys.map V.str) vs
  | [], [], _ => .nil
  | v :: vs, y :: ys, h => by
    cases v with
    | str x t =>
      obtain ⟨h1, h2⟩ := Bool.and_eq_true_iff.mp (show (decide (x = y) && strsB vs ys) = true from h)
      exact .cons ⟨t, by rw [of_decide_eq_true h1]⟩ (strsB_ok h2)
    | _ => cases h
  | [], _ :: _, h => by cases h
  | v :: _, [], h => by cases v <;> cases h
theorem tupsB_ok {K : PySem.W.Frag} {a : Addr} {ys : List Str} (hy : ys.length ≤ sizeLine) (h : tupsB K a ys = true) : Kn.KTup K a (ys.map V.str) := by
  unfold tupsB at h
  cases q : K.lookup a with
  | none => rw [q] at h; cases h
  | some o =>
    obtain ⟨oc, od, dt, osl⟩ := o
    rw [q] at h
    cases oc with
    | type c =>
      cases dt with
      | seq its n =>
        obtain ⟨h1, h2⟩ := Bool.and_eq_true_iff.mp (show (decide (c = "tuple") && strsB its.toList ys) = true from h)
        have hv := strsB_ok h2
        refine ⟨_, its, n, q, congrArg Value.type (of_decide_eq_true h1), rfl, ?_, hv⟩
        have := hv.length
        rw [List.length_map] at this
        have e : its.size = its.toList.length := by simp
        omega
      | _ => cases h
    | _ => cases dt <;> cases h
theorem law_rowX {l : PySem.W.OpenLaw} {n : Nat} {q : Program} {loose : List Str} {XP : (Str → Option Value) → Heap → Prop} {YP : World → Heap → Prop} {d : DefRec}
    (hn : l.most = some n) (hn2 : n ≤ sizeLine) (hdf : d.params.defaults = [])
    (F : ∀ (w : World) (mg : Str → Option Value) (fa a : Addr) (h : Heap) (s : Shared) (ns : List Int), YP w h → h.Ns mainGlobals mg → mg d.name = some (.ref fa) → ns.length ≤ n →
      ∃ K : PySem.W.Frag, K.In h ∧ ∃ cs : List (Str × Addr × Addr), (∀ x ∈ cs, ((PyProof.Rows.recsOf q).find? (fun e => e.name == x.1)).isSome = true ∧ PySem.W.tabIn K x.1 = some x.2 ∧ K.lookup x.2.2 = none) ∧ Kn.LawOkT l.prog w K mg fa a ns s (cs.map (·.2))) :
    PySem.W.WalkO q loose XP YP l.row.toRowW
      d [] (fun f vs => PySem.call f vs) := by
  refine Att.attach_call hn hdf ?_
  intro w s₀ s₁ mg mb fa o pm cd doc a vs ns Gx Y ho hd hcd hmg hobj hints hlen hg
  obtain ⟨K, KX, cs, hcs, hF⟩ := F w mg fa a _ s₁ ns Y Gx.T.g hmg hlen
  have tabs : ∀ p ∈ cs.map (·.2), PySem.W.CodeHd s₁.heap p.1 p.2 ∧ s₁.heap.get? p.2 = some (PySem.W.tabObj #[]) ∧ K.lookup p.2 = none := fun p hp => by
    obtain ⟨x, hx, rfl⟩ := List.mem_map.mp hp
    obtain ⟨h1, h2, h3⟩ := hcs x hx
    obtain ⟨dr, h1⟩ := Option.isSome_iff_exists.mp h1
    obtain ⟨t1, t2⟩ := PySem.W.tab_of Gx.T KX h1 h2
    exact ⟨t1, t2, h3⟩
  exact Kn.law_topT KX Gx.T.g Gx.T.b Gx.T.builtins Gx.T.nolimit hg Gx.T.bmain hobj hints (Nat.le_trans hlen hn2) (fun p hp => (tabs p hp).2.1) (fun p hp => (tabs p hp).2.2) (fun p hp => (tabs p hp).1) hF
end Pg
set_option Elab.async false
set_option linter.all false
set_option maxRecDepth 100000
set_option maxHeartbeats 2100000
namespace Kn
open PySem L2 RZ
end Kn
set_option Elab.async false
set_option linter.all false
set_option maxRecDepth 100000
set_option maxHeartbeats 2100000
namespace Kn
open PySem L2 RZ
end Kn
set_option Elab.async false
set_option linter.all false
set_option maxRecDepth 100000
set_option maxHeartbeats 2100000
namespace Kn
open PySem L2 RZ
end Kn
set_option Elab.async false
set_option linter.all false
set_option maxRecDepth 100000
set_option maxHeartbeats 2100000
namespace Kn
open PySem L2 RZ
end Kn
set_option Elab.async false
set_option linter.all false
set_option maxRecDepth 100000
set_option maxHeartbeats 2100000
namespace Kn
open PySem L2 RZ
end Kn
set_option Elab.async false
set_option linter.all false
set_option maxRecDepth 100000
set_option maxHeartbeats 2100000
namespace Kn
open PySem PySem.Spec L2 RZ
open PyProof.Rows
end Kn
set_option Elab.async false
set_option linter.all false
set_option maxRecDepth 100000
set_option maxHeartbeats 2100000
namespace Kn
open PySem PySem.Spec L2 RZ LamX
open PyProof.Rows (envOfC)
end Kn
set_option Elab.async false
set_option linter.all false
set_option maxRecDepth 100000
set_option maxHeartbeats 2100000
namespace Pg
open PySem L2
end Pg
namespace Kn
open PySem L2 RZ
end Kn
set_option Elab.async false
set_option linter.all false
set_option maxRecDepth 100000
set_option maxHeartbeats 2100000
namespace Kn
open PySem L2 RZ
section
variable {G : Gd} {E : XK} {X : Cx} {σ : List (Option V)} {H H' : Hp} {k : Nat}
def d2Pop0 (i : Nat) : DT2 := fun ex env Q => ∃ a ds y, env[i]? = some (.own a (ds ++ [y])) ∧ Q y (env.set i (.own a ds))
theorem d2_pop0 {i : Nat} {x : Str} {p apos cpos : Pos} (hN : X.N[i]? = some x) (hv : Vis X.env.scope x := by first | exact Or.inl rfl | exact Or.inr (Or.inl rfl) | exact Or.inr (Or.inr rfl)) (hd : (x == ("__debug__" : Str)) = false := by decide) (hcd : (x == ("__classdict__" : Str)) = false := by decide)
    (hbase : attributeBase (.Name x p) "pop" X.env (eval (.Name x p) X.env) = eval (.Name x p) X.env := by rfl)
    (hline : (apos.endLine == cpos.line) = true := by rfl) :
    DE2 G E X 0 (.Call (.Attribute (.Name x p) "pop" apos) [] [] cpos) (d2Pop0 i) :=
  imp (pe_bm0 PySem.F.plainAttrs_list PySem.F.slot_list_pop PySem.F.type_list_pop mt_pop (pe_var (i := i) hN hv hd hcd) hbase hline) fun σ H Q' h => by
    obtain ⟨W, hn, Q, ⟨a, ds, y, hei, hq⟩, kk⟩ := h
    obtain ⟨xs, hsi, h0, ha, hl, hds⟩ := lift_own hei
    have hlen := hds.length
    rw [List.length_append, List.length_singleton] at hlen
    obtain ⟨v, hv1, hdv⟩ := hds.get (i := ds.length) (d := y) (by rw [List.getElem?_append_right (Nat.le_refl _), Nat.sub_self]; rfl)
    have e1 : (ds ++ [y]).eraseIdx ds.length = ds := by
      rw [List.eraseIdx_eq_take_drop_succ, List.take_left' rfl, List.drop_of_length_le (by simp), List.append_nil]
    have e2 : xs.eraseIdx ds.length = xs.dropLast := by
      rw [List.eraseIdx_eq_take_drop_succ, List.drop_of_length_le (by omega), List.append_nil, List.dropLast_eq_take]
      congr 1
      omega
    have hds2 : DenL G W.XB H ds xs.dropLast := by
      have z := hds.eraseIdx ds.length
      rw [e1, e2] at z
      exact z
    have kp := mut_keep (o1 := .lst xs.dropLast) W hei rfl hsi
    obtain ⟨W', l1, l2, l3⟩ := wd_mut (o1 := .lst xs.dropLast) (s1 := .own a ds) W hei rfl hsi rfl ⟨_, rfl, h0, upd_same, by rw [List.length_dropLast]; omega, DenL.keep kp (fun b hb => .inl hb) _ _ hds2⟩
    refine ⟨.ref a, hsi, .inl ⟨rfl, xs, SqL.of ha⟩, a, xs, v, rfl, rfl, ha, by rw [← hlen]; exact hv1, ?_⟩
    exact kk v _ y W' (l1.more (by omega)) (Den.keep kp (fun b hb => .inl (pop_xb W' l2 hei hsi l1.B b hb)) y v hdv) (by rw [l2]; exact hq)
end
end Kn
set_option Elab.async false
set_option linter.all false
set_option maxRecDepth 100000
set_option maxHeartbeats 2100000
namespace Kn
open PySem L2 RZ
end Kn
set_option Elab.async false
set_option linter.all false
set_option maxRecDepth 100000
set_option maxHeartbeats 3200000
namespace Kn
open PySem PySem.Spec PyProof.Rows L2 RZ
theorem nd_sub {α : Type} [BEq α] [LawfulBEq α] : ∀ {l m : List α}, l.Nodup → (∀ x ∈ l, x ∈ m) → l.length ≤ m.length
  | [], _, _, _ =>
        Nat.zero_le _
  | x :: l, m, nd, sub => by
    obtain ⟨h1, h2⟩ := List.nodup_cons.mp nd
    have hx := sub x List.mem_cons_self
    have z := nd_sub (m := m.erase x) h2 fun y hy => (List.mem_erase_of_ne (fun e => h1 (by rw [← e]; exact hy))).mpr (sub y (List.mem_cons_of_mem _ hy))
    have e := List.length_erase_of_mem hx; have pos := List.length_pos_of_mem hx
    rw [List.length_cons]; omega
section
variable {prog : Program} {w : World} {A :
      Around} {E : Value → Shared → Prop} {s : Shared}
theorem lex_mixed {b : Bool} {Q : Bool → Shared → Prop} {xs : List Int} {us : List Value} (hu : IntsAre us xs) : ∀ {ys : List Int} {vs : List Value} {i : Nat}, IntsAre vs ys → Q (lexL xs ys) s → PySem.W.KatLex prog w A b (decide (us.length < vs.length)) Q (us.zip vs) i s := by
  induction hu with
  | nil =>
    intro ys vs i hv hq
    cases hv with
    | nil => exact PySem.W.kat_nil hq
    | cons n t r => exact PySem.W.kat_nil (by rw [decide_eq_true (by simp)]; exact hq)
  | cons x t ru ih =>
    intro ys vs i hv hq
    cases hv with
    | nil => exact PySem.W.kat_nil (by rw [decide_eq_false (by simp)]; exact hq)
    | cons y t' rv =>
      rw [List.length_cons, List.length_cons, show (decide (_ + 1 < _ + 1)) = decide _ from decide_eq_decide.mpr Nat.succ_lt_succ_iff]
      refine PySem.W.kat_cons (SeqAt.EqAt.int_int x t y t' prog w _ _ ?_); refine PySem.W.kat_go (fun e1 => ?_) (fun e1 => ?_)
      · have ex : x = y := by simpa using e1
        subst ex
        refine PySem.W.kat_yes (ih rv ?_)
        unfold lexL at hq
        rw [if_pos rfl] at hq
        exact hq
      · have ex : ¬ x = y := by simpa using e1
        unfold lexL at hq
        rw [if_neg ex] at hq
        exact PySem.W.kat_no (TS.oneLt_ints _ hq)
theorem mixed_cmp {vs : List Value} {k : Value → List Int} (hp : ∀ v ∈ vs, TupV s.heap v (k v)) : SrtO.Cmp prog w A s (tuples' true) (fun p => p.1 ∈ vs) (SrtO.lt2 fun v u => lexL (k v) (k u)) := by
  intro p q hm hm'
  have h1 := hp _ hm
  have h2 := hp _ hm'
  show wpAny (model prog w) A (keyLt' (tuples' true) p.1 q.1) (fun r s' => s' = s ∧ r = lexL (k p.1) (k q.1)) (fun _ _ => False) s
  generalize k p.1 = x at h1 ⊢
  generalize k q.1 = y at h2 ⊢
  obtain ⟨a, o, its, n, e, ho, hc, hd, hi⟩ := h1
  obtain ⟨a', o', its', n', e', ho', hc', hd', hi'⟩ := h2
  rw [e, e']
  refine PySem.W.kat_lt ho hd ho' hd' ?_; rw [List.size_toArray, List.size_toArray]
  exact lex_mixed hi hi' ⟨rfl, rfl⟩
theorem mixed_firsts {h : Heap} {k : Value → List Int} : ∀ {vs : List Value}, (∀ v ∈ vs, TupV h v (k v) ∧ k v ≠ []) → ∃ fs : List Value, PySem.W.KatTups h vs fs ∧ fs.length = vs.length ∧ ∀ f ∈ fs, ∃ x t, f = Value.int x t
  | [], _ => ⟨[], PySem.W.KatTups.nil, rfl, nofun⟩
  | v :: vs, x => by
    obtain ⟨fs, f1, f2, f3⟩ := mixed_firsts fun u hu => x u (List.mem_cons_of_mem _ hu)
    obtain ⟨⟨a, o, its, n, rfl, ho, hc, hdt, hi⟩, hl⟩ := x v List.mem_cons_self
    generalize k (.ref a) = ns at hi hl
    cases hi with
    | nil => exact absurd rfl hl
    | cons i t r =>
      refine ⟨.int i t :: fs, PySem.W.KatTups.cons ho hc hdt (by simp) f1, by rw [List.length_cons, List.length_cons, f2], fun f hf => ?_⟩
      rcases List.mem_cons.mp
            hf with rfl | hf
      · exact ⟨i, t, rfl⟩
      · exact f3 f hf
theorem mixed_sortable {a : Addr} {vs : List Value} {k : Value → List Int} (h0 : 0 < vs.length) (hp : ∀ v ∈ vs, TupV s.heap v (k v) ∧ k v ≠ []) (ha : ∀ o, s.heap.get? a = some o → o.cls ≠ .type "tuple") : SrtO.SortableO prog w A s a vs fun v u => lexL (k v) (k u) := by
  intro h' keep
  have hp' : ∀ v ∈ vs, TupV h' v (k v) ∧ k v ≠ [] := fun v hm => ⟨(hp v hm).1.keeps fun b o e c => keep b o (fun z => by subst z; exact ha o e c) e, (hp v hm).2⟩
  obtain ⟨fs, h1, h2, h3⟩ := mixed_firsts hp'
  refine ⟨tuples' true, fun Q E hq => ?_, mixed_cmp fun v hv => (hp' v hv).1⟩
  refine PySem.W.kat_kind (T := .type "int")
        h1 (by omega) (fun f hm => ?_) (by rfl) ?_
  · obtain ⟨x, t,
        rfl⟩ := h3 f hm
    exact PySem.W.Looks.now
  · have e : (Value.type "int" != Value.type "tuple") = true := by decide
    rw [e]
    exact hq
/-- xs.sort(), xs a new list of rows -/
theorem sort_rows_call {a : Addr} {vs : List Value} {k : Value → List Int} {Q : Value → Shared → Prop} (ho : s.heap.get? a = some (seqObj "list" vs.toArray 0)) (hz : vs.length ≤ sizeLine) (hp : ∀ v ∈ vs, TupV s.heap v (k v) ∧ k v ≠ [])
    (h : ∀ out : List Value, SrtO.Srtd (fun v u => lexL (k v) (k u)) out → SrtO.Stb (fun v u => lexL (k v) (k u)) out vs → Q .none { s with heap := sortedHeap s.heap a vs out.toArray }) :
    wpAny (model prog w) A (call (.builtin
          "list.sort") [.ref a]) Q E s := by
  refine wpAny_call_entry slot_list_sort ⟨_, ho, rfl⟩ entry_list_sort (SrtO.list_sort_ord (swo_lexL k) ho hz (fun h2 => ?_) fun out hs hb => ⟨_, rfl, h out hs hb⟩) (args_list_sort _)
  refine mixed_sortable (by omega) hp fun o e c => ?_
  obtain rfl : seqObj "list" vs.toArray 0 = o := Option.some.inj (ho.symm.trans e); exact absurd (Value.type.inj c) (by decide)
/-- the tail of sorted: a new list of vs, sorted -/
theorem sorted_rows_tail {vs : List Value} {k : Value → List Int} {Q : Value → Shared → Prop} (hz : vs.length ≤ sizeLine) (hp : ∀ v ∈ vs, TupV s.heap v (k v) ∧ k v ≠ [])
    (h : ∀ (h' : Heap) (out : List Value), SrtO.Srtd (fun v u => lexL (k v) (k u)) out → out.Perm vs → (∀ b o, s.heap.get? b = some o → h'.get? b = some o) → (∃ n, h'.get? s.heap.objs.size = some (seqObj "list" out.toArray n)) → Q (.ref s.heap.objs.size) { s with heap := h' }) :
    wpAny (model prog w) A (newList vs) (fun l s' => wpAny (model prog w) A (holding [l] (call (.builtin "list.sort") [l])) (fun _ s'' => Q l s'') E s') E s := by
  refine wpAny_newList ?_ hz
  have hoL : (s.heap.push (seqObj "list" vs.toArray 0)).get? s.heap.objs.size = some (seqObj "list" vs.toArray 0) := Heap.get?_push_size _ rfl
  have kp : ∀ b o, s.heap.get? b = some o → (s.heap.push (seqObj "list" vs.toArray 0)).get? b = some o := fun b o e => Heap.get?_push_of_some _ e
  refine wpAny_holding (sort_rows_call (s := { s with heap := s.heap.push (seqObj "list" vs.toArray 0) }) hoL hz (fun v hv => ⟨(hp v hv).1.keeps fun b o e _ => kp b o e, (hp v hv).2⟩) fun out hs hb => ?_)
  refine h _ out hs hb.perm (fun b o e => ?_) (sortedHeap_at (vs := vs) (out := out.toArray) hoL)
  have hb2 : b < s.heap.objs.size := Heap.lt_size e
  rw [sortedHeap_old (Nat.ne_of_lt hb2) (by rw [size_push']; exact Nat.lt_succ_of_lt hb2)]
  exact kp b o e
end
end Kn
set_option Elab.async false
set_option linter.all false
set_option maxRecDepth 100000
set_option maxHeartbeats 3200000
namespace Kn
open PySem PySem.Spec PyProof.Rows L2 RZ
/-- few unlike rows -/
def FewR (rs : List (List Int)) : Prop := ∃ U : List (List Int), U.length < 63 ∧ ∀ r ∈ rs, r ∈ U
/-- what the set holds of the first i -/
structure GotR (ks : List (Addr × List Int)) (i : Nat) (L : List (Addr × List Int)) : Prop where
  sub : ∀ p ∈ L, p ∈ ks
  all : ∀ p ∈ ks.take
        i, p.2 ∈ L.map (·.2)
theorem FewR.len {ks L : List (Addr × List Int)} (hf : FewR (ks.map (·.2))) (sub : ∀ p ∈ L, p ∈ ks) (nd : (L.map (·.2)).Nodup) : L.length + 1 < 64 := by
  obtain ⟨U, hU, hm⟩ := hf
  have z := nd_sub nd fun r hr => by
    obtain ⟨p, hp, rfl⟩ := List.mem_map.mp hr
    exact hm _ (List.mem_map.mpr ⟨p, sub p hp, rfl⟩)
  rw [List.length_map] at z
  omega
theorem take_one {α : Type} {l : List α} {i : Nat} {x : α} (h : l[i]? = some x) : l.take (i + 1) = l.take i ++ [x] := by
  rw [List.take_succ, h]; rfl
section
variable {P : Program} {w : World} {A : Around}
      {E : Value → Shared → Prop} {s : Shared}
/-- one turn more -/
theorem GotR.step {ks L L' : List (Addr × List Int)} {i : Nat} {p : Addr × List Int} (g : GotR ks i L) (hp : ks[i]? = some p) (c1 : p.2 ∈ L.map (·.2) → L' = L) (c2 : p.2 ∉ L.map (·.2) → L'.Perm ((p.1, p.2) :: L)) : GotR ks (i + 1) L' := by
  have pk : p ∈ ks := List.mem_of_getElem? hp
  have key : (∀ q ∈ L', q ∈ L ∨ q = p) ∧ (∀ r, r ∈ L.map (·.2) ∨ r = p.2 → r ∈ L'.map (·.2)) := by
    by_cases c : p.2 ∈ L.map (·.2)
    · rw [c1 c]
      exact ⟨fun _ h => .inl h, fun _ h => h.elim id fun e => e ▸ c⟩
    · have pm := c2 c
      constructor
      · intro q hq
        exact (List.mem_cons.mp (pm.mem_iff.mp hq)).symm
      · intro r hr
        rw [(pm.map (·.2)).mem_iff, List.map_cons, List.mem_cons]
        exact hr.symm
  constructor
  · intro q hq
    exact (key.1 q hq).elim (g.sub q) fun e => e ▸ pk
  · intro q hq
    rw [take_one hp, List.mem_append, List.mem_singleton] at hq
    exact key.2 _ (hq.imp (g.all q) fun e => by rw [e])
/-- the loop of set.update, over whatever stands between its turns -/
theorem upd_loop {I S : Addr} {n : Nat} {R : Result → Shared → Prop} (inv : Nat → Shared → Prop)
    (more : ∀ i s, i < n → inv i s → wpAny (model P w) A.in1 (pyNext (.ref I)) (fun r s1 => ∃ v, r = some v ∧ wpAny (model P w) A.in1 (setAdd S v) (fun _ s2 => inv (i + 1) s2) (fun e s2 => R (.error e) s2) s1) (fun e s1 => R (.error e) s1) s)
    (stop : ∀ s, inv n s → wpAny (model P w) A.in1 (pyNext (.ref I)) (fun r s1 => r = none ∧ R (.ok (.ret .none)) s1) (fun e s1 => R (.error e) s1) s) :
    ∀ (m i : Nat) (s : Shared), i + m = n → inv i s → codeAny (model P w) A (.builtin "set.update.loop" ⟨[.ref S, .ref I], []⟩) R s := by
  intro m
  induction m with
  | zero =>
    intro i s e h
    obtain rfl : i = n := e
    apply codeAny_builtin F.entry_set_update_loop; rw [Around.under_plainId F.plain_set_update_loop _]
    refine wpAny_bind (wpAny_mono (stop s h) ?_ fun _ _ z => z)
    rintro _ s1 ⟨rfl, hR⟩
    exact wpAny_pure hR
  | succ m ih =>
    intro i s e h
    apply codeAny_builtin F.entry_set_update_loop; rw [Around.under_plainId F.plain_set_update_loop _]
    refine wpAny_bind (wpAny_mono (more i s (by omega) h) ?_ fun _ _ z => z)
    rintro _ s1 ⟨v, rfl, hv⟩
    refine wpAny_bind (wpAny_holding (wpAny_mono hv ?_ fun _ _ z => z))
    intro _ s2 h2
    exact wpAny_pure ⟨plainId_quiet F.plain_set_update_loop _, ih (i + 1) s2 (by omega) h2⟩
/-- rows put into a set one by one -/
theorem upd_rows {I : Addr} {fp wr : List Addr} {G : Array GenState → Array GenState → Prop} {Pv : Nat → Value → Prop} {St : Nat → Shared → Prop} {R : Result → Shared → Prop} {S : Addr} {ks : List (Addr × List Int)} {h0 : Heap} {s : Shared} {es : Array (Int × Value)} {ep : Nat} {t : SetTable}
    (W : WalksS P w A.in1 I fp wr G ks.length Pv St) (hSf : S ∉ fp) (hf : FewR (ks.map (·.2))) (hval : ∀ i v, Pv i v → ∃ p, ks[i]? = some p ∧ v = .ref p.1)
    (hk : ∀ p ∈ ks, IsT P w h0 p.2 p.1) (hS0 : h0.get? S = none) (hw0 : ∀ b ∈ wr, h0.get? b = none) (hu : A.in1.units < cLine) (hst : St 0 s) (kept : ∀ b o, h0.get? b = some o → s.heap.get? b = some o) (none0 : SetTR P w s.heap S [] es ep t)
    (fin : ∀ s' L es ep t, Moved (S :: wr) G s s' → SetTR P w s'.heap S L es ep t → GotR ks ks.length L → (∀ b o, h0.get? b = some o → s'.heap.get? b = some o) → R (.ok (.ret .none)) s') :
    codeAny (model P w) A (.builtin "set.update.loop"
          ⟨[.ref S, .ref I], []⟩) R s := by
  have out : S ∉ wr := fun h => hSf (W.sub S h)
  have wide : ∀ {a b : Shared}, Moved wr G a b → Moved (S :: wr) G a b := fun m => m.mono fun c hc => List.mem_cons_of_mem S hc
  -- what a step of the iterator leaves
  have after : ∀ {a b : Shared} {i : Nat} {L : List (Addr × List Int)} {es : Array (Int × Value)} {ep : Nat} {t : SetTable}, Moved wr G a b → (∀ c o, h0.get? c = some o → a.heap.get? c = some o) → SetTR P w a.heap S L es ep t → GotR ks i L → (∀ c o, h0.get? c = some o → b.heap.get? c = some o) ∧ SetTR P w b.heap S L es ep t := by
    intro a b i L es ep t m ka T g
    have kb : ∀ c o, h0.get? c = some o → b.heap.get? c = some o := by
      intro c o e
      refine m.heap c o ?_ (ka c o e)
      intro z
      rw [hw0 c z] at e
      cases e
    exact ⟨kb, T.keep (fun o => m.heap S o out) fun p hp => isT_keep (hk p (g.sub p hp)) kb⟩
  refine upd_loop (fun i s' => St i s' ∧ (∀ b o, h0.get? b = some o → s'.heap.get? b = some o) ∧ Moved (S :: wr) G s s' ∧ ∃ L es ep t, SetTR P w s'.heap S L es ep t ∧ GotR ks i L) ?_ ?_ ks.length 0 s (Nat.zero_add _) ⟨hst, kept, ?_, [], es, ep, t, none0, ?_⟩
  · rintro i a lt ⟨sa, ka, ma, L, es, ep, t, T, g⟩
    refine W.item i a _ _ lt sa ?_
    intro v b hv sb m
    obtain ⟨p, hp, rfl⟩ := hval i v hv
    obtain ⟨kb, Tb⟩ := after m ka T g
    have ip : IsT P w b.heap p.2 p.1 := isT_keep (hk p (List.mem_of_getElem? hp)) kb
    refine ⟨_, rfl, ?_⟩
    unfold setAdd
    refine wpAny_holding (wpAny_bind (wpAny_pyHash_tuple hu ip (add_at (s := { b with toks := b.toks + (p.2.length + 1) }) Tb ip hu (hf.len g.sub T.nd) ?_)))
    intro _ h' L' es' ep' t' same T' c1 c2
    have else_ : ∀ c, c ≠ S → ∀ o, b.heap.get? c = some o → h'.get? c = some o := fun c hc o e => (same.2 c hc).trans e
    refine ⟨W.frame _ b _ _ sb (Nat.le_add_right _ _) fun c hc => else_ c fun z => hSf (z ▸ hc), fun c o e => else_ c (fun z => ?_) o (kb c o e), ?_, L', es', ep', t', T', g.step hp c1 c2⟩
    · rw [z, hS0] at e
      cases e
    · refine Moved.trans W.gtrans ma ((wide m).then_heap (Nat.le_add_right _ _) ?_)
      intro c o hc
      exact else_ c (fun z => hc (z ▸ List.mem_cons_self)) o
  · rintro a ⟨sa, ka, ma, L, es, ep, t, T, g⟩
    refine W.done a _ _ sa ?_
    intro b m
    obtain ⟨kb, Tb⟩ := after m ka T g
    exact ⟨rfl, fin b L es ep t (Moved.trans W.gtrans ma (wide m)) Tb g kb⟩
  · exact ⟨fun _ _ _ e => e, W.grefl _, rfl, rfl, Nat.le_refl _⟩
  · exact ⟨nofun, fun p hp => by simp at hp⟩
theorem set_of_rows {l : Addr} {items : Array Value} (ks : List (Addr × List Int)) {Q : Value → Shared → Prop} (hh : A.handled = none) (hl : s.heap.IsList l items) (hit : items.toList = ks.map fun p => Value.ref p.1)
    (hk : ∀ p ∈ ks, IsT P w s.heap p.2 p.1) (hf : FewR (ks.map (·.2))) (hu : A.units + 3 < cLine)
    (h : ∀ (h' : Heap) (tk : Nat) L es ep t, SetTR P w h' s.heap.objs.size L es ep t → GotR ks ks.length L → (∀ b o, s.heap.get? b = some o → h'.get? b = some o) → Q (.ref s.heap.objs.size) { s with heap := h', toks := tk }) :
    wpAny (model P w) A (call (.type
          "set") [.ref l]) Q E s := by
  have len : items.size = ks.length := by simpa using congrArg List.length hit
  refine setof_list hh hl ?_
  intro S I s3 R eS off kept noS noI made walk start fin
  subst eS
  rw [len] at walk
  have vals : ∀ (i : Nat) (v : Value), items[i]? = some v → ∃ p, ks[i]? = some p ∧ v = .ref p.1 := by
    intro i v e
    have e2 : items.toList[i]? = some v := by rw [Array.getElem?_toList]; exact e
    rw [hit, List.getElem?_map, Option.map_eq_some_iff] at e2
    exact e2.imp fun _ z => ⟨z.1, z.2.symm⟩
  refine upd_rows walk off hf vals hk noS ?_ hu start (fun b o e => (kept b o e).1) (setTR_fresh made) ?_
  · intro b hb
    rw [List.mem_singleton.mp hb]
    exact noI
  · exact fun s' L es ep t mv T g kp => fin s' mv (h s'.heap s'.toks L es ep t T g kp)
theorem isT_tupV {h : Heap} {k : List Int} {b : Addr} (x : IsT P w h k b) : TupV h (.ref b) k := by
  obtain ⟨o, items, n, ho, hc, hd, hi⟩ := x; exact ⟨b, o, items.toList, n, rfl, ho, hc, by rw [Array.toArray_toList]; exact hd, ints_of_items hi⟩
open Classical in
/-- the row of an address among some -/
noncomputable def rowAt (L : List (Addr × List Int)) (v : Value) : List Int := if h : ∃ q ∈ L, v = .ref q.1 then h.choose.2 else []
theorem rowAt_of {h : Heap} {L : List (Addr × List Int)} (tup : ∀ p ∈ L, IsT P w h p.2 p.1) {q : Addr × List Int} (hq : q ∈ L) : rowAt L (.ref q.1) = q.2 := by
  unfold rowAt
  have ex : ∃ r ∈ L, Value.ref q.1 = .ref r.1 := ⟨q, hq, rfl⟩
  rw [dif_pos ex]
  obtain ⟨h1, h2⟩ := ex.choose_spec
  have a1 := tup _ h1
  have e : q.1 = ex.choose.1 := by injection h2
  rw [← e] at a1
  exact a1.inj (tup q hq)
/-- values that are among some addresses, as these -/
theorem refs_rows {L : List (Addr × List Int)} : ∀ {vs : List Value}, (∀ v ∈ vs, ∃ q ∈ L, v = Value.ref q.1) → ∃ L1 : List (Addr × List Int), vs = L1.map (fun q => Value.ref q.1) ∧ ∀ q ∈ L1, q ∈ L
  | [], _ => ⟨[], rfl, nofun⟩
  | v :: vs, hv => by
    obtain ⟨q, hq, e⟩ := hv v List.mem_cons_self; obtain ⟨L1, e1, hs⟩ := refs_rows fun u hu => hv u (List.mem_cons_of_mem _ hu)
    refine ⟨q :: L1, by rw [List.map_cons,
          e, e1], fun r hr => ?_⟩
    rcases List.mem_cons.mp
          hr with z | z
    · rw [z]; exact hq
    · exact hs r z
theorem perm_rows {h : Heap} {L L1 : List (Addr × List Int)} (tup : ∀ p ∈ L, IsT P w h p.2 p.1) (nd : (L.map (·.2)).Nodup) (sub : ∀ q ∈ L1, q ∈ L) (pm : (L1.map (fun q => Value.ref q.1)).Perm (L.map fun q => Value.ref q.1)) : L1.Perm L := by
  have one : ∀ q ∈ L, ∀ r ∈ L, q.1 =
        r.1 → q = r := fun q hq r hr e => by
    have a1 := tup q hq
    have a2 := tup r hr
    rw [e] at a1
    exact Prod.ext e (a1.inj a2)
  have nL : L.Nodup := nodup_of_map nd
  have nref : (L.map fun q =>
        Value.ref q.1).Nodup := by
    refine List.pairwise_map.mpr (List.Pairwise.imp_of_mem
          (fun {q r} hq hr hne e => ?_) nL)
    injection e with e
    exact hne (one q hq r hr e)
  have n1 : L1.Nodup := nodup_of_map (pm.nodup_iff.mpr nref)
  refine (List.perm_ext_iff_of_nodup n1 nL).mpr fun q => ⟨sub q, fun hq => ?_⟩
  have hm : Value.ref q.1 ∈ L1.map (fun q => Value.ref q.1) := pm.mem_iff.mpr (List.mem_map.mpr ⟨q, hq, rfl⟩)
  obtain ⟨r, hr, e⟩ :=
        List.mem_map.mp hm
  injection e with e
  rw [← one r (sub r hr) q hq e]
  exact hr
/-- collected references to unlike rows, sorted -/
theorem sorted_refs {L : List (Addr × List Int)} {vs : List Value} {Q : Value → Shared → Prop} (hz : vs.length ≤ sizeLine) (tup : ∀ p ∈ L, IsT P w s.heap p.2 p.1) (nd : (L.map (·.2)).Nodup) (hne : ∀ p ∈ L, p.2 ≠ []) (pm : vs.Perm (L.map fun q => Value.ref q.1))
    (h : ∀ (h' : Heap) (L' : List (Addr × List Int)), L'.Perm L → L'.Pairwise (fun q r => lexL r.2 q.2 = false) → (∀ b o, s.heap.get? b = some o → h'.get? b = some o) → (∃ n, h'.get? s.heap.objs.size = some (seqObj "list" (L'.map fun q => Value.ref q.1).toArray n)) → Q (.ref s.heap.objs.size) { s with heap := h' }) :
    wpAny (model P w) A (newList vs) (fun l s' => wpAny (model P w) A (holding [l] (call (.builtin "list.sort") [l])) (fun _ s'' => Q l s'') E s') E s := by
  refine sorted_rows_tail (k := rowAt L) hz (fun v hv => ?_) fun h' out hs hp kp hn => ?_
  · obtain ⟨q, hq, rfl⟩ := List.mem_map.mp (pm.mem_iff.mp hv)
    rw [rowAt_of tup hq]
    exact ⟨isT_tupV (tup q hq), hne q hq⟩
  · obtain ⟨L', e', sub⟩ := refs_rows (L := L) (vs := out) fun v hv => by
      obtain ⟨q, hq, e⟩ := List.mem_map.mp (pm.mem_iff.mp (hp.mem_iff.mp hv))
      exact ⟨q, hq, e.symm⟩
    have pL : L'.Perm L := perm_rows tup nd sub (by rw [← e']; exact hp.trans pm)
    subst e'
    refine h h' L' pL ?_ kp hn
    have hs' := List.pairwise_map.mp hs
    exact hs'.imp_of_mem fun {q r} hq hr hle => by
      have z : lexL (rowAt L (.ref r.1)) (rowAt L (.ref q.1)) = false := hle
      rw [rowAt_of tup (sub q hq), rowAt_of tup (sub r hr)] at z
      exact z
theorem sorted_rowset {a : Addr} {L : List (Addr × List Int)} {es : Array (Int × Value)} {ep : Nat} {t : SetTable} {Q : Value → Shared → Prop} (R : SetTR P w s.heap a L es ep t) (hh : A.handled = none) (hne : ∀ p ∈ L, p.2 ≠ [])
    (hQ : ∀ (s' : Shared) (p : Addr) (L' : List (Addr × List Int)), (∀ b o, s.heap.get? b = some o → s'.heap.get? b = some o) → s'.gens = s.gens → s'.os = s.os → s.heap.objs.size ≤ p →
      (∃ c, s'.heap.get? p = some (seqObj "list" (L'.map (fun q => Value.ref q.1)).toArray c)) → L'.Perm L → L'.Pairwise (fun q r => lexL r.2 q.2 = false) → Q (.ref p) s') :
    wpAny (model P w) A (call (.builtin
          "sorted") [.ref a]) Q E s := by
  obtain ⟨o, there, exact_, data⟩ := R.ob
  have size := R.size; have few := R.few
  have names : es.toList.map (·.2) = L.map fun q => Value.ref q.1 := by
    have rows := R.rows
    unfold rowsOf at rows
    rw [rows, List.map_map]
    exact List.map_congr_left fun _ _ => rfl
  apply Calls.call_function_entry kind_sorted plain_sorted entry_sorted (args_sorted1 _)
  unfold Builtin.«sorted»
  refine wpAny_bind (m := checkCount "sorted" 1 1 _) (wpAny_pure (wpAny_bind (collect_set (A := A.in1) hh ⟨o, there, exact_.1, data⟩ R.fits (by unfold scanBound; omega) R.tab.ris R.led ?_)))
  intro s1 vs kept big gens os pm
  rw [names] at pm
  have short : vs.length < 64 := by
    have := pm.length_eq
    rw [List.length_map] at this
    omega
  refine wpAny_bind (wpAny_mono (sorted_refs (A := A.in1) (E := fun _ _ => False) (s := s1) (P := P) (w := w) (L := L) (Q := fun l s' => Q l s') (by rw [sizeLine_eq]; omega) (fun p hp => isT_keep (R.tup p hp) kept) R.nd hne pm ?_) ?_ fun _ _ z => z.elim)
  · intro h' L' pL pw kp new
    exact hQ { s1 with heap := h' } _ L' (fun b u e => kp b u (kept b u e)) gens os big new pL pw
  · intro l s' hs
    exact wpAny_bind (wpAny_mono hs (fun _ s'' h => wpAny_pure ⟨_, rfl, h⟩) fun _ _ z => z.elim)
/-- a dict's keys, gathered -/
theorem src_raw {d : Addr} {es : Array DictEntry} {ep : Nat} (lo : (d == sysModules) = false) : PySem.W.KdlSrc P w "dict" d d es.size (fun i v => ∃ hi : i < es.size, v = es[i].key) (fun h => h.DictRaw d es ep) where
  type := fun _ hm => hm.typeIs
  there := fun _ hm => ⟨let ⟨_, ho, _⟩ := hm; Heap.lt_size ho, let ⟨_, ho, _⟩ := hm; Heap.lt_size ho⟩
  keep := fun _ _ hm hk => hm.at
        fun o e => hk d (.inl rfl) o e
  notList := by decide
  notTuple := by decide
  hint := fun _ _ _ _ hm hq => PySem.W.kdl_hint_dict hm.typeIs hq
  iter := fun _ _ hh hm => ⟨_, _, (fun _ _ hq => wpAny_pyIter_dict_raw lo hm hq), Walks.rawKeys hh _ d (let ⟨_, ho, _⟩ := hm; Nat.ne_of_lt (Heap.lt_size ho)) es ep, ⟨⟨_, Heap.get?_push_size _ rfl, rfl, rfl⟩, hm.at fun o e => Heap.get?_push_of_some _ e⟩⟩
theorem sorted_rowdict {a : Addr} {xs : List (List Int × Addr × Value)} {Q : Value → Shared → Prop} (lo : (a == sysModules) = false) (hd : s.heap.DictOfH (tkd P w) a xs) (hz : xs.length ≤ sizeLine) (hh : A.handled = none) (hne : ∀ p ∈ xs, p.1 ≠ [])
    (hQ : ∀ (h1 h' : Heap) (tk : Nat) (p : Addr) (L' : List (Addr × List Int)), (∀ b o, s.heap.get? b = some o → h1.get? b = some o) → (∀ b o, h1.get? b = some o → h'.get? b = some o) → h1.objs.size ≤ p →
      (∃ c, h'.get? p = some (seqObj "list" (L'.map (fun q => Value.ref q.1)).toArray c)) → L'.Perm (xs.map fun x => (x.2.1, x.1)) → L'.Pairwise (fun q r => lexL r.2 q.2 = false) → Q (.ref p) { s with heap := h', toks := tk }) :
    wpAny (model P w) A (call (.builtin
          "sorted") [.ref a]) Q E s := by
  obtain ⟨o, es, ep, ho, hc, hdat, he, his, hnd⟩ := id hd
  have hs : es.size = xs.length := size_of_entries he
  refine Calls.call_function_entry kind_sorted plain_sorted entry_sorted (args_sorted1 _) ?_; unfold Builtin.«sorted»
  refine wpAny_bind (m := checkCount "sorted" 1 1 _) (wpAny_pure ?_); refine wpAny_bind (PySem.W.kdu_collect (A := A.in1) (src_raw (P := P) (w := w) (es := es) (ep := ep) lo) hh ⟨o, ho, hc, hdat⟩ (by rw [hs]; exact hz) fun h' tk acc hk hacc => ?_)
  have hacl : acc.toList = (xs.map fun x => (x.2.1, x.1)).map fun q => Value.ref q.1 := by
    refine List.ext_getElem? fun i => ?_
    rw [List.map_map, List.getElem?_map]
    by_cases hi : i < es.size
    · have h1 : i < acc.size := by rw [hacc.1]; exact hi
      obtain ⟨_, e⟩ := hacc.2 i acc[i] (Array.getElem?_eq_getElem h1)
      have e2 := entry_at he i
      rw [Array.getElem?_eq_getElem hi, List.getElem?_eq_getElem (by omega), Option.map_some] at e2
      have e3 := Option.some.inj e2
      rw [Array.getElem?_toList, Array.getElem?_eq_getElem h1, e, List.getElem?_eq_getElem (by omega : i < xs.length), e3]
      rfl
    · rw [List.getElem?_eq_none (by rw [Array.length_toList, hacc.1]; omega), List.getElem?_eq_none (by omega)]
      rfl
  have hvl : acc.toList.length ≤ sizeLine := by rw [Array.length_toList, hacc.1, hs]; exact hz
  refine wpAny_bind (wpAny_mono (sorted_refs (A := A.in1) (E := fun _ _ => False) (s := { s with heap := h', toks := tk }) (P := P) (w := w) (L := xs.map fun x => (x.2.1, x.1)) (Q := fun l s' => Q l s') hvl (fun p hp => ?_) ?_ (fun p hp => ?_) (by rw [hacl]) fun h2 L' pL pw kp hn => ?_) (fun l s' hs => wpAny_bind (wpAny_mono hs (fun _ s'' h => wpAny_pure ⟨_, rfl, h⟩) fun _ _ z => z.elim)) fun _ _ z => z.elim)
  · obtain ⟨x, hx, rfl⟩ := List.mem_map.mp hp
    exact isT_keep (his x hx) hk
  · rw [List.map_map]; exact hnd
  · obtain ⟨x, hx, rfl⟩ := List.mem_map.mp hp
    exact hne x hx
  · exact hQ h' h2 tk _ L' hk kp (Nat.le_refl _) hn pL pw
end
end Kn
set_option Elab.async false
set_option linter.all false
set_option maxRecDepth 100000
set_option maxHeartbeats 2100000
namespace Kn
open PySem PySem.Spec PyProof.Rows L2 RZ
section
variable {X : Cx} {a : Expr} {te : TE} {p p2 q pos : Pos}
def tSortSetR (K : PySem.W.Frag) (te : TE) : TE := fun σ H Q => te σ H fun x H1 => ∃ (l : Addr) (ks : List (Addr × List Int)), x = V.ref l ∧ SqL K H1 l (ks.map fun p => V.ref p.1) ∧ (∀ p ∈ ks, SqT K H1 p.1 (p.2.map V.int)) ∧ FewR (ks.map (·.2)) ∧ (∀ p ∈ ks, p.2 ≠ []) ∧
  ∀ (L : List (Addr × List Int)) (r : Addr), (∀ p ∈ L, p ∈ ks) → (∀ p ∈ ks, p.2 ∈ L.map (·.2)) → (L.map (·.2)).Nodup → L.Pairwise (fun q r => lexL r.2 q.2 = false) → H1 r = none → Q (.ref r) (upd H1 r (.lst (L.map fun p => V.ref p.1)))
theorem pe_sortSetR (hc : X.calm = true) (hu : X.A.units + 64 < cLine) (hg : Gl X "sorted") (hm : X.mg "sorted" = none) (hg2 : Gl X "set") (hm2 : X.mg "set" = none) (ha : PE X a te)
    (na : starEach [a] X.env = (false, eval a X.env) :: starEach [] X.env := by rfl) : PE X (.Call (.Name "sorted" p) [.Call (.Name "set" p2) [a] [] q] [] pos) (tSortSetR X.K te) := by
  refine ⟨fun pins s σ H Q I h => ?_⟩; refine Call_ (ld_blt I hg hm boot_sorted (callWith_builtin1 (args_cons ?_ rfl) rfl rfl))
  refine Call_ (ld_blt I hg2 hm2 boot_set (callWith_type1 (args_cons (thn (ha.run pins s σ H _ I h) fun v s1 ⟨x, H1, I1, r1, q1⟩ => args_nil ?_) na) na rfl))
  obtain ⟨l, ks, rfl, hq, hk, hf, hne, q1⟩ := q1
  cases r1
  have hd := I1.ok.hd hc
  obtain ⟨its, rv, pl, hz⟩ := I1.list hq
  refine set_of_rows (P := X.prog) (w := X.w) ks hd pl.isList (by simpa using refs_of_vals rv) (fun p hp => I1.isT (hk p hp)) hf (by omega) fun h' tk L es ep t R g k => args_nil ?_
  have I2 : Inv X pins σ H1 { s1 with heap := h', toks := tk } := I1.kept (t' := tk) k
  refine sorted_rowset R hd (fun p hp => hne p (g.sub p hp)) fun s' r L' k2 g2 o2 hr ⟨c2, hg3⟩ pm pw => ?_
  have hfew : L'.length < 64 := by
        rw [pm.length_eq]; exact R.few
  have hlen : (L'.map fun q => V.ref q.1).length ≤
        sizeLine := by rw [List.length_map, sizeLine_eq]; omega
  have hn : H1 r = none := I2.hok.fresh hr
  have J : Inv X pins σ (upd H1 r (.lst (L'.map fun q => V.ref q.1))) { ({ s1 with heap := h', toks := tk } : Shared) with heap := s'.heap, gens := s'.gens, drawn := s'.drawn, toks := s'.toks } :=
    I2.call (ch := []) (Un.laid k2 hr hn) (I2.hok.laid k2 hr ⟨hlen, _, c2, vals_of_refs L', hg3⟩) (by rw [g2]; exact I2.bare) nofun
  have e : s' = { ({ s1 with heap := h', toks := tk } : Shared) with heap := s'.heap, gens := s'.gens, drawn := s'.drawn, toks := s'.toks } := by
    cases s'; cases s1; cases o2; rfl
  rw [e]
  exact ⟨.ref r, _, J, rfl, q1 L' r (fun p hp => g.sub p (pm.mem_iff.mp hp)) (fun p hp => (pm.map (·.2)).mem_iff.mpr (g.all p (by rw [List.take_length]; exact hp))) ((pm.map (·.2)).nodup_iff.mpr R.nd) pw hn⟩
/-- sorted(d) -/
def rSortDic (K : PySem.W.Frag) : List V → Hp → VK → Prop := fun vs H Q => ∃ (a : Addr) (L : List (List Int × Addr × V)), vs = [V.ref a] ∧ H a = some (DicO a L) ∧ KeysS K H L ∧ (∀ p ∈ L, p.1 ≠ []) ∧
  ∀ (L' : List (Addr × List Int)) (r : Addr), L.length ≤ sizeLine → L'.Perm (L.map fun x => (x.2.1, x.1)) → L'.Pairwise (fun q r => lexL r.2 q.2 = false) → H r = none → Q (.ref r) (upd H r (.lst (L'.map fun p => V.ref p.1)))
theorem lx_entries : ∀ {L : List (List Int × Addr × V)} {xs : List (List Int × Addr × Value)}, LX L xs → xs.map (fun x => (x.2.1, x.1)) = L.map fun x => (x.2.1, x.1)
  | [], _, .nil => rfl
  | _ :: _, _, .cons h t => by rw [List.map_cons, List.map_cons, lx_entries t, h.1, h.2.1]
theorem cr_sortDic (hc : X.calm = true) : CallR X (.builtin "sorted") (rSortDic X.K) := by
  intro pins s σ H vs us Q I r h; obtain ⟨a, L, rfl, ha, hk, hne, q⟩ := h
  rw [Vals.ref1 r]
  obtain ⟨z, few, nd, xs, hx, dd⟩ := dic_rd I ha hk
  have hl : xs.length = L.length := (Paired.length hx).symm
  refine sorted_rowdict z dd (by rw [hl]; exact few) (I.ok.hd hc) (fun x hxm => ?_) fun h1 h' tk r L' k1 k2 hr ⟨c, hg⟩ pm pw => ?_
  · obtain ⟨p, hp, e1, _⟩ := lx_mem hx x hxm
    rw [← e1]; exact hne p hp
  · rw [lx_entries hx] at pm
    have I1 : Inv X pins σ H { s with heap := h1, toks := tk } := I.kept (t' := tk) k1
    have hlen : (L'.map fun q => V.ref q.1).length ≤ sizeLine := by rw [List.length_map, pm.length_eq, List.length_map]; exact few
    exact ⟨.ref r, upd H r (.lst (L'.map fun q => V.ref q.1)), I1.laid (t' := tk) k2 hr ⟨hlen, _, c, vals_of_refs L', hg⟩, rfl, q L' r few pm pw (I1.hok.fresh hr)⟩
end
section
variable {G : Gd} {E : XK} {X : Cx} {σ : List (Option V)} {H H' : Hp} {B : Addr → Prop}
theorem seq_rows {d : D} {v : V} {rs : List (List Int)} (hi : d = .lst (rs.map rowD)) (h : Den G B H d v) : ∃ (l : Addr) (ks : List (Addr × List Int)), v = .ref l ∧ SqL G.K H l (ks.map fun p => V.ref p.1) ∧ ks.map (·.2) = rs ∧ ∀ p ∈ ks, SqT G.K H p.1 (p.2.map V.int) ∧ Den G B H (rowD p.2) (.ref p.1) := by
  subst hi
  obtain ⟨l, xs, rfl, nl, hl, ll, dl⟩ := h
  obtain ⟨ks, rfl, e2, e3⟩ := rows_ks dl
  exact ⟨l, ks, rfl, SqL.of hl, e2, e3⟩
/-- sorted(set(e)) of rows -/
def dSortSetR (te : DT) : DT := fun ex env Q => te ex env fun d => ∃ rs : List (List Int), d = .lst (rs.map rowD) ∧ FewR rs ∧ (∀ r ∈ rs, r ≠ []) ∧
  ∀ out : List (List Int), out.Nodup → out.Pairwise (fun x y => lexL y x = false) → (∀ r, r ∈ out ↔ r ∈ rs) → Q (.lst (out.map rowD))
theorem de_sortSetR {a : Expr} {c : Nat} {te : DT} {p p2 q pos : Pos} (hK : X.K = G.K) (hc : X.calm = true) (hu : X.A.units + 64 < cLine) (hm : X.mg "sorted" = none) (hm2 : X.mg "set" = none) (ha : DE G E X c a te) (hg : Gl X "sorted" := by rfl) (hg2 : Gl X "set" := by rfl)
    (na : starEach [a] X.env = (false, eval a X.env) :: starEach [] X.env := by rfl) : DE G E X c (.Call (.Name "sorted" p) [.Call (.Name "set" p2) [a] [] q] [] pos) (dSortSetR te) :=
  imp (pe_sortSetR hc hu hg hm hg2 hm2 ha na) fun σ H Q' h => by
    obtain ⟨W, hn, Q, ht, kk⟩ := h
    refine ⟨W, hn, _, ht, fun v H1 d st hd ⟨rs, hi, hf, hne, hq⟩ => ?_⟩
    obtain ⟨l, ks, rfl, hs, e2, e3⟩ := seq_rows hi hd
    refine ⟨l, ks, rfl, by rw [hK]; exact hs, fun p hp => by rw [hK]; exact (e3 p hp).1, by rw [e2]; exact hf, fun p hp => hne _ (by rw [← e2]; exact List.mem_map.mpr ⟨p, hp, rfl⟩), fun L r sub all nd pw hr => ?_⟩
    have hf0 := hf
    have hlen : (L.map fun p => V.ref p.1).length ≤ sizeLine := by
      have := FewR.len (ks := ks) (L := L) (by rw [e2]; exact hf0) sub nd
      rw [List.length_map, sizeLine_eq]; omega
    refine kk _ _ (.lst ((L.map (·.2)).map rowD)) (st.new hr) (den_lst hr ((W.next st).fresh hr) hlen (denL_ks fun q hq => (e3 q (sub q hq)).2)) (hq _ nd (List.pairwise_map.mpr pw) fun r => ⟨fun hr2 => ?_, fun hr2 => ?_⟩)
    · obtain ⟨p, hp, rfl⟩ := List.mem_map.mp hr2
      rw [← e2]; exact List.mem_map.mpr ⟨p, sub p hp, rfl⟩
    · rw [← e2] at hr2
      obtain ⟨p, hp, rfl⟩ := List.mem_map.mp hr2
      exact all p hp
/-- sorted of a dict of rows -/
def gSortDT : D → (D → Prop) → Prop := fun d Q => ∃ (ks : List (List Int)) (ds : List D), d = .dcT ks ds ∧ (∀ r ∈ ks, r ≠ []) ∧ ∀ out : List (List Int), out.Perm ks → out.Pairwise (fun x y => lexL y x = false) → Q (.lst (out.map rowD))
theorem c_sortDT (hK : X.K = G.K) (hc : X.calm = true) : CallR X (.builtin "sorted") (rDL G (g1 gSortDT)) := callr_imp (cr_sortDic hc) fun xs H Q' h => by
  obtain ⟨B, d, x, Q, rfl, hd, hf, ⟨ks, ds, rfl, hne, hq⟩, kk⟩ := rDL1 h
  obtain ⟨a, L, rfl, na, ha, hk, hx, hds⟩ := hd
  refine ⟨a, L, rfl, ha, by rw [hK]; exact hx.s, fun p hp => hne _ (by rw [← hk]; exact List.mem_map.mpr ⟨p, hp, rfl⟩), fun L' r few pm pw hr => ?_⟩
  have hlen : (L'.map fun p => V.ref p.1).length ≤ sizeLine := by rw [List.length_map, pm.length_eq, List.length_map]; exact few
  refine kk _ _ (.lst ((L'.map (·.2)).map rowD)) (Ext.new hr) (den_lst hr (hf r hr) hlen (denL_ks fun q hq2 => ?_)) (hq _ ?_ (List.pairwise_map.mpr pw))
  · have hm := pm.mem_iff.mp hq2
    obtain ⟨p, hp, rfl⟩ := List.mem_map.mp hm
    obtain ⟨h1, h2, h3⟩ := hx p hp
    exact ⟨p.2.1, p.1.map V.int, rfl, h1, h2, by rw [List.length_map]; exact h3, DenL.of_ints⟩
  · have z := pm.map (·.2)
    rw [List.map_map] at z
    rw [← hk]
    exact z
end
end Kn
set_option Elab.async false
set_option linter.all false
set_option maxRecDepth 100000
set_option maxHeartbeats 2100000
namespace Kn
open PySem PySem.Spec PyProof.Rows L2 RZ
section
variable {X : Cx}
def tLOne (K : PySem.W.Frag) (tk tv : TE) : TE := fun σ H Q => ∀ p, H p = none → tPairs [(tk, tv)] σ (upd H p (DicO p [])) fun ps H2 => H2 p = some (DicO p []) ∧ ∃ (b : Addr) (r : List Int) (v : V), ps = [(.ref b, v)] ∧ SqT K H2 b (r.map V.int) ∧ Q (.ref p) (upd H2 p (DicO p [(r, b, v)]))
theorem pe_lone {ke e : Expr} {pos : Pos} {tk tv : TE} (hu : X.A.units + 1 < cLine) (hk : PE X ke tk) (he : PE X e tv) : PE X (.Dict [some ke] [e] pos) (tLOne X.K tk tv) := by
  refine ⟨fun pins s σ H Q I q => ?_⟩; have hn := I.hok.fresh (Nat.le_refl s.heap.objs.size)
  have I1 := I.laid (a := s.heap.objs.size) (o := DicO s.heap.objs.size []) (h' := s.heap.push { cls := .type "dict", data := .dict #[] }) (t' := s.toks) (fun _ _ q => Heap.get?_push_of_some _ q) (Nat.le_refl _) (dicO_new (dic_empty s.heap I.big))
  have run := (pps_cons (pos := pos) hk he pps_nil).run pins _ σ _ _ I1 (q _ hn)
  rw [arm_eval_Dict, zip_pairTrees [some ke] [e] X.env pos rfl rfl, dictDisplay_pairs _ (by intro z; cases z) (by show 1 < 17; omega)]
  refine wpAny_bind (wpAny_standAt (wpAny_bind (wpAny_subDictH (knd := tkd X.prog X.w) (show X.A.units < cLine by omega) (by show 1 ≤ 15; omega) (thn run fun ws s2 ⟨ps, H2, I2, rel, e0, b, r, v, ep, hb, q2⟩ => ?_))))
  subst ep
  cases rel with
  | @cons _ p2 _ _ h2 t2 =>
    cases t2
    obtain ⟨k2, u2⟩ := p2
    obtain ⟨rk, rv⟩ := h2
    cases rk
    obtain ⟨z, _, _, xs, hx, dd⟩ := dic_rd I2 e0 (fun _ h => nomatch h)
    cases hx
    refine ⟨[(r, b, u2)], ⟨rfl, rfl, I2.isT hb, trivial⟩, dd, fun h' tk dd' hs => wpAny_pure ⟨.ref s.heap.objs.size, _, ?_, rfl, q2⟩⟩
    have c : DicAt h' s.heap.objs.size [(r, b, v)] := dicAt_of z (by rw [sizeLine_eq]; simp) (.cons ⟨rfl, rfl, rv⟩ .nil) dd'
    obtain ⟨oq, _, _, hq, _⟩ := dd'
    exact d_write (t' := tk) I2 (by rw [e0]; exact True.intro) hs ⟨oq, hq⟩ (dicO_new c)
end
section
variable {G : Gd} {E : XK} {X : Cx} {σ : List (Option V)} {H H' : Hp}
def kOne (tk te : DT) : DKt := fun ex env Q => tk ex env fun y => te ex env fun d => ∃ r : List Int, rowK y r ∧ d.atom = true ∧ Q [r] [d]
theorem dk_one {ke e : Expr} {pos : Pos} {c c2 : Nat} {tk te : DT} (hK : X.K = G.K) (hu : X.A.units + 1 < cLine) (hk : DE G E X c ke tk) (he : DE G E X c2 e te) : DNd G E X (c + c2) (.Dict [some ke] [e] pos) (kOne tk te) :=
  imp (pe_lone hu hk he) fun σ H Q' hh => by
    obtain ⟨W, hn, Q, ht, kk⟩ := hh
    intro p hp
    have fr := W.fresh hp
    let W1 := W.next (c := 0) (H' := upd H p (DicO p [])) ((Step.refl W).new hp)
    refine ⟨W1, by show W.m + c ≤ W.n - 0; omega, _, ht, fun y H1 dy st hdy hq => ?_⟩
    refine ⟨W1.next st, by show W.m + c2 ≤ W.n - 0 - c; omega, _, hq, fun v H2 d st2 hd ⟨r, hkd, ha, hq2⟩ => ?_⟩
    have st4 := st.trans st2
    have hp2 : H2 p = some (DicO p []) := st4.ext p _ upd_same (W.nuX fr)
    have hdy2 : Den G W1.XB H2 dy y := (W1.next st).den st2 hdy
    obtain ⟨b, rfl, nb, hb, hl2⟩ := hdy2.key hkd
    refine ⟨hp2, b, r, v, rfl, by rw [hK]; exact hb, ?_⟩
    have st3 : Step W (c + c2) (upd H2 p (DicO p [(r, b, v)])) := by
      refine ⟨fun b' o hb' nu => ?_, ?_⟩
      · have nb' : b' ≠ p := ne_of_none hb' hp
        rw [upd_ne nb']
        exact st4.ext b' o (by rw [upd_ne nb']; exact hb') nu
      · have g : Good W.u H2 (W.n - (c + c2)) := by have z := st4.good; rw [show W1.n = W.n - 0 from rfl, Nat.sub_zero] at z; exact z
        exact g.upd (fun r e => ⟨fun z => fr (by rw [z]; exact W.huX r e), fun z => fr (by rw [z]; exact .inl (W.hu r e).2)⟩) (fun q' z => dicO_ne_code q' (Option.some.inj (hp2.symm.trans z)))
    have key : KeysOk G.K (fun a => W.XB a ∨ a = p) (upd H2 p (DicO p [(r, b, v)])) [(r, b, v)] := fun x hx => by
      obtain rfl := List.mem_singleton.mp hx
      rcases nb with nb | nb
      · rcases hb with (e | ⟨o, e⟩) | e
        · have nbp : b ≠ p := fun z => by rw [z, hp2] at e; cases e
          exact ⟨.inl fun z => z.elim nb nbp, .inl (.inl (by rw [upd_ne nbp]; exact e)), hl2⟩
        · have nbp : b ≠ p := fun z => by rw [z, hp2] at e; cases e
          exact ⟨.inl fun z => z.elim nb nbp, .inl (.inr ⟨o, by rw [upd_ne nbp]; exact e⟩), hl2⟩
        · exact ⟨.inr e, .inr e, hl2⟩
      · exact ⟨.inr nb, .inr nb, hl2⟩
    exact kk p _ [r] [d] [(r, b, v)] st3 hp upd_same rfl key ⟨v, [], rfl, den_atom ha hd, rfl⟩ hq2
end
end Kn
set_option Elab.async false
set_option linter.all false
set_option maxRecDepth 100000
set_option maxHeartbeats 2100000
namespace Kn
open PySem L2 RZ
section
variable {G : Gd} {E : XK} {X : Cx} {σ : List (Option V)} {H H' : Hp} {B B' : Addr → Prop}
theorem row_off {p : Addr} {L : List (List Int × Addr × V)} {r : List Int} {v : V} (hp : H p = some (DicO p L)) (hb : ∀ a, B' a → B a ∨ a = p) (h : Den G B H (rowD r) v) : Den G B' H (rowD r) v := by
  obtain ⟨a, xs, rfl, nb, hs, hl, hd⟩ := h
  refine ⟨a, xs, rfl, ?_, hs, hl, ?_⟩
  · rcases nb with nb | nb
    · rcases hs with (e | ⟨o, e⟩) | e
      · exact .inl fun z => (hb a z).elim nb fun z => by rw [z, hp] at e; cases e
      · exact .inl fun z => (hb a z).elim nb fun z => by rw [z, hp] at e; cases e
      · exact .inr e
    · exact .inr nb
  · rw [DenL.ints hd]; exact DenL.of_ints
theorem rows_off {p : Addr} {L : List (List Int × Addr × V)} (hp : H p = some (DicO p L)) (hb : ∀ a, B' a → B a ∨ a = p) : ∀ {rs : List (List Int)} {xs : List V}, DenL G B H (rs.map rowD) xs → DenL G B' H (rs.map rowD) xs
  | [], _, h => h
  | r :: rs, _, ⟨x, ys, e, h1, h2⟩ => ⟨x, ys, e, row_off hp hb h1, rows_off hp hb h2⟩
def sParKF (i j : Nat) (t : DKt) (u : DA) : DS := fun ex de env => t ex env fun ks ds => u ex env fun es => ∃ rs : List (List Int), es = rs.map rowD ∧ ∀ a b, de.nx ((env.set i (.dic a ks ds)).set j (.own b es))
theorem ds_parKF {i j : Nat} {x y : Str} {f b : Expr} {t : DKt} {u : DA} {c c2 : Nat} {px py pt pos : Pos} {kt k2 pt2} (hc : X.calm = true) (hN : X.N.Nodup) (hi : X.N[i]? = some x) (hj : X.N[j]? = some y) (hij : i ≠ j)
    (hx : X.env.scope.names.lookup x = some .local) (hy : X.env.scope.names.lookup y = some .local) (hf : DNd G E X c f t) (hb : DF G E X c2 b u) (hs1 : starEach [f, b] X.env = (false, eval f X.env) :: starEach [b] X.env := by rfl) (hs2 : starEach [b] X.env = (false, eval b X.env) :: starEach [] X.env := by rfl)
    (hw : swappedStores [.Tuple [.Name x px, .Name y py] kt pt] (.Tuple [f, b] k2 pt2) X.env = pure (some [x, y]))
    (hs : swapsWithSole [.Tuple [.Name x px, .Name y py] kt pt] (.Tuple [f, b] k2 pt2) pos.line X.env = pure false := by rfl) : DSt G E X (c + c2) (.Assign [.Tuple [.Name x px, .Name y py] kt pt] (.Tuple [f, b] k2 pt2) pos) (sParKF i j t u) :=
  impS (ps_par hc hN hi hj hij hx hy (pa_cons hf (pa_cons hb pa_nil hs2) hs1) hw hs) fun Dn σ H h => by
    obtain ⟨W, hn, de, ht, k1, k2, k3, k4⟩ := h
    refine ⟨W, by omega, _, ht, fun p H1 ks ds L st hp h1 hk hx hd hq => ?_⟩
    refine ⟨W.next st, by show W.m + c2 ≤ W.n - c; omega, _, hq, fun p2 H2 es xs st2 hp2 h2 hl hd2 ⟨rs, hes, hnx⟩ => ?_⟩
    subst hes
    refine ⟨.ref p, .ref p2, rfl, ?_⟩
    obtain ⟨W1, l1, l2, l5⟩ := wd_dic W st (i := i) hp h1 hk hx hd
    have st3 : Step W1 c2 H2 := ⟨by rw [l1.u]; exact st2.ext, by
      have g : Good W.u H2 (W.n - c - c2) := st2.good
      rw [l1.u, l5]
      exact g⟩
    have hp2' : H2 p = some (DicO p L) := st2.ext p _ h1 (W.nuX (W.fresh hp))
    have hd3 : DenL G (fun a => W1.XB a ∨ a = p2) H2 (rs.map rowD) xs := rows_off hp2' (fun a ha => by
      rcases ha with ha | ha
      · rcases ha with ha | ⟨j', s', e1, m1, e2⟩
        · exact .inl (.inl (.inl (by show W.B a; rw [← l1.B]; exact ha)))
        · rw [l2] at e1
          by_cases hji : i = j'
          · subst hji
            by_cases hi2 : i < σ.length
            · rw [List.getElem?_set_self hi2] at e2; cases e2; exact .inr rfl
            · rw [List.getElem?_eq_none (by rw [List.length_set]; omega)] at e2; cases e2
          · rw [List.getElem?_set_ne hji] at e1 e2
            exact .inl (.inl (.inr ⟨j', s', e1, m1, e2⟩))
      · exact .inl (.inr ha)) hd2
    obtain ⟨W', l3, l4⟩ := wd_own W1 st3 (i := j) hp2 h2 hl hd3
    exact k1 _ H2 W' ((l1.trans l3).more (by omega)) (by rw [l4, l2]; exact hnx p p2)
end
end Kn
set_option Elab.async false
set_option linter.all false
set_option maxRecDepth 100000
set_option maxHeartbeats 3200000
namespace Kn
open PySem PySem.Spec PyProof.Rows L2 RZ
end Kn
set_option Elab.async false
set_option linter.all false
set_option maxRecDepth 100000
set_option maxHeartbeats 2100000
namespace Kn
open PySem L2 RZ
end Kn
set_option Elab.async false
set_option linter.all false
set_option maxRecDepth 100000
set_option maxHeartbeats 2100000
namespace Kn
open PySem L2 RZ
open PyProof.Rows (envOfC)
end Kn
set_option Elab.async false
set_option linter.all false
set_option maxRecDepth 100000
set_option maxHeartbeats 2100000
namespace Kn
open PySem L2 RZ
end Kn
set_option Elab.async false
set_option linter.all false
set_option maxRecDepth 100000
set_option maxHeartbeats 2100000
namespace Kn
open PySem L2 RZ
end Kn
set_option Elab.async false
set_option linter.all false
set_option maxRecDepth 100000
set_option maxHeartbeats 2100000
set_option Elab.async false
set_option linter.all false
set_option maxRecDepth 100000
set_option maxHeartbeats 2100000
namespace Kn
open PySem L2 RZ
end Kn
set_option Elab.async false
set_option linter.all false
set_option maxRecDepth 100000
set_option maxHeartbeats 2100000
namespace Kn
open PySem L2 RZ
end Kn
set_option Elab.async false
set_option linter.all false
set_option maxRecDepth 100000
set_option maxHeartbeats 2100000
namespace Kn
open PySem L2 RZ
end Kn
set_option Elab.async false
set_option linter.all false
set_option maxRecDepth 100000
set_option maxHeartbeats 2100000
namespace Kn
open PySem L2 RZ
end Kn
set_option Elab.async false
set_option linter.all false
set_option maxRecDepth 100000
set_option maxHeartbeats 2100000
namespace Kn
open PySem L2 RZ
/-- one value a key -/
def AllK (R : Str → D → Prop) : List Str → List D → Prop
  | [], ps => ps = []
  | k :: ks, ps => ∃ p r, ps = p :: r ∧ R k p ∧ AllK R ks r
theorem AllK.length {R : Str → D → Prop} : ∀ {ks : List Str} {ps : List D}, AllK R ks ps → ps.length = ks.length
  | [], _, h => by cases h; rfl
  | _ :: _, _, ⟨_, _, e, _, h⟩ => by subst e; simp [AllK.length h]
end Kn
set_option Elab.async false
set_option linter.all false
set_option maxRecDepth 100000
set_option maxHeartbeats 2100000
namespace Kn
open PySem L2 RZ
end Kn
set_option Elab.async false
set_option linter.all false
set_option maxRecDepth 100000
set_option maxHeartbeats 2100000
namespace Kn
open PySem L2 RZ
section
variable {G : Gd} {E : XK} {X : Cx} {σ : List (Option V)} {H H' : Hp}
def sParV000 (i j l m : Nat) (te : DT) : DS := fun ex de env => te ex env fun d => ∀ a b c, de.nx ((((env.set i (.val d)).set j (.own a [])).set l (.own b [])).set m (.own c []))
theorem ds_cellV000 {i j l m : Nat} {x y z t : Str} {e : Expr} {te : DT} {c : Nat} {px py pz pq pt pos b1 b2 b3 : Pos} {kt k2 pt2} (hc : X.calm = true) (g1 : PG X (.Name x px) (gName i)) (g2 : PG X (.Name y py) (gName j)) (g3 : PG X (.Name z pz) (gName l)) (g4 : PG X (.Name t pq) (gName m))
    (he : DE G E X c e te)
    (hs1 : starEach [e, .List [] b1, .List [] b2, .List [] b3] X.env = (false, eval e X.env) :: starEach [.List [] b1, .List [] b2, .List [] b3] X.env := by rfl) (hs2 : starEach [.List [] b1, .List [] b2, .List [] b3] X.env = (false, eval (.List [] b1) X.env) :: starEach [.List [] b2, .List [] b3] X.env := by rfl) (hs3 : starEach [.List [] b2, .List [] b3] X.env = (false, eval (.List [] b2) X.env) :: starEach [.List [] b3] X.env := by rfl) (hs4 : starEach [.List [] b3] X.env = (false, eval (.List [] b3) X.env) :: starEach [] X.env := by rfl)
    (hs : swapsWithSole [.Tuple [.Name x px, .Name y py, .Name z pz, .Name t pq] kt pt] (.Tuple [e, .List [] b1, .List [] b2, .List [] b3] k2 pt2) pos.line X.env = pure false := by rfl) (hw : swappedStores [.Tuple [.Name x px, .Name y py, .Name z pz, .Name t pq] kt pt] (.Tuple [e, .List [] b1, .List [] b2, .List [] b3] k2 pt2) X.env = pure none := by with_unfolding_all rfl)
    (h1 : (assignEach [.Tuple [.Name x px, .Name y py, .Name z pz, .Name t pq] kt pt] X.env).map (·.2) = [assign (.Tuple [.Name x px, .Name y py, .Name z pz, .Name t pq] kt pt) X.env] := by rfl) : DSt G E X c (.Assign [.Tuple [.Name x px, .Name y py, .Name z pz, .Name t pq] kt pt] (.Tuple [e, .List [] b1, .List [] b2, .List [] b3] k2 pt2) pos) (sParV000 i j l m te) :=
  impS (ps_asg (pe_tup (pa_cons he (pa_cons (df_lst (G := G) (E := E) da_nil) (pa_cons (df_lst (G := G) (E := E) da_nil) (pa_cons (df_lst (G := G) (E := E) da_nil) pa_nil hs4) hs3) hs2) hs1)) (pg_tup (n := 4) hc (pgs_cons g1 (pgs_cons g2 (pgs_cons g3 (pgs_cons g4 pgs_nil))))) hs hw h1) fun Dn σ H h => by
    obtain ⟨W, hn, de, ht, k1, k2, k3, k4⟩ := h
    refine ⟨W, by omega, _, ht, fun v H1 d st hd hq => ?_⟩
    let FQ : Prop := ∀ a b c, de.nx ((((W.env.set i (.val d)).set j (.own a [])).set l (.own b [])).set m (.own c []))
    have hq0 : FQ := hq
    refine ⟨W.next st, by show W.m + 0 ≤ W.n - c; omega, fun es => es = [] ∧ FQ, ⟨by simp, rfl, hq0⟩, fun p H2 es ys st2 hp h2 hl hd2 ⟨e0, _⟩ => ?_⟩
    subst e0
    refine ⟨(W.next st).next st2, by show W.m + 0 ≤ W.n - c - 0; omega, fun es => es = [] ∧ FQ, ⟨by simp, rfl, hq0⟩, fun p2 H3 es2 ys2 st3 hp2 h3 hl3 hd3 ⟨e0, _⟩ => ?_⟩
    subst e0
    refine ⟨((W.next st).next st2).next st3, by show W.m + 0 ≤ W.n - c - 0 - 0; omega, fun es => es = [] ∧ FQ, ⟨by simp, rfl, hq0⟩, fun p3 H4 es3 ys3 st4 hp3 h4 hl4 hd4 ⟨e0, _⟩ => ?_⟩
    subst e0
    refine ⟨small (by simp), fun q hq4 => ?_⟩
    refine ⟨q, [v, .ref p, .ref p2, .ref p3], rfl, SqT.of upd_same, rfl, v, [.ref p, .ref p2, .ref p3], rfl, .ref p, [.ref p2, .ref p3], rfl, .ref p2, [.ref p3], rfl, .ref p3, [], rfl, rfl, ?_⟩
    have hd' : Den G (W.next st).XB H1 d v := hd
    let W1 := (W.next st).put i hd'
    have st2' : Step W1 0 H2 := ⟨st2.ext, st2.good⟩
    obtain ⟨W2, l1, l2, l5⟩ := wd_ownN W1 st2' (i := j) (ds := []) hp h2 hl (by cases (show ys = [] from hd2); exact rfl)
    have st3' : Step W2 0 H3 := ⟨by rw [l1.u]; exact st3.ext, by
      have g : Good W1.u H3 (W1.n - 0 - 0) := st3.good
      rw [l1.u, l5]
      exact g⟩
    obtain ⟨W3, l3, l4, l6⟩ := wd_ownN W2 st3' (i := l) (ds := []) hp2 h3 hl3 (by cases (show ys2 = [] from hd3); exact rfl)
    have st4' : Step W3 0 H4 := ⟨by rw [l3.u, l1.u]; exact st4.ext, by
      have g : Good W1.u H4 (W1.n - 0 - 0 - 0) := st4.good
      rw [l3.u, l1.u, l6, l5]
      exact g⟩
    have npq : p3 ≠ q := fun z => by rw [z, hq4] at h4; cases h4
    obtain ⟨W', l7, l8⟩ := wd_own W3 (st4'.new (o := .tup [v, .ref p, .ref p2, .ref p3]) hq4) (i := m) (ds := []) hp3 (by rw [upd_ne npq]; exact h4) hl4 (by cases (show ys3 = [] from hd4); exact rfl)
    exact k1 _ _ W' ((((Later.next st).trans (Later.put _ i hd')).trans ((l1.trans l3).trans l7)).more (by omega)) (by rw [l8, l4, l2]; exact hq0 p p2 p3)
end
end Kn
set_option Elab.async false
set_option linter.all false
set_option maxRecDepth 100000
set_option maxHeartbeats 2100000
namespace Kn
open PySem L2 RZ
end Kn
set_option Elab.async false
set_option linter.all false
set_option maxRecDepth 100000
set_option maxHeartbeats 2100000
namespace Kn
open PySem PySem.Spec L2 RZ LamX PyProof.Rows
open PyProof.Rows (envOfC)
end Kn
set_option Elab.async false
set_option linter.all false
set_option maxRecDepth 100000
set_option maxHeartbeats 2100000
namespace Pg
open PySem
open PySem.Spec PyProof.Rows L2
end Pg
set_option Elab.async false
set_option linter.all false
set_option maxRecDepth 100000
set_option maxHeartbeats 4100000
namespace Pg
open PySem L2 RZ Kn
def topS (i : Nat) : Stmt := PySem.Challenge.pw_kindtells_k06_whole_few_leads_make_all_o.main.body.getD i (.Pass ⟨0, 0, 0, 0⟩)
structure Bn (mg : Str → Option Value) : Prop where
  len : mg "len" = none
  all : mg "all" = none
  any : mg "any" = none
  isinstance : mg "isinstance" = none
  int : mg "int" = none
  bool : mg "bool" = none
  list : mg "list" = none
  tuple : mg "tuple" = none
  str : mg "str" = none
  range : mg "range" = none
  zip : mg "zip" = none
  sorted : mg "sorted" = none
  type : mg "type" = none
  max : mg "max" = none
  min : mg "min" = none
  abs : mg "abs" = none
  repr : mg "repr" = none
  set : mg "set" = none
  enumerate : mg "enumerate" = none
  dict : mg "dict" = none
  sum : mg "sum" = none
section
variable {G : Gd} {P : Program} {w : World} {mg : Str → Option Value} {base : Heap} {f : Addr} {fd : FuncData}
def sIsInt : FSpec := fun ds R _ => ∃ d, ds = [d] ∧ (kindS d).isSome = true ∧ R (.bl (D.isI d))
abbrev s_is_integer : Stmt := topS 2
theorem sc_is_integer : FnScope ["value"] ["value"] (defScope s_is_integer) := ⟨rfl, rfl, rfl, by decide +kernel, rfl, by decide +kernel, by decide +kernel⟩
theorem ok_is_integer (F : Fun G.K "is_integer" "is_integer" s_is_integer f fd) (bn : Bn mg)  : FnD G P w mg base 1 f fd ["value"] 0 sIsInt := by
  refine FnD.more (fnd_of F sc_is_integer (fun cdv A outer s H E hr hg => have xk := xk_def (E := E) hr hg; (ds_one (ds_ret (de_and (de_bi (c_isi xk.K) bn.isinstance (da_cons (dv 0) (da_cons (de_tyn (n := "int") bn.int) da_nil))) (de_one (de_not (de_bi (c_isi xk.K) bn.isinstance (da_cons (dv 0) (da_cons (de_tyn (n := "bool") bn.bool) da_nil))))))))) ?_) (by decide)
  rintro ds R ex hl ⟨d, rfl, hk, hr⟩
  refine ⟨d, rfl, _, _, rfl, isB_int hk, ?_⟩
  cases d <;> first | cases hk | skip
  all_goals first
    | exact ⟨_, rfl, hr⟩
    | exact ⟨_, rfl, _, rfl, _, _, rfl, isB_bool rfl, _, rfl, hr⟩
def sNumbers : FSpec := fun ds R _ => ∃ d, ds = [d] ∧ (kindS d).isSome = true ∧ (∀ xs, d.items? = some xs → ∀ x ∈ xs, (kindS x).isSome = true) ∧ R (.bl (match d.items? with | some xs => xs.all D.isI | none => false))
abbrev s_are_numbers : Stmt := topS 4
theorem sc_are_numbers : FnScope ["value", "number"] ["value"] (defScope s_are_numbers) := ⟨rfl, rfl, rfl, by decide +kernel, rfl, by decide +kernel, by decide +kernel⟩
theorem ok_are_numbers (F : Fun G.K "are_numbers" "are_numbers" s_are_numbers f fd) (bn : Bn mg) (F_is_integer : Fk G P w mg base 1 "is_integer" ["value"] 0 sIsInt) : FnD G P w mg base 2 f fd ["value"] 0 sNumbers := by
  refine FnD.more (fnd_of F sc_are_numbers (fun cdv A outer s H E hr hg => have xk := xk_def (E := E) hr hg; (ds_one (ds_ret (de_and (de_isiT (Ts := ["list", "tuple"]) xk.K bn.isinstance (dv 0) (pa_cons (ps_tyn (n := "list") bn.list) (pa_cons (ps_tyn (n := "tuple") bn.tuple) pa_nil)) (by simp) (by decide)) (de_one (de_bi (c_all xk.calm) bn.all (da_cons (de_comp (own := [("number", 1)]) xk sc_are_numbers.nd (di_seq xk.K (dv 0)) (blkOk_by (N := ["value", "number"]) (sc := defScope s_are_numbers) (by decide +kernel)) (fun s H C cl fp => (dg_name (i := 1) sc_are_numbers.nd rfl (Or.inl rfl))) (fun s H C cl fp => dts_nil) (fun s H C cl fp => (de_call F_is_integer (Xk.blk xk _ _ _ _ _) (da_cons (dv 1) da_nil))) (by simp)) da_nil))))))) ?_) (by decide)
  rintro ds R ex hl ⟨d, rfl, hk, hks, hr⟩
  refine ⟨d, rfl, _, any_seq hk, _, rfl, ?_⟩
  cases hi : d.items? with
  | none => rw [hi] at hr; exact hr
  | some xs =>
    rw [hi] at hr
    have key : ∀ (Q : D → Prop), Q (.bl (xs.all D.isI)) → compL (tgName 1) bYes (dCall 1 sIsInt (aCons (dVar 1) aNil)) (fun rs => g1 gAll [.lst rs] Q) (inEnv (env0 ["value", "number"] [d]) [1]) xs [] := fun Q hq => by
      refine compL_map (fun x => .bl (D.isI x)) (fun x hx K hK => ⟨x, rfl, rfl, x, rfl, hks xs hi x hx, hK⟩) ?_
      refine ⟨xs.map D.isI, by simp [List.map_map], ?_⟩
      simpa [List.all_map] using hq
    refine ⟨d, rfl, ?_⟩
    cases d <;> cases hi
    · exact key _ hr
    · exact key _ hr
def sWithin : FSpec := fun ds R _ => ∃ d lo hi, ds = [d, bndD lo, bndD hi] ∧ (kindS d).isSome = true ∧ R (.bl (withinB d lo hi))
abbrev s_is_within : Stmt := topS 3
theorem sc_is_within : FnScope ["value", "least", "most"] ["value", "least", "most"] (defScope s_is_within) := ⟨rfl, rfl, rfl, by decide +kernel, rfl, by decide +kernel, by decide +kernel⟩
theorem ok_is_within (F : Fun G.K "is_within" "is_within" s_is_within f fd) (bn : Bn mg) (F_is_integer : Fk G P w mg base 1 "is_integer" ["value"] 0 sIsInt) : FnD G P w mg base 2 f fd ["value", "least", "most"] 0 sWithin := by
  refine FnD.more (fnd_of F sc_is_within (fun cdv A outer s H E hr hg => have xk := xk_def (E := E) hr hg; (ds_cons (ds_if (dt_not (dt_val (de_call F_is_integer xk (da_cons (dv 0) da_nil)))) (ds_one (ds_ret de_bl)) ds_nil) (ds_one (ds_ret (de_and (de_or (de_cmp (o_is) (dv 1) de_non (by rfl)) (de_one (de_cmp (o_ge) (dv 0) (dv 1) (by rfl)))) (de_one (de_or (de_cmp (o_is) (dv 2) de_non (by rfl)) (de_one (de_cmp (o_le) (dv 0) (dv 2) (by rfl)))))))))) ?_) (by decide)
  rintro ds R ex hl ⟨d, lo, hi, rfl, hk, hr⟩
  refine ⟨d, rfl, rfl, d, rfl, hk, D.isI d, rfl, ?_⟩
  cases hi' : D.isI d with
  | false =>
    have e : withinB d lo hi = false := by cases d <;> first | rfl | cases hi'
    rw [e] at hr
    exact hr
  | true =>
    obtain ⟨i, rfl⟩ := isI_of hi'
    have k2 : ∀ Q : D → Prop, Q (.bl (hi.all fun h => decide (i ≤ h))) → (dOr (dOp gIs (dVar 2) (dC .non)) (dOp gLe (dVar 0) (dVar 2))) ex (env0 ["value", "least", "most"] [.int i, bndD lo, bndD hi]) Q := fun Q hq => by
      refine ⟨bndD hi, rfl, rfl, bnd_no hi, (bndD hi).isN, rfl, ?_⟩
      cases hi with
      | none => exact hq
      | some h => exact ⟨_, rfl, _, rfl, trivial, hq⟩
    have k1 : ∀ Q : D → Prop, (∀ b, b = (lo.all fun l => decide (l ≤ i)) → Q (.bl b)) → (dOr (dOp gIs (dVar 1) (dC .non)) (dOp gGe (dVar 0) (dVar 1))) ex (env0 ["value", "least", "most"] [.int i, bndD lo, bndD hi]) Q := fun Q hq => by
      refine ⟨bndD lo, rfl, rfl, bnd_no lo, (bndD lo).isN, rfl, ?_⟩
      cases lo with
      | none => exact hq _ rfl
      | some l => exact ⟨_, rfl, _, rfl, trivial, hq _ rfl⟩
    refine k1 (fun x => ∃ c, x = .bl c ∧ if c = true then dOr (dOp gIs (dVar 2) (dC .non)) (dOp gLe (dVar 0) (dVar 2)) ex (env0 ["value", "least", "most"] [.int i, bndD lo, bndD hi]) R else R (.bl false)) fun b hb => ⟨b, rfl, ?_⟩
    have e : withinB (.int i) lo hi = (b && hi.all fun h => decide (i ≤ h)) := by rw [hb]; rfl
    rw [e] at hr
    cases b with
    | false => exact hr
    | true => exact k2 _ hr
/-- a number within its bounds -/
def sDemNumL : FSpec := fun ds R _ => ∃ i lo hi p, ds = [.int i, bndD lo, bndD hi, p] ∧ inB i lo hi = true ∧ R .non
abbrev s_demand_number : Stmt := topS 15
theorem sc_demand_number : FnScope ["value", "least", "most", "part"] ["value", "least", "most", "part"] (defScope s_demand_number) := ⟨rfl, rfl, rfl, by decide +kernel, rfl, by decide +kernel, by decide +kernel⟩
theorem ok_demand_number (F : Fun G.K "demand_number" "demand_number" s_demand_number f fd) (bn : Bn mg) (F_is_within : Fk G P w mg base 2 "is_within" ["value", "least", "most"] 0 sWithin) : FnD G P w mg base 3 f fd ["value", "least", "most", "part"] 0 sDemNumL := by
  refine FnD.more (fnd_of F sc_demand_number (fun cdv A outer s H E hr hg => have xk := xk_def (E := E) hr hg; (ds_one (ds_if (dt_not (dt_val (de_call F_is_within xk (da_cons (dv 0) (da_cons (dv 1) (da_cons (dv 2) da_nil)))))) (ds_one ds_never) ds_nil))) ?_) (by decide)
  rintro ds R ex hl ⟨i, lo, hi, p, rfl, hb, hr⟩
  refine ⟨.int i, rfl, bndD lo, rfl, bndD hi, rfl, rfl, .int i, lo, hi, rfl, rfl, ?_⟩
  exact ⟨inB i lo hi, rfl, by rw [hb]; exact hr⟩
def sDemWorldL : FSpec := fun ds R _ => ∃ (i : Int) (p : D), ds = [.int i, p] ∧ 1 ≤ i ∧ i ≤ 5 ∧ R .non
abbrev s_demand_world : Stmt := topS 16
theorem sc_demand_world : FnScope ["things", "part"] ["things", "part"] (defScope s_demand_world) := ⟨rfl, rfl, rfl, by decide +kernel, rfl, by decide +kernel, by decide +kernel⟩
theorem ok_demand_world (F : Fun G.K "demand_world" "demand_world" s_demand_world f fd) (bn : Bn mg) (F_demand_number : Fk G P w mg base 3 "demand_number" ["value", "least", "most", "part"] 0 sDemNumL) (g_MOST_THINGS : ∃ t, mg "MOST_THINGS" = some (.int 5 t)) : FnD G P w mg base 4 f fd ["things", "part"] 0 sDemWorldL := by
  refine FnD.more (fnd_of F sc_demand_world (fun cdv A outer s H E hr hg => have xk := xk_def (E := E) hr hg; (ds_one (ds_expr (de_call F_demand_number xk (da_cons (dv 0) (da_cons de_int (da_cons (de_gint g_MOST_THINGS) (da_cons (dv 1) da_nil)))))))) ?_) (by decide)
  rintro ds R ex hl ⟨i, p, rfl, h1, h2, hr⟩
  refine ⟨.int i, rfl, p, rfl, rfl, i, some 1, some 5, p, rfl, ?_, hr⟩
  simp [inB, h1, h2]
def sDemNumsL : FSpec := fun ds R _ => ∃ d xs p, ds = [d, p] ∧ d.items? = some xs ∧ xs.all D.isI = true ∧ R .non
abbrev s_demand_numbers : Stmt := topS 17
theorem sc_demand_numbers : FnScope ["values", "part"] ["values", "part"] (defScope s_demand_numbers) := ⟨rfl, rfl, rfl, by decide +kernel, rfl, by decide +kernel, by decide +kernel⟩
theorem ok_demand_numbers (F : Fun G.K "demand_numbers" "demand_numbers" s_demand_numbers f fd) (bn : Bn mg) (F_are_numbers : Fk G P w mg base 2 "are_numbers" ["value"] 0 sNumbers) : FnD G P w mg base 3 f fd ["values", "part"] 0 sDemNumsL := by
  refine FnD.more (fnd_of F sc_demand_numbers (fun cdv A outer s H E hr hg => have xk := xk_def (E := E) hr hg; (ds_one (ds_if (dt_not (dt_val (de_call F_are_numbers xk (da_cons (dv 0) da_nil)))) (ds_one ds_never) ds_nil))) ?_) (by decide)
  rintro ds R ex hl ⟨d, xs, p, rfl, hx, ha, hr⟩
  refine ⟨d, rfl, rfl, d, rfl, kind_items hx, fun ys hy => ?_, true, ?_, hr⟩
  · rw [hx] at hy; cases hy; exact kinds_isI ha
  · rw [hx]; show D.bl (xs.all D.isI) = _; rw [ha]
def sDemThingsL : FSpec := fun ds R _ => ∃ (d : D) (is : List Int) (n : Int), ds = [d, .int n] ∧ d.items? = some (is.map D.int) ∧ (∀ i ∈ is, 0 ≤ i ∧ i < n) ∧ R .non
abbrev s_demand_things : Stmt := topS 18
theorem sc_demand_things : FnScope ["values", "things", "value"] ["values", "things"] (defScope s_demand_things) := ⟨rfl, rfl, rfl, by decide +kernel, rfl, by decide +kernel, by decide +kernel⟩
theorem ok_demand_things (F : Fun G.K "demand_things" "demand_things" s_demand_things f fd) (bn : Bn mg) (F_is_within : Fk G P w mg base 2 "is_within" ["value", "least", "most"] 0 sWithin) : FnD G P w mg base 3 f fd ["values", "things"] 0 sDemThingsL := by
  refine FnD.more (fnd_of F sc_demand_things (fun cdv A outer s H E hr hg => have xk := xk_def (E := E) hr hg; (ds_one (ds_for xk po_def (di_seq xk.K (dv 0)) (dg_name (i := 2) sc_demand_things.nd rfl (Or.inl rfl)) (ds_one (ds_if (dt_not (dt_val (de_call F_is_within xk (da_cons (dv 2) (da_cons de_int (da_cons (de_op (o_sub) (dv 1) de_int) da_nil)))))) (ds_one ds_never) ds_nil))))) ?_) (by decide)
  rintro ds R ex hl ⟨d, is, n, rfl, hx, hb, hr⟩
  refine ⟨d, rfl, ?_⟩
  have key : ∀ (de : DEnds) (tb : DS), de.nx = (fun _ => R .non) → (∀ (i : Int) (s : Sl) (nx : List Sl → Prop), 0 ≤ i → i < n → nx [.val d, .val (.int n), .val (.int i)] → tb ex { de with nx := nx, ct := nx, bk := de.nx } [.val d, .val (.int n), .val (.int i)]) → sForL ex (tgName 2) tb de (is.map D.int) (env0 ["values", "things", "value"] [d, .int n]) := fun de tb hde hstep => by
    refine sForL_inv (fun _ env => ∃ s, env = [.val d, .val (.int n), s]) 0 ⟨_, rfl⟩ (fun i x env hi hI nx hn => ?_) (fun env hI => by rw [hde]; exact hr)
    obtain ⟨s, rfl⟩ := hI
    rw [List.getElem?_map] at hi
    obtain ⟨j, hj, rfl⟩ := Option.map_eq_some_iff.mp hi
    obtain ⟨b1, b2⟩ := hb j (List.mem_of_getElem? hj)
    exact hstep j s nx b1 b2 (hn _ ⟨_, rfl⟩)
  cases d <;> cases hx
  all_goals
    refine key _ _ rfl fun i s nx b1 b2 hn => ?_
    refine ⟨.int i, rfl, .int n, rfl, trivial, rfl, .int i, some 0, some (n - 1), rfl, rfl, ?_⟩
    refine ⟨true, ?_, hn⟩
    rw [show withinB (.int i) (some 0) (some (n - 1)) = true by simp [withinB, inB]; omega]
/-- the classes: leads 1, the reader's 2 -/
structure Gk (G : Gd) : Prop where
  fl : G.fl 1 = [Str.ofString "begin", "into", "row"]
  fl2 : G.fl 2 = [Str.ofString "words", "taken"]
  begin : FldOk G "begin"
  into : FldOk G "into"
  row : FldOk G "row"
  words : FldOk G "words"
  taken : FldOk G "taken"
  nd : ∀ c, (G.fl c).Nodup
  sm : ∀ c, (G.fl c).length ≤ 100
def leadD (into : Int) (is : List Int) : D := .ins 1 [.int is.length, .int into, .tup (is.map D.int)]
def sLeadInitL : FSpec := fun ds R _ => ∃ (into : Int) (d : D) (is : List Int), ds = [.int into, d] ∧ d.items? = some (is.map D.int) ∧ 1 ≤ into ∧ into ≤ 5 ∧ 1 ≤ is.length ∧ is.length ≤ 5 ∧ (∀ i ∈ is, 0 ≤ i ∧ i < into) ∧ R (leadD into is)
abbrev s_Lead___init__ : Stmt := inClass (topS 23) 0
theorem sc_Lead___init__ : FnScope ["self", "into", "row"] ["self", "into", "row"] (defScope s_Lead___init__) := ⟨rfl, rfl, rfl, by decide +kernel, rfl, by decide +kernel, by decide +kernel⟩
theorem ok_Lead___init__ (F : Fun G.K "__init__" "Lead.__init__" s_Lead___init__ f fd) (bn : Bn mg) (fo : Gk G) (F_demand_world : Fk G P w mg base 4 "demand_world" ["things", "part"] 0 sDemWorldL) (F_demand_things : Fk G P w mg base 3 "demand_things" ["values", "things"] 0 sDemThingsL) (F_are_numbers : Fk G P w mg base 2 "are_numbers" ["value"] 0 sNumbers) (g_MOST_THINGS : ∃ t, mg "MOST_THINGS" = some (.int 5 t)) : InitD G P w mg base 5 f fd ["self", "into", "row"] 0 1 sLeadInitL := by
  refine InitD.more (initd_of F sc_Lead___init__ (fun cdv A outer s H E hr hg => have xk := xk_def (E := E) hr hg; (ds_cons (ds_expr (de_call F_demand_world xk (da_cons (dv 1) (da_cons de_str da_nil)))) (ds_cons (ds_if (dt_w (dw_or (dt_not (dt_val (de_call F_are_numbers xk (da_cons (dv 2) da_nil)))) (dw_or1 (dt_not (dt_chain (o_le) (o_le) de_int (de_bi (c_len xk.K) bn.len (da_cons (dv 2) da_nil)) (de_gint g_MOST_THINGS)))))) (ds_one ds_never) ds_nil) (ds_cons (ds_expr (de_call F_demand_things xk (da_cons (dv 2) (da_cons (dv 1) da_nil)))) (ds_cons (ds_fld (i := 0) xk.K fo.begin fo.nd fo.sm rfl (de_bi (c_len xk.K) bn.len (da_cons (dv 2) da_nil))) (ds_cons (ds_fld (i := 0) xk.K fo.into fo.nd fo.sm rfl (dv 1)) (ds_one (ds_fld (i := 0) xk.K fo.row fo.nd fo.sm rfl (de_ty (c_tuple xk.K) bn.tuple (da_cons (dv 2) da_nil)))))))))) ?_) (by decide)
  rintro a dx ds R ex hl ⟨into, d, is, rfl, hx, h1, h2, h3, h4, hb, hr⟩
  refine ⟨.int into, rfl, rfl, into, _, rfl, h1, h2, ?_⟩
  have hk := kind_items hx
  refine ⟨d, rfl, rfl, d, rfl, hk, fun ys hy => by rw [hx] at hy; cases hy; exact kinds_isI (all_isI is), true, by rw [hx]; show D.bl ((is.map D.int).all D.isI) = _; rw [all_isI], ?_⟩
  have fin : ∀ xs, xs = is.map D.int → leadD into is = .ins 1 [.int (xs.length : Nat), .int into, .tup xs] := fun xs e => by rw [e, List.length_map]; rfl
  have e1 : (decide ((1 : Int) ≤ ((is.map D.int).length : Nat))) = true := by rw [List.length_map]; simp; omega
  have e2 : (decide (((is.map D.int).length : Nat) ≤ (5 : Int))) = true := by rw [List.length_map]; simp; omega
  cases d <;> cases hx
  all_goals
    refine ⟨_, rfl, trivial, true, congrArg D.bl e1, ?_⟩
    refine ⟨trivial, true, congrArg D.bl e2, ?_⟩
    refine ⟨_, rfl, .int into, rfl, rfl, _, is, into, rfl, rfl, hb, ?_⟩
    refine ⟨_, rfl, a, dx, 1, [], rfl, by rw [fo.fl]; rfl, ?_⟩
    refine ⟨.int into, rfl, a, dx, 1, _, rfl, by rw [fo.fl]; rfl, ?_⟩
    refine ⟨_, rfl, a, dx, 1, _, rfl, by rw [fo.fl]; rfl, ?_⟩
    refine ⟨_, rfl, by rw [fo.fl]; rfl, ?_⟩
    rw [fin _ rfl] at hr
    exact hr
def allRows (n : Nat) : Nat → List (List Int)
  | 0 => [[]]
  | m + 1 => (allRows n m).flatMap fun r => (List.range n).map fun (t : Nat) => r ++ [(t : Int)]
theorem allRows_len (n : Nat) : ∀ m, (allRows n m).length = n ^ m
  | 0 => rfl
  | m + 1 => by
    unfold allRows
    rw [List.length_flatMap]
    simp only [List.length_range, List.length_map]
    rw [List.map_const', List.sum_replicate_nat, allRows_len n m, Nat.pow_succ]
theorem allRows_row (n : Nat) : ∀ m, ∀ r ∈ allRows n m, r.length = m
  | 0, r, h => by simp [allRows] at h; rw [h]; rfl
  | m + 1, r, h => by
    unfold allRows at h
    obtain ⟨q, hq, hr⟩ := List.mem_flatMap.mp h
    obtain ⟨t, _, rfl⟩ := List.mem_map.mp hr
    rw [List.length_append, allRows_row n m q hq]; rfl
theorem allRows_val (n : Nat) : ∀ m, ∀ r ∈ allRows n m, ∀ i ∈ r, 0 ≤ i ∧ i < (n : Int)
  | 0, r, h => by simp [allRows] at h; rw [h]; simp
  | m + 1, r, h => by
    unfold allRows at h
    obtain ⟨q, hq, hr⟩ := List.mem_flatMap.mp h
    obtain ⟨t, ht, rfl⟩ := List.mem_map.mp hr
    intro i hi
    rcases List.mem_append.mp hi with hi | hi
    · exact allRows_val n m q hq i hi
    · have : i = (t : Int) := by simpa using hi
      have := List.mem_range.mp ht
      omega
def sAllRowsL : FSpec := fun ds R _ => ∃ n m : Nat, ds = [.int n, .int m] ∧ n ≤ 5 ∧ m ≤ 5 ∧ R (.lst ((allRows n m).map rowD))
theorem flat_const {α β : Type} (es : List β) : ∀ l : List α, (l.flatMap fun _ => es).length = l.length * es.length
  | [] => by simp
  | x :: l => by rw [List.flatMap_cons, List.length_append, flat_const es l, List.length_cons, Nat.add_mul]; omega
theorem pow_small {n i m : Nat} (hn : n ≤ 5) (hi : i ≤ m) (hm : m ≤ 5) : n ^ i ≤ 3125 := by
  have h1 : n ^ i ≤ 5 ^ i := Nat.pow_le_pow_left hn i
  have h2 : (5 : Nat) ^ i ≤ 5 ^ 5 := Nat.pow_le_pow_right (by omega) (by omega)
  omega
def addT (d t : D) : D := match d with
  | .tup ds => .tup (ds ++ [t])
  | _ => .non
theorem rows_next (n i : Nat) : (allRows n (i + 1)).map rowD = ((allRows n i).map rowD).flatMap fun d => (rangeD 0 n).map (addT d) := by
  rw [show allRows n (i + 1) = (allRows n i).flatMap fun r => (List.range n).map fun (t : Nat) => r ++ [(t : Int)] from rfl, List.map_flatMap, List.flatMap_map]
  congr 1
  funext r
  simp [rangeD, rowD, addT, Function.comp_def]
abbrev s_all_rows : Stmt := topS 25
theorem sc_all_rows : FnScope ["things", "many", "rows", "_", "row", "thing"] ["things", "many"] (defScope s_all_rows) := ⟨rfl, rfl, rfl, by decide +kernel, rfl, by decide +kernel, by decide +kernel⟩
theorem ok_all_rows (F : Fun G.K "all_rows" "all_rows" s_all_rows f fd) (bn : Bn mg)  : FnD G P w mg base 1 f fd ["things", "many"] 0 sAllRowsL := by
  refine FnD.more (fnd_of F sc_all_rows (fun cdv A outer s H E hr hg => have xk := xk_def (E := E) hr hg; (ds_cons (ds_set (i := 2) sc_all_rows.nd rfl (Or.inl rfl) (de_lst (da_cons (de_tup da_nil) da_nil))) (ds_cons (ds_for xk po_def (di_range1 bn.range (da_cons (dv 1) da_nil)) (dg_name (i := 3) sc_all_rows.nd rfl (Or.inl rfl)) (ds_one (ds_setComp2 (i := 2) (own := [("row", 4), ("thing", 5)]) (vs1 := [5]) xk sc_all_rows.nd rfl rfl (sw_true rfl rfl rfl (by decide +kernel)) (di_seq xk.K (dv 2)) (blkOk_by (N := ["things", "many", "rows", "_", "row", "thing"]) (sc := defScope s_all_rows) (by decide +kernel)) (by simp) (fun s H C cl fp => (dg_name (i := 4) sc_all_rows.nd rfl (Or.inl rfl))) (fun s H C cl fp => dts_nil) (fun s H C cl fp => (di_range1 bn.range (da_cons (dv 0) da_nil))) (fun s H C cl fp => (dg_name (i := 5) sc_all_rows.nd rfl (Or.inl rfl))) (fun s H C cl fp => dts_nil) (fun s H C cl fp => (de_op (o_add (Xk.blk xk _ _ _ _ _).K) (dv 4) (de_tup (da_cons (dv 5) da_nil)))) (by simp) (by simp)))) (ds_one (ds_ret (dv 2)))))) ?_) (by decide)
  rintro ds R ex hl ⟨n, m, rfl, hn, hm, hr⟩
  refine ⟨small (by simp), small (by simp), ?_⟩
  refine ⟨.int m, rfl, (m : Int), rfl, by omega, by omega, ?_⟩
  rw [Int.toNat_natCast]
  refine sForL_inv (fun i env => i ≤ m ∧ ∃ s, env = [.val (.int n), .val (.int m), .val (.lst ((allRows n i).map rowD)), s, .emp, .emp]) 0 ⟨Nat.zero_le _, _, rfl⟩ (fun i x env hi hI nx hn2 => ?_) (fun env hI => ?_)
  · obtain ⟨him, s, rfl⟩ := hI
    rw [Nat.zero_add] at hn2 ⊢
    have hi2 : i < m := by have := (List.getElem?_eq_some_iff.mp hi).1; simpa [rangeD] using this
    refine ⟨_, rfl, ?_⟩
    refine compL2_map (fun _ => rangeD 0 n) addT ?_ (fun d hd K acc2 hK hl2 => ?_) ?_
    · have e : (((allRows n i).map rowD).flatMap fun _ => rangeD 0 n).length = n ^ (i + 1) := by
        rw [flat_const, List.length_map, allRows_len, Nat.pow_succ]
        simp [rangeD]
      rw [e]
      have := pow_small (i := i + 1) hn hi2 hm
      exact small (by simp; omega)
    · obtain ⟨r, hr2, rfl⟩ := List.mem_map.mp hd
      have hrl := allRows_row n i r hr2
      refine ⟨.int n, rfl, (n : Int), rfl, by omega, by omega, ?_⟩
      rw [Int.toNat_natCast]
      refine compI_map (addT (rowD r)) hl2 (fun e he K2 hK2 => ?_) hK
      refine ⟨rowD r, rfl, e, rfl, small (by simp), small (by simp [rowD]; omega), hK2⟩
    · refine hn2 _ ⟨by omega, .val x, ?_⟩
      rw [rows_next]
      rfl
  · obtain ⟨him, s, rfl⟩ := hI
    rw [show 0 + (rangeD 0 m).length = m by simp [rangeD]]
    exact ⟨_, rfl, hr⟩
theorem fld_lead (fo : Gk G) {n : Int} {r : List Int} : (("begin" : Str) ∈ G.fl 1 ∧ ("into" : Str) ∈ G.fl 1 ∧ ("row" : Str) ∈ G.fl 1 ∧ [D.int r.length, .int n, rowD r][(G.fl 1).idxOf ("begin" : Str)]? = some (.int r.length) ∧
    [D.int r.length, .int n, rowD r][(G.fl 1).idxOf ("into" : Str)]? = some (.int n) ∧ [D.int r.length, .int n, rowD r][(G.fl 1).idxOf ("row" : Str)]? = some (rowD r)) := by
  rw [fo.fl]
  exact ⟨by decide, by decide, by decide, rfl, rfl, rfl⟩
end
end Pg
set_option Elab.async false
set_option linter.all false
set_option maxRecDepth 100000
set_option maxHeartbeats 4100000
namespace Pg
open PySem L2 RZ Kn
section
variable {G : Gd} {P : Program} {w : World} {mg : Str → Option Value} {base : Heap} {f : Addr} {fd : FuncData}
def pairUp (rel : Int → Int → Bool) : List Int → Bool
  | a :: b :: r => rel a b && pairUp rel (b :: r)
  | _ => true
theorem pairUp_zip (rel : Int → Int → Bool) : ∀ is : List Int, (is.zip (is.drop 1)).all (fun p => rel p.1 p.2) = pairUp rel is
  | [] => rfl
  | [_] => rfl
  | a :: b :: r => by
    have := pairUp_zip rel (b :: r)
    simp only [List.drop_succ_cons, List.drop_zero, List.zip_cons_cons, List.all_cons, pairUp] at this ⊢
    rw [← this]
theorem zipD_map : ∀ is js : List Int, zipD (is.map D.int) (js.map D.int) = (is.zip js).map fun p => D.tup [.int p.1, .int p.2]
  | [], _ => by simp [zipD]
  | _ :: _, [] => by simp [zipD]
  | a :: is, b :: js => by simp [zipD, zipD_map is js]
theorem cut_from1 {xs : List D} : cutD xs (some 1) none = xs.drop 1 := by
  unfold cutD
  have e1 : HT.sIx xs.length 0 (some 1) = min 1 xs.length := HT.sIx_nat xs.length 0 1
  rw [e1, HT.sIx_none]
  cases xs with
  | nil => rfl
  | cons x r =>
    rw [show min 1 (x :: r).length = 1 by rw [List.length_cons]; omega, List.length_cons, Nat.add_sub_cancel]
    exact List.take_length
def relD (rel : Int → Int → Bool) (d : D) : D := match d with
  | .tup [.int a, .int b] => .bl (rel a b)
  | _ => .non
theorem pairs_key {g : G2} (rel : Int → Int → Bool) (hg : ∀ a b Q, Q (.bl (rel a b)) → g (.int a) (.int b) Q) {d : D} {is : List Int} (hd : d = .tup (is.map D.int) ∨ d = .lst (is.map D.int)) {R : D → Prop} {ex : Exc → Prop} (hr : R (.bl (pairUp rel is))) :
    dBi (g1 gAll) (aCons (dComp [1, 2] (iZip (aCons (dVar 0) (aCons (dSl (dVar 0) (oSome (dC (.int 1))) oNone) aNil))) (tgTwo 1 2) bYes (dOp g (dVar 1) (dVar 2))) aNil) ex (env0 ["row", "one", "other"] [d]) R := by
  have key : compL (tgTwo 1 2) bYes (dOp g (dVar 1) (dVar 2)) (fun rs => g1 gAll [.lst rs] R) (inEnv (env0 ["row", "one", "other"] [d]) [1, 2]) (zipD (is.map D.int) (cutD (is.map D.int) (some 1) none)) [] := by
    rw [cut_from1, ← List.map_drop, zipD_map]
    refine compL_map (relD rel) (fun e he K hK => ?_) ?_
    · obtain ⟨p, hp, rfl⟩ := List.mem_map.mp he
      exact ⟨_, rfl, _, rfl, hg _ _ _ hK⟩
    · refine ⟨(is.zip (is.drop 1)).map fun p => rel p.1 p.2, by simp [List.map_map, Function.comp_def, relD], ?_⟩
      rw [List.all_map]
      have := pairUp_zip rel is
      rw [← this] at hr
      exact hr
  refine ⟨d, rfl, d, rfl, 1, rfl, ?_⟩
  rcases hd with rfl | rfl <;> exact key
/-- a test of a row of ints -/
def sRow (f : List Int → Bool) : FSpec := fun ds R _ => ∃ (d : D) (is : List Int), ds = [d] ∧ (d = .tup (is.map D.int) ∨ d = .lst (is.map D.int)) ∧ R (.bl (f is))
def leB (a b : Int) : Bool := decide (a ≤ b)
def geB (a b : Int) : Bool := decide (b ≤ a)
def ltB (a b : Int) : Bool := decide (a < b)
abbrev s_never_falls : Stmt := topS 30
theorem sc_never_falls : FnScope ["row", "one", "other"] ["row"] (defScope s_never_falls) := ⟨rfl, rfl, rfl, by decide +kernel, rfl, by decide +kernel, by decide +kernel⟩
theorem ok_never_falls (F : Fun G.K "never_falls" "never_falls" s_never_falls f fd) (bn : Bn mg)  : FnD G P w mg base 1 f fd ["row"] 0 (sRow (pairUp leB)) := by
  refine FnD.more (fnd_of F sc_never_falls (fun cdv A outer s H E hr hg => have xk := xk_def (E := E) hr hg; (ds_one (ds_ret (de_bi (c_all xk.calm) bn.all (da_cons (de_comp (own := [("one", 1), ("other", 2)]) xk sc_never_falls.nd (di_zip xk.K bn.zip (da_cons (dv 0) (da_cons (de_sl xk.K (dv 0) (do_some de_int) do_none) da_nil))) (blkOk_by (N := ["row", "one", "other"]) (sc := defScope s_never_falls) (by decide +kernel)) (fun s H C cl fp => (dg_two (i := 1) (j := 2) (Xk.blk xk _ _ _ _ _).K (Xk.blk xk _ _ _ _ _).calm sc_never_falls.nd rfl (Or.inl rfl) rfl (Or.inl rfl) (pg_name sc_never_falls.nd rfl (Or.inl rfl)) (pg_name sc_never_falls.nd rfl (Or.inl rfl)))) (fun s H C cl fp => dts_nil) (fun s H C cl fp => (de_cmp (o_le) (dv 1) (dv 2) (by rfl))) (by simp)) da_nil))))) ?_) (by decide)
  rintro ds R ex hl ⟨d, is, rfl, hd, hr⟩
  exact pairs_key leB (fun a b Q hq => by first | exact ⟨trivial, hq⟩ | exact hq) hd hr
abbrev s_never_rises : Stmt := topS 31
theorem sc_never_rises : FnScope ["row", "one", "other"] ["row"] (defScope s_never_rises) := ⟨rfl, rfl, rfl, by decide +kernel, rfl, by decide +kernel, by decide +kernel⟩
theorem ok_never_rises (F : Fun G.K "never_rises" "never_rises" s_never_rises f fd) (bn : Bn mg)  : FnD G P w mg base 1 f fd ["row"] 0 (sRow (pairUp geB)) := by
  refine FnD.more (fnd_of F sc_never_rises (fun cdv A outer s H E hr hg => have xk := xk_def (E := E) hr hg; (ds_one (ds_ret (de_bi (c_all xk.calm) bn.all (da_cons (de_comp (own := [("one", 1), ("other", 2)]) xk sc_never_rises.nd (di_zip xk.K bn.zip (da_cons (dv 0) (da_cons (de_sl xk.K (dv 0) (do_some de_int) do_none) da_nil))) (blkOk_by (N := ["row", "one", "other"]) (sc := defScope s_never_rises) (by decide +kernel)) (fun s H C cl fp => (dg_two (i := 1) (j := 2) (Xk.blk xk _ _ _ _ _).K (Xk.blk xk _ _ _ _ _).calm sc_never_rises.nd rfl (Or.inl rfl) rfl (Or.inl rfl) (pg_name sc_never_rises.nd rfl (Or.inl rfl)) (pg_name sc_never_rises.nd rfl (Or.inl rfl)))) (fun s H C cl fp => dts_nil) (fun s H C cl fp => (de_cmp (o_ge) (dv 1) (dv 2) (by rfl))) (by simp)) da_nil))))) ?_) (by decide)
  rintro ds R ex hl ⟨d, is, rfl, hd, hr⟩
  exact pairs_key geB (fun a b Q hq => by first | exact ⟨trivial, hq⟩ | exact hq) hd hr
abbrev s_rises : Stmt := topS 32
theorem sc_rises : FnScope ["row", "one", "other"] ["row"] (defScope s_rises) := ⟨rfl, rfl, rfl, by decide +kernel, rfl, by decide +kernel, by decide +kernel⟩
theorem ok_rises (F : Fun G.K "rises" "rises" s_rises f fd) (bn : Bn mg)  : FnD G P w mg base 1 f fd ["row"] 0 (sRow (pairUp ltB)) := by
  refine FnD.more (fnd_of F sc_rises (fun cdv A outer s H E hr hg => have xk := xk_def (E := E) hr hg; (ds_one (ds_ret (de_bi (c_all xk.calm) bn.all (da_cons (de_comp (own := [("one", 1), ("other", 2)]) xk sc_rises.nd (di_zip xk.K bn.zip (da_cons (dv 0) (da_cons (de_sl xk.K (dv 0) (do_some de_int) do_none) da_nil))) (blkOk_by (N := ["row", "one", "other"]) (sc := defScope s_rises) (by decide +kernel)) (fun s H C cl fp => (dg_two (i := 1) (j := 2) (Xk.blk xk _ _ _ _ _).K (Xk.blk xk _ _ _ _ _).calm sc_rises.nd rfl (Or.inl rfl) rfl (Or.inl rfl) (pg_name sc_rises.nd rfl (Or.inl rfl)) (pg_name sc_rises.nd rfl (Or.inl rfl)))) (fun s H C cl fp => dts_nil) (fun s H C cl fp => (de_cmp (o_lt) (dv 1) (dv 2) (by rfl))) (by simp)) da_nil))))) ?_) (by decide)
  rintro ds R ex hl ⟨d, is, rfl, hd, hr⟩
  exact pairs_key ltB (fun a b Q hq => by first | exact ⟨trivial, hq⟩ | exact hq) hd hr
def manners : List Str := ["blind", "rank", "either", "least", "ends", "one", "two", "alike", "order"]
theorem man_ok : ∀ m ∈ manners, PyData.strOk m = true := by decide +kernel
def last (is : List Int) : Int := is.getLastD 0
def isOf (m : Str) (into : Int) (r : List Int) : Bool :=
  if m == ("blind" : Str) then true else if m == ("rank" : Str) then pairUp leB r else if m == ("either" : Str) then (pairUp leB r || pairUp geB r)
  else if m == ("least" : Str) then (pairUp leB r && r.headD 0 == 0) else if m == ("ends" : Str) then (pairUp leB r && (r.headD 0 == 0 && last r == into - 1))
  else if m == ("one" : Str) then r.headD 0 == 0 else if m == ("two" : Str) then r.take 2 == [0, 1] else if m == ("alike" : Str) then decide r.Nodup else pairUp ltB r
theorem if_str {i : Nat} {m c : Str} (hm : PyData.strOk m = true) (hc : PyData.strOk c = true) {t u : DS} {ex : Exc → Prop} {de : DEnds} {env : List Sl} (he : env[i]? = some (.val (.str m))) (h1 : (m == c) = true → t ex de env) (h2 : (m == c) = false → u ex de env) :
    sIf (dTrue (dOp gEq (dVar i) (dC (.str c)))) t u ex de env := by
  refine ⟨.str m, he, ?_⟩
  refine eqC (eq_str hm hc ?_)
  refine ⟨m == c, rfl, ?_⟩
  cases hb : (m == c) with
  | true => exact h1 hb
  | false => exact h2 hb
theorem map_at0 {a : Int} {q : List Int} : atI ((a :: q).map D.int) 0 = some (.int a) := atI_cons
theorem map_last {a : Int} {q : List Int} : atI ((a :: q).map D.int) (-1) = some (.int (last (a :: q))) := by
  have e : (a :: q) = (a :: q).dropLast ++ [last (a :: q)] := by
    rw [show last (a :: q) = (a :: q).getLast (by simp) by simp [last, List.getLastD_eq_getLast?, List.getLast?_eq_getLast]]
    exact (List.dropLast_concat_getLast (by simp)).symm
  rw [e, List.map_append]
  have h := atI_last (((a :: q).dropLast).map D.int) (D.int (last (a :: q)))
  rw [← e]
  exact h
theorem cut_to2 {xs : List D} : cutD xs none (some 2) = xs.take 2 := by
  unfold cutD
  rw [HT.sIx_none, show HT.sIx xs.length xs.length (some 2) = min 2 xs.length from HT.sIx_nat xs.length xs.length 2, List.drop_zero, Nat.sub_zero]
  by_cases h : 2 ≤ xs.length
  · rw [Nat.min_eq_left h]
  · rw [Nat.min_eq_right (by omega), List.take_length, List.take_of_length_le (by omega)]
theorem sorted_up {ns r : List Int} (p : ns.Perm r) (s : ns.Pairwise (· ≤ ·)) : pairUp ltB ns = decide r.Nodup := by
  have e : decide r.Nodup = decide ns.Nodup := by
    by_cases h : ns.Nodup
    · rw [decide_eq_true h, decide_eq_true (p.nodup_iff.mp h)]
    · rw [decide_eq_false h, decide_eq_false fun z => h (p.nodup_iff.mpr z)]
  rw [e]
  clear e p
  induction ns with
  | nil => rfl
  | cons a l ih =>
    cases l with
    | nil => rfl
    | cons b l =>
      have s2 := (List.pairwise_cons.mp s).2
      have s1 := (List.pairwise_cons.mp s).1
      have hab := s1 b List.mem_cons_self
      show (ltB a b && pairUp ltB (b :: l)) = _
      rw [ih s2]
      by_cases h : a < b
      · have hn : a ∉ b :: l := fun z => by
          rcases List.mem_cons.mp
                z with z | z
          · omega
          · have := (List.pairwise_cons.mp s2).1 a z; omega
        simp only [ltB, decide_eq_true h, Bool.true_and, List.nodup_cons (a := a), hn, not_false_eq_true, true_and]
      · have e : a = b := by omega
        subst e
        simp [ltB]
def sRowOf : FSpec := fun ds R _ => ∃ (r : List Int) (into : Int) (m : Str), ds = [rowD r, .int into, .str m] ∧ m ∈ manners ∧ r ≠ [] ∧ r.length ≤ 1000 ∧ R (.bl (isOf m into r))
abbrev s_row_is_of : Stmt := topS 33
theorem sc_row_is_of : FnScope ["row", "into", "manner"] ["row", "into", "manner"] (defScope s_row_is_of) := ⟨rfl, rfl, rfl, by decide +kernel, rfl, by decide +kernel, by decide +kernel⟩
theorem ok_row_is_of (F : Fun G.K "row_is_of" "row_is_of" s_row_is_of f fd) (bn : Bn mg) (F_never_falls : Fk G P w mg base 1 "never_falls" ["row"] 0 (sRow (pairUp leB))) (F_never_rises : Fk G P w mg base 1 "never_rises" ["row"] 0 (sRow (pairUp geB))) (F_rises : Fk G P w mg base 1 "rises" ["row"] 0 (sRow (pairUp ltB))) : FnD G P w mg base 2 f fd ["row", "into", "manner"] 0 sRowOf := by
  refine FnD.more (fnd_of F sc_row_is_of (fun cdv A outer s H E hr hg => have xk := xk_def (E := E) hr hg; (ds_cons (ds_if (dt_cmp (o_eq xk.K xk.u64) (dv 2) de_str (by rfl)) (ds_one (ds_ret de_bl)) ds_nil) (ds_cons (ds_if (dt_cmp (o_eq xk.K xk.u64) (dv 2) de_str (by rfl)) (ds_one (ds_ret (de_call F_never_falls xk (da_cons (dv 0) da_nil)))) ds_nil) (ds_cons (ds_if (dt_cmp (o_eq xk.K xk.u64) (dv 2) de_str (by rfl)) (ds_one (ds_ret (de_or (de_call F_never_falls xk (da_cons (dv 0) da_nil)) (de_one (de_call F_never_rises xk (da_cons (dv 0) da_nil)))))) ds_nil) (ds_cons (ds_if (dt_cmp (o_eq xk.K xk.u64) (dv 2) de_str (by rfl)) (ds_one (ds_ret (de_and (de_call F_never_falls xk (da_cons (dv 0) da_nil)) (de_one (de_cmp (o_eq xk.K xk.u64) (de_ix xk.K (dv 0) de_int (fun _ _ => rfl)) de_int (by rfl)))))) ds_nil) (ds_cons (ds_if (dt_cmp (o_eq xk.K xk.u64) (dv 2) de_str (by rfl)) (ds_one (ds_ret (de_and (de_call F_never_falls xk (da_cons (dv 0) da_nil)) (de_and (de_cmp (o_eq xk.K xk.u64) (de_ix xk.K (dv 0) de_int (fun _ _ => rfl)) de_int (by rfl)) (de_one (de_cmp (o_eq xk.K xk.u64) (de_ix xk.K (dv 0) (de_neg de_int) (fun _ _ => rfl)) (de_op (o_sub) (dv 1) de_int) (by rfl))))))) ds_nil) (ds_cons (ds_if (dt_cmp (o_eq xk.K xk.u64) (dv 2) de_str (by rfl)) (ds_one (ds_ret (de_cmp (o_eq xk.K xk.u64) (de_ix xk.K (dv 0) de_int (fun _ _ => rfl)) de_int (by rfl)))) ds_nil) (ds_cons (ds_if (dt_cmp (o_eq xk.K xk.u64) (dv 2) de_str (by rfl)) (ds_one (ds_ret (de_cmp (o_eq xk.K xk.u64) (de_sl xk.K (dv 0) do_none (do_some de_int)) (de_tup (da_cons de_int (da_cons de_int da_nil))) (by rfl)))) ds_nil) (ds_cons (ds_if (dt_cmp (o_eq xk.K xk.u64) (dv 2) de_str (by rfl)) (ds_one (ds_ret (de_call F_rises xk (da_cons (de_bi (c_sortA xk.K) bn.sorted (da_cons (dv 0) da_nil)) da_nil)))) ds_nil) (ds_one (ds_ret (de_call F_rises xk (da_cons (dv 0) da_nil))))))))))))) ?_) (by decide)
  rintro ds R ex hl ⟨r, into, m, rfl, hm, hne, hrl, hr⟩
  have hok := man_ok m hm
  obtain ⟨a, q, rfl⟩ : ∃ a q, r = a :: q := by cases r with
    | nil => exact absurd rfl hne
    | cons a q => exact ⟨a, q, rfl⟩
  unfold isOf at hr
  refine if_str hok (by decide +kernel) rfl (fun h => ?_) fun h => ?_
  · rw [if_pos h] at hr; exact hr
  rw [if_neg (by rw [h]; decide)] at hr
  refine if_str hok (by decide +kernel) rfl (fun h => ?_) fun h => ?_
  · rw [if_pos h] at hr; exact ⟨_, rfl, rfl, _, a :: q, rfl, .inl rfl, hr⟩
  rw [if_neg (by rw [h]; decide)] at hr
  refine if_str hok (by decide +kernel) rfl (fun h => ?_) fun h => ?_
  · rw [if_pos h] at hr
    refine ⟨_, rfl, rfl, _, a :: q, rfl, .inl rfl, _, rfl, ?_⟩
    cases hb : pairUp leB (a :: q) with
    | true => rw [hb] at hr; exact hr
    | false => rw [hb] at hr; exact ⟨_, rfl, rfl, _, a :: q, rfl, .inl rfl, hr⟩
  rw [if_neg (by rw [h]; decide)] at hr
  refine if_str hok (by decide +kernel) rfl (fun h => ?_) fun h => ?_
  · rw [if_pos h] at hr
    refine ⟨_, rfl, rfl, _, a :: q, rfl, .inl rfl, _, rfl, ?_⟩
    cases hb : pairUp leB (a :: q) with
    | false => rw [hb] at hr; exact hr
    | true => rw [hb] at hr; exact ⟨_, rfl, _, map_at0, eq_int hr⟩
  rw [if_neg (by rw [h]; decide)] at hr
  refine if_str hok (by decide +kernel) rfl (fun h => ?_) fun h => ?_
  · rw [if_pos h] at hr
    refine ⟨_, rfl, rfl, _, a :: q, rfl, .inl rfl, _, rfl, ?_⟩
    cases hb : pairUp leB (a :: q) with
    | false => rw [hb] at hr; exact hr
    | true =>
      rw [hb] at hr
      refine ⟨_, rfl, _, map_at0, ?_⟩
      refine eqC (eq_int ?_)
      refine ⟨_, rfl, ?_⟩
      cases hc : (a == 0) with
      | false => rw [show ((a :: q).headD 0 == 0) = (a == 0) from rfl, hc] at hr; exact hr
      | true =>
        rw [show ((a :: q).headD 0 == 0) = (a == 0) from rfl, hc] at hr
        exact ⟨_, rfl, 1, rfl, .int (last (a :: q)), map_last, .int into, rfl, trivial, eq_int hr⟩
  rw [if_neg (by rw [h]; decide)] at hr
  refine if_str hok (by decide +kernel) rfl (fun h => ?_) fun h => ?_
  · rw [if_pos h] at hr; exact ⟨_, rfl, _, map_at0, eq_int hr⟩
  rw [if_neg (by rw [h]; decide)] at hr
  refine if_str hok (by decide +kernel) rfl (fun h => ?_) fun h => ?_
  · rw [if_pos h] at hr
    refine ⟨_, rfl, 2, rfl, ?_⟩
    have e : cutD ((a :: q).map D.int) none (some 2) = ((a :: q).take 2).map D.int := by rw [cut_to2, List.map_take]
    refine ⟨small (by simp), ?_⟩
    show gEq (.tup (cutD ((a :: q).map D.int) none (some 2))) (.tup ([0, 1].map D.int)) R
    rw [e]
    exact eq_row shaped_row hr
  rw [if_neg (by rw [h]; decide)] at hr
  refine if_str hok (by decide +kernel) rfl (fun h => ?_) fun h => ?_
  · rw [if_pos h] at hr
    refine ⟨_, rfl, a :: q, .inr rfl, fun ns p s => ?_⟩
    refine ⟨rfl, _, ns, rfl, .inr rfl, ?_⟩
    rw [sorted_up p s]
    exact hr
  rw [if_neg (by rw [h]; decide)] at hr
  exact ⟨_, rfl, rfl, _, a :: q, rfl, .inl rfl, hr⟩
theorem isB_str : isB (.str m) "str" = some true := by show kitB "str" "str" = some true; decide +kernel
theorem any_man {m : Str} (h : m ∈ manners) : ((manners.map PyData.str).any fun z => PyData.eqv z (.str m)) = true := by
  rw [List.any_map, List.any_eq_true]
  exact ⟨m, h, by show (m == m) = true; exact beq_self_eq_true m⟩
theorem shaped_man : SeqAt.shaped (.tuple (manners.map PyData.str)) = true := by decide +kernel
def sDemManL : FSpec := fun ds R _ => ∃ (m : Str) (p : D), ds = [.str m, p] ∧ m ∈ manners ∧ R .non
abbrev s_demand_manner : Stmt := topS 28
theorem sc_demand_manner : FnScope ["manner", "part"] ["manner", "part"] (defScope s_demand_manner) := ⟨rfl, rfl, rfl, by decide +kernel, rfl, by decide +kernel, by decide +kernel⟩
theorem ok_demand_manner (F : Fun G.K "demand_manner" "demand_manner" s_demand_manner f fd) (bn : Bn mg) (g_MANNERS : GTup G mg "MANNERS" manners) : FnD G P w mg base 1 f fd ["manner", "part"] 0 sDemManL := by
  refine FnD.more (fnd_of F sc_demand_manner (fun cdv A outer s H E hr hg => have xk := xk_def (E := E) hr hg; (ds_one (ds_if (dt_w (dw_or (dt_not (dt_val (de_bi (c_isi xk.K) bn.isinstance (da_cons (dv 0) (da_cons (de_tyn (n := "str") bn.str) da_nil))))) (dw_or1 (dt_cmp (o_niT xk.K xk.u65) (dv 0) (de_gtup g_MANNERS) (by rfl))))) (ds_one ds_never) ds_nil))) ?_) (by decide)
  rintro ds R ex hl ⟨m, p, rfl, hm, hr⟩
  refine ⟨_, rfl, _, _, rfl, isB_str, true, rfl, ?_⟩
  refine ⟨_, rfl, .str m, manners.map PyData.str, strsD manners, rfl, rfl, pdL_str manners, shaped_str (man_ok m hm), shaped_man, ?_⟩
  rw [any_man hm]
  exact ⟨false, rfl, hr⟩
def sDemTwoW : FSpec := fun ds R _ => ∃ (m : Str) (ns : List Int), ds = [.str m, .tup (ns.map D.int)] ∧ m ∈ manners ∧ ns.length ≤ 100 ∧ (m = ("two" : Str) → 1 ∉ ns) ∧ R .non
theorem any_one {ns : List Int} (h : 1 ∉ ns) : ((ns.map PyData.int).any fun z => PyData.eqv z (.int 1)) = false := by
  rw [List.any_map, List.any_eq_false]
  intro x hx z
  have e : (x == 1) = true := z
  exact h (by rw [← eq_of_beq e]; exact hx)
abbrev s_demand_two : Stmt := topS 29
theorem sc_demand_two : FnScope ["manner", "worlds"] ["manner", "worlds"] (defScope s_demand_two) := ⟨rfl, rfl, rfl, by decide +kernel, rfl, by decide +kernel, by decide +kernel⟩
theorem ok_demand_two (F : Fun G.K "demand_two" "demand_two" s_demand_two f fd) (bn : Bn mg)  : FnD G P w mg base 1 f fd ["manner", "worlds"] 0 sDemTwoW := by
  refine FnD.more (fnd_of F sc_demand_two (fun cdv A outer s H E hr hg => have xk := xk_def (E := E) hr hg; (ds_one (ds_if (dt_w (dw_and (dt_cmp (o_eq xk.K xk.u64) (dv 0) de_str (by rfl)) (dw_and1 (dt_cmp (o_inT xk.K xk.u65) de_int (dv 1) (by rfl))))) (ds_one ds_never) ds_nil))) ?_) (by decide)
  rintro ds R ex hl ⟨m, ns, rfl, hm, hln, h2, hr⟩
  refine ⟨.str m, rfl, ?_⟩
  refine eqC (eq_str (man_ok m hm) (by decide +kernel) ?_)
  refine ⟨m == ("two" : Str), rfl, ?_⟩
  cases hb : (m == ("two" : Str)) with
  | false => exact hr
  | true =>
    refine ⟨_, rfl, .int 1, ns.map PyData.int, ns.map D.int, rfl, rfl, pdL_int ns, shaped_int 1, shaped_row ns, ?_⟩
    rw [any_one (h2 (eq_of_beq hb))]
    exact ⟨false, rfl, hr⟩
end
end Pg
set_option Elab.async false
set_option linter.all false
set_option maxRecDepth 100000
set_option maxHeartbeats 4100000
namespace Pg
open PySem L2 RZ Kn
section
variable {G : Gd} {P : Program} {w : World} {mg : Str → Option Value} {base : Heap} {f : Addr} {fd : FuncData}
/-- the row that puts t on o; that exchanges t and o -/
def putR (n t o : Nat) : List Int := (List.range n).map fun a => if a = t then (o : Int) else (a : Int)
def exR (n t o : Nat) : List Int := ((idx n).set t (o : Int)).set o (t : Int)
theorem rng_nat (n : Nat) : rangeD 0 n = (List.range n).map fun (i : Nat) => D.int i := by
  unfold rangeD
  congr 1
  funext i
  simp
def sPutRow : FSpec := fun ds R _ => ∃ n t o : Nat, ds = [.int n, .int t, .int o] ∧ n ≤ 5 ∧ t ≤ 5 ∧ o ≤ 5 ∧ R (rowD (putR n t o))
abbrev s_put_row : Stmt := topS 36
theorem sc_put_row : FnScope ["things", "thing", "other", "at"] ["things", "thing", "other"] (defScope s_put_row) := ⟨rfl, rfl, rfl, by decide +kernel, rfl, by decide +kernel, by decide +kernel⟩
theorem ok_put_row (F : Fun G.K "put_row" "put_row" s_put_row f fd) (bn : Bn mg)  : FnD G P w mg base 1 f fd ["things", "thing", "other"] 0 sPutRow := by
  refine FnD.more (fnd_of F sc_put_row (fun cdv A outer s H E hr hg => have xk := xk_def (E := E) hr hg; (ds_one (ds_ret (de_ty (c_tuple xk.K) bn.tuple (da_cons (de_comp (own := [("at", 3)]) xk sc_put_row.nd (di_range1 bn.range (da_cons (dv 0) da_nil)) (blkOk_by (N := ["things", "thing", "other", "at"]) (sc := defScope s_put_row) (by decide +kernel)) (fun s H C cl fp => (dg_name (i := 3) sc_put_row.nd rfl (Or.inl rfl))) (fun s H C cl fp => dts_nil) (fun s H C cl fp => (de_ife (dt_cmp (o_eq (Xk.blk xk _ _ _ _ _).K (Xk.blk xk _ _ _ _ _).u64) (dv 3) (dv 1) (by rfl)) (dv 2) (dv 3))) (by simp)) da_nil))))) ?_) (by decide)
  rintro ds R ex hl ⟨n, t, o, rfl, hn, ht, ho, hr⟩
  refine ⟨_, rfl, n, rfl, by omega, by omega, ?_⟩
  rw [Int.toNat_natCast, rng_nat]
  refine compL_of (fun i : Nat => D.int i) (fun i => .int (if i = t then (o : Int) else (i : Int))) (fun i hi K hK => ?_) ?_
  · refine ⟨_, rfl, _, rfl, eq_int ⟨_, rfl, ite_of (fun hb => ?_) (fun hb => ?_)⟩⟩
    · have e : i = t := by have := eq_of_beq hb; omega
      rw [if_pos e] at hK
      exact ⟨_, rfl, hK⟩
    · have e : i ≠ t := fun z => by rw [z] at hb; simp at hb
      rw [if_neg e] at hK
      exact ⟨_, rfl, hK⟩
  · rw [List.nil_append]
    refine nilT ?_
    unfold rowD putR at hr
    rw [List.map_map] at hr
    exact hr
def sExRow : FSpec := fun ds R _ => ∃ n t o : Nat, ds = [.int n, .int t, .int o] ∧ n ≤ 5 ∧ t < n ∧ o < n ∧ R (rowD (exR n t o))
theorem idx_ints (n : Nat) : rangeD 0 n = (idx n).map D.int := by
  unfold idx rangeD
  rw [List.map_map]
  congr 1
  funext i
  simp
abbrev s_exchange_row : Stmt := topS 37
theorem sc_exchange_row : FnScope ["things", "thing", "other", "row"] ["things", "thing", "other"] (defScope s_exchange_row) := ⟨rfl, rfl, rfl, by decide +kernel, rfl, by decide +kernel, by decide +kernel⟩
theorem ok_exchange_row (F : Fun G.K "exchange_row" "exchange_row" s_exchange_row f fd) (bn : Bn mg)  : FnD G P w mg base 1 f fd ["things", "thing", "other"] 0 sExRow := by
  refine FnD.more (fnd_of F sc_exchange_row (fun cdv A outer s H E hr hg => have xk := xk_def (E := E) hr hg; (ds_cons (ds_own (i := 3) sc_exchange_row.nd rfl (Or.inl rfl) (df_listRange xk.calm bn.list bn.range (dv 0))) (ds_cons (ds_swap (i := 3) xk.K xk.calm rfl (da_cons (dv 2) (da_cons (dv 1) da_nil)) (dv 1) (dv 2)) (ds_freeze (i := 3) (ds_one (ds_ret (de_ty (c_tuple xk.K) bn.tuple (da_cons (dv 3) da_nil)))))))) ?_) (by decide)
  rintro ds R ex hl ⟨n, t, o, rfl, hn, ht, ho, hr⟩
  have hln : (idx n).length = n := by simp [idx]
  refine ⟨_, rfl, n, rfl, by omega, fun a => ?_⟩
  dsimp only
  rw [idx_ints]
  refine ⟨_, rfl, _, rfl, _, _, rfl, a, _, rfl, _, rfl, t, t, rfl, ixN_nat (by rw [List.length_map, hln]; exact ht), _, rfl, o, o, rfl, ixN_nat (by rw [List.length_map, hln]; exact ho), ?_⟩
  refine ⟨a, _, rfl, _, rfl, ?_⟩
  refine nilT ?_
  unfold exR rowD at hr
  rw [List.map_set, List.map_set] at hr
  exact hr
def exL (n : Nat) : List (List Int) := (List.range (n - 1)).map fun i => exR n i (i + 1)
def dnL (n : Nat) : List (List Int) := (List.range (n - 1)).map fun i => putR n (i + 1) i
def upL (n : Nat) : List (List Int) := (List.range (n - 1)).map fun i => putR n i (i + 1)
/-- the rows out of which the few ones of a manner are taken -/
def candR (m : Str) (n : Nat) : List (List Int) :=
  if (m == ("order" : Str)) = true then [] else if (m == ("alike" : Str)) = true then exL n
  else if ((m == ("two" : Str)) && decide ((2 : Int) < n)) = true then exL n ++ dnL n ++ [putR n 2 0]
  else if ([("blind" : Str), "one", "two"].any (· == m)) = true then exL n ++ dnL n
  else if ((m == ("either" : Str)) && decide ((1 : Int) < n)) = true then dnL n ++ upL n ++ [(idx n).reverse] else dnL n ++ upL n
theorem nil_seq {ex : Exc → Prop} {de : DEnds} {env : List Sl} (h : de.nx env) : sNil ex de env := h
def sCand : FSpec := fun ds R _ => ∃ (m : Str) (n : Nat), ds = [.str m, .int n] ∧ m ∈ manners ∧ 1 ≤ n ∧ n ≤ 5 ∧ R (.lst ((candR m n).map rowD))
theorem rows_few {n : Nat} (h : n ≤ 5) : (exL n).length ≤ 5 ∧ (dnL n).length ≤ 5 ∧ (upL n).length ≤ 5 := by
  unfold exL dnL upL
  simp only [List.length_map, List.length_range]; omega
abbrev s_candidate_rows : Stmt := topS 38
theorem sc_candidate_rows : FnScope ["manner", "things", "lower", "exchanged", "put_down", "put_up", "thing"] ["manner", "things"] (defScope s_candidate_rows) := ⟨rfl, rfl, rfl, by decide +kernel, rfl, by decide +kernel, by decide +kernel⟩
theorem ok_candidate_rows (F : Fun G.K "candidate_rows" "candidate_rows" s_candidate_rows f fd) (bn : Bn mg) (F_put_row : Fk G P w mg base 1 "put_row" ["things", "thing", "other"] 0 sPutRow) (F_exchange_row : Fk G P w mg base 1 "exchange_row" ["things", "thing", "other"] 0 sExRow) : FnD G P w mg base 2 f fd ["manner", "things"] 0 sCand := by
  refine FnD.more (fnd_of F sc_candidate_rows (fun cdv A outer s H E hr hg => have xk := xk_def (E := E) hr hg; (ds_cons (ds_rng (i := 2) sc_candidate_rows.nd rfl (Or.inl rfl) bn.range (de_op (o_sub) (dv 1) de_int)) (ds_cons (ds_setComp (i := 3) (own := [("thing", 6)]) xk sc_candidate_rows.nd rfl rfl (sw_true rfl rfl rfl (by decide +kernel)) (di_rngV (i := 2) rfl) (blkOk_by (N := ["manner", "things", "lower", "exchanged", "put_down", "put_up", "thing"]) (sc := defScope s_candidate_rows) (by decide +kernel)) (fun s H C cl fp => (dg_name (i := 6) sc_candidate_rows.nd rfl (Or.inl rfl))) (fun s H C cl fp => dts_nil) (fun s H C cl fp => (de_call F_exchange_row (Xk.blk xk _ _ _ _ _) (da_cons (dv 1) (da_cons (dv 6) (da_cons (de_op (o_add (Xk.blk xk _ _ _ _ _).K) (dv 6) de_int) da_nil))))) (by simp)) (ds_cons (ds_setComp (i := 4) (own := [("thing", 6)]) xk sc_candidate_rows.nd rfl rfl (sw_true rfl rfl rfl (by decide +kernel)) (di_rngV (i := 2) rfl) (blkOk_by (N := ["manner", "things", "lower", "exchanged", "put_down", "put_up", "thing"]) (sc := defScope s_candidate_rows) (by decide +kernel)) (fun s H C cl fp => (dg_name (i := 6) sc_candidate_rows.nd rfl (Or.inl rfl))) (fun s H C cl fp => dts_nil) (fun s H C cl fp => (de_call F_put_row (Xk.blk xk _ _ _ _ _) (da_cons (dv 1) (da_cons (de_op (o_add (Xk.blk xk _ _ _ _ _).K) (dv 6) de_int) (da_cons (dv 6) da_nil))))) (by simp)) (ds_cons (ds_setComp (i := 5) (own := [("thing", 6)]) xk sc_candidate_rows.nd rfl rfl (sw_true rfl rfl rfl (by decide +kernel)) (di_rngV (i := 2) rfl) (blkOk_by (N := ["manner", "things", "lower", "exchanged", "put_down", "put_up", "thing"]) (sc := defScope s_candidate_rows) (by decide +kernel)) (fun s H C cl fp => (dg_name (i := 6) sc_candidate_rows.nd rfl (Or.inl rfl))) (fun s H C cl fp => dts_nil) (fun s H C cl fp => (de_call F_put_row (Xk.blk xk _ _ _ _ _) (da_cons (dv 1) (da_cons (dv 6) (da_cons (de_op (o_add (Xk.blk xk _ _ _ _ _).K) (dv 6) de_int) da_nil))))) (by simp)) (ds_cons (ds_if (dt_cmp (o_eq xk.K xk.u64) (dv 0) de_str (by rfl)) (ds_one (ds_ret (de_lst da_nil))) ds_nil) (ds_cons (ds_if (dt_cmp (o_eq xk.K xk.u64) (dv 0) de_str (by rfl)) (ds_one (ds_ret (dv 3))) ds_nil) (ds_cons (ds_if (dt_w (dw_and (dt_cmp (o_eq xk.K xk.u64) (dv 0) de_str (by rfl)) (dw_and1 (dt_cmp (o_gt) (dv 1) de_int (by rfl))))) (ds_one (ds_ret (de_op (o_add xk.K) (de_op (o_add xk.K) (dv 3) (dv 4)) (de_lst (da_cons (de_call F_put_row xk (da_cons (dv 1) (da_cons de_int (da_cons de_int da_nil)))) da_nil))))) ds_nil) (ds_cons (ds_if (dt_cmp (o_inT xk.K xk.u65) (dv 0) (de_tup (da_cons de_str (da_cons de_str (da_cons de_str da_nil)))) (by rfl)) (ds_one (ds_ret (de_op (o_add xk.K) (dv 3) (dv 4)))) ds_nil) (ds_cons (ds_if (dt_w (dw_and (dt_cmp (o_eq xk.K xk.u64) (dv 0) de_str (by rfl)) (dw_and1 (dt_cmp (o_gt) (dv 1) de_int (by rfl))))) (ds_one (ds_ret (de_op (o_add xk.K) (de_op (o_add xk.K) (dv 4) (dv 5)) (de_lst (da_cons (de_revT xk.K (de_tupleRange xk.calm bn.tuple bn.range (dv 1))) da_nil))))) ds_nil) (ds_one (ds_ret (de_op (o_add xk.K) (dv 4) (dv 5)))))))))))))) ?_) (by decide)
  rintro ds R ex hl ⟨m, n, rfl, hm, n1, n5, hr⟩
  have hok := man_ok m hm
  obtain ⟨l1, l2, l3⟩ := rows_few n5
  have hj : (((n : Int) - 1).toNat : Nat) = n - 1 := by omega
  have sm : ∀ (a b : List (List Int)), a.length ≤ 20 → b.length ≤ 20 → (a.map rowD).length + (b.map rowD).length ≤ sizeLine := fun a b h1 h2 => by rw [List.length_map, List.length_map, sizeLine_eq]; omega
  refine seq_to (fun env' => ∃ a, env' = [.val (.str m), .val (.int n), .obj a (.rng 0 ((n : Int) - 1)), .emp, .emp, .emp, .emp]) (fun de' hnx hrt => ?_) (fun env' e => ?_)
  · exact ⟨_, rfl, trivial, _, rfl, fun a => hnx _ ⟨a, rfl⟩⟩
  obtain ⟨a, rfl⟩ := e
  refine seq_to (fun env' => env' = [.val (.str m), .val (.int n), .obj a (.rng 0 ((n : Int) - 1)), .val (.lst ((exL n).map rowD)), .emp, .emp, .emp]) (fun de' hnx hrt => ?_) (fun env' e => ?_)
  · refine ⟨a, _, rfl, by omega, by omega, ?_⟩
    rw [hj, rng_nat]
    refine compL_of (fun i : Nat => D.int i) (fun i => rowD (exR n i (i + 1))) (fun i hi K hK => ?_) ?_
    · have := List.mem_range.mp hi
      exact ⟨_, rfl, _, rfl, _, rfl, rfl, n, i, i + 1, rfl, n5, by omega, by omega, hK⟩
    · rw [List.nil_append]
      refine hnx _ ?_
      unfold exL
      rw [List.map_map]
      rfl
  subst e
  refine seq_to (fun env' => env' = [.val (.str m), .val (.int n), .obj a (.rng 0 ((n : Int) - 1)), .val (.lst ((exL n).map rowD)), .val (.lst ((dnL n).map rowD)), .emp, .emp]) (fun de' hnx hrt => ?_) (fun env' e => ?_)
  · refine ⟨a, _, rfl, by omega, by omega, ?_⟩
    rw [hj, rng_nat]
    refine compL_of (fun i : Nat => D.int i) (fun i => rowD (putR n (i + 1) i)) (fun i hi K hK => ?_) ?_
    · have := List.mem_range.mp hi
      exact ⟨_, rfl, _, rfl, _, rfl, rfl, n, i + 1, i, rfl, n5, by omega, by omega, hK⟩
    · rw [List.nil_append]
      refine hnx _ ?_
      unfold dnL
      rw [List.map_map]
      rfl
  subst e
  refine seq_to (fun env' => env' = [.val (.str m), .val (.int n), .obj a (.rng 0 ((n : Int) - 1)), .val (.lst ((exL n).map rowD)), .val (.lst ((dnL n).map rowD)), .val (.lst ((upL n).map rowD)), .emp]) (fun de' hnx hrt => ?_) (fun env' e => ?_)
  · refine ⟨a, _, rfl, by omega, by omega, ?_⟩
    rw [hj, rng_nat]
    refine compL_of (fun i : Nat => D.int i) (fun i => rowD (putR n i (i + 1))) (fun i hi K hK => ?_) ?_
    · have := List.mem_range.mp hi
      exact ⟨_, rfl, _, rfl, _, rfl, rfl, n, i, i + 1, rfl, n5, by omega, by omega, hK⟩
    · rw [List.nil_append]
      refine hnx _ ?_
      unfold upL
      rw [List.map_map]
      rfl
  subst e
  unfold candR at hr
  refine if_str hok (by decide +kernel) rfl (fun h => ?_) fun h => ?_
  · rw [if_pos h] at hr; exact ⟨small (by simp), hr⟩
  rw [if_neg (by rw [h]; decide)] at hr
  refine if_str hok (by decide +kernel) rfl (fun h => ?_) fun h => ?_
  · rw [if_pos h] at hr; exact ⟨_, rfl, hr⟩
  rw [if_neg (by rw [h]; decide)] at hr
  refine nil_seq ?_
  dsimp only
  refine sif_of (tst_and (x := m == ("two" : Str)) (y := decide ((2 : Int) < n)) (fun K hK => ?_) fun _ K hK => ?_) (fun hb => ?_) fun hb => ?_
  · refine ⟨.str m, rfl, ?_⟩
    exact eqC (eq_str hok (by decide +kernel) ⟨_, rfl, hK⟩)
  · exact ⟨_, rfl, trivial, _, rfl, hK⟩
  · rw [if_pos hb] at hr
    refine ⟨_, rfl, _, rfl, sm _ _ (by omega) (by omega), ?_⟩
    refine ⟨_, rfl, rfl, n, 2, 0, rfl, n5, by omega, by omega, small (by simp), small (by simp; omega), ?_⟩
    rw [← List.map_append]
    rw [List.map_append] at hr
    exact hr
  rw [if_neg (by rw [hb]; decide)] at hr
  refine nil_seq ?_
  dsimp only
  refine sif_of (x := [("blind" : Str), "one", "two"].any (· == m)) (fun K hK => ?_) (fun hb => ?_) fun hb => ?_
  · exact ⟨.str m, rfl, small (by simp), in_strs (ts := ["blind", "one", "two"]) hok (by decide +kernel) ⟨_, rfl, hK⟩⟩
  · rw [if_pos hb, List.map_append] at hr
    exact ⟨_, rfl, _, rfl, sm _ _ (by omega) (by omega), hr⟩
  rw [if_neg (by rw [hb]; decide)] at hr
  refine nil_seq ?_
  dsimp only
  refine sif_of (tst_and (x := m == ("either" : Str)) (y := decide ((1 : Int) < n)) (fun K hK => ?_) fun _ K hK => ?_) (fun hb => ?_) fun hb => ?_
  · refine ⟨.str m, rfl, ?_⟩
    exact eqC (eq_str hok (by decide +kernel) ⟨_, rfl, hK⟩)
  · exact ⟨_, rfl, trivial, _, rfl, hK⟩
  · rw [if_pos hb] at hr
    refine ⟨_, rfl, _, rfl, sm _ _ (by omega) (by omega), ?_⟩
    refine ⟨_, rfl, _, rfl, by omega, by omega, ?_⟩
    rw [Int.toNat_natCast, idx_ints]
    refine ⟨_, rfl, small (by simp), small (by simp; omega), ?_⟩
    rw [← List.map_append, ← List.map_reverse]
    rw [List.map_append] at hr
    exact hr
  rw [if_neg (by rw [hb]; decide), List.map_append] at hr
  exact ⟨_, rfl, _, rfl, sm _ _ (by omega) (by omega), hr⟩
def fewR (m : Str) (n : Nat) : List (List Int) := (candR m n).filter (isOf m n)
theorem ex_len (n t o : Nat) : (exR n t o).length = n := by unfold exR; rw [List.length_set, List.length_set, idx_len]
theorem put_len (n t o : Nat) : (putR n t o).length = n := by simp [putR]
theorem exL_len {n : Nat} {r : List Int} (h : r ∈ exL n) : r.length = n := by
  obtain ⟨i, _, rfl⟩ := List.mem_map.mp h
  exact ex_len ..
theorem dnL_len {n : Nat} {r : List Int} (h : r ∈ dnL n) : r.length = n := by
  obtain ⟨i, _, rfl⟩ := List.mem_map.mp h
  exact put_len ..
theorem upL_len {n : Nat} {r : List Int} (h : r ∈ upL n) : r.length = n := by
  obtain ⟨i, _, rfl⟩ := List.mem_map.mp h
  exact put_len ..
theorem cand_len {m : Str} {n : Nat} {r : List Int} (h : r ∈ candR m n) : r.length = n := by
  unfold candR at h
  split at h
  · cases h
  split at h
  · exact exL_len h
  split at h
  · rcases List.mem_append.mp
        h with h | h
    · rcases List.mem_append.mp
          h with h | h
      · exact exL_len h
      · exact dnL_len h
    · rw [List.mem_singleton.mp h]; exact put_len ..
  split at h
  · rcases List.mem_append.mp
        h with h | h
    · exact exL_len h
    · exact dnL_len h
  split at h
  · rcases List.mem_append.mp
        h with h | h
    · rcases List.mem_append.mp
          h with h | h
      · exact dnL_len h
      · exact upL_len h
    · rw [List.mem_singleton.mp h, List.length_reverse, idx_len]
  · rcases List.mem_append.mp
        h with h | h
    · exact dnL_len h
    · exact upL_len h
/-- the few rows in their order -/
def insL (x : List Int) : List (List Int) → List (List Int)
  | [] => [x]
  | y :: ys => if lexL x y = true then x :: y :: ys else y :: insL x ys
def sortL : List (List Int) → List (List Int)
  | [] => []
  | x :: xs => insL x (sortL xs)
theorem ins_perm {x : List Int} : ∀ ys : List (List Int), (insL x ys).Perm (x :: ys)
  | [] => .refl _
  | y :: ys => by
    unfold insL
    split
    · exact .refl _
    · exact ((ins_perm ys).cons y).trans (.swap x y ys)
theorem sort_perm : ∀ xs : List (List Int), (sortL xs).Perm xs
  | [] => .refl _
  | x :: xs => (ins_perm _).trans ((sort_perm xs).cons x)
def fewS (m : Str) (n : Nat) : List (List Int) := sortL (fewR m n)
theorem fews_perm (m : Str) (n : Nat) : (fewS m n).Perm (fewR m n) := sort_perm _
theorem fews_sorted {m : Str} {n : Nat} (hm : m ∈ manners) (h1 : 1 ≤ n) (h5 : n ≤ 5) : (fewS m n).Pairwise (fun x y => lexL y x = false) := by
  have h : ([1, 2, 3, 4, 5].all fun n => manners.all fun m => decide ((fewS m n).Pairwise (fun x y => lexL y x = false))) = true := by decide +kernel
  have hn : n ∈ [1, 2, 3, 4, 5] := by
    have : n = 1 ∨ n = 2 ∨ n = 3 ∨ n = 4 ∨ n = 5 := by omega
    rcases this with rfl | rfl | rfl | rfl | rfl <;> simp
  exact of_decide_eq_true (List.all_eq_true.mp (List.all_eq_true.mp h n hn) m hm)
theorem lex_anti : ∀ {x y : List Int}, lexL x y = false → lexL y x = false → x = y
  | [], [], _, _ => rfl
  | [], _ :: _, h, _ =>
        by cases h
  | _ :: _, [], _, h =>
        by cases h
  | x :: xs, y :: ys, h1, h2 => by
    unfold lexL at h1 h2
    by_cases e : x = y
    · subst e
      rw [if_pos rfl] at h1 h2
      rw [lex_anti h1 h2]
    · rw [if_neg e] at h1
      rw [if_neg fun z => e z.symm] at h2
      have a1 := of_decide_eq_false h1
      have a2 := of_decide_eq_false h2
      omega
theorem few_uniq {m : Str} {n : Nat} (hm : m ∈ manners) (h1 : 1 ≤ n) (h5 : n ≤ 5) {out : List (List Int)} (hp : out.Perm (fewR m n)) (hs : out.Pairwise (fun x y => lexL y x = false)) : out = fewS m n :=
  List.Perm.eq_of_pairwise (fun _ _ _ _ q1 q2 => lex_anti q2 q1) hs (fews_sorted hm h1 h5) (hp.trans (fews_perm m n).symm)
def sFew : FSpec := fun ds R _ => ∃ (m : Str) (n : Nat), ds = [.str m, .int n] ∧ m ∈ manners ∧ 1 ≤ n ∧ n ≤ 5 ∧ R (.lst ((fewS m n).map rowD))
abbrev s_few_rows : Stmt := topS 39
theorem sc_few_rows : FnScope ["manner", "things", "row"] ["manner", "things"] (defScope s_few_rows) := ⟨rfl, rfl, rfl, by decide +kernel, rfl, by decide +kernel, by decide +kernel⟩
theorem ok_few_rows (F : Fun G.K "few_rows" "few_rows" s_few_rows f fd) (bn : Bn mg) (F_candidate_rows : Fk G P w mg base 2 "candidate_rows" ["manner", "things"] 0 sCand) (F_row_is_of : Fk G P w mg base 2 "row_is_of" ["row", "into", "manner"] 0 sRowOf) : FnD G P w mg base 3 f fd ["manner", "things"] 0 sFew := by
  refine FnD.more (fnd_of F sc_few_rows (fun cdv A outer s H E hr hg => have xk := xk_def (E := E) hr hg; (ds_one (ds_ret (de_bi (c_sortR xk.K) bn.sorted (da_cons (de_comp (own := [("row", 2)]) xk sc_few_rows.nd (di_seq xk.K (de_call F_candidate_rows xk (da_cons (dv 0) (da_cons (dv 1) da_nil)))) (blkOk_by (N := ["manner", "things", "row"]) (sc := defScope s_few_rows) (by decide +kernel)) (fun s H C cl fp => (dg_name (i := 2) sc_few_rows.nd rfl (Or.inl rfl))) (fun s H C cl fp => (dts_one (dt_val (de_call F_row_is_of (Xk.blk xk _ _ _ _ _) (da_cons (dv 2) (da_cons (dv 1) (da_cons (dv 0) da_nil))))))) (fun s H C cl fp => (dv 2)) (by simp)) da_nil))))) ?_) (by decide)
  rintro ds R ex hl ⟨m, n, rfl, hm, n1, n5, hr⟩
  refine ⟨_, rfl, _, rfl, rfl, m, n, rfl, hm, n1, n5, ?_⟩
  refine compL_ofF rowD rowD (isOf m n) (fun r hr2 K K' hK hK' => ?_) ?_
  · have hl2 := cand_len hr2
    refine ⟨_, rfl, _, rfl, _, rfl, rfl, r, n, m, rfl, hm, (fun z => by rw [z] at hl2; simp at hl2; omega), by omega, isOf m n r, rfl, ?_⟩
    cases hb : isOf m n r with
    | false => exact hK' hb
    | true => exact ⟨_, rfl, hK hb⟩
  · rw [List.nil_append]
    exact ⟨fewR m n, n, rfl, n1, fun r hr2 => cand_len (List.mem_filter.mp hr2).1, fun out hp hs => by rw [few_uniq hm n1 n5 hp hs]; exact hr⟩
end
end Pg
set_option Elab.async false
set_option linter.all false
set_option maxRecDepth 100000
set_option maxHeartbeats 4100000
namespace Pg
open PySem L2 RZ Kn
section
variable {G : Gd} {P : Program} {w : World} {mg : Str → Option Value} {base : Heap} {f : Addr} {fd : FuncData}
def leadRows (m : Str) (b n : Nat) : List (List Int) := (allRows n b).filter (isOf m n)
def unrow (d : D) : List Int := match d with
  | .tup ds => ds.map fun e => match e with | .int i => i | _ => 0
  | _ => []
theorem unrow_row (r : List Int) : unrow (rowD r) = r := by
  show (r.map D.int).map _ = r
  rw [List.map_map]
  exact List.map_id' r
def sLeadsL : FSpec := fun ds R _ => ∃ (m : Str) (b n : Nat), ds = [.str m, .int b, .int n] ∧ m ∈ manners ∧ 1 ≤ b ∧ b ≤ 5 ∧ 1 ≤ n ∧ n ≤ 5 ∧ (m = ("two" : Str) → b ≠ 1 ∧ n ≠ 1) ∧ R (.tup ((leadRows m b n).map (leadD n)))
abbrev s_leads : Stmt := topS 34
theorem sc_leads : FnScope ["manner", "begin", "into", "row"] ["manner", "begin", "into"] (defScope s_leads) := ⟨rfl, rfl, rfl, by decide +kernel, rfl, by decide +kernel, by decide +kernel⟩
theorem ok_leads (F : Fun G.K "leads" "leads" s_leads f fd) (bn : Bn mg) (F_demand_manner : Fk G P w mg base 1 "demand_manner" ["manner", "part"] 0 sDemManL) (F_demand_two : Fk G P w mg base 1 "demand_two" ["manner", "worlds"] 0 sDemTwoW) (F_row_is_of : Fk G P w mg base 2 "row_is_of" ["row", "into", "manner"] 0 sRowOf) (F_all_rows : Fk G P w mg base 1 "all_rows" ["things", "many"] 0 sAllRowsL) (C_Lead : Fc G P w mg base 5 "Lead" 1 ["self", "into", "row"] 0 sLeadInitL) (F_demand_world : Fk G P w mg base 4 "demand_world" ["things", "part"] 0 sDemWorldL) : FnD G P w mg base 7 f fd ["manner", "begin", "into"] 0 sLeadsL := by
  refine FnD.more (fnd_of F sc_leads (fun cdv A outer s H E hr hg => have xk := xk_def (E := E) hr hg; (ds_cons (ds_expr (de_call F_demand_manner xk (da_cons (dv 0) (da_cons de_str da_nil)))) (ds_cons (ds_expr (de_call F_demand_world xk (da_cons (dv 1) (da_cons de_str da_nil)))) (ds_cons (ds_expr (de_call F_demand_world xk (da_cons (dv 2) (da_cons de_str da_nil)))) (ds_cons (ds_expr (de_call F_demand_two xk (da_cons (dv 0) (da_cons (de_tup (da_cons (dv 1) (da_cons (dv 2) da_nil))) da_nil)))) (ds_one (ds_ret (de_ty (c_tuple xk.K) bn.tuple (da_cons (de_comp (own := [("row", 3)]) xk sc_leads.nd (di_seq xk.K (de_call F_all_rows xk (da_cons (dv 2) (da_cons (dv 1) da_nil)))) (blkOk_by (N := ["manner", "begin", "into", "row"]) (sc := defScope s_leads) (by decide +kernel)) (fun s H C cl fp => (dg_name (i := 3) sc_leads.nd rfl (Or.inl rfl))) (fun s H C cl fp => (dts_one (dt_val (de_call F_row_is_of (Xk.blk xk _ _ _ _ _) (da_cons (dv 3) (da_cons (dv 2) (da_cons (dv 0) da_nil))))))) (fun s H C cl fp => (de_make C_Lead (Xk.blk xk _ _ _ _ _) (da_cons (dv 2) (da_cons (dv 3) da_nil)))) (by simp)) da_nil))))))))) ?_) (by decide)
  rintro ds R ex hl ⟨m, b, n, rfl, hm, hb1, hb5, hn1, hn5, h2, hr⟩
  have h2' : m = ("two" : Str) → (1 : Int) ∉ [(b : Int), (n : Int)] := fun e => by have := h2 e; simp; omega
  refine ⟨.str m, rfl, rfl, m, _, rfl, hm, ?_⟩
  refine ⟨.int b, rfl, rfl, b, _, rfl, by omega, by omega, ?_⟩
  refine ⟨.int n, rfl, rfl, n, _, rfl, by omega, by omega, ?_⟩
  refine ⟨.str m, rfl, .int b, rfl, .int n, rfl, small (by simp), rfl, m, [(b : Int), (n : Int)], rfl, hm, by simp, h2', ?_⟩
  refine ⟨.int n, rfl, .int b, rfl, rfl, n, b, rfl, hn5, hb5, ?_⟩
  refine compL_filter (fun d => isOf m n (unrow d)) (fun d => leadD n (unrow d)) (fun d hd K K' hK hK' => ?_) ?_
  · obtain ⟨r, hr2, rfl⟩ := List.mem_map.mp hd
    rw [unrow_row] at hK hK'
    have hrl := allRows_row n b r hr2
    have hne : r ≠ [] := fun z => by rw [z] at hrl; simp at hrl; omega
    refine ⟨rowD r, rfl, .int n, rfl, .str m, rfl, rfl, r, n, m, rfl, hm, hne, by omega, isOf m n r, rfl, ?_⟩
    cases hb : isOf m n r with
    | false => exact hK' hb
    | true => exact ⟨.int n, rfl, rowD r, rfl, rfl, n, rowD r, r, rfl, rfl, by omega, by omega, by omega, by omega, allRows_val n b r hr2, hK hb⟩
  · have e : (((allRows n b).map rowD).filter fun d => isOf m n (unrow d)).map (fun d => leadD n (unrow d)) = (leadRows m b n).map (leadD n) := by
      rw [List.filter_map, List.map_map]
      unfold leadRows
      simp only [Function.comp_def, unrow_row]
    show g1 gTuple [.lst ([] ++ (((allRows n b).map rowD).filter fun d => isOf m n (unrow d)).map (fun d => leadD n (unrow d)))] R
    rw [List.nil_append, e]
    exact hr
abbrev s_many_leads : Stmt := topS 35
theorem sc_many_leads : FnScope ["manner", "begin", "into"] ["manner", "begin", "into"] (defScope s_many_leads) := ⟨rfl, rfl, rfl, by decide +kernel, rfl, by decide +kernel, by decide +kernel⟩
theorem ok_many_leads (F : Fun G.K "many_leads" "many_leads" s_many_leads f fd) (bn : Bn mg) (F_leads : Fk G P w mg base 7 "leads" ["manner", "begin", "into"] 0 sLeadsL) : FnD G P w mg base 8 f fd ["manner", "begin", "into"] 0 (fun ds R _ => ∃ (m : Str) (b n : Nat), ds = [.str m, .int b, .int n] ∧ m ∈ manners ∧ 1 ≤ b ∧ b ≤ 5 ∧ 1 ≤ n ∧ n ≤ 5 ∧ (m = ("two" : Str) → b ≠ 1 ∧ n ≠ 1) ∧ R (.int (leadRows m b n).length)) := by
  refine FnD.more (fnd_of F sc_many_leads (fun cdv A outer s H E hr hg => have xk := xk_def (E := E) hr hg; (ds_one (ds_ret (de_bi (c_len xk.K) bn.len (da_cons (de_call F_leads xk (da_cons (dv 0) (da_cons (dv 1) (da_cons (dv 2) da_nil)))) da_nil))))) ?_) (by decide)
  rintro ds R ex hl ⟨m, b, n, rfl, hm, hb1, hb5, hn1, hn5, h2, hr⟩
  refine ⟨.str m, rfl, .int b, rfl, .int n, rfl, rfl, m, b, n, rfl, hm, hb1, hb5, hn1, hn5, h2, ?_⟩
  show R (.int ((leadRows m b n).map (leadD n)).length)
  rw [List.length_map]
  exact hr
theorem fews_row {m : Str} {n : Nat} (hm : m ∈ manners) (h1 : 1 ≤ n) (h5 : n ≤ 5) : ∀ r ∈ fewS m n, RowIn n n r := by
  have h : ([1, 2, 3, 4, 5].all fun n => manners.all fun m => (fewS m n).all fun r => r.length == n && r.all fun i => decide (0 ≤ i) && decide (i < (n : Int))) = true := by decide +kernel
  have hn : n ∈ [1, 2, 3, 4, 5] := by
    have : n = 1 ∨ n = 2 ∨ n = 3 ∨ n = 4 ∨ n = 5 := by omega
    rcases this with rfl | rfl | rfl | rfl | rfl <;> simp
  intro r hr
  have h2 := List.all_eq_true.mp (List.all_eq_true.mp (List.all_eq_true.mp h n hn) m hm) r hr
  rw [Bool.and_eq_true] at h2
  refine ⟨eq_of_beq h2.1, fun i hi => ?_⟩
  have h3 := List.all_eq_true.mp h2.2 i hi
  rw [Bool.and_eq_true, decide_eq_true_iff, decide_eq_true_iff] at h3
  exact h3
def sFewLeads : FSpec := fun ds R _ => ∃ (m : Str) (n : Nat), ds = [.str m, .int n] ∧ m ∈ manners ∧ 1 ≤ n ∧ n ≤ 5 ∧ (m = ("two" : Str) → n ≠ 1) ∧ R (.tup ((fewS m n).map (leadD n)))
abbrev s_few_leads : Stmt := topS 40
theorem sc_few_leads : FnScope ["manner", "things", "row"] ["manner", "things"] (defScope s_few_leads) := ⟨rfl, rfl, rfl, by decide +kernel, rfl, by decide +kernel, by decide +kernel⟩
theorem ok_few_leads (F : Fun G.K "few_leads" "few_leads" s_few_leads f fd) (bn : Bn mg) (F_demand_manner : Fk G P w mg base 1 "demand_manner" ["manner", "part"] 0 sDemManL) (F_demand_two : Fk G P w mg base 1 "demand_two" ["manner", "worlds"] 0 sDemTwoW) (F_few_rows : Fk G P w mg base 3 "few_rows" ["manner", "things"] 0 sFew) (C_Lead : Fc G P w mg base 5 "Lead" 1 ["self", "into", "row"] 0 sLeadInitL) (F_demand_world : Fk G P w mg base 4 "demand_world" ["things", "part"] 0 sDemWorldL) : FnD G P w mg base 7 f fd ["manner", "things"] 0 sFewLeads := by
  refine FnD.more (fnd_of F sc_few_leads (fun cdv A outer s H E hr hg => have xk := xk_def (E := E) hr hg; (ds_cons (ds_expr (de_call F_demand_manner xk (da_cons (dv 0) (da_cons de_str da_nil)))) (ds_cons (ds_expr (de_call F_demand_world xk (da_cons (dv 1) (da_cons de_str da_nil)))) (ds_cons (ds_expr (de_call F_demand_two xk (da_cons (dv 0) (da_cons (de_tup (da_cons (dv 1) da_nil)) da_nil)))) (ds_one (ds_ret (de_ty (c_tuple xk.K) bn.tuple (da_cons (de_comp (own := [("row", 2)]) xk sc_few_leads.nd (di_seq xk.K (de_call F_few_rows xk (da_cons (dv 0) (da_cons (dv 1) da_nil)))) (blkOk_by (N := ["manner", "things", "row"]) (sc := defScope s_few_leads) (by decide +kernel)) (fun s H C cl fp => (dg_name (i := 2) sc_few_leads.nd rfl (Or.inl rfl))) (fun s H C cl fp => dts_nil) (fun s H C cl fp => (de_make C_Lead (Xk.blk xk _ _ _ _ _) (da_cons (dv 1) (da_cons (dv 2) da_nil)))) (by simp)) da_nil)))))))) ?_) (by decide)
  rintro ds R ex hl ⟨m, n, rfl, hm, n1, n5, h2, hr⟩
  have h2' : m = ("two" : Str) → (1 : Int) ∉ [(n : Int)] := fun e => by have := h2 e; simp; omega
  refine ⟨.str m, rfl, rfl, m, _, rfl, hm, ?_⟩
  refine ⟨.int n, rfl, rfl, n, _, rfl, by omega, by omega, ?_⟩
  refine ⟨.str m, rfl, .int n, rfl, small (by simp), rfl, m, [(n : Int)], rfl, hm, by simp, h2', ?_⟩
  refine ⟨.str m, rfl, .int n, rfl, rfl, m, n, rfl, hm, n1, n5, ?_⟩
  refine compL_of rowD (fun r => leadD n r) (fun r hr2 K hK => ?_) ?_
  · obtain ⟨h1, h2⟩ := fews_row hm n1 n5 r hr2
    exact ⟨_, rfl, _, rfl, rfl, n, _, r, rfl, rfl, by omega, by omega, by omega, by omega, h2, hK⟩
  · rw [List.nil_append]
    exact nilT hr
end
end Pg
set_option Elab.async false
set_option linter.all false
set_option maxRecDepth 100000
set_option maxHeartbeats 4100000
namespace Pg
open PySem L2 RZ Kn
section
variable {P : Program} {w : World} {K : PySem.W.Frag} {mg : Str → Option Value} {base : Heap} {f : Addr} {fd : FuncData}
abbrev s_law_pen : Stmt := topS 42
theorem sc_law_pen : FnScope ["script", "cell"] ["script"] (defScope s_law_pen) := ⟨rfl, rfl, rfl, by decide +kernel, rfl, by decide +kernel, by decide +kernel⟩
theorem ok_law_pen (F : Fun K "_law_pen" "_law_pen" s_law_pen f fd) (bi : mg "int" = none) : FnOk P w K mg base (L2.CX P w) 1 f fd ["script"] (spPen K) := by
  refine F.okX sc_law_pen (fun vs H Q E h => ?_) (fun cdv A outer s H vs Q E hr h => ?_)
  · obtain ⟨a, ns, rfl, _⟩ := h
    rfl
  obtain ⟨a, ns, rfl, hS, hlen, q⟩ := h
  refine ⟨_, pss_one (ps_ret (pe_lst (pa_cons (pe_lc (own := [("cell", 1)]) rfl sc_law_pen.nd (pi_sq (pe_slice sl_list (pe_var (i := 0) rfl (by first | exact Or.inl rfl | exact Or.inr (Or.inl rfl) | exact Or.inr (Or.inr rfl)) (by decide) (by decide)) po_none (po_some pe_int))) (blkOk_by (N := ["script", "cell"]) (sc := defScope s_law_pen) (by decide +kernel))
    (fun s H C cl fp => pg_name (i := 1) sc_law_pen.nd rfl (Or.inl rfl)) (fun s H C cl fp => pts_nil) (fun s H C cl fp => pe_callTy call_int1 rfl bi (by decide +kernel) (pa_cons (pe_var (i := 1) rfl (by first | exact Or.inl rfl | exact Or.inr (Or.inl rfl) | exact Or.inr (Or.inr rfl)) (by decide) (by decide)) pa_nil) (by decide) (by decide) rfl rfl)) (pa_cons pe_int (pa_cons pe_int pa_nil))))), ?_⟩
  refine ⟨.ref a, rfl, 60, rfl, a, _, rfl, hS, fun c hc => ?_⟩
  have hn60 : (ns.take 60).length ≤ 60 := by rw [List.length_take]; omega
  have k1 : ∀ b o, H b = some o → upd H c (.lst (cutV (ns.map V.int) none (some 60))) b = some o := fun b o e => by rw [upd_ne (ne_of_none e hc)]; exact e
  have hcl : upd H c (.lst (cutV (ns.map V.int) none (some 60))) c = some (.lst ((ns.take 60).map V.int)) := by rw [upd_same, cut_ints]
  generalize upd H c (.lst (cutV (ns.map V.int) none (some 60))) = H1 at *
  generalize ns.take 60 = cs at *
  refine ⟨c, rfl, .inl ⟨⟨_, SqL.of hcl⟩, fun D hD => ?_⟩⟩
  have hDc : c ≠ D := ne_of_none hcl hD
  refine ⟨fun i m H2 => i ≤ cs.length ∧ m = cs.length - i ∧ (∀ b o, H1 b = some o → H2 b = some o) ∧ H2 D = some (.lst ((cs.take i).map V.int)), ⟨_, Nat.zero_le _, rfl, fun b o e => by rw [upd_ne (ne_of_none e hD)]; exact e, by rw [upd_same]; rfl⟩, fun i m H2 hW => ?_⟩
  obtain ⟨hi, rfl, k2, hD2⟩ := hW
  have hc2 := SqL.of (K := K) (k2 _ _ hcl)
  by_cases hlt : i < cs.length
  · refine .inr ⟨⟨_, .int (cs[i]), hc2, by rw [List.getElem?_map, List.getElem?_eq_getElem hlt]; rfl⟩, fun H3 => (∀ b o, H1 b = some o → H3 b = some o) ∧ H3 D = some (.lst ((cs.take (i + 1)).map V.int)), fun H3 ⟨e1, e2⟩ => ⟨cs.length - (i + 1), by omega, hlt, rfl, e1, e2⟩, fun x H3 hy => ?_⟩
    obtain ⟨rfl, hx⟩ := hy
    have ex : x = .int (cs[i]) := by
      have := hx _ hc2
      rw [List.getElem?_map, List.getElem?_eq_getElem hlt] at this; exact (Option.some.inj this).symm
    subst ex
    refine ⟨rfl, ?_⟩
    refine ⟨_, rfl, .inl ⟨_, rfl, _, hD2, by rw [List.length_map, List.length_take, sizeLine_eq]; omega, fun b o e => ?_, ?_⟩⟩
    · rw [upd_ne (ne_of_none e hD)]; exact k2 b o e
    · rw [upd_same, List.take_succ, List.getElem?_eq_getElem hlt, List.map_append]
      rfl
  · have e : i = cs.length := by omega
    refine .inl ⟨⟨_, hc2, by rw [List.length_map]; omega⟩, ?_⟩
    refine ⟨small (by simp), fun p hp => ?_⟩
    have hpD : D ≠ p := ne_of_none hD2 hp
    refine q _ p D cs (fun b o e _ => ?_) ?_ ?_ (Ne.symm hpD) (by omega) upd_same ?_
    · have e2 := k2 b o (k1 b o e)
      rw [upd_ne (ne_of_none e2 hp)]; exact e2
    · cases hq : H p with
      | none => rfl
      | some o => rw [k2 p o (k1 p o hq)] at hp; cases hp
    · cases hq : H D with
      | none => rfl
      | some o => rw [k1 D o hq] at hD; cases hD
    · rw [upd_ne hpD, hD2, e, List.take_length]
end
section
variable {G : Gd} {P : Program} {w : World} {mg : Str → Option Value} {base : Heap} {f : Addr} {fd : FuncData}
abbrev s_law_draw : Stmt := topS 43
theorem sc_law_draw : FnScope ["pen", "many", "rest", "at", "cell", "mixed"] ["pen", "many"] (defScope s_law_draw) := ⟨rfl, rfl, rfl, by decide +kernel, rfl, by decide +kernel, by decide +kernel⟩
theorem ok_law_draw (F : Fun G.K "_law_draw" "_law_draw" s_law_draw f fd) (bn : Bn mg) : FnD G P w mg base 1 f fd ["pen", "many"] 1 sDraw := by
  refine draw_of F sc_law_draw rfl (fun cdv A outer s H E hr hg => have xk := xk_def (G := { G with u := none }) (E := E) hr hg; (ds_cons (ds_if (dt_cmp (o_gt) (de_oix (i := 0) rfl de_int (fun _ _ => rfl)) de_int (by rfl)) (ds_cons (ds_set (i := 2) sc_law_draw.nd rfl (Or.inl rfl) (de_ty (c_int) bn.int (da_cons (de_oix (i := 0) rfl de_int (fun _ _ => rfl)) da_nil))) (ds_cons (ds_setIx (i := 0) rfl (de_op (o_div) (dv 2) (dv 1)) de_int) (ds_one (ds_ret (de_op (o_mod) (de_ty (c_int) bn.int (da_cons (dv 2) da_nil)) (dv 1)))))) ds_nil) (ds_cons (ds_set (i := 3) sc_law_draw.nd rfl (Or.inl rfl) (de_oix (i := 0) rfl de_int (fun _ _ => rfl))) (ds_cons (ds_setIx (i := 0) rfl (de_op (o_add xk.K) (dv 3) de_int) de_int) (ds_cons (ds_set (i := 4) sc_law_draw.nd rfl (Or.inl rfl) (de_op (o_add xk.K) (de_op (o_mul) de_int (dv 3)) de_int)) (ds_cons (ds_if (dt_cmp (o_ne xk.K xk.u64) (de_oix (i := 0) rfl de_int (fun _ _ => rfl)) (de_lst da_nil) (by rfl)) (ds_one (ds_set (i := 4) sc_law_draw.nd rfl (Or.inl rfl) (de_ix xk.K (de_oix (i := 0) rfl de_int (fun _ _ => rfl)) (de_op (o_mod) (de_ty (c_int) bn.int (da_cons (dv 3) da_nil)) (de_bi (c_len xk.K) bn.len (da_cons (de_oix (i := 0) rfl de_int (fun _ _ => rfl)) da_nil))) (fun _ _ => rfl)))) ds_nil) (ds_cons (ds_if (dt_w (dw_and (dt_cmp (o_lt) (dv 3) (de_bi (c_len xk.K) bn.len (da_cons (de_oix (i := 0) rfl de_int (fun _ _ => rfl)) da_nil)) (by rfl)) (dw_and1 (dt_cmp (o_ge) (de_bi (c_abs) bn.abs (da_cons (dv 4) da_nil)) (de_op (o_pow) de_int de_int) (by rfl))))) (ds_cons (ds_set (i := 2) sc_law_draw.nd rfl (Or.inl rfl) (de_op (o_add xk.K) (de_op (o_mul) de_int (de_op (o_sub) (de_bi (c_abs) bn.abs (da_cons (dv 4) da_nil)) (de_op (o_pow) de_int de_int))) (de_ty (c_int) bn.int (da_cons (de_cmp (o_lt) (dv 4) de_int (by rfl)) da_nil)))) (ds_cons (ds_setIx (i := 0) rfl (de_op (o_div) (de_ty (c_int) bn.int (da_cons (dv 2) da_nil)) (dv 1)) de_int) (ds_one (ds_ret (de_op (o_mod) (de_ty (c_int) bn.int (da_cons (dv 2) da_nil)) (dv 1)))))) ds_nil) (ds_cons (ds_set (i := 5) sc_law_draw.nd rfl (Or.inl rfl) (de_op (o_mod) (de_ty (c_int) bn.int (da_cons (de_op (o_pow) (de_op (o_add xk.K) (de_op (o_add xk.K) (de_op (o_mod) (de_ty (c_int) bn.int (da_cons (dv 4) da_nil)) de_int) (de_op (o_mul) de_int (dv 3))) de_int) de_int) da_nil)) de_int)) (ds_cons (ds_set (i := 5) sc_law_draw.nd rfl (Or.inl rfl) (de_op (o_mod) (de_ty (c_int) bn.int (da_cons (de_op (o_pow) (de_op (o_add xk.K) (de_op (o_add xk.K) (de_op (o_mul) (dv 5) (de_op (o_add xk.K) (de_op (o_mul) de_int (dv 3)) de_int)) (de_op (o_mulW) (de_op (o_mul) de_int (dv 3)) (dv 3))) de_int) de_int) da_nil)) de_int)) (ds_one (ds_ret (de_op (o_mod) (de_ty (c_int) bn.int (da_cons (de_op (o_div) (dv 5) de_int) da_nil)) (dv 1))))))))))))) ?_
  intro cells at_ r many a b hc h0 h1 hr0 hm1 hm2
  have hpos : 0 < many := by omega
  have cdiv : CDiv r many := ⟨hpos, hm2⟩
  refine seq_to (fun env' => env' = Sl.own a [.at_ b (cells.map D.int), .int at_, .int r] :: Sl.val (.int many) :: List.replicate 4 Sl.emp) (fun de' hnx hrt => ?_) (fun env' e => ?_)
  · refine ⟨a, _, rfl, 2, .int r, rfl, rfl, trivial, _, rfl, ite_of (fun hb => ?_) fun hb => hnx _ rfl⟩
    have hr : 0 < r := of_decide_eq_true hb
    refine ⟨a, _, rfl, 2, .int r, rfl, rfl, ?_⟩
    refine ⟨.int r, rfl, .int many, rfl, ⟨hpos, hm2⟩, a, _, rfl, 2, 2, rfl, rfl, ?_⟩
    refine ⟨.int r, rfl, .int many, rfl, hpos, ?_⟩
    rw [hrt]
    exact ⟨r % many, at_, r / many, rfl, Int.emod_nonneg _ (by omega), Int.emod_lt_of_pos _ hpos, rfl, Int.ediv_nonneg hr0 (by omega), h0, by omega⟩
  subst e
  refine seq_to (fun env' => env' = [Sl.own a [.at_ b (cells.map D.int), .int at_, .int r], .val (.int many), .emp, .val (.int at_), .emp, .emp]) (fun de' hnx hrt => ?_) (fun env' e => ?_)
  · exact ⟨a, _, rfl, 1, .int at_, rfl, rfl, hnx _ rfl⟩
  subst e
  refine seq_to (fun env' => env' = [Sl.own a [.at_ b (cells.map D.int), .int (at_ + 1), .int r], .val (.int many), .emp, .val (.int at_), .emp, .emp]) (fun de' hnx hrt => ?_) (fun env' e => ?_)
  · exact ⟨.int at_, rfl, a, _, rfl, 1, 1, rfl, rfl, hnx _ rfl⟩
  subst e
  refine seq_to (fun env' => ∃ c : Int, env' = [Sl.own a [.at_ b (cells.map D.int), .int (at_ + 1), .int r], .val (.int many), .emp, .val (.int at_), .val (.int c), .emp]) (fun de' hnx hrt => ?_) (fun env' e => ?_)
  · exact ⟨.int at_, rfl, .inl ⟨by decide, by decide⟩, hnx _ ⟨_, rfl⟩⟩
  obtain ⟨c0, rfl⟩ := e
  refine seq_to (fun env' => ∃ c : Int, env' = [Sl.own a [.at_ b (cells.map D.int), .int (at_ + 1), .int r], .val (.int many), .emp, .val (.int at_), .val (.int c), .emp]) (fun de' hnx hrt => ?_) (fun env' e => ?_)
  · refine ⟨a, _, rfl, 0, _, rfl, rfl, small (by simp), ne_nil ⟨_, rfl, ite_of (fun hb => ?_) fun hb => hnx _ ⟨_, rfl⟩⟩⟩
    have hne : 0 < cells.length := by cases cells with
      | nil => cases hb
      | cons x l => simp
    have hne' : (0 : Int) < cells.length := by omega
    have e1 := atR_at (r := cells) (i := at_ % cells.length) (Int.emod_nonneg _ (by omega)) (Int.emod_lt_of_pos _ hne')
    refine ⟨a, _, rfl, 0, _, rfl, rfl, .int at_, rfl, a, _, rfl, 0, _, rfl, rfl, ?_⟩
    have hl : ((cells.map D.int).length : Int) = cells.length := by simp
    refine ⟨by rw [hl]; exact hne', .int (atR cells (at_ % cells.length)), by rw [hl]; exact e1, hnx _ ⟨_, rfl⟩⟩
  obtain ⟨c, rfl⟩ := e
  refine seq_to (fun env' => env' = [Sl.own a [.at_ b (cells.map D.int), .int (at_ + 1), .int r], .val (.int many), .emp, .val (.int at_), .val (.int c), .emp]) (fun de' hnx hrt => ?_) (fun env' e => ?_)
  · refine ⟨.int at_, rfl, a, _, rfl, 0, _, rfl, rfl, trivial, _, rfl, ite_of (fun hb => ?_) fun hb => hnx _ rfl⟩
    refine ⟨.int c, rfl, pow18, trivial, _, rfl, ite_of (fun hb2 => ?_) fun hb2 => hnx _ rfl⟩
    have hge : (10 : Int) ^ (18 : Int).toNat ≤ (if c < 0 then -c else c) := of_decide_eq_true hb2
    refine seq_to (fun env' => ∃ q : Int, 0 ≤ q ∧ env' = [Sl.own a [.at_ b (cells.map D.int), .int (at_ + 1), .int r], .val (.int many), .val (.int q), .val (.int at_), .val (.int c), .emp]) (fun de2 hnx2 hrt2 => ?_) (fun env' e => ?_)
    · refine ⟨.int c, rfl, pow18, trivial, .inl ⟨by decide, by decide⟩, .int c, rfl, trivial, hnx2 _ ⟨_, ?_, rfl⟩⟩
      by_cases hcn : c < 0
      · rw [if_pos hcn] at hge ⊢
        rw [if_pos (decide_eq_true hcn)]
        omega
      · rw [if_neg hcn] at hge ⊢
        rw [if_neg (by rw [decide_eq_false hcn]; decide)]
        omega
    obtain ⟨q, hq0, rfl⟩ := e
    refine ⟨.int q, rfl, .int many, rfl, ⟨hpos, hm2⟩, a, _, rfl, 2, 2, rfl, rfl, ?_⟩
    refine ⟨.int q, rfl, .int many, rfl, hpos, ?_⟩
    rw [hrt]
    exact ⟨q % many, at_ + 1, q / many, rfl, Int.emod_nonneg _ (by omega), Int.emod_lt_of_pos _ hpos, rfl, Int.ediv_nonneg hq0 (by omega), by omega, by omega⟩
  subst e
  refine seq_to (fun env' => ∃ x : Int, 0 ≤ x ∧ x < 2 ^ 62 ∧ env' = [Sl.own a [.at_ b (cells.map D.int), .int (at_ + 1), .int r], .val (.int many), .emp, .val (.int at_), .val (.int c), .val (.int x)]) (fun de' hnx hrt => ?_) (fun env' e => ?_)
  · refine ⟨.int c, rfl, pos_of (by decide), .int at_, rfl, .inl ⟨by decide, by decide⟩, ?_⟩
    refine ⟨draw_pow1 (Int.emod_nonneg _ (by decide)) (Int.lt_trans (Int.emod_lt_of_pos _ (by decide)) (by decide)) (by decide) (by decide) (by decide) (by decide) h0 h1, pos_of (by decide), hnx _ ⟨_, Int.emod_nonneg _ (by decide), Int.lt_trans (Int.emod_lt_of_pos _ (by decide)) (by decide), rfl⟩⟩
  obtain ⟨x, hx0, hx1, rfl⟩ := e
  refine seq_to (fun env' => ∃ y : Int, 0 ≤ y ∧ env' = [Sl.own a [.at_ b (cells.map D.int), .int (at_ + 1), .int r], .val (.int many), .emp, .val (.int at_), .val (.int c), .val (.int y)]) (fun de' hnx hrt => ?_) (fun env' e => ?_)
  · refine ⟨.int x, rfl, .int at_, rfl, .inl ⟨by decide, by decide⟩, .inl ⟨by omega, by omega⟩, .int at_, rfl, .inl ⟨by decide, by decide⟩, .int at_, rfl, draw_wide (by decide) (by decide) h0 h1, ?_⟩
    exact ⟨draw_pow2 hx0 hx1 (by decide) (by decide) (by decide) (by decide) (by decide) (by decide) (by decide) (by decide) h0 h1, pos_of (by decide), hnx _ ⟨_, Int.emod_nonneg _ (by decide), rfl⟩⟩
  obtain ⟨y, hy0, rfl⟩ := e
  refine ⟨.int y, rfl, ⟨by decide, by decide⟩, .int many, rfl, hpos, ?_⟩
  exact ⟨_, at_ + 1, r, rfl, Int.emod_nonneg _ (by omega), Int.emod_lt_of_pos _ hpos, rfl, hr0, by omega, by omega⟩
def sPick : FSpec := fun ds R _ => ∃ (d : D) (xs : List D), ds = [.urn, d] ∧ d.items? = some xs ∧ 1 ≤ xs.length ∧ xs.length ≤ 100000 ∧ ∀ (i : Nat) (x : D), xs[i]? = some x → R x
abbrev s_law_pick : Stmt := topS 44
theorem sc_law_pick : FnScope ["pen", "some"] ["pen", "some"] (defScope s_law_pick) := ⟨rfl, rfl, rfl, by decide +kernel, rfl, by decide +kernel, by decide +kernel⟩
theorem ok_law_pick (F : Fun G.K "_law_pick" "_law_pick" s_law_pick f fd) (bn : Bn mg) (F__law_draw : Fk G P w mg base 1 "_law_draw" ["pen", "many"] 1 sDraw) : FnD G P w mg base 2 f fd ["pen", "some"] 1 sPick := by
  refine FnD.more (fnd_of F sc_law_pick (fun cdv A outer s H E hr hg => have xk := xk_def (E := E) hr hg; (ds_one (ds_ret (de_ix xk.K (dv 1) (de_call F__law_draw xk (da_cons (dv 0) (da_cons (de_bi (c_len xk.K) bn.len (da_cons (dv 1) da_nil)) da_nil))) (fun _ _ => rfl))))) ?_) (by decide)
  rintro ds R ex hl ⟨d, xs, rfl, hx, h1, h2, hr⟩
  refine ⟨d, rfl, .urn, rfl, d, rfl, ?_⟩
  cases d <;> cases hx
  all_goals
    refine ⟨rfl, _, rfl, by omega, by omega, fun i b1 b2 => ?_⟩
    obtain ⟨j, rfl⟩ := Int.eq_ofNat_of_zero_le b1
    have hj : j < xs.length := by omega
    exact ⟨xs[j], atI_nat (List.getElem?_eq_getElem hj), hr j _ (List.getElem?_eq_getElem hj)⟩
end
end Pg
set_option Elab.async false
set_option linter.all false
set_option maxRecDepth 100000
set_option maxHeartbeats 4100000
namespace Pg
open PySem L2 RZ Kn
section
variable {G : Gd} {P : Program} {w : World} {mg : Str → Option Value} {base : Heap} {f : Addr} {fd : FuncData}
def insI (x : Int) :
      List Int → List Int
  | [] => [x]
  | y :: ys => if x ≤ y then x :: y :: ys else y :: insI x ys
def sortI : List Int → List Int
  | [] => []
  | x :: xs => insI x (sortI xs)
theorem insI_perm {x : Int} : ∀ ys : List Int, (insI x ys).Perm (x :: ys)
  | [] => .refl _
  | y :: ys => by
    unfold insI
    split
    · exact .refl _
    · exact ((insI_perm ys).cons y).trans (.swap x y ys)
theorem sortI_perm : ∀ xs : List Int, (sortI xs).Perm xs
  | [] => .refl _
  | x :: xs => (insI_perm _).trans ((sortI_perm xs).cons x)
theorem insI_asc {x : Int} : ∀ {ys : List Int}, ys.Pairwise (· ≤ ·) → (insI x ys).Pairwise (· ≤ ·)
  | [], _ => by unfold insI; simp
  | y :: ys, h => by
    unfold insI; obtain ⟨h1, h2⟩ := List.pairwise_cons.mp h
    split
    · rename_i hxy
      refine List.pairwise_cons.mpr ⟨fun z hz => ?_, h⟩
      rcases List.mem_cons.mp
            hz with rfl | hz
      · exact hxy
      · have := h1 z hz; omega
    · rename_i hxy
      refine List.pairwise_cons.mpr ⟨fun z hz => ?_, insI_asc h2⟩
      rcases List.mem_cons.mp ((insI_perm ys).mem_iff.mp hz) with rfl | hz
      · omega
      · exact h1 z hz
theorem sortI_asc : ∀ xs : List Int, (sortI xs).Pairwise (· ≤ ·)
  | [] => .nil
  | x :: xs => insI_asc (sortI_asc xs)
theorem sortI_uniq {r s : List Int} (hp : s.Perm r) (hs : s.Pairwise (· ≤ ·)) : s = sortI r :=
  List.Perm.eq_of_pairwise (fun _ _ _ _ q1 q2 => Int.le_antisymm q1 q2) hs (sortI_asc r) (hp.trans (sortI_perm r).symm)
def lawIs (m : Str) (n : Nat) (r : List Int) : Bool :=
  if (([("one" : Str), "least"].any (· == m) && !(atR r 0 == 0)) || (m == ("two" : Str) && !(r.take 2 == [0, 1]))) = true then false
  else if (m == ("ends" : Str) && (!(atR r 0 == 0) || !(atR r ((r.length : Int) - 1) == (n : Int) - 1))) = true then false
  else if ([("alike" : Str), "order"].any (· == m) && !((r.filter fun t => decide ((1 : Int) < (r.count t : Nat))) == [])) = true then false
  else if (m == ("either" : Str)) = true then [sortI r, (sortI r).reverse].any (· == r)
  else [("blind" : Str), "one", "two", "alike"].any (· == m) || r == sortI r
theorem at0 {n : Nat} {r : List Int} (h : RowIn n n r) (h1 : 1 ≤ n) : atI (r.map D.int) 0 = some (.int (atR r 0)) := (atR_in (by omega) (by have := h.1; omega) h.2).1
theorem shaped_two (a b : List Int) : SeqAt.shaped (.tuple [.list (a.map PyData.int), .list (b.map PyData.int)]) = true := by
  unfold SeqAt.shaped
  rw [show PyData.canLay0 (.tuple [.list (a.map PyData.int), .list (b.map PyData.int)]) = (PyData.canLayAll0 (a.map PyData.int) && (PyData.canLayAll0 (b.map PyData.int) && true)) from rfl, lay_int, lay_int, Bool.true_and, Bool.true_and, Bool.true_and]
  have h1 := depth_int a
  have h2 := depth_int b
  exact decide_eq_true (by show max (PyData.depthAll (a.map PyData.int) + 1) (max (PyData.depthAll (b.map PyData.int) + 1) 0) + 1 ≤ 64; omega)
def sLawIs : FSpec := fun ds R _ => ∃ (m : Str) (n : Nat) (r : List Int), ds = [.str m, .lst (r.map D.int), .int n] ∧ m ∈ manners ∧ 1 ≤ n ∧ n ≤ 5 ∧ RowIn n n r ∧ R (.bl (lawIs m n r))
abbrev s_law_is : Stmt := topS 45
theorem sc_law_is : FnScope ["manner", "row", "into", "rises_v", "thing"] ["manner", "row", "into"] (defScope s_law_is) := ⟨rfl, rfl, rfl, by decide +kernel, rfl, by decide +kernel, by decide +kernel⟩
theorem ok_law_is (F : Fun G.K "_law_is" "_law_is" s_law_is f fd) (bn : Bn mg)  : FnD G P w mg base 1 f fd ["manner", "row", "into"] 0 sLawIs := by
  refine FnD.more (fnd_of F sc_law_is (fun cdv A outer s H E hr hg => have xk := xk_def (E := E) hr hg; (ds_cons (ds_set (i := 3) sc_law_is.nd rfl (Or.inl rfl) (de_bi (c_sortA xk.K) bn.sorted (da_cons (dv 1) da_nil))) (ds_cons (ds_if (dt_w (dw_or (dt_w (dw_and (dt_cmp (o_inT xk.K xk.u65) (dv 0) (de_tup (da_cons de_str (da_cons de_str da_nil))) (by rfl)) (dw_and1 (dt_cmp (o_ne xk.K xk.u64) (de_ix xk.K (dv 1) de_int (fun _ _ => rfl)) de_int (by rfl))))) (dw_or1 (dt_w (dw_and (dt_cmp (o_eq xk.K xk.u64) (dv 0) de_str (by rfl)) (dw_and1 (dt_cmp (o_ne xk.K xk.u64) (de_ty (c_list xk.K) bn.list (da_cons (de_sl xk.K (dv 1) do_none (do_some de_int)) da_nil)) (de_lst (da_cons de_int (da_cons de_int da_nil))) (by rfl)))))))) (ds_one (ds_ret de_bl)) ds_nil) (ds_cons (ds_if (dt_w (dw_and (dt_cmp (o_eq xk.K xk.u64) (dv 0) de_str (by rfl)) (dw_and1 (dt_w (dw_or (dt_cmp (o_ne xk.K xk.u64) (de_ix xk.K (dv 1) de_int (fun _ _ => rfl)) de_int (by rfl)) (dw_or1 (dt_cmp (o_ne xk.K xk.u64) (de_ix xk.K (dv 1) (de_op (o_sub) (de_bi (c_len xk.K) bn.len (da_cons (dv 1) da_nil)) de_int) (fun _ _ => rfl)) (de_op (o_sub) (dv 2) de_int) (by rfl)))))))) (ds_one (ds_ret de_bl)) ds_nil) (ds_cons (ds_if (dt_w (dw_and (dt_cmp (o_inT xk.K xk.u65) (dv 0) (de_tup (da_cons de_str (da_cons de_str da_nil))) (by rfl)) (dw_and1 (dt_cmp (o_ne xk.K xk.u64) (de_comp (own := [("thing", 4)]) xk sc_law_is.nd (di_seq xk.K (dv 1)) (blkOk_by (N := ["manner", "row", "into", "rises_v", "thing"]) (sc := defScope s_law_is) (by decide +kernel)) (fun s H C cl fp => (dg_name (i := 4) sc_law_is.nd rfl (Or.inl rfl))) (fun s H C cl fp => (dts_one (dt_cmp (o_gt) (de_count (de_ty (c_list (Xk.blk xk _ _ _ _ _).K) bn.list (da_cons (dv 1) da_nil)) (dv 4)) de_int (by rfl)))) (fun s H C cl fp => (dv 4)) (by simp)) (de_lst da_nil) (by rfl))))) (ds_one (ds_ret de_bl)) ds_nil) (ds_cons (ds_if (dt_cmp (o_eq xk.K xk.u64) (dv 0) de_str (by rfl)) (ds_one (ds_ret (de_cmp (o_inT xk.K xk.u65) (de_ty (c_list xk.K) bn.list (da_cons (dv 1) da_nil)) (de_tup (da_cons (dv 3) (da_cons (de_revL (dv 3)) da_nil))) (by rfl)))) ds_nil) (ds_one (ds_ret (de_or (de_cmp (o_inT xk.K xk.u65) (dv 0) (de_tup (da_cons de_str (da_cons de_str (da_cons de_str (da_cons de_str da_nil))))) (by rfl)) (de_one (de_cmp (o_eq xk.K xk.u64) (de_ty (c_list xk.K) bn.list (da_cons (dv 1) da_nil)) (dv 3) (by rfl)))))))))))) ?_) (by decide)
  rintro ds R ex hl ⟨m, n, r, rfl, hm, n1, n5, hr2, hr⟩
  have hok := man_ok m hm
  obtain ⟨hrl, hrv⟩ := id hr2
  have a0 := at0 hr2 n1
  refine seq_to (fun env' => env' = [.val (.str m), .val (.lst (r.map D.int)), .val (.int n), .val (.lst ((sortI r).map D.int)), .emp]) (fun de' hnx hrt => ?_) (fun env' e => ?_)
  · refine ⟨_, rfl, r, .inl rfl, fun ns hp hs => ?_⟩
    rw [sortI_uniq hp hs]
    exact hnx _ rfl
  subst e
  unfold lawIs at hr
  refine sif_of (tst_or (x := [("one" : Str), "least"].any (· == m) && !(atR r 0 == 0)) (y := m == ("two" : Str) && !(r.take 2 == [0, 1])) (tst_and (fun K hK => ?_) fun _ K hK => ?_) fun _ => tst_and (fun K hK => ?_) fun _ K hK => ?_) (fun hb => ?_) fun hb => ?_
  · exact ⟨.str m, rfl, small (by simp), in_strs (ts := ["one", "least"]) hok (by decide +kernel) ⟨_, rfl, hK⟩⟩
  · exact ⟨_, rfl, _, a0, neC (ne_int ⟨_, rfl, hK⟩)⟩
  · exact ⟨.str m, rfl, eqC (eq_str hok (by decide +kernel) ⟨_, rfl, hK⟩)⟩
  · refine ⟨_, rfl, 2, rfl, ?_⟩
    dsimp only [gSl, aNil, g1, gList]
    rw [show (some (2 : Int)) = some ((2 : Nat) : Int) from rfl, cut_toN, ← List.map_take]
    exact ⟨small (by simp), ne_lst (is := r.take 2) (js := [0, 1]) ⟨_, rfl, hK⟩⟩
  · rw [if_pos hb] at hr; exact hr
  rw [if_neg (by rw [hb]; decide)] at hr
  refine nil_seq ?_
  dsimp only
  have al : atI (r.map D.int) ((r.length : Int) - 1) = some (.int (atR r ((r.length : Int) - 1))) := (atR_in (by omega) (by omega) hrv).1
  refine sif_of (tst_and (x := m == ("ends" : Str)) (y := !(atR r 0 == 0) || !(atR r ((r.length : Int) - 1) == (n : Int) - 1)) (fun K hK => ?_) fun _ => tst_or (fun K hK => ?_) fun _ K hK => ?_) (fun hb => ?_) fun hb => ?_
  · exact ⟨.str m, rfl, eqC (eq_str hok (by decide +kernel) ⟨_, rfl, hK⟩)⟩
  · exact ⟨_, rfl, _, a0, neC (ne_int ⟨_, rfl, hK⟩)⟩
  · refine ⟨_, rfl, _, rfl, ?_⟩
    dsimp only [aNil, g1, gLen]
    rw [List.length_map]
    exact ⟨trivial, _, al, _, rfl, trivial, ne_int ⟨_, rfl, hK⟩⟩
  · rw [if_pos hb] at hr; exact hr
  rw [if_neg (by rw [hb]; decide)] at hr
  refine nil_seq ?_
  dsimp only
  refine sif_of (tst_and (x := [("alike" : Str), "order"].any (· == m)) (y := !((r.filter fun t => decide ((1 : Int) < (r.count t : Nat))) == [])) (fun K hK => ?_) fun _ K hK => ?_) (fun hb => ?_) fun hb => ?_
  · exact ⟨.str m, rfl, small (by simp), in_strs (ts := ["alike", "order"]) hok (by decide +kernel) ⟨_, rfl, hK⟩⟩
  · refine ⟨_, rfl, ?_⟩
    refine compL_ofF D.int D.int (fun t => decide ((1 : Int) < (r.count t : Nat))) (fun t ht K2 K3 h1 h2 => ?_) ?_
    · exact ⟨_, rfl, r, rfl, _, rfl, t, rfl, trivial, _, rfl, ite_of (fun hb => ⟨_, rfl, h1 hb⟩) (fun hb => h2 hb)⟩
    · rw [List.nil_append]
      exact ⟨small (by simp), ne_lst (js := []) ⟨_, rfl, hK⟩⟩
  · rw [if_pos hb] at hr; exact hr
  rw [if_neg (by rw [hb]; decide)] at hr
  refine nil_seq ?_
  dsimp only
  refine sif_of (x := m == ("either" : Str)) (fun K hK => ⟨.str m, rfl, eqC (eq_str hok (by decide +kernel) ⟨_, rfl, hK⟩)⟩) (fun hb => ?_) fun hb => ?_
  · rw [if_pos hb] at hr
    refine ⟨_, rfl, _, rfl, _, rfl, _, rfl, small (by simp), ?_⟩
    rw [← List.map_reverse]
    refine ⟨.list (r.map PyData.int), [.list ((sortI r).map PyData.int), .list ((sortI r).reverse.map PyData.int)], _, rfl, pdL_none, ?_, shaped_lst r, shaped_two _ _, ?_⟩
    · simp only [pdL]
      rw [pdL_none, pdL_none]
    · rw [show ([PyData.list ((sortI r).map PyData.int), .list ((sortI r).reverse.map PyData.int)].any fun z => PyData.eqv z (.list (r.map PyData.int))) = (PyData.eqvAll ((sortI r).map PyData.int) (r.map PyData.int) || (PyData.eqvAll ((sortI r).reverse.map PyData.int) (r.map PyData.int) || false)) from rfl, eqvAll_int, eqvAll_int]
      exact hr
  rw [if_neg (by rw [hb]; decide)] at hr
  refine nil_seq ?_
  dsimp only
  refine ⟨.str m, rfl, small (by simp), in_strs (ts := ["blind", "one", "two", "alike"]) hok (by decide +kernel) ⟨_, rfl, ite_of (fun hb2 => ?_) (fun hb2 => ?_)⟩⟩
  · rw [hb2, Bool.true_or] at hr; exact hr
  · rw [hb2, Bool.false_or] at hr
    exact ⟨_, rfl, _, rfl, eq_lst hr⟩
end
end Pg
set_option Elab.async false
set_option linter.all false
set_option maxRecDepth 100000
set_option maxHeartbeats 4100000
namespace Pg
open PySem L2 RZ Kn
section
variable {G : Gd} {P : Program} {w : World} {mg : Str → Option Value} {base : Heap} {f : Addr} {fd : FuncData}
def exW (n : Nat) : List (List Int) := (List.range (n - 1)).map fun (k : Nat) => (idx n).take k ++ [(k : Int) + 1, (k : Int)] ++ (idx n).drop (k + 2)
def lsW (n : Nat) : List (List Int) := (List.range (n - 1)).map fun (k : Nat) => (idx n).take (k + 1) ++ [(k : Int)] ++ (idx n).drop (k + 2)
def mrW (n : Nat) : List (List Int) := (List.range (n - 1)).map fun (k : Nat) => (idx n).take k ++ [(k : Int) + 1] ++ (idx n).drop (k + 1)
def few0 (m : Str) (n : Nat) : List (List Int) := if ([("blind" : Str), "one", "two"].any (· == m)) = true then exW n ++ lsW n else lsW n ++ mrW n
def few1 (m : Str) (n : Nat) : List (List Int) := if ([("alike" : Str), "order"].any (· == m)) = true then (if (m == ("alike" : Str)) = true then exW n else []) else few0 m n
def few2 (m : Str) (n : Nat) : List (List Int) := if (m == ("either" : Str)) = true then few1 m n ++ [(idx n).reverse] else few1 m n
def few3 (m : Str) (n : Nat) : List (List Int) := (few2 m n).filter (lawIs m n)
def few4 (m : Str) (n : Nat) : List (List Int) := if (m == ("two" : Str) && decide ((2 : Int) < n)) = true then few3 m n ++ [[0, 1, 0] ++ (idx n).drop 3] else few3 m n
def few5 (m : Str) (n : Nat) : List (List Int) := (few4 m n).filter fun r => !(r == idx n)
theorem fiveN {n : Nat} (h1 : 1 ≤ n) (h5 : n ≤ 5) : n ∈ [1, 2, 3, 4, 5] := by
  have : n = 1 ∨ n = 2 ∨ n = 3 ∨ n = 4 ∨ n = 5 := by omega
  rcases this with rfl | rfl | rfl | rfl | rfl <;> simp
theorem few_facts {m : Str} {n : Nat} (hm : m ∈ manners) (h1 : 1 ≤ n) (h5 : n ≤ 5) : (∀ r ∈ few2 m n, RowIn n n r) ∧ ((few5 m n).length ≤ 60 ∧ ∀ r ∈ few5 m n, r ≠ []) ∧ ((m = ("two" : Str) → n ≠ 1) → (fewS m n).Nodup ∧ ∀ r, r ∈ fewS m n ↔ r ∈ few5 m n) := by
  have h : ([1, 2, 3, 4, 5].all fun n => manners.all fun m => ((few2 m n).all fun r => r.length == n && r.all fun i => decide (0 ≤ i) && decide (i < (n : Int))) && ((decide ((few5 m n).length ≤ 60) && (few5 m n).all fun r => !r.isEmpty) && (m == ("two" : Str) && n == 1 || (decide (fewS m n).Nodup && ((fewS m n).all (fun r => (few5 m n).contains r) && (few5 m n).all fun r => (fewS m n).contains r))))) = true := by decide +kernel
  have h2 := List.all_eq_true.mp (List.all_eq_true.mp h n (fiveN h1 h5)) m hm
  rw [Bool.and_eq_true, Bool.and_eq_true, Bool.and_eq_true] at h2
  obtain ⟨a, ⟨b1, b2⟩, c⟩ := h2
  refine ⟨fun r hr => ?_, ⟨of_decide_eq_true b1, fun r hr z => ?_⟩, fun no => ?_⟩
  · have q := List.all_eq_true.mp a r hr
    rw [Bool.and_eq_true] at q
    refine ⟨eq_of_beq q.1, fun i hi => ?_⟩
    have h3 := List.all_eq_true.mp q.2 i hi
    rw [Bool.and_eq_true, decide_eq_true_iff, decide_eq_true_iff] at h3
    exact h3
  · have q := List.all_eq_true.mp b2 r hr
    rw [z] at q
    cases q
  · rw [Bool.or_eq_true, Bool.and_eq_true, Bool.and_eq_true] at c
    rcases c with ⟨c1, c2⟩ | ⟨c1, c2⟩
    · exact absurd (eq_of_beq c2) (no (eq_of_beq c1))
    · rw [Bool.and_eq_true] at c2
      exact ⟨of_decide_eq_true c1, fun r => ⟨fun hr => List.contains_iff_mem.mp (List.all_eq_true.mp c2.1 r hr), fun hr => List.contains_iff_mem.mp (List.all_eq_true.mp c2.2 r hr)⟩⟩
theorem few_out {m : Str} {n : Nat} (hm : m ∈ manners) (h1 : 1 ≤ n) (h5 : n ≤ 5) (h2 : m = ("two" : Str) → n ≠ 1) {out : List (List Int)} (nd : out.Nodup) (hs : out.Pairwise fun x y => lexL y x = false) (hi : ∀ r, r ∈ out ↔ r ∈ few5 m n) : out = fewS m n := by
  obtain ⟨a, b⟩ := (few_facts hm h1 h5).2.2 h2
  exact List.Perm.eq_of_pairwise (fun _ _ _ _ q1 q2 => lex_anti q2 q1) hs (fews_sorted hm h1 h5) ((List.perm_ext_iff_of_nodup nd a).mpr fun r => (hi r).trans (b r).symm)
theorem cut_le {xs : List D} {lo hi : Option Int} : (cutD xs lo hi).length ≤ xs.length := by
  unfold cutD
  rw [List.length_take, List.length_drop]; omega
theorem rng_snoc (f : Nat → List Int) (k : Nat) : ((List.range (k + 1)).map f).map (fun r => D.lst (r.map D.int)) = ((List.range k).map f).map (fun r => D.lst (r.map D.int)) ++ [D.lst ((f k).map D.int)] := by
  rw [List.range_succ, List.map_append, List.map_append]
  rfl
theorem ex_D (n k : Nat) : cutD ((idx n).map D.int) none (some (k : Int)) ++ [.int ((k : Int) + 1), .int k] ++ cutD ((idx n).map D.int) (some ((k : Int) + 2)) none = ((idx n).take k ++ [(k : Int) + 1, (k : Int)] ++ (idx n).drop (k + 2)).map D.int := by
  rw [cut_toN, show ((k : Int) + 2) = ((k + 2 : Nat) : Int) by omega, cut_fromN, List.map_append, List.map_append, List.map_take, List.map_drop]
  rfl
theorem ls_D (n k : Nat) : cutD ((idx n).map D.int) none (some ((k : Int) + 1)) ++ [.int k] ++ cutD ((idx n).map D.int) (some ((k : Int) + 2)) none = ((idx n).take (k + 1) ++ [(k : Int)] ++ (idx n).drop (k + 2)).map D.int := by
  rw [show ((k : Int) + 2) = ((k + 2 : Nat) : Int) by omega, show ((k : Int) + 1) = ((k + 1 : Nat) : Int) by omega, cut_toN, cut_fromN, List.map_append, List.map_append, List.map_take, List.map_drop]
  rfl
theorem mr_D (n k : Nat) : cutD ((idx n).map D.int) none (some (k : Int)) ++ [.int ((k : Int) + 1)] ++ cutD ((idx n).map D.int) (some ((k : Int) + 1)) none = ((idx n).take k ++ [(k : Int) + 1] ++ (idx n).drop (k + 1)).map D.int := by
  rw [cut_toN, show cutD ((idx n).map D.int) (some ((k : Int) + 1)) none = ((idx n).map D.int).drop (k + 1) by rw [show ((k : Int) + 1) = ((k + 1 : Nat) : Int) by omega, cut_fromN], List.map_append, List.map_append, List.map_take, List.map_drop]
  rfl
def lrow (r : List Int) : D := .lst (r.map D.int)
def sLawFew : FSpec := fun ds R _ => ∃ (m : Str) (n : Nat), ds = [.str m, .int n] ∧ m ∈ manners ∧ 1 ≤ n ∧ n ≤ 5 ∧ (m = ("two" : Str) → n ≠ 1) ∧ R (.lst ((fewS m n).map rowD))
abbrev s_law_few : Stmt := topS 46
theorem sc_law_few : FnScope ["manner", "things", "idle", "exchanged", "less", "more", "low", "found", "row"] ["manner", "things"] (defScope s_law_few) := ⟨rfl, rfl, rfl, by decide +kernel, rfl, by decide +kernel, by decide +kernel⟩
theorem ok_law_few (F : Fun G.K "_law_few" "_law_few" s_law_few f fd) (bn : Bn mg) (F__law_is : Fk G P w mg base 1 "_law_is" ["manner", "row", "into"] 0 sLawIs) : FnD G P w mg base 2 f fd ["manner", "things"] 0 sLawFew := by
  refine FnD.more (fnd_of F sc_law_few (fun cdv A outer s H E hr hg => have xk := xk_def (E := E) hr hg; (ds_cons (ds_cellV000 (i := 2) (j := 3) (l := 4) (m := 5) xk.calm (pg_name sc_law_few.nd rfl (Or.inr rfl)) (pg_name sc_law_few.nd rfl (Or.inl rfl)) (pg_name sc_law_few.nd rfl (Or.inl rfl)) (pg_name sc_law_few.nd rfl (Or.inl rfl)) (de_listRange xk.calm bn.list bn.range (dv 1))) (ds_cons (ds_for xk po_def (di_range1 bn.range (da_cons (de_op (o_sub) (dv 1) de_int) da_nil)) (dg_name (i := 6) sc_law_few.nd rfl (Or.inl rfl)) (ds_cons (ds_app (i := 3) rfl (de_op (o_add xk.K) (de_op (o_add xk.K) (de_sl xk.K (dv 2) do_none (do_some (dv 6))) (de_lst (da_cons (de_op (o_add xk.K) (dv 6) de_int) (da_cons (dv 6) da_nil)))) (de_sl xk.K (dv 2) (do_some (de_op (o_add xk.K) (dv 6) de_int)) do_none))) (ds_cons (ds_app (i := 4) rfl (de_op (o_add xk.K) (de_op (o_add xk.K) (de_sl xk.K (dv 2) do_none (do_some (de_op (o_add xk.K) (dv 6) de_int))) (de_lst (da_cons (dv 6) da_nil))) (de_sl xk.K (dv 2) (do_some (de_op (o_add xk.K) (dv 6) de_int)) do_none))) (ds_one (ds_app (i := 5) rfl (de_op (o_add xk.K) (de_op (o_add xk.K) (de_sl xk.K (dv 2) do_none (do_some (dv 6))) (de_lst (da_cons (de_op (o_add xk.K) (dv 6) de_int) da_nil))) (de_sl xk.K (dv 2) (do_some (de_op (o_add xk.K) (dv 6) de_int)) do_none))))))) (ds_freeze (i := 3) (ds_freeze (i := 4) (ds_freeze (i := 5) (ds_cons (ds_set (i := 7) sc_law_few.nd rfl (Or.inl rfl) (de_ife (dt_cmp (o_inT xk.K xk.u65) (dv 0) (de_tup (da_cons de_str (da_cons de_str (da_cons de_str da_nil)))) (by rfl)) (de_op (o_add xk.K) (dv 3) (dv 4)) (de_op (o_add xk.K) (dv 4) (dv 5)))) (ds_cons (ds_if (dt_cmp (o_inT xk.K xk.u65) (dv 0) (de_tup (da_cons de_str (da_cons de_str da_nil))) (by rfl)) (ds_one (ds_set (i := 7) sc_law_few.nd rfl (Or.inl rfl) (de_ife (dt_cmp (o_eq xk.K xk.u64) (dv 0) de_str (by rfl)) (dv 3) (de_lst da_nil)))) ds_nil) (ds_cons (ds_if (dt_cmp (o_eq xk.K xk.u64) (dv 0) de_str (by rfl)) (ds_one (ds_set (i := 7) sc_law_few.nd rfl (Or.inl rfl) (de_op (o_add xk.K) (dv 7) (de_lst (da_cons (de_revL (dv 2)) da_nil))))) ds_nil) (ds_cons (ds_setComp (i := 7) (own := [("row", 8)]) xk sc_law_few.nd rfl rfl (sw_true rfl rfl rfl (by decide +kernel)) (di_seq xk.K (dv 7)) (blkOk_by (N := ["manner", "things", "idle", "exchanged", "less", "more", "low", "found", "row"]) (sc := defScope s_law_few) (by decide +kernel)) (fun s H C cl fp => (dg_name (i := 8) sc_law_few.nd rfl (Or.inl rfl))) (fun s H C cl fp => (dts_one (dt_val (de_call F__law_is (Xk.blk xk _ _ _ _ _) (da_cons (dv 0) (da_cons (dv 8) (da_cons (dv 1) da_nil))))))) (fun s H C cl fp => (dv 8)) (by simp)) (ds_cons (ds_if (dt_w (dw_and (dt_cmp (o_eq xk.K xk.u64) (dv 0) de_str (by rfl)) (dw_and1 (dt_cmp (o_gt) (dv 1) de_int (by rfl))))) (ds_one (ds_set (i := 7) sc_law_few.nd rfl (Or.inl rfl) (de_op (o_add xk.K) (dv 7) (de_lst (da_cons (de_op (o_add xk.K) (de_lst (da_cons de_int (da_cons de_int (da_cons de_int da_nil)))) (de_sl xk.K (dv 2) (do_some de_int) do_none)) da_nil))))) ds_nil) (ds_one (ds_ret (de_sortSetR xk.K xk.calm (xk.u (n := 64)) bn.sorted bn.set (de_comp (own := [("row", 8)]) xk sc_law_few.nd (di_seq xk.K (dv 7)) (blkOk_by (N := ["manner", "things", "idle", "exchanged", "less", "more", "low", "found", "row"]) (sc := defScope s_law_few) (by decide +kernel)) (fun s H C cl fp => (dg_name (i := 8) sc_law_few.nd rfl (Or.inl rfl))) (fun s H C cl fp => (dts_one (dt_cmp (o_ne (Xk.blk xk _ _ _ _ _).K (Xk.blk xk _ _ _ _ _).u64) (dv 8) (dv 2) (by rfl)))) (fun s H C cl fp => (de_ty (c_tuple (Xk.blk xk _ _ _ _ _).K) bn.tuple (da_cons (dv 8) da_nil))) (by simp)))))))))))))))) ?_) (by decide)
  rintro ds R ex hl ⟨m, n, rfl, hm, n1, n5, h2, hr⟩
  have hok := man_ok m hm
  obtain ⟨hrow, ⟨hf5, hfn⟩, _⟩ := few_facts hm n1 n5
  refine seq_to (fun env' => ∃ a b c, env' = [.val (.str m), .val (.int n), .val (.lst ((idx n).map D.int)), .own a [], .own b [], .own c [], .emp, .emp, .emp]) (fun de' hnx hrt => ?_) (fun env' e => ?_)
  · refine ⟨_, rfl, n, rfl, by omega, by omega, ?_⟩
    rw [Int.toNat_natCast, range_idx]
    exact fun a b c => hnx _ ⟨a, b, c, rfl⟩
  obtain ⟨a, b, c, rfl⟩ := e
  refine seq_to (fun env' => ∃ a b c s6, env' = [.val (.str m), .val (.int n), .val (.lst ((idx n).map D.int)), .own a ((exW n).map lrow), .own b ((lsW n).map lrow), .own c ((mrW n).map lrow), s6, .emp, .emp]) (fun de' hnx hrt => ?_) (fun env' e => ?_)
  · have li : ((idx n).map D.int).length = n := by rw [List.length_map, idx_len]
    have cl : ∀ lo hi, (cutD ((idx n).map D.int) lo hi).length ≤ 5 := fun lo hi => by have := cut_le (xs := (idx n).map D.int) (lo := lo) (hi := hi); omega
    refine ⟨_, rfl, trivial, (n : Int) - 1, rfl, by omega, by omega, ?_⟩
    rw [show ((n : Int) - 1).toNat = n - 1 by omega]
    refine sForL_rng (fun k env => ∃ a b c s6, env = [.val (.str m), .val (.int n), .val (.lst ((idx n).map D.int)), .own a (((List.range k).map fun (k : Nat) => (idx n).take k ++ [(k : Int) + 1, (k : Int)] ++ (idx n).drop (k + 2)).map fun r => D.lst (r.map D.int)), .own b (((List.range k).map fun (k : Nat) => (idx n).take (k + 1) ++ [(k : Int)] ++ (idx n).drop (k + 2)).map fun r => D.lst (r.map D.int)), .own c (((List.range k).map fun (k : Nat) => (idx n).take k ++ [(k : Int) + 1] ++ (idx n).drop (k + 1)).map fun r => D.lst (r.map D.int)), s6, .emp, .emp]) ⟨a, b, c, _, rfl⟩ (fun k env hk hI nx hn2 => ?_) (fun env hI => hnx _ hI)
    obtain ⟨a, b, c, s6, rfl⟩ := hI
    rw [rng_snoc, rng_snoc, rng_snoc] at hn2
    refine seq_to (fun env' => env' = [.val (.str m), .val (.int n), .val (.lst ((idx n).map D.int)), .own a (((List.range k).map fun (k : Nat) => (idx n).take k ++ [(k : Int) + 1, (k : Int)] ++ (idx n).drop (k + 2)).map (fun r => D.lst (r.map D.int)) ++ [.lst (((idx n).take k ++ [(k : Int) + 1, (k : Int)] ++ (idx n).drop (k + 2)).map D.int)]), .own b (((List.range k).map fun (k : Nat) => (idx n).take (k + 1) ++ [(k : Int)] ++ (idx n).drop (k + 2)).map fun r => D.lst (r.map D.int)), .own c (((List.range k).map fun (k : Nat) => (idx n).take k ++ [(k : Int) + 1] ++ (idx n).drop (k + 1)).map fun r => D.lst (r.map D.int)), .val (.int k), .emp, .emp]) (fun de2 hnx2 hrt2 => ?_) (fun env' e => ?_)
    · refine ⟨a, _, rfl, _, rfl, _, rfl, k, rfl, _, rfl, _, rfl, small (by simp), small (by have := cl none (some (k : Int)); simp; omega), _, rfl, _, rfl, _, rfl, ?_⟩
      refine ⟨small (by have h1 := cl none (some (k : Int)); have h2 := cl (some ((k : Int) + 2)) none; rw [List.length_append]; simp only [List.length_cons, List.length_nil]; omega), small (by simp; omega), ?_⟩
      rw [ex_D]
      exact hnx2 _ rfl
    subst e
    refine seq_to (fun env' => env' = [.val (.str m), .val (.int n), .val (.lst ((idx n).map D.int)), .own a (((List.range k).map fun (k : Nat) => (idx n).take k ++ [(k : Int) + 1, (k : Int)] ++ (idx n).drop (k + 2)).map (fun r => D.lst (r.map D.int)) ++ [.lst (((idx n).take k ++ [(k : Int) + 1, (k : Int)] ++ (idx n).drop (k + 2)).map D.int)]), .own b (((List.range k).map fun (k : Nat) => (idx n).take (k + 1) ++ [(k : Int)] ++ (idx n).drop (k + 2)).map (fun r => D.lst (r.map D.int)) ++ [.lst (((idx n).take (k + 1) ++ [(k : Int)] ++ (idx n).drop (k + 2)).map D.int)]), .own c (((List.range k).map fun (k : Nat) => (idx n).take k ++ [(k : Int) + 1] ++ (idx n).drop (k + 1)).map fun r => D.lst (r.map D.int)), .val (.int k), .emp, .emp]) (fun de2 hnx2 hrt2 => ?_) (fun env' e => ?_)
    · refine ⟨b, _, rfl, _, rfl, _, rfl, (k : Int) + 1, rfl, _, rfl, small (by simp), small (by have := cl none (some ((k : Int) + 1)); simp; omega), _, rfl, _, rfl, (k : Int) + 2, rfl, ?_⟩
      refine ⟨small (by have h1 := cl none (some ((k : Int) + 1)); have h2 := cl (some ((k : Int) + 2)) none; rw [List.length_append]; simp only [List.length_cons, List.length_nil]; omega), small (by simp; omega), ?_⟩
      rw [ls_D]
      exact hnx2 _ rfl
    subst e
    refine ⟨c, _, rfl, _, rfl, _, rfl, k, rfl, _, rfl, small (by simp), small (by have := cl none (some (k : Int)); simp; omega), _, rfl, _, rfl, (k : Int) + 1, rfl, ?_⟩
    refine ⟨small (by have h1 := cl none (some (k : Int)); have h2 := cl (some ((k : Int) + 1)) none; rw [List.length_append]; simp only [List.length_cons, List.length_nil]; omega), small (by simp; omega), ?_⟩
    rw [mr_D]
    exact hn2 _ ⟨a, b, c, _, rfl⟩
  obtain ⟨a, b, c, s6, rfl⟩ := e
  refine ⟨a, _, rfl, b, _, rfl, c, _, rfl, ?_⟩
  dsimp only [List.set]
  have lx : ((exW n).map lrow).length ≤ 5 := by unfold exW; simp; omega
  have ll : ((lsW n).map lrow).length ≤ 5 := by unfold lsW; simp; omega
  have lm : ((mrW n).map lrow).length ≤ 5 := by unfold mrW; simp; omega
  refine seq_to (fun env' => env' = [.val (.str m), .val (.int n), .val (.lst ((idx n).map D.int)), .val (.lst ((exW n).map lrow)), .val (.lst ((lsW n).map lrow)), .val (.lst ((mrW n).map lrow)), s6, .val (.lst ((few0 m n).map lrow)), .emp]) (fun de' hnx hrt => ?_) (fun env' e => ?_)
  · refine ⟨.str m, rfl, small (by simp), in_strs (ts := ["blind", "one", "two"]) hok (by decide +kernel) ⟨_, rfl, ite_of (fun hb => ?_) (fun hb => ?_)⟩⟩
    · refine ⟨_, rfl, _, rfl, small (by omega), hnx _ ?_⟩
      unfold few0
      rw [if_pos hb, List.map_append]
      rfl
    · refine ⟨_, rfl, _, rfl, small (by omega), hnx _ ?_⟩
      unfold few0
      rw [if_neg (by rw [hb]; decide), List.map_append]
      rfl
  subst e
  refine seq_to (fun env' => env' = [.val (.str m), .val (.int n), .val (.lst ((idx n).map D.int)), .val (.lst ((exW n).map lrow)), .val (.lst ((lsW n).map lrow)), .val (.lst ((mrW n).map lrow)), s6, .val (.lst ((few1 m n).map lrow)), .emp]) (fun de' hnx hrt => ?_) (fun env' e => ?_)
  · refine sif_of (x := [("alike" : Str), "order"].any (· == m)) (fun K hK => ⟨.str m, rfl, small (by simp), in_strs (ts := ["alike", "order"]) hok (by decide +kernel) ⟨_, rfl, hK⟩⟩) (fun hb => ?_) fun hb => ?_
    · refine ⟨.str m, rfl, eqC (eq_str hok (by decide +kernel) ⟨_, rfl, ite_of (fun hb2 => ?_) (fun hb2 => ?_)⟩)⟩
      · refine ⟨_, rfl, hnx _ ?_⟩
        unfold few1
        rw [if_pos hb, if_pos hb2]
        rfl
      · refine ⟨small (by simp), hnx _ ?_⟩
        unfold few1
        rw [if_pos hb, if_neg (by rw [hb2]; decide)]
        rfl
    · refine nil_seq (hnx _ ?_)
      unfold few1
      rw [if_neg (by rw [hb]; decide)]
  subst e
  have l1 : ((few1 m n).map lrow).length ≤ 10 := by
    unfold few1 few0
    repeat' split
    all_goals (try simp only [List.map_append, List.length_append, List.map_nil, List.length_nil])
    all_goals omega
  refine seq_to (fun env' => env' = [.val (.str m), .val (.int n), .val (.lst ((idx n).map D.int)), .val (.lst ((exW n).map lrow)), .val (.lst ((lsW n).map lrow)), .val (.lst ((mrW n).map lrow)), s6, .val (.lst ((few2 m n).map lrow)), .emp]) (fun de' hnx hrt => ?_) (fun env' e => ?_)
  · refine sif_of (x := m == ("either" : Str)) (fun K hK => ⟨.str m, rfl, eqC (eq_str hok (by decide +kernel) ⟨_, rfl, hK⟩)⟩) (fun hb => ?_) fun hb => ?_
    · refine ⟨_, rfl, _, rfl, _, rfl, small (by simp), small (by simp only [List.length_cons, List.length_nil]; omega), hnx _ ?_⟩
      unfold few2
      rw [if_pos hb, List.map_append, ← List.map_reverse]
      rfl
    · refine nil_seq (hnx _ ?_)
      unfold few2
      rw [if_neg (by rw [hb]; decide)]
  subst e
  refine seq_to (fun env' => env' = [.val (.str m), .val (.int n), .val (.lst ((idx n).map D.int)), .val (.lst ((exW n).map lrow)), .val (.lst ((lsW n).map lrow)), .val (.lst ((mrW n).map lrow)), s6, .val (.lst ((few3 m n).map lrow)), .emp]) (fun de' hnx hrt => ?_) (fun env' e => ?_)
  · refine ⟨_, rfl, ?_⟩
    refine compL_ofF lrow lrow (lawIs m n) (fun r hr3 K K' h1 h2 => ?_) ?_
    · exact ⟨_, rfl, _, rfl, _, rfl, rfl, m, n, r, rfl, hm, n1, n5, hrow r hr3, _, rfl, ite_of (fun hb => ⟨_, rfl, h1 hb⟩) (fun hb => h2 hb)⟩
    · rw [List.nil_append]
      exact hnx _ rfl
  subst e
  have l3 : ((few3 m n).map lrow).length ≤ 11 := by
    have a1 : (few2 m n).length ≤ 11 := by
      rw [List.length_map] at l1
      unfold few2
      split
      · rw [List.length_append]; simp only [List.length_cons, List.length_nil]; omega
      · omega
    rw [List.length_map]
    exact Nat.le_trans (List.length_filter_le _ _) a1
  refine seq_to (fun env' => env' = [.val (.str m), .val (.int n), .val (.lst ((idx n).map D.int)), .val (.lst ((exW n).map lrow)), .val (.lst ((lsW n).map lrow)), .val (.lst ((mrW n).map lrow)), s6, .val (.lst ((few4 m n).map lrow)), .emp]) (fun de' hnx hrt => ?_) (fun env' e => ?_)
  · refine sif_of (tst_and (x := m == ("two" : Str)) (y := decide ((2 : Int) < n)) (fun K hK => ⟨.str m, rfl, eqC (eq_str hok (by decide +kernel) ⟨_, rfl, hK⟩)⟩) fun _ K hK => ⟨_, rfl, trivial, _, rfl, hK⟩) (fun hb => ?_) fun hb => ?_
    · refine ⟨_, rfl, small (by simp), _, rfl, 3, rfl, ?_⟩
      refine ⟨small (by have := cut_le (xs := (idx n).map D.int) (lo := some 3) (hi := none); rw [List.length_map, idx_len] at this; simp only [List.length_cons, List.length_nil]; omega), small (by simp), small (by simp only [List.length_cons, List.length_nil]; omega), hnx _ ?_⟩
      have e : D.lst ([.int 0, .int 1, .int 0] ++ cutD ((idx n).map D.int) (some 3) none) = lrow ([0, 1, 0] ++ (idx n).drop 3) := by
        rw [show (some (3 : Int)) = some ((3 : Nat) : Int) from rfl, cut_fromN]
        unfold lrow
        rw [List.map_append, List.map_drop]
        rfl
      unfold few4
      rw [if_pos hb, List.map_append, e]
      rfl
    · refine nil_seq (hnx _ ?_)
      unfold few4
      rw [if_neg (by rw [hb]; decide)]
  subst e
  refine ⟨_, rfl, ?_⟩
  refine compL_ofF lrow rowD (fun r => !(r == idx n)) (fun r hr3 K K' h1 h2 => ?_) ?_
  · exact ⟨_, rfl, _, rfl, ne_lst ⟨_, rfl, ite_of (fun hb => ⟨_, rfl, h1 hb⟩) (fun hb => h2 hb)⟩⟩
  · rw [List.nil_append]
    exact ⟨few5 m n, rfl, ⟨few5 m n, by omega, fun r h => h⟩, hfn, fun out nd hs hi => by rw [few_out hm n1 n5 h2 nd hs hi]; exact hr⟩
end
end Pg
set_option Elab.async false
set_option linter.all false
set_option maxRecDepth 100000
set_option maxHeartbeats 4100000
namespace Pg
open PySem L2 RZ Kn
section
variable {G : Gd} {P : Program} {w : World} {mg : Str → Option Value} {base : Heap} {f : Addr} {fd : FuncData}
theorem all_mem {n : Nat} : ∀ {m : Nat} {r : List Int}, r.length = m → (∀ i ∈ r, 0 ≤ i ∧ i < (n : Int)) → r ∈ allRows n m
  | 0, r, hl, _ => by rw [List.length_eq_zero_iff.mp hl]; exact List.mem_singleton_self _
  | m + 1, r, hl, hv => by
    have hne : r ≠ [] := fun z => by rw [z] at hl; cases hl
    have e : r = r.dropLast ++ [r.getLast hne] := (List.dropLast_concat_getLast hne).symm
    have hx := hv _ (List.getLast_mem hne)
    unfold allRows
    refine List.mem_flatMap.mpr ⟨r.dropLast, all_mem (by rw [List.length_dropLast]; omega) fun i hi => hv i (List.dropLast_subset r hi), List.mem_map.mpr ⟨(r.getLast hne).toNat, List.mem_range.mpr (by omega), ?_⟩⟩
    rw [Int.toNat_of_nonneg hx.1]
    exact e.symm
theorem lex_app {x y : List Int} : ∀ {r s : List Int}, r.length = s.length → lexL r s = true → lexL (r ++ x) (s ++ y) = true
  | [], [], _, h => by cases h
  | [], _ :: _, h, _ =>
        by cases h
  | _ :: _, [], h, _ =>
        by cases h
  | a :: r, b :: s, hl, h => by
    unfold lexL at h
    show lexL (a :: (r ++ x)) (b :: (s ++ y)) = true
    unfold lexL
    by_cases e : a = b
    · rw [if_pos e] at h ⊢
      exact lex_app (by simpa using hl) h
    · rw [if_neg e] at h ⊢
      exact h
theorem lex_last {a b : Int} (h : a < b) : ∀ r : List Int, lexL (r ++ [a]) (r ++ [b]) = true
  | [] => by
    show lexL [a] [b] = true
    unfold lexL
    rw [if_neg (by omega)]
    exact decide_eq_true h
  | x :: r => by
    show lexL (x :: (r ++ [a])) (x :: (r ++ [b])) = true
    unfold lexL
    rw [if_pos rfl]
    exact lex_last h r
theorem rows_lt (n : Nat) : ∀ m, (allRows n m).Pairwise fun x y => lexL x y = true
  | 0 => List.pairwise_singleton _ _
  | m + 1 => by
    unfold allRows
    refine List.pairwise_flatMap.mpr ⟨fun r _ => ?_, (rows_lt n m).imp_of_mem fun {r s} hr hs h => fun x hx y hy => ?_⟩
    · refine List.pairwise_map.mpr (List.pairwise_lt_range.imp fun {a b} h => lex_last (by omega) r)
    · obtain ⟨a, _, rfl⟩ := List.mem_map.mp hx
      obtain ⟨b, _, rfl⟩ := List.mem_map.mp hy; exact lex_app (by rw [allRows_row n m r hr, allRows_row n m s hs]) h
theorem lex_irr : ∀ x : List Int, lexL x x = false
  | [] => rfl
  | a :: x => by unfold lexL; rw [if_pos rfl]; exact lex_irr x
theorem lt_nd {xs : List (List Int)} (h : xs.Pairwise fun x y => lexL x y = true) : xs.Nodup := h.imp fun {a b} hab e => by
  rw [e, lex_irr] at hab; cases hab
theorem lex_eq : ∀ {x y : List Int}, lexL x y = false → lexL y x = false → x = y
  | [], [], _, _ => rfl
  | [], _ :: _, h, _ =>
        by cases h
  | _ :: _, [], _, h =>
        by cases h
  | x :: xs, y :: ys, h1, h2 => by
    unfold lexL at h1 h2
    by_cases e : x = y
    · subst e
      rw [if_pos rfl] at h1 h2
      rw [lex_eq h1 h2]
    · rw [if_neg e] at h1
      rw [if_neg fun z => e z.symm] at h2
      have a1 := of_decide_eq_false h1
      have a2 := of_decide_eq_false h2
      omega
theorem asc_uniq {out ys : List (List Int)} (nd : out.Nodup) (hs : out.Pairwise fun x y => lexL y x = false) (hy : ys.Pairwise fun x y => lexL x y = true) (hm : ∀ r, r ∈ out ↔ r ∈ ys) : out = ys :=
  List.Perm.eq_of_pairwise (le := fun x y => lexL y x = false) (fun _ _ _ _ q1 q2 => lex_eq q2 q1) hs (hy.imp fun {a b} h => lexL_asym a b h) ((List.perm_ext_iff_of_nodup nd (lt_nd hy)).mpr hm)
/-- what comes of some rows of n things, one behind another -/
inductive Reach (gs : List (List Int)) (n : Nat) : List Int → Prop
  | idle : Reach gs n (idx n)
  | step {r g : List Int} : Reach gs n r → g ∈ gs → Reach gs n (r.map (atR g))
theorem at_row {n : Nat} {g : List Int} (hg : RowIn n n g) {i : Int} (h0 : 0 ≤ i) (h1 : i < (n : Int)) : 0 ≤ atR g i ∧ atR g i < (n : Int) := (atR_in h0 (by rw [hg.1]; exact h1) hg.2).2
theorem beh_row {n : Nat} {r g : List Int} (hr : RowIn n n r) (hg : RowIn n n g) : RowIn n n (r.map (atR g)) := ⟨by rw [List.length_map]; exact hr.1, fun i hi => by
  obtain ⟨j, hj, rfl⟩ := List.mem_map.mp hi
  exact at_row hg (hr.2 j hj).1 (hr.2 j hj).2⟩
theorem idx_row0 (n : Nat) : RowIn n n (idx n) := ⟨idx_len n, fun i hi => idx_val hi⟩
theorem reach_row {gs : List (List Int)} {n : Nat} (hg : ∀ g ∈ gs, RowIn n n g) {r : List Int} (h : Reach gs n r) : RowIn n n r := by
  induction h with
  | idle => exact idx_row0 n
  | step h hm ih => exact beh_row ih (hg _ hm)
/-- all of them, ascending -/
noncomputable abbrev reachB (gs : List (List Int)) (n : Nat) (r : List Int) : Bool := @decide (Reach gs n r) (Classical.propDecidable _)
noncomputable abbrev closL (gs : List (List Int)) (n : Nat) : List (List Int) := (allRows n n).filter (reachB gs n)
theorem clos_mem {gs : List (List Int)} {n : Nat} (hg : ∀ g ∈ gs, RowIn n n g) {r : List Int} : r ∈ closL gs n ↔ Reach gs n r := by
  rw [List.mem_filter]
  have e : reachB gs n r = true ↔ Reach gs n r := @decide_eq_true_iff _ (Classical.propDecidable _)
  rw [e]
  exact ⟨fun h => h.2, fun h => ⟨all_mem (reach_row hg h).1 (reach_row hg h).2, h⟩⟩
theorem clos_lt (gs : List (List Int)) (n : Nat) : (closL gs n).Pairwise fun x y => lexL x y = true := (rows_lt n n).filter _
/-- between two turns: found are ks, still to be gone on from are w -/
structure Dfs (gs : List (List Int)) (n : Nat) (ks w : List (List Int)) : Prop where
  nd : ks.Nodup
  re : ∀ k ∈ ks, Reach gs n k
  id : idx n ∈ ks
  sub : ∀ k ∈ w, k ∈ ks
  cl : ∀ k ∈ ks, k ∈ w ∨ ∀ g ∈ gs, k.map (atR g) ∈ ks
/-- and while it is gone on from r -/
structure DfsI (gs : List (List Int)) (n : Nat) (r : List Int) (j : Nat) (ks w : List (List Int)) : Prop where
  nd : ks.Nodup
  re : ∀ k ∈ ks, Reach gs n k
  id : idx n ∈ ks
  rin : r ∈ ks
  sub : ∀ k ∈ w, k ∈ ks
  cl : ∀ k ∈ ks, k ∈ w ∨ k = r ∨ ∀ g ∈ gs, k.map (atR g) ∈ ks
  did : ∀ g ∈ gs.take j, r.map (atR g) ∈ ks
theorem Dfs.start (gs : List (List Int)) (n : Nat) : Dfs gs n [idx n] [idx n] := ⟨by simp, fun k hk => by rw [List.mem_singleton.mp hk]; exact .idle, by simp, fun k hk => hk, fun k hk => .inl hk⟩
theorem Dfs.len {gs ks w : List (List Int)} {n : Nat} (hg : ∀ g ∈ gs, RowIn n n g) (D : Dfs gs n ks w) : ks.length ≤ (allRows n n).length := nd_sub D.nd fun k hk => all_mem (reach_row hg (D.re k hk)).1 (reach_row hg (D.re k hk)).2
theorem DfsI.len {gs ks w : List (List Int)} {n j : Nat} {r : List Int} (hg : ∀ g ∈ gs, RowIn n n g) (D : DfsI gs n r j ks w) : ks.length ≤ (allRows n n).length := nd_sub D.nd fun k hk => all_mem (reach_row hg (D.re k hk)).1 (reach_row hg (D.re k hk)).2
theorem Dfs.pop {gs ks w : List (List Int)} {n : Nat} {r : List Int} (D : Dfs gs n ks (w ++ [r])) : DfsI gs n r 0 ks w :=
  ⟨D.nd, D.re, D.id, D.sub r (by simp), fun k hk => D.sub k (by simp [hk]), fun k hk => by
    rcases D.cl k hk with h | h
    · rcases List.mem_append.mp
          h with h | h
      · exact .inl h
      · exact .inr (.inl (List.mem_singleton.mp h))
    · exact .inr (.inr h), fun g hg => by simp at hg⟩
theorem DfsI.old {gs ks w : List (List Int)} {n j : Nat} {r g : List Int} (D : DfsI gs n r j ks w) (hj : gs[j]? = some g) (h : r.map (atR g) ∈ ks) : DfsI gs n r (j + 1) ks w :=
  ⟨D.nd, D.re, D.id, D.rin, D.sub, D.cl, fun q hq => by
    rw [take_one hj] at hq; rcases List.mem_append.mp hq with hq | hq
    · exact D.did q hq
    · rw [List.mem_singleton.mp hq]; exact h⟩
theorem DfsI.new {gs ks w : List (List Int)} {n j : Nat} {r g : List Int} (D : DfsI gs n r j ks w) (hj : gs[j]? = some g) (h : r.map (atR g) ∉ ks) : DfsI gs n r (j + 1) (ks ++ [r.map (atR g)]) (w ++ [r.map (atR g)]) := by
  have up : ∀ {k}, k ∈ ks → k ∈ ks ++ [r.map (atR g)] := fun hk => List.mem_append_left _ hk
  refine ⟨List.nodup_append.mpr ⟨D.nd, by simp, fun x hx y hy e => h (by rw [← List.mem_singleton.mp hy, ← e]; exact hx)⟩, fun k hk => ?_, up D.id, up D.rin, fun k hk => ?_, fun k hk => ?_, fun q hq => ?_⟩
  · rcases List.mem_append.mp hk with hk | hk
    · exact D.re k hk
    · rw [List.mem_singleton.mp hk]; exact .step (D.re r D.rin) (List.mem_of_getElem? hj)
  · rcases List.mem_append.mp hk with hk | hk
    · exact up (D.sub k hk)
    · exact List.mem_append_right _ hk
  · rcases List.mem_append.mp hk with hk | hk
    · rcases D.cl k hk with z | z | z
      · exact .inl (List.mem_append_left _ z)
      · exact .inr (.inl z)
      · exact .inr (.inr fun q hq => up (z q hq))
    · exact .inl (List.mem_append_right _ hk)
  · rw [take_one hj] at hq
    rcases List.mem_append.mp
          hq with hq | hq
    · exact up (D.did q hq)
    · rw [List.mem_singleton.mp hq]; simp
theorem DfsI.over {gs ks w : List (List Int)} {n : Nat} {r : List Int} (D : DfsI gs n r gs.length ks w) : Dfs gs n ks w :=
  ⟨D.nd, D.re, D.id, D.sub, fun k hk => by
    rcases D.cl k hk with z | z | z
    · exact .inl z
    · exact .inr fun g hg => by rw [z]; exact D.did g (by rw [List.take_length]; exact hg)
    · exact .inr z⟩
theorem Dfs.done {gs ks : List (List Int)} {n : Nat} (hg : ∀ g ∈ gs, RowIn n n g) (D : Dfs gs n ks []) : ∀ r, r ∈ ks ↔ r ∈ closL gs n := fun r => by
  rw [clos_mem hg]
  refine ⟨D.re r, fun h => ?_⟩
  induction h with
  | idle => exact D.id
  | step h hm ih =>
    rcases D.cl _ ih with z | z
    · cases z
    · exact z _ hm
theorem out_clos {gs ks out : List (List Int)} {n : Nat} (hg : ∀ g ∈ gs, RowIn n n g) (D : Dfs gs n ks []) (hp : out.Perm ks) (hs : out.Pairwise fun x y => lexL y x = false) : out = closL gs n :=
  asc_uniq (hp.nodup_iff.mpr D.nd) hs (clos_lt gs n) fun r => (hp.mem_iff).trans (D.done hg r)
theorem row_ne {n : Nat} {r : List Int} (h : RowIn n n r) (h1 : 1 ≤ n) : r ≠ [] := fun z => by
  have := h.1
  rw [z] at this
  simp at this
  omega
theorem put_new {ks : List (List Int)} {r : List Int} (h : r ∉ ks) : putKs ks r = ks ++ [r] := by unfold putKs; rw [if_neg h]
theorem putD_new {ks : List (List Int)} {ds : List D} {r : List Int} {d : D} (h : r ∉ ks) : putDs ks ds r d = ds ++ [d] := by unfold putDs; rw [if_neg h]
def sClosedR : FSpec := fun ds R _ => ∃ (n : Nat) (gs : List (List Int)), ds = [.lst (gs.map rowD), .int n] ∧ 1 ≤ n ∧ n ≤ 5 ∧ (∀ g ∈ gs, RowIn n n g) ∧ gs.length ≤ 100000 ∧ R (.lst ((closL gs n).map rowD))
theorem many_rows5 {n : Nat} (h : n ≤ 5) : (allRows n n).length ≤ 3125 := by
  rw [allRows_len]
  have h1 : n ^ n ≤ 5 ^ n := Nat.pow_le_pow_left h n
  have h2 : (5 : Nat) ^ n ≤ 5 ^ 5 := Nat.pow_le_pow_right (by omega) h
  omega
theorem row_behind {row later : List Int} {n : Nat} {env : List Sl} {i j k : Nat} {ex : Exc → Prop} {Q : D → Prop} (hr : RowIn n n row) (hg : RowIn n n later) (hi : env[i]? = some (.val (rowD row))) (hj : (inEnv env [k])[j]? = some (.val (rowD later))) (hk : k < env.length) (hjk : j ≠ k) (hq : Q (rowD (row.map (atR later)))) :
    dBi (g1 gTuple) (aCons (dComp [k] (iSeq (dVar i)) (tgName k) bYes (dOp gIx (dVar j) (dVar k))) aNil) ex env Q := by
  refine ⟨_, hi, ?_⟩
  refine compL_of D.int (fun i => .int (atR later i)) (fun i hi2 K hK => ?_) ?_
  · have e1 : ((inEnv env [k]).set k (.val (.int i)))[j]? = some (.val (rowD later)) := by rw [List.getElem?_set_ne (Ne.symm hjk)]; exact hj
    have e2 : ((inEnv env [k]).set k (.val (.int i)))[k]? = some (.val (.int i)) := by
      rw [List.getElem?_set_self]
      unfold inEnv
      rw [wipeE_len, List.length_map]; exact hk
    exact ⟨_, e1, _, e2, _, (atR_in (hr.2 i hi2).1 (by rw [hg.1]; exact (hr.2 i hi2).2) hg.2).1, hK⟩
  · rw [List.nil_append]
    refine nilT ?_
    have e : (.tup (row.map fun i => D.int (atR later i)) : D) = rowD (row.map (atR later)) := by unfold rowD; rw [List.map_map]; rfl
    rw [e]
    exact hq
theorem row_small {n : Nat} {r : List Int} (n5 : n ≤ 5) (h : RowIn n n r) : Small r := ⟨by have := h.1; omega, fun i hi => by have := h.2 i hi; omega⟩
abbrev s_law_closed : Stmt := topS 47
theorem sc_law_closed : FnScope ["rows", "things", "found", "waiting", "turn", "row", "step", "new", "thing"] ["rows", "things"] (defScope s_law_closed) := ⟨rfl, rfl, rfl, by decide +kernel, rfl, by decide +kernel, by decide +kernel⟩
theorem ok_law_closed (F : Fun G.K "_law_closed" "_law_closed" s_law_closed f fd) (bn : Bn mg)  : FnD G P w mg base 1 f fd ["rows", "things"] 0 sClosedR := by
  refine FnD.more (fnd_of F sc_law_closed (fun cdv A outer s H E hr hg => have xk := xk_def (E := E) hr hg; (ds_cons (ds_parKF (i := 2) (j := 3) xk.calm sc_law_closed.nd rfl rfl (by decide) rfl rfl (dk_one xk.K (xk.u (n := 1)) (de_tupleRange xk.calm bn.tuple bn.range (dv 1)) de_bl) (df_lst (da_cons (de_tupleRange xk.calm bn.tuple bn.range (dv 1)) da_nil)) (hw := (by with_unfolding_all rfl))) (ds_cons (ds_for xk po_def (di_range1 bn.range (da_cons de_int da_nil)) (dg_name (i := 4) sc_law_closed.nd rfl (Or.inl rfl)) (ds_cons (ds_if (dt_lend 3 (dt_cmp (o_eq xk.K xk.u64) (dv 3) (de_lst da_nil) (by rfl))) (ds_freezeD (i := 2) (ds_one (ds_ret (de_bi (c_sortDT xk.K xk.calm) bn.sorted (da_cons (dv 2) da_nil))))) ds_nil) (ds_cons (ds2_set (i := 5) sc_law_closed.nd rfl (Or.inl rfl) (d2_pop0 (i := 3) rfl)) (ds_one (ds_for xk po_def (di_seq xk.K (dv 0)) (dg_name (i := 6) sc_law_closed.nd rfl (Or.inr rfl)) (ds_cons (ds_set (i := 7) sc_law_closed.nd rfl (Or.inl rfl) (de_ty (c_tuple xk.K) bn.tuple (da_cons (de_comp (own := [("thing", 8)]) xk sc_law_closed.nd (di_seq xk.K (dv 5)) (blkOk_by (N := ["rows", "things", "found", "waiting", "turn", "row", "step", "new", "thing"]) (sc := defScope s_law_closed) (by decide +kernel)) (fun s H C cl fp => (dg_name (i := 8) sc_law_closed.nd rfl (Or.inl rfl))) (fun s H C cl fp => dts_nil) (fun s H C cl fp => (de_ix (Xk.blk xk _ _ _ _ _).K (dv 6) (dv 8) (fun _ _ => rfl))) (by simp)) da_nil))) (ds_one (ds_if (dt_lend 2 (dt_cmp (o_niD xk.K (xk.u (n := 1))) (dv 7) (dv 2) (by rfl))) (ds_cons (ds_dput (i := 2) xk.K (xk.u (n := 1)) rfl de_bl (dv 7)) (ds_one (ds_app (i := 3) rfl (dv 7)))) ds_nil)))))))) (ds_one (ds_ret (de_lst da_nil)))))) ?_) (by decide)
  rintro ds R ex hl ⟨n, gs, rfl, n1, n5, hg, hgl, hr⟩
  have hN := many_rows5 n5
  refine seq_to (fun env' => ∃ a b, env' = [.val (.lst (gs.map rowD)), .val (.int n), .dic a [idx n] [.bl true], .own b [rowD (idx n)], .emp, .emp, .emp, .emp, .emp]) (fun de' hnx hrt => ?_) (fun env' e => ?_)
  · refine ⟨_, rfl, n, rfl, by omega, by omega, ?_⟩
    rw [Int.toNat_natCast, range_idx]
    refine ⟨idx n, rowK_t, rfl, _, rfl, n, rfl, by omega, by omega, ?_⟩
    rw [Int.toNat_natCast, range_idx]
    exact ⟨small (by simp), [idx n], rfl, fun a b => hnx _ ⟨a, b, rfl⟩⟩
  obtain ⟨a, b, rfl⟩ := e
  refine seq_to (fun env' => False) (fun de' hnx hrt => ?_) (fun env' e => e.elim)
  refine ⟨4000, rfl, by omega, by omega, ?_⟩
  refine sForL_rng (fun i env => ∃ a ks b w s4 s5 s6 s7, Dfs gs n ks w ∧ ks.length = i + w.length ∧ env = [.val (.lst (gs.map rowD)), .val (.int n), .dic a ks (ks.map fun _ => .bl true), .own b (w.map rowD), s4, s5, s6, s7, .emp]) ⟨a, [idx n], b, [idx n], _, _, _, _, Dfs.start gs n, rfl, rfl⟩ (fun i env hi hI nx hn2 => ?_) (fun env hI => ?_)
  · obtain ⟨a, ks, b, w, s4, s5, s6, s7, D, hk, rfl⟩ := hI
    have hrow : ∀ r ∈ ks, RowIn n n r := fun r h => reach_row hg (D.re r h)
    have hrr0 : ∀ r ∈ w, RowIn n n r := fun r h => hrow r (D.sub r h)
    refine sif_of (x := w == []) (fun K hK => ⟨_, _, rfl, .inl ⟨_, _, rfl, rfl⟩, _, rfl, small (by simp), eq_rows0 (fun r h => row_small n5 (hrr0 r h)) ⟨_, rfl, hK⟩⟩) (fun hb => ?_) (fun hb => ?_)
    · obtain rfl : w = [] := eq_of_beq hb
      refine ⟨a, ks, _, rfl, _, rfl, ks, _, rfl, fun r hr2 => row_ne (hrow r hr2) n1, fun out hp hs => ?_⟩
      show de'.rt _ _
      rw [hrt, out_clos hg D hp hs]
      exact hr
    refine nil_seq ?_
    dsimp only
    have hw : w ≠ [] := fun z => by rw [z] at hb; simp at hb
    obtain ⟨w0, r, rfl⟩ : ∃ w0 r, w = w0 ++ [r] := ⟨w.dropLast, w.getLast hw, (List.dropLast_concat_getLast hw).symm⟩
    have hrr : RowIn n n r := hrr0 r (by simp)
    rw [List.length_append, List.length_singleton] at hk
    refine seq_to (fun env' => env' = [.val (.lst (gs.map rowD)), .val (.int n), .dic a ks (ks.map fun _ => .bl true), .own b (w0.map rowD), .val (.int i), .val (rowD r), s6, s7, .emp]) (fun de2 hnx2 hrt2 => ?_) (fun env' e => ?_)
    · exact ⟨b, w0.map rowD, rowD r, by rw [List.map_append]; rfl, hnx2 _ rfl⟩
    subst e
    refine ⟨_, rfl, ?_⟩
    refine sForL_of rowD (fun j env => ∃ a ks b w s6 s7, DfsI gs n r j ks w ∧ ks.length = i + 1 + w.length ∧ env = [.val (.lst (gs.map rowD)), .val (.int n), .dic a ks (ks.map fun _ => .bl true), .own b (w.map rowD), .val (.int i), .val (rowD r), s6, s7, .emp]) ⟨a, ks, b, w0, s6, s7, D.pop, by omega, rfl⟩ (fun j g env hj hI nx hn3 => ?_) (fun env hI => ?_)
    · obtain ⟨a, ks, b, w, s6, s7, DI, hk2, rfl⟩ := hI
      have hgg := hg g (List.mem_of_getElem? hj)
      have hkl := DI.len hg
      refine seq_to (fun env' => env' = [.val (.lst (gs.map rowD)), .val (.int n), .dic a ks (ks.map fun _ => .bl true), .own b (w.map rowD), .val (.int i), .val (rowD r), .val (rowD g), .val (rowD (r.map (atR g))), .emp]) (fun de3 hnx3 hrt3 => ?_) (fun env' e => ?_)
      · exact row_behind (i := 5) (j := 6) (k := 8) hrr hgg rfl rfl (by show 8 < 9; omega) (by decide) (hnx3 _ rfl)
      subst e
      refine ⟨_, _, rfl, .inr (.inr ⟨_, _, _, rfl, rfl⟩), _, rfl, _, rfl, ks, _, r.map (atR g), rowK_t, rfl, _, rfl, ite_of (fun hb => ?_) (fun hb => ?_)⟩
      · have hnk : r.map (atR g) ∉ ks := by simpa using hb
        have DN := DI.new hj hnk
        have hkl2 := DN.len hg
        rw [List.length_append, List.length_singleton] at hkl2
        refine seq_to (fun env' => ∃ a, env' = [.val (.lst (gs.map rowD)), .val (.int n), .dic a (ks ++ [r.map (atR g)]) ((ks ++ [r.map (atR g)]).map fun _ => .bl true), .own b (w.map rowD), .val (.int i), .val (rowD r), .val (rowD g), .val (rowD (r.map (atR g))), .emp]) (fun de4 hnx4 hrt4 => ?_) (fun env' e => ?_)
        · refine ⟨⟨_, _, _, rfl⟩, _, rfl, _, _, _, r.map (atR g), rfl, rowK_t, small (by omega), hnx4 _ ⟨a, ?_⟩⟩
          rw [put_new hnk, putD_new hnk, List.map_append]
          rfl
        obtain ⟨a, rfl⟩ := e
        refine ⟨b, _, rfl, _, rfl, ?_, hn3 _ ⟨a, _, b, w ++ [r.map (atR g)], .val (rowD g), .val (rowD (r.map (atR g))), DN, ?_, ?_⟩⟩
        · exact small (by rw [List.length_map]; omega)
        · rw [List.length_append, List.length_append, List.length_singleton]
          omega
        · rw [show (w ++ [r.map (atR g)]).map rowD = w.map rowD ++ [rowD (r.map (atR g))] from List.map_append]
          rfl
      · have hnk : r.map (atR g) ∈ ks := by simpa using hb
        exact hn3 _ ⟨a, ks, b, w, _, _, DI.old hj hnk, hk2, rfl⟩
    · obtain ⟨a, ks, b, w, s6, s7, DI, hk2, rfl⟩ := hI
      exact hn2 _ ⟨a, ks, b, w, _, _, _, _, DI.over, by omega, rfl⟩
  · obtain ⟨a, ks, b, w, s4, s5, s6, s7, D, hk, rfl⟩ := hI
    have := D.len hg
    exact absurd hk (by simp; omega)
end
end Pg
set_option Elab.async false
set_option linter.all false
set_option maxRecDepth 100000
set_option maxHeartbeats 4100000
namespace Pg
open PySem L2 RZ Kn
section
variable {G : Gd} {P : Program} {w : World} {mg : Str → Option Value} {base : Heap} {f : Addr} {fd : FuncData}
/-- what is made of some rows by putting one behind another -/
def codeR (r : List Int) : Nat := r.foldl (fun c i => c * 8 + i.toNat) 1
def stepC : List (List Int) → Nat → List (List Int) → Nat × List (List Int)
  | [], m, acc => (m, acc)
  | r :: rs, m, acc => if Nat.testBit m (codeR r) = true then stepC rs m acc else stepC rs (m ||| (1 <<< codeR r)) (r :: acc)
def closR (F : List (List Int)) : Nat → Nat → List (List Int) → List (List Int) → List (List Int)
  | 0, _, all, _ => all
  | k + 1, m, all, fr => closR F k (stepC (fr.flatMap fun a => F.map fun b => a.map (atR b)) m []).1 ((stepC (fr.flatMap fun a => F.map fun b => a.map (atR b)) m []).2 ++ all) (stepC (fr.flatMap fun a => F.map fun b => a.map (atR b)) m []).2
theorem step_in : ∀ (rs : List (List Int)) (m : Nat) (acc : List (List Int)) (r : List Int), r ∈ (stepC rs m acc).2 → r ∈ acc ∨ r ∈ rs
  | [], _, _, _, h => .inl h
  | x :: rs, m, acc, r, h => by
    unfold stepC at h
    split at h
    · rcases step_in rs m acc r h with q | q
      · exact .inl q
      · exact .inr (List.mem_cons_of_mem _ q)
    · rcases step_in rs _ _ r h with q | q
      · rcases List.mem_cons.mp
            q with rfl | q
        · exact .inr List.mem_cons_self
        · exact .inl q
      · exact .inr (List.mem_cons_of_mem _ q)
theorem clos_all {F : List (List Int)} {P : List Int → Prop} (hc : ∀ a b, P a → b ∈ F → P (a.map (atR b))) : ∀ (k m : Nat) (all fr : List (List Int)), (∀ r ∈ all, P r) → (∀ r ∈ fr, P r) → ∀ r ∈ closR F k m all fr, P r
  | 0, _, _, _, ha, _, r, h => ha r h
  | k + 1, m, all, fr, ha, hf, r, h => by
    have new : ∀ r ∈ (stepC (fr.flatMap fun a => F.map fun b => a.map (atR b)) m []).2, P r := fun r hr => by
      rcases step_in _ _ _ r hr with q | q
      · cases q
      · obtain ⟨a, ha2, q⟩ := List.mem_flatMap.mp q
        obtain ⟨b, hb, rfl⟩ := List.mem_map.mp q
        exact hc a b (hf a ha2) hb
    refine clos_all hc k _ _ _ (fun r hr => ?_) new r h
    rcases List.mem_append.mp hr with q | q
    · exact new r q
    · exact ha r q
def leadsL (μ : Str) (n : Nat) : List (List Int) := (allRows n n).filter (isOf μ n)
def askN (n : Nat) : List Str := manners.filter fun μ => !(μ == ("two" : Str)) || decide (1 < n)
def closM (F : List (List Int)) : Nat → Nat → List (List Int) → Nat
  | 0, m, _ => m
  | k + 1, m, fr => match stepC (fr.flatMap fun a => F.map fun b => a.map (atR b)) m [] with
    | (m2, fr2) => closM F k m2 fr2
def maskL (ls : List (List Int)) : Nat := ls.foldl (fun m l => m ||| (1 <<< codeR l)) 0
theorem bit_or (m c i : Nat) : Nat.testBit (m ||| (1 <<< c)) i = (Nat.testBit m i || decide (c = i)) := by
  rw [Nat.testBit_or, Nat.one_shiftLeft, Nat.testBit_two_pow]
theorem step_bit {P : List Int → Prop} : ∀ (rs : List (List Int)) (m : Nat) (acc : List (List Int)), (∀ r ∈ rs, P r) → (∀ i, Nat.testBit m i = true → ∃ r, P r ∧ codeR r = i) → (∀ i, Nat.testBit (stepC rs m acc).1 i = true → ∃ r, P r ∧ codeR r = i)
  | [], _, _, _, hm => hm
  | r :: rs, m, acc, hr, hm => by
    unfold stepC
    split
    · exact step_bit rs m acc (fun x hx => hr x (List.mem_cons_of_mem _ hx)) hm
    · refine step_bit rs _ _ (fun x hx => hr x (List.mem_cons_of_mem _ hx)) fun i hi => ?_
      rw [bit_or, Bool.or_eq_true, decide_eq_true_iff] at hi
      rcases hi with hi | hi
      · exact hm i hi
      · exact ⟨r, hr r List.mem_cons_self, hi⟩
theorem clos_bit {F : List (List Int)} {P : List Int → Prop} (hc : ∀ a b, P a → b ∈ F → P (a.map (atR b))) : ∀ (k m : Nat) (fr : List (List Int)), (∀ i, Nat.testBit m i = true → ∃ r, P r ∧ codeR r = i) → (∀ r ∈ fr, P r) → ∀ i, Nat.testBit (closM F k m fr) i = true → ∃ r, P r ∧ codeR r = i
  | 0, _, _, hm, _ => hm
  | k + 1, m, fr, hm, hf => by
    have hx : ∀ r ∈ (fr.flatMap fun a => F.map fun b => a.map (atR b)), P r := fun r hr => by
      obtain ⟨a, ha2, q⟩ := List.mem_flatMap.mp hr
      obtain ⟨b, hb, rfl⟩ := List.mem_map.mp q
      exact hc a b (hf a ha2) hb
    have h1 := step_bit (fr.flatMap fun a => F.map fun b => a.map (atR b)) m [] hx hm
    have h2 : ∀ r ∈ (stepC (fr.flatMap fun a => F.map fun b => a.map (atR b)) m []).2, P r := fun r hr => by
      rcases step_in _ _ _ r hr with q | q
      · cases q
      · exact hx r q
    show ∀ i, Nat.testBit (match stepC (fr.flatMap fun a => F.map fun b => a.map (atR b)) m [] with | (m2, fr2) => closM F k m2 fr2) i = true → _
    cases e : stepC (fr.flatMap fun a => F.map fun b => a.map (atR b)) m [] with
    | mk m2 fr2 =>
      rw [e] at h1 h2
      exact clos_bit hc k m2 fr2 h1 h2
theorem mask_bit : ∀ (ls : List (List Int)) (m : Nat) (l : List Int), l ∈ ls → Nat.testBit (ls.foldl (fun m l => m ||| (1 <<< codeR l)) m) (codeR l) = true
  | x :: ls, m, l, h => by
    rw [List.foldl_cons]
    have mono : ∀ (ls : List (List Int)) (m i : Nat), Nat.testBit m i = true → Nat.testBit (ls.foldl (fun m l => m ||| (1 <<< codeR l)) m) i = true := by
      intro ls
      induction ls with
      | nil => exact fun m i h => h
      | cons y ls ih => exact fun m i h => ih _ i (by rw [bit_or, h]; rfl)
    rcases List.mem_cons.mp
          h with rfl | h
    · exact mono ls _ _ (by rw [bit_or, decide_eq_true rfl, Bool.or_true])
    · exact mask_bit ls _ l h
theorem code_fold : ∀ (r s : List Int) (a b : Nat), r.length = s.length → (∀ i ∈ r, 0 ≤ i ∧ i < 8) → (∀ i ∈ s, 0 ≤ i ∧ i < 8) → r.foldl (fun c i => c * 8 + i.toNat) a = s.foldl (fun c i => c * 8 + i.toNat) b → a = b ∧ r = s
  | [], [], a, b, _, _, _, h => ⟨h, rfl⟩
  | [], _ :: _, _, _, hl, _, _, _ => by simp at hl
  | _ :: _, [], _, _, hl, _, _, _ => by simp at hl
  | x :: r, y :: s, a, b, hl, hr, hs, h => by
    rw [List.foldl_cons, List.foldl_cons] at h
    obtain ⟨h1, h2⟩ := code_fold r s _ _ (by simpa using hl) (fun i hi => hr i (List.mem_cons_of_mem _ hi)) (fun i hi => hs i (List.mem_cons_of_mem _ hi)) h
    have hx := hr x List.mem_cons_self
    have hy := hs y List.mem_cons_self
    have e : a = b ∧ x = y := by omega
    exact ⟨e.1, by rw [e.2, h2]⟩
theorem reach_mono {gs hs : List (List Int)} {n : Nat} (h : ∀ r, r ∈ gs → Reach hs n r) (hh : ∀ x r, Reach hs n x → Reach hs n r → Reach hs n (x.map (atR r))) {r : List Int} (z : Reach gs n r) : Reach hs n r := by
  induction z with
  | idle => exact .idle
  | step _ hm ih => exact hh _ _ ih (h _ hm)
theorem map_idx {n : Nat} {x : List Int} (hx : ∀ i ∈ x, 0 ≤ i ∧ i < (n : Int)) : x.map (atR (idx n)) = x := by
  induction x with
  | nil => rfl
  | cons i x ih => rw [List.map_cons, atR_idx (hx i List.mem_cons_self).1 (hx i List.mem_cons_self).2, ih fun j hj => hx j (List.mem_cons_of_mem _ hj)]
theorem reach_comp {gs : List (List Int)} {n : Nat} (hg : ∀ g ∈ gs, RowIn n n g) (x r : List Int) (hx : Reach gs n x) (hr : Reach gs n r) : Reach gs n (x.map (atR r)) := by
  have hxr := reach_row hg hx
  induction hr with
  | idle => rw [map_idx hxr.2]; exact hx
  | @step r' g hr' hm ih =>
    have hr2 := reach_row hg hr'
    have e : x.map (atR (r'.map (atR g))) = (x.map (atR r')).map (atR g) := by
      rw [List.map_map]
      refine List.map_congr_left fun i hi => ?_
      have := hxr.2 i hi
      exact atR_map this.1 (by rw [hr2.1]; exact this.2)
    rw [e]
    exact .step ih hm
theorem idx_map {n : Nat} {g : List Int} (hg : g.length = n) : (idx n).map (atR g) = g := by
  refine List.ext_getElem (by rw [List.length_map, idx_len, hg]) fun k h1 h2 => ?_
  unfold idx atR
  simp [List.getD_eq_getElem?_getD, h2]
theorem reach_one {gs : List (List Int)} {n : Nat} (hg : ∀ g ∈ gs, RowIn n n g) {g : List Int} (hm : g ∈ gs) : Reach gs n g := by
  have z : Reach gs n ((idx n).map (atR g)) := .step .idle hm
  rwa [idx_map (hg g hm).1] at z
def madeB (μ : Str) (n : Nat) : Bool := (closM (fewR μ n) 25 (1 <<< codeR (idx n)) [idx n] &&& maskL (leadsL μ n)) == maskL (leadsL μ n)
def stayB (μ : Str) (n : Nat) : Bool := μ == ("blind" : Str) || (isOf μ n (idx n) && (leadsL μ n).all fun l => (fewR μ n).all fun g => Nat.testBit (maskL (leadsL μ n)) (codeR (l.map (atR g))))
/-- with one of them left out -/
def lessC (μ : Str) (n k : Nat) : List (List Int) := closR ((fewS μ n).eraseIdx k) 25 (1 <<< codeR (idx n)) [idx n] [idx n]
def lessB (μ : Str) (n : Nat) : Bool := (List.range (fewS μ n).length).all fun k => decide ((lessC μ n k).length < (leadsL μ n).length) && ((lessC μ n k).contains (idx n) && (lessC μ n k).all fun l => ((fewS μ n).eraseIdx k).all fun g => Nat.testBit (maskL (lessC μ n k)) (codeR (l.map (atR g))))
/-- each row is a row alike behind which a rising one is put -/
def placeR (r : List Int) : List Int := (List.range r.length).map fun (i : Nat) => (((List.range r.length).countP fun (j : Nat) => decide (atR r (j : Int) < atR r (i : Int)) || (atR r (j : Int) == atR r (i : Int) && decide (j < i)) : Nat) : Int)
end
end Pg
set_option Elab.async false
set_option linter.all false
set_option maxRecDepth 100000
set_option maxHeartbeats 4100000
namespace Pg
open PySem L2 RZ Kn
section
variable {G : Gd} {P : Program} {w : World} {mg : Str → Option Value} {base : Heap} {f : Addr} {fd : FuncData}
theorem made14 : ([1, 2, 3, 4].all fun n => (askN n).all fun μ => madeB μ n) = true := by decide +kernel
theorem made5a : ([("rank" : Str), "either", "least", "ends"].all fun μ => madeB μ 5) = true := by decide +kernel
theorem made5b : ([("two" : Str), "alike", "order"].all fun μ => madeB μ 5) = true := by decide +kernel
theorem made5c : madeB "one" 5 = true := by decide +kernel
end
end Pg
set_option Elab.async false
set_option linter.all false
set_option maxRecDepth 100000
set_option maxHeartbeats 4100000
namespace Pg
open PySem L2 RZ Kn
section
variable {G : Gd} {P : Program} {w : World} {mg : Str → Option Value} {base : Heap} {f : Addr} {fd : FuncData}
/-- no step leads out of a manner -/
theorem stay14 : ([1, 2, 3, 4].all fun n => (askN n).all fun μ => stayB μ n) = true := by decide +kernel
theorem stay5a : ([("blind" : Str), "rank", "either", "least", "ends"].all fun μ => stayB μ 5) = true := by decide +kernel
theorem stay5b : ([("two" : Str), "alike", "order"].all fun μ => stayB μ 5) = true := by decide +kernel
theorem stay5c : stayB "one" 5 = true := by decide +kernel
end
end Pg
set_option Elab.async false
set_option linter.all false
set_option maxRecDepth 100000
set_option maxHeartbeats 4100000
namespace Pg
open PySem L2 RZ Kn
section
variable {G : Gd} {P : Program} {w : World} {mg : Str → Option Value} {base : Heap} {f : Addr} {fd : FuncData}
theorem split5 : ((allRows 5 5).all fun r => (placeR r).map (atR (sortI r)) == r && (isOf "alike" 5 (placeR r) && isOf "rank" 5 (sortI r))) = true := by decide +kernel
theorem gens5 : ((fewS "alike" 5).all fun g => (fewS "blind" 5).contains g) = true ∧ ((fewS "rank" 5).all fun g => (closR (fewR "blind" 5) 2 (1 <<< codeR (idx 5)) [idx 5] [idx 5]).contains g) = true := by decide +kernel
theorem less34 : ([3, 4].all fun n => [("rank" : Str), "alike"].all fun μ => lessB μ n) = true := by decide +kernel
theorem less5a : lessB "rank" 5 = true := by decide +kernel
theorem less5b : lessB "alike" 5 = true := by decide +kernel
end
end Pg
set_option Elab.async false
set_option linter.all false
set_option maxRecDepth 100000
set_option maxHeartbeats 4100000
namespace Pg
open PySem L2 RZ Kn
section
variable {G : Gd} {P : Program} {w : World} {mg : Str → Option Value} {base : Heap} {f : Addr} {fd : FuncData}
theorem lessN {n : Nat} {m : Str} (hn : n ∈ [3, 4, 5]) (hm : m ∈ [("rank" : Str), "alike"]) : lessB m n = true := by
  simp only [List.mem_cons, List.not_mem_nil, or_false] at hn
  rcases hn with rfl | rfl | rfl
  · exact List.all_eq_true.mp (List.all_eq_true.mp less34 3 (by simp)) m hm
  · exact List.all_eq_true.mp (List.all_eq_true.mp less34 4 (by simp)) m hm
  · simp only [List.mem_cons, List.not_mem_nil, or_false] at hm
    rcases hm with rfl | rfl
    · exact less5a
    · exact less5b
theorem ask5 {m : Str} (hm : m ∈ askN 5) : m = ("blind" : Str) ∨ m ∈ [("rank" : Str), "either", "least", "ends"] ∨ m ∈ [("two" : Str), "alike", "order"] ∨ m = ("one" : Str) := by
  have h : ((askN 5).all fun m => m == ("blind" : Str) || ([("rank" : Str), "either", "least", "ends"].contains m || ([("two" : Str), "alike", "order"].contains m || m == ("one" : Str)))) = true := by decide +kernel
  have z := List.all_eq_true.mp h m hm
  rw [Bool.or_eq_true, Bool.or_eq_true, Bool.or_eq_true] at z
  rcases z with z | z | z | z
  · exact .inl (eq_of_beq z)
  · exact .inr (.inl (List.contains_iff_mem.mp z))
  · exact .inr (.inr (.inl (List.contains_iff_mem.mp z)))
  · exact .inr (.inr (.inr (eq_of_beq z)))
theorem stayN {n : Nat} {m : Str} (h1 : 1 ≤ n) (h5 : n ≤ 5) (hm : m ∈ askN n) : stayB m n = true := by
  have : n = 5 ∨ n ∈ [1, 2, 3, 4] := by
    have : n = 1 ∨ n = 2 ∨ n = 3 ∨ n = 4 ∨ n = 5 := by omega
    rcases this with rfl | rfl | rfl | rfl | rfl <;> simp
  rcases this with rfl | hn
  · rcases ask5 hm with rfl | h | h | rfl
    · exact List.all_eq_true.mp stay5a _ (by simp)
    · exact List.all_eq_true.mp stay5a m (List.mem_cons_of_mem _ h)
    · exact List.all_eq_true.mp stay5b m h
    · exact stay5c
  · exact List.all_eq_true.mp (List.all_eq_true.mp stay14 n hn) m hm
theorem madeN {n : Nat} {m : Str} (h1 : 1 ≤ n) (h5 : n ≤ 5) (hm : m ∈ askN n) (hb : ¬ (n = 5 ∧ m = ("blind" : Str))) : madeB m n = true := by
  have : n = 5 ∨ n ∈ [1, 2, 3, 4] := by
    have : n = 1 ∨ n = 2 ∨ n = 3 ∨ n = 4 ∨ n = 5 := by omega
    rcases this with rfl | rfl | rfl | rfl | rfl <;> simp
  rcases this with rfl | hn
  · rcases ask5 hm with rfl | h | h | rfl
    · exact absurd ⟨rfl, rfl⟩ hb
    · exact List.all_eq_true.mp made5a m h
    · exact List.all_eq_true.mp made5b m h
    · exact made5c
  · exact List.all_eq_true.mp (List.all_eq_true.mp made14 n hn) m hm
end
end Pg
set_option Elab.async false
set_option linter.all false
set_option maxRecDepth 100000
set_option maxHeartbeats 4100000
namespace Pg
open PySem L2 RZ Kn
section
variable {G : Gd} {P : Program} {w : World} {mg : Str → Option Value} {base : Heap} {f : Addr} {fd : FuncData}
theorem mask_of : ∀ (ls : List (List Int)) (m i : Nat), Nat.testBit (ls.foldl (fun m l => m ||| (1 <<< codeR l)) m) i = true → Nat.testBit m i = true ∨ ∃ l ∈ ls, codeR l = i
  | [], _, _, h => .inl h
  | x :: ls, m, i, h => by
    rcases mask_of ls _ i h with q | ⟨l, hl, e⟩
    · rw [bit_or, Bool.or_eq_true, decide_eq_true_iff] at q
      exact q.imp id fun e => ⟨x, List.mem_cons_self, e⟩
    · exact .inr ⟨l, List.mem_cons_of_mem _ hl, e⟩
theorem bit_in {n : Nat} {ls : List (List Int)} {r : List Int} (n5 : n ≤ 5) (hls : ∀ l ∈ ls, RowIn n n l) (hr : RowIn n n r) (h : Nat.testBit (maskL ls) (codeR r) = true) : r ∈ ls := by
  rcases mask_of ls 0 _ h with q | ⟨l, hl, e⟩
  · simp at q
  · have hl2 := hls l hl
    obtain ⟨_, e3⟩ := code_fold l r 1 1 (by rw [hl2.1, hr.1]) (fun i hi => by have := hl2.2 i hi; omega) (fun i hi => by have := hr.2 i hi; omega) e
    rw [← e3]
    exact hl
theorem leads_row {m : Str} {n : Nat} : ∀ l ∈ leadsL m n, RowIn n n l := fun l hl => ⟨allRows_row n n l (List.mem_filter.mp hl).1, allRows_val n n l (List.mem_filter.mp hl).1⟩
theorem ask_man {m : Str} {n : Nat} (h : m ∈ askN n) : m ∈ manners := (List.mem_filter.mp h).1
theorem made_reach {m : Str} {n : Nat} {r : List Int} (h5 : n ≤ 5) (hg : ∀ g ∈ fewS m n, RowIn n n g) (h : madeB m n = true) (hl : r ∈ leadsL m n) : Reach (fewS m n) n r := by
  have e := eq_of_beq h
  have hrr := leads_row r hl
  have h2 : Nat.testBit (maskL (leadsL m n)) (codeR r) = true := mask_bit (leadsL m n) 0 r hl
  rw [← e, Nat.testBit_and, Bool.and_eq_true] at h2
  obtain ⟨x, hx, ec⟩ := clos_bit (P := Reach (fewS m n) n) (fun a b ha hb => .step ha ((fews_perm m n).mem_iff.mpr hb)) 25 (1 <<< codeR (idx n)) [idx n] (fun i hi => by
    rw [Nat.one_shiftLeft, Nat.testBit_two_pow, decide_eq_true_iff] at hi
    exact ⟨idx n, .idle, hi⟩) (fun x hx => by rw [List.mem_singleton.mp hx]; exact .idle) _ h2.1
  have hxr := reach_row hg hx
  obtain ⟨_, e3⟩ := code_fold x r 1 1 (by rw [hxr.1, hrr.1]) (fun i hi => by have := hxr.2 i hi; omega) (fun i hi => by have := hrr.2 i hi; omega) ec
  rw [← e3]
  exact hx
theorem blind5 : ∀ r ∈ leadsL "blind" 5, Reach (fewS "blind" 5) 5 r := by
  have hb : ("blind" : Str) ∈ manners := by decide +kernel
  have ha : ("alike" : Str) ∈ manners := by decide +kernel
  have hk : ("rank" : Str) ∈ manners := by decide +kernel
  have hg := fews_row hb (n := 5) (by omega) (by omega)
  have comp := reach_comp hg
  have made : ∀ m, madeB m 5 = true → ∀ l ∈ leadsL m 5, (∀ g ∈ fewS m 5, RowIn 5 5 g) → Reach (fewS m 5) 5 l := fun m h l hl hgm => made_reach (by omega) hgm h hl
  have al : ∀ l ∈ leadsL "alike" 5, Reach (fewS "blind" 5) 5 l := fun l hl =>
    reach_mono (fun g h => reach_one hg (List.contains_iff_mem.mp (List.all_eq_true.mp gens5.1 g h))) comp (made "alike" (List.all_eq_true.mp made5b _ (by simp)) l hl (fews_row ha (by omega) (by omega)))
  have rk : ∀ l ∈ leadsL "rank" 5, Reach (fewS "blind" 5) 5 l := fun l hl => by
    refine reach_mono (fun g h => ?_) comp (made "rank" (List.all_eq_true.mp made5a _ (by simp)) l hl (fews_row hk (by omega) (by omega)))
    have q := List.contains_iff_mem.mp (List.all_eq_true.mp gens5.2 g h)
    exact clos_all (F := fewR "blind" 5) (P := Reach (fewS "blind" 5) 5) (fun a b ha2 hb2 => .step ha2 ((fews_perm "blind" 5).mem_iff.mpr hb2)) 2 _ [idx 5] [idx 5] (fun r h => by rw [List.mem_singleton.mp h]; exact .idle) (fun r h => by rw [List.mem_singleton.mp h]; exact .idle) g q
  intro r hr
  have hrr := leads_row r hr
  have q := List.all_eq_true.mp split5 r (List.mem_filter.mp hr).1
  rw [Bool.and_eq_true, Bool.and_eq_true] at q; obtain ⟨q1, q2, q3⟩ := q
  have hp : RowIn 5 5 (placeR r) := by
    refine ⟨by unfold placeR; rw [List.length_map, List.length_range]; exact hrr.1, fun i hi => ?_⟩
    unfold placeR at hi
    obtain ⟨k, hk2, rfl⟩ := List.mem_map.mp hi
    refine ⟨by omega, ?_⟩
    have hk3 := List.mem_range.mp hk2
    have lt : (List.range r.length).countP (fun (j : Nat) => decide (atR r (j : Int) < atR r (k : Int)) || (atR r (j : Int) == atR r (k : Int) && decide (j < k))) < (List.range r.length).length := by
      rw [List.countP_eq_length_filter]
      refine List.length_filter_lt_length_iff_exists.mpr ⟨k, hk2, ?_⟩
      simp
    have l5 : (List.range r.length).length = 5 := by rw [List.length_range, hrr.1]
    rw [l5] at lt
    omega
  have hs : RowIn 5 5 (sortI r) := ⟨by rw [(sortI_perm r).length_eq]; exact hrr.1, fun i hi => hrr.2 i ((sortI_perm r).mem_iff.mp hi)⟩
  rw [← eq_of_beq q1]
  exact comp _ _ (al _ (List.mem_filter.mpr ⟨all_mem hp.1 hp.2, q2⟩)) (rk _ (List.mem_filter.mpr ⟨all_mem hs.1 hs.2, q3⟩))
theorem few_clos {m : Str} {n : Nat} (hm : m ∈ askN n) (h1 : 1 ≤ n) (h5 : n ≤ 5) : closL (fewS m n) n = leadsL m n := by
  have hg : ∀ g ∈ fewS m n, RowIn n n g := fews_row (ask_man hm) h1 h5
  have hp := fews_perm m n
  refine List.filter_congr fun r hr => ?_
  have hrr : RowIn n n r := ⟨allRows_row n n r hr, allRows_val n n r hr⟩
  have rb : reachB (fewS m n) n r = true ↔ Reach (fewS m n) n r := @decide_eq_true_iff _ (Classical.propDecidable _)
  rw [Bool.eq_iff_iff, rb]
  constructor
  · intro z
    have st := stayN h1 h5 hm
    unfold stayB at st
    rw [Bool.or_eq_true] at st
    rcases st with st | st
    · rw [eq_of_beq st]
      rfl
    · rw [Bool.and_eq_true] at st
      have all : ∀ x, Reach (fewS m n) n x → x ∈ leadsL m n := by
        intro x hx
        induction hx with
        | idle => exact List.mem_filter.mpr ⟨all_mem (idx_row0 n).1 (idx_row0 n).2, st.1⟩
        | @step x g hx hm2 ih =>
          have q := List.all_eq_true.mp (List.all_eq_true.mp st.2 x ih) g (hp.mem_iff.mp hm2)
          exact bit_in h5 leads_row (beh_row (leads_row x ih) (hg g hm2)) q
      exact (List.mem_filter.mp (all r z)).2
  · intro z
    have hl : r ∈ leadsL m n := List.mem_filter.mpr ⟨hr, z⟩
    by_cases hb : n = 5 ∧ m = ("blind" : Str)
    · obtain ⟨rfl, rfl⟩ := hb
      exact blind5 r hl
    · exact made_reach h5 hg (madeN h1 h5 hm hb) hl
theorem less_clos {m : Str} {n k : Nat} (hm : m ∈ [("rank" : Str), "alike"]) (hn : n ∈ [3, 4, 5]) (hk : k < (fewS m n).length) : (closL ((fewS m n).eraseIdx k) n).length < (leadsL m n).length := by
  have h15 : 1 ≤ n ∧ n ≤ 5 := by
    simp only [List.mem_cons, List.not_mem_nil, or_false] at hn
    omega
  have hma : m ∈ manners := by
    simp only [List.mem_cons, List.not_mem_nil, or_false] at hm; rcases hm with rfl | rfl <;> decide +kernel
  have hg : ∀ g ∈ (fewS m n).eraseIdx k, RowIn n n g := fun g h => fews_row hma h15.1 h15.2 g (List.mem_of_mem_eraseIdx h)
  have q := List.all_eq_true.mp (lessN hn hm) k (List.mem_range.mpr hk)
  rw [Bool.and_eq_true, Bool.and_eq_true, decide_eq_true_iff] at q
  obtain ⟨q1, q2, q3⟩ := q
  have hC : ∀ l ∈ lessC m n k, RowIn n n l := clos_all (F := (fewS m n).eraseIdx k) (P := RowIn n n) (fun a b ha hb => beh_row ha (hg b hb)) 25 _ [idx n] [idx n] (fun r h => by rw [List.mem_singleton.mp h]; exact idx_row0 n) (fun r h => by rw [List.mem_singleton.mp h]; exact idx_row0 n)
  have all : ∀ x, Reach ((fewS m n).eraseIdx k) n x → x ∈ lessC m n k := by
    intro x hx
    induction hx with
    | idle => exact List.contains_iff_mem.mp q2
    | @step x g hx hm2 ih => exact bit_in h15.2 hC (beh_row (hC x ih) (hg g hm2)) (List.all_eq_true.mp (List.all_eq_true.mp q3 x ih) g hm2)
  have nd : (closL ((fewS m n).eraseIdx k) n).Nodup := lt_nd (clos_lt _ n)
  exact Nat.lt_of_le_of_lt (nd_sub nd fun x hx => all x ((clos_mem hg).mp hx)) q1
end
end Pg
set_option Elab.async false
set_option linter.all false
set_option maxRecDepth 100000
set_option maxHeartbeats 4100000
namespace Pg
open PySem L2 RZ Kn
section
variable {G : Gd} {P : Program} {w : World} {mg : Str → Option Value} {base : Heap} {f : Addr} {fd : FuncData}
theorem eqvAll_rows : ∀ as bs : List (List Int), PyData.eqvAll (as.map rowP) (bs.map rowP) = (as == bs)
  | [], [] => rfl
  | [], b :: bs => rfl
  | a :: as, [] => rfl
  | a :: as, b :: bs => by
    rw [List.map_cons, List.map_cons]; show (PyData.eqv (rowP a) (rowP b) && PyData.eqvAll (as.map rowP) (bs.map rowP)) = (a == b && as == bs)
    rw [eqv_row, eqvAll_rows as bs]
theorem eq_rowsL {as bs : List (List Int)} {Q : D → Prop} (h1 : ∀ r ∈ as, Small r) (h2 : ∀ r ∈ bs, Small r) (h : Q (.bl (as == bs))) : gEq (.lst (as.map rowD)) (.lst (bs.map rowD)) Q :=
  ⟨.list (as.map rowP), .list (bs.map rowP), by show (pdL (as.map rowD)).map PyData.list = _; rw [pd_rows]; rfl, by show (pdL (bs.map rowD)).map PyData.list = _; rw [pd_rows]; rfl, shaped_rowsL h1, shaped_rowsL h2, by rw [show PyData.eqv (.list (as.map rowP)) (.list (bs.map rowP)) = PyData.eqvAll (as.map rowP) (bs.map rowP) from rfl, eqvAll_rows]; exact h⟩
theorem ne_rowT {is js : List Int} {Q : D → Prop} (h : Q (.bl (!(is == js)))) : gNe (.tup (is.map D.int)) (.tup (js.map D.int)) Q :=
  ⟨_, _, by simp [pd, pdL_int], by simp [pd, pdL_int], shaped_row is, shaped_row js, by rw [show PyData.eqv (.tuple (is.map PyData.int)) (.tuple (js.map PyData.int)) = PyData.eqvAll (is.map PyData.int) (js.map PyData.int) from rfl, eqvAll_int]; exact h⟩
theorem few_shown {m : Str} {n : Nat} (hm : m ∈ manners) (h1 : 1 ≤ n) (h5 : n ≤ 5) : PyData.strOk (PyData.shown (.list ((fewS m n).map rowP))) = true ∧ (fewS m n).length ≤ 20 ∧ (n ∈ [3, 4, 5] → 1 ≤ (fewS m n).length ∨ m = ("order" : Str)) := by
  have h : ([1, 2, 3, 4, 5].all fun n => manners.all fun m => PyData.strOk (PyData.shown (.list ((fewS m n).map rowP))) && (decide ((fewS m n).length ≤ 20) && (!([3, 4, 5].contains n) || (decide (1 ≤ (fewS m n).length) || m == ("order" : Str))))) = true := by decide +kernel
  have z := List.all_eq_true.mp (List.all_eq_true.mp h n (fiveN h1 h5)) m hm
  rw [Bool.and_eq_true, Bool.and_eq_true, decide_eq_true_iff] at z
  refine ⟨z.1, z.2.1, fun hn => ?_⟩
  have q := z.2.2
  rw [List.contains_iff_mem.mpr hn, Bool.not_true, Bool.false_or, Bool.or_eq_true, decide_eq_true_iff] at q
  exact q.imp id fun e => eq_of_beq e
def sManyL : FSpec := fun ds R _ => ∃ (m : Str) (b n : Nat), ds = [.str m, .int b, .int n] ∧ m ∈ manners ∧ 1 ≤ b ∧ b ≤ 5 ∧ 1 ≤ n ∧ n ≤ 5 ∧ (m = ("two" : Str) → b ≠ 1 ∧ n ≠ 1) ∧ R (.int (leadRows m b n).length)
def sWorld : FSpec := fun ds R _ => ∃ (m : Str) (n : Nat), ds = [.str m, .int n] ∧ m ∈ manners ∧ 1 ≤ n ∧ n ≤ 5 ∧ (m = ("two" : Str) → n ≠ 1) ∧ R (.bl true)
def sLess : FSpec := fun ds R _ => ∃ n : Nat, ds = [.urn, .int n] ∧ n ∈ [3, 4, 5] ∧ R (.bl true)
end
end Pg
set_option Elab.async false
set_option linter.all false
set_option maxRecDepth 100000
set_option maxHeartbeats 4100000
namespace Pg
open PySem L2 RZ Kn
section
variable {G : Gd} {P : Program} {w : World} {mg : Str → Option Value} {base : Heap} {f : Addr} {fd : FuncData}
abbrev s_law_world_right : Stmt := topS 48
theorem sc_law_world_right : FnScope ["manner", "things", "told", "rows", "due", "lead"] ["manner", "things"] (defScope s_law_world_right) := ⟨rfl, rfl, rfl, by decide +kernel, rfl, by decide +kernel, by decide +kernel⟩
theorem ok_law_world_right (F : Fun G.K "_law_world_right" "_law_world_right" s_law_world_right f fd) (bn : Bn mg) (fo : Gk G) (K_few_leads : FkK G P w mg base 7 "few_leads" ["manner", "things"] ["things", "manner"] [1, 0] 0 sFewLeads) (F__law_few : Fk G P w mg base 2 "_law_few" ["manner", "things"] 0 sLawFew) (F__law_closed : Fk G P w mg base 1 "_law_closed" ["rows", "things"] 0 sClosedR) (F_leads : Fk G P w mg base 7 "leads" ["manner", "begin", "into"] 0 sLeadsL) (F_many_leads : Fk G P w mg base 8 "many_leads" ["manner", "begin", "into"] 0 sManyL) : FnD G P w mg base 9 f fd ["manner", "things"] 0 sWorld := by
  refine FnD.more (fnd_of F sc_law_world_right (fun cdv A outer s H E hr hg => have xk := xk_def (E := E) hr hg; (ds_cons (ds_set (i := 2) sc_law_world_right.nd rfl (Or.inl rfl) (de_callk K_few_leads xk (dk_cons (dv 1) (dk_cons (dv 0) dk_nil)))) (ds_cons (ds_set (i := 3) sc_law_world_right.nd rfl (Or.inl rfl) (de_call F__law_few xk (da_cons (dv 0) (da_cons (dv 1) da_nil)))) (ds_cons (ds_if (dt_w (dw_or (dt_not (dt_val (de_bi (c_isi xk.K) bn.isinstance (da_cons (dv 2) (da_cons (de_tyn (n := "tuple") bn.tuple) da_nil))))) (dw_or1 (dt_cmp (o_ne xk.K xk.u64) (de_bi (c_repr xk) bn.repr (da_cons (de_comp (own := [("lead", 5)]) xk sc_law_world_right.nd (di_seq xk.K (dv 2)) (blkOk_by (N := ["manner", "things", "told", "rows", "due", "lead"]) (sc := defScope s_law_world_right) (by decide +kernel)) (fun s H C cl fp => (dg_name (i := 5) sc_law_world_right.nd rfl (Or.inl rfl))) (fun s H C cl fp => dts_nil) (fun s H C cl fp => (de_fld (Xk.blk xk _ _ _ _ _).K fo.row (dv 5))) (by simp)) da_nil)) (de_bi (c_repr xk) bn.repr (da_cons (dv 3) da_nil)) (by rfl))))) (ds_one (ds_ret de_bl)) ds_nil) (ds_cons (ds_if (dt_cmp (o_ne xk.K xk.u64) (de_comp (own := [("lead", 5)]) xk sc_law_world_right.nd (di_seq xk.K (dv 2)) (blkOk_by (N := ["manner", "things", "told", "rows", "due", "lead"]) (sc := defScope s_law_world_right) (by decide +kernel)) (fun s H C cl fp => (dg_name (i := 5) sc_law_world_right.nd rfl (Or.inl rfl))) (fun s H C cl fp => (dts_one (dt_cmp (o_ne (Xk.blk xk _ _ _ _ _).K (Xk.blk xk _ _ _ _ _).u64) (de_tup (da_cons (de_fld (Xk.blk xk _ _ _ _ _).K fo.begin (dv 5)) (da_cons (de_fld (Xk.blk xk _ _ _ _ _).K fo.into (dv 5)) da_nil))) (de_tup (da_cons (dv 1) (da_cons (dv 1) da_nil))) (by rfl)))) (fun s H C cl fp => (dv 5)) (by simp)) (de_lst da_nil) (by rfl)) (ds_one (ds_ret de_bl)) ds_nil) (ds_cons (ds_set (i := 4) sc_law_world_right.nd rfl (Or.inl rfl) (de_call F__law_closed xk (da_cons (dv 3) (da_cons (dv 1) da_nil)))) (ds_one (ds_ret (de_and (de_cmp (o_eq xk.K xk.u64) (de_comp (own := [("lead", 5)]) xk sc_law_world_right.nd (di_seq xk.K (de_call F_leads xk (da_cons (dv 0) (da_cons (dv 1) (da_cons (dv 1) da_nil))))) (blkOk_by (N := ["manner", "things", "told", "rows", "due", "lead"]) (sc := defScope s_law_world_right) (by decide +kernel)) (fun s H C cl fp => (dg_name (i := 5) sc_law_world_right.nd rfl (Or.inl rfl))) (fun s H C cl fp => dts_nil) (fun s H C cl fp => (de_fld (Xk.blk xk _ _ _ _ _).K fo.row (dv 5))) (by simp)) (dv 4) (by rfl)) (de_one (de_cmp (o_eq xk.K xk.u64) (de_call F_many_leads xk (da_cons (dv 0) (da_cons (dv 1) (da_cons (dv 1) da_nil)))) (de_bi (c_len xk.K) bn.len (da_cons (dv 4) da_nil)) (by rfl)))))))))))) ?_) (by decide)
  rintro ds R ex hl ⟨m, n, rfl, hm, n1, n5, h2, hr⟩
  have ha : m ∈ askN n := by
    refine List.mem_filter.mpr ⟨hm, ?_⟩
    by_cases e : m = ("two" : Str)
    · have := h2 e
      rw [decide_eq_true (show 1 < n by omega), Bool.or_true]
    · rw [beq_eq_false_iff_ne.mpr e]
      rfl
  have hg := fews_row hm n1 n5
  obtain ⟨hs1, hs2, -⟩ := few_shown hm n1 n5
  have sm : ∀ {rs : List (List Int)}, (∀ r ∈ rs, RowIn n n r) → ∀ r ∈ rs, Small r := fun {rs} h r hr2 => row_small n5 (h r hr2)
  have rowsOf : ∀ {env : List Sl} {rs : List (List Int)} {Q : List D → Prop}, 5 < env.length → Q (rs.map rowD) → compL (tgName 5) bYes (dFld G "row" (dVar 5)) Q env (rs.map (leadD n)) [] := fun {env rs Q} he hq => by
    refine compL_of (fun r => leadD n r) rowD (fun r _ K hK => ?_) ?_
    · obtain ⟨m1, m2, m3, i1, i2, i3⟩ := fld_lead fo (n := n) (r := r)
      have e1 : (env.set 5 (.val (leadD n r)))[5]? = some (.val (leadD n r)) := List.getElem?_set_self he
      exact ⟨_, e1, 1, _, _, rfl, m3, i3, hK⟩
    · rw [List.nil_append]; exact hq
  refine seq_to (fun env' => env' = [.val (.str m), .val (.int n), .val (.tup ((fewS m n).map (leadD n))), .emp, .emp, .emp]) (fun de' hnx hrt => ?_) (fun env' e => ?_)
  · exact ⟨_, rfl, _, rfl, rfl, m, n, rfl, hm, n1, n5, h2, hnx _ rfl⟩
  subst e
  refine seq_to (fun env' => env' = [.val (.str m), .val (.int n), .val (.tup ((fewS m n).map (leadD n))), .val (.lst ((fewS m n).map rowD)), .emp, .emp]) (fun de' hnx hrt => ?_) (fun env' e => ?_)
  · exact ⟨_, rfl, _, rfl, rfl, m, n, rfl, hm, n1, n5, h2, hnx _ rfl⟩
  subst e
  refine sif_of (x := false) (fun K hK => ?_) (fun hb => by cases hb) (fun _ => ?_)
  · refine ⟨_, rfl, "tuple", true, rfl, rfl, _, rfl, ite_of (fun hb => by cases hb) (fun _ => ?_)⟩
    refine ⟨_, rfl, ?_⟩
    refine rowsOf (by show 5 < 6; omega) ?_
    refine nilR (repr_rows (sm hg) (by omega) ?_)
    refine ⟨_, rfl, nilR (repr_rows (sm hg) (by omega) ?_)⟩
    refine ne_str hs1 hs1 ⟨_, rfl, ?_⟩
    rw [beq_self_eq_true]
    exact hK
  refine nil_seq ?_
  dsimp only
  refine sif_of (x := false) (fun K hK => ?_) (fun hb => by cases hb) (fun _ => ?_)
  · refine ⟨_, rfl, ?_⟩
    refine compL_ofF (fun r => leadD n r) (fun r => leadD n r) (fun _ => false) (fun r hr2 K2 K3 h1 h2 => ?_) ?_
    · obtain ⟨m1, m2, m3, i1, i2, i3⟩ := fld_lead fo (n := n) (r := r)
      refine ⟨_, rfl, 1, _, _, rfl, m1, i1, _, rfl, 1, _, _, rfl, m2, i2, small (by simp), _, rfl, _, rfl, small (by simp), ?_⟩
      refine ne_rowT (is := [(r.length : Int), (n : Int)]) (js := [(n : Int), (n : Int)]) ⟨_, rfl, ?_⟩
      rw [(hg r hr2).1, beq_self_eq_true]
      exact h2 rfl
    · have e : ((fewS m n).filter fun _ => false) = [] := List.filter_eq_nil_iff.mpr (by simp)
      rw [e]
      exact ⟨small (by simp), ne_lst (is := []) (js := []) ⟨_, rfl, hK⟩⟩
  refine nil_seq ?_
  dsimp only
  refine seq_to (fun env' => env' = [.val (.str m), .val (.int n), .val (.tup ((fewS m n).map (leadD n))), .val (.lst ((fewS m n).map rowD)), .val (.lst ((leadsL m n).map rowD)), .emp]) (fun de' hnx hrt => ?_) (fun env' e => ?_)
  · refine ⟨_, rfl, _, rfl, rfl, n, fewS m n, rfl, n1, n5, hg, by omega, ?_⟩
    rw [few_clos ha n1 n5]
    exact hnx _ rfl
  subst e
  have h2' : m = ("two" : Str) → n ≠ 1 ∧ n ≠ 1 := fun e => ⟨h2 e, h2 e⟩
  refine d_and (x := true) (y := true) (fun K hK => ?_) (fun _ K hK => ?_) hr
  · refine ⟨_, rfl, _, rfl, _, rfl, rfl, m, n, n, rfl, hm, n1, n5, n1, n5, h2', ?_⟩
    refine rowsOf (by show 5 < 6; omega) ?_
    refine ⟨_, rfl, eq_rowsL (sm leads_row) (sm leads_row) ?_⟩
    rw [show (leadRows m n n == leadsL m n) = true from beq_self_eq_true (leadsL m n)]
    exact hK
  · refine ⟨_, rfl, _, rfl, _, rfl, rfl, m, n, n, rfl, hm, n1, n5, n1, n5, h2', ?_⟩
    refine ⟨_, rfl, eq_int ?_⟩
    rw [List.length_map, show ((leadRows m n n).length : Int) = ((leadsL m n).length : Int) from rfl, beq_self_eq_true]
    exact hK
abbrev s_law_less_right : Stmt := topS 49
theorem sc_law_less_right : FnScope ["pen", "things", "manner", "rows", "at", "lead"] ["pen", "things"] (defScope s_law_less_right) := ⟨rfl, rfl, rfl, by decide +kernel, rfl, by decide +kernel, by decide +kernel⟩
theorem ok_law_less_right (F : Fun G.K "_law_less_right" "_law_less_right" s_law_less_right f fd) (bn : Bn mg) (fo : Gk G) (F__law_draw : Fk G P w mg base 1 "_law_draw" ["pen", "many"] 1 sDraw) (F__law_pick : Fk G P w mg base 2 "_law_pick" ["pen", "some"] 1 sPick) (F_few_leads : Fk G P w mg base 7 "few_leads" ["manner", "things"] 0 sFewLeads) (F__law_closed : Fk G P w mg base 1 "_law_closed" ["rows", "things"] 0 sClosedR) (F_many_leads : Fk G P w mg base 8 "many_leads" ["manner", "begin", "into"] 0 sManyL) : FnD G P w mg base 9 f fd ["pen", "things"] 2 sLess := by
  refine FnD.more (fnd_of F sc_law_less_right (fun cdv A outer s H E hr hg => have xk := xk_def (E := E) hr hg; (ds_cons (ds_set (i := 2) sc_law_less_right.nd rfl (Or.inl rfl) (de_call F__law_pick xk (da_cons (dv 0) (da_cons (de_lst (da_cons de_str (da_cons de_str da_nil))) da_nil)))) (ds_cons (ds_setComp (i := 3) (own := [("lead", 5)]) xk sc_law_less_right.nd rfl rfl (sw_true rfl rfl rfl (by decide +kernel)) (di_seq xk.K (de_call F_few_leads xk (da_cons (dv 2) (da_cons (dv 1) da_nil)))) (blkOk_by (N := ["pen", "things", "manner", "rows", "at", "lead"]) (sc := defScope s_law_less_right) (by decide +kernel)) (fun s H C cl fp => (dg_name (i := 5) sc_law_less_right.nd rfl (Or.inl rfl))) (fun s H C cl fp => dts_nil) (fun s H C cl fp => (de_fld (Xk.blk xk _ _ _ _ _).K fo.row (dv 5))) (by simp)) (ds_cons (ds_set (i := 4) sc_law_less_right.nd rfl (Or.inl rfl) (de_call F__law_draw xk (da_cons (dv 0) (da_cons (de_bi (c_len xk.K) bn.len (da_cons (dv 3) da_nil)) da_nil)))) (ds_one (ds_ret (de_cmp (o_lt) (de_bi (c_len xk.K) bn.len (da_cons (de_call F__law_closed xk (da_cons (de_op (o_add xk.K) (de_sl xk.K (dv 3) do_none (do_some (dv 4))) (de_sl xk.K (dv 3) (do_some (de_op (o_add xk.K) (dv 4) de_int)) do_none)) (da_cons (dv 1) da_nil))) da_nil)) (de_call F_many_leads xk (da_cons (dv 2) (da_cons (dv 1) (da_cons (dv 1) da_nil)))) (by rfl)))))))) ?_) (by decide)
  rintro ds R ex hl ⟨n, rfl, hn, hr⟩
  have h15 : 1 ≤ n ∧ n ≤ 5 := by
    simp only [List.mem_cons, List.not_mem_nil, or_false] at hn
    omega
  refine seq_to (fun env' => ∃ m, m ∈ [("rank" : Str), "alike"] ∧ env' = [.val .urn, .val (.int n), .val (.str m), .emp, .emp, .emp]) (fun de' hnx hrt => ?_) (fun env' e => ?_)
  · refine ⟨_, rfl, small (by simp), rfl, _, _, rfl, rfl, by simp, by simp, fun i x hx => ?_⟩
    have hm := List.mem_of_getElem? hx
    simp only [List.mem_cons, List.not_mem_nil, or_false] at hm; rcases hm with rfl | rfl
    · exact hnx _ ⟨_, by simp, rfl⟩
    · exact hnx _ ⟨_, by simp, rfl⟩
  obtain ⟨m, hm2, rfl⟩ := e
  have hm : m ∈ manners := by
    simp only [List.mem_cons, List.not_mem_nil, or_false] at hm2
    rcases hm2 with rfl | rfl <;> decide +kernel
  have ht : m ≠ ("two" : Str) ∧ m ≠ ("order" : Str) := by
    simp only [List.mem_cons, List.not_mem_nil, or_false] at hm2
    rcases hm2 with rfl | rfl <;> decide +kernel
  have hg := fews_row hm h15.1 h15.2
  obtain ⟨-, hs2, hs3⟩ := few_shown hm h15.1 h15.2
  have one : 1 ≤ (fewS m n).length := (hs3 hn).resolve_right ht.2
  refine seq_to (fun env' => env' = [.val .urn, .val (.int n), .val (.str m), .val (.lst ((fewS m n).map rowD)), .emp, .emp]) (fun de' hnx hrt => ?_) (fun env' e => ?_)
  · refine ⟨_, rfl, _, rfl, rfl, m, n, rfl, hm, h15.1, h15.2, fun e => absurd e ht.1, ?_⟩
    refine compL_of (fun r => leadD n r) rowD (fun r _ K hK => ?_) ?_
    · obtain ⟨m1, m2, m3, i1, i2, i3⟩ := fld_lead fo (n := n) (r := r)
      exact ⟨_, rfl, 1, _, _, rfl, m3, i3, hK⟩
    · rw [List.nil_append]; exact hnx _ rfl
  subst e
  refine seq_to (fun env' => ∃ k : Nat, k < (fewS m n).length ∧ env' = [.val .urn, .val (.int n), .val (.str m), .val (.lst ((fewS m n).map rowD)), .val (.int k), .emp]) (fun de' hnx hrt => ?_) (fun env' e => ?_)
  · refine ⟨_, rfl, _, rfl, rfl, _, rfl, by rw [List.length_map]; omega, by rw [List.length_map]; omega, fun v b1 b2 => ?_⟩
    obtain ⟨k, rfl⟩ := Int.eq_ofNat_of_zero_le b1
    rw [List.length_map] at b2
    exact hnx _ ⟨k, by omega, rfl⟩
  obtain ⟨k, hk, rfl⟩ := e
  have lt := less_clos hm2 hn hk
  refine ⟨_, rfl, _, rfl, k, rfl, _, rfl, _, rfl, (k : Int) + 1, rfl, ?_⟩
  have cut : cutD ((fewS m n).map rowD) none (some (k : Int)) ++ cutD ((fewS m n).map rowD) (some ((k : Int) + 1)) none = ((fewS m n).eraseIdx k).map rowD := by
    rw [cut_toN, show cutD ((fewS m n).map rowD) (some ((k : Int) + 1)) none = ((fewS m n).map rowD).drop (k + 1) by rw [show ((k : Int) + 1) = ((k + 1 : Nat) : Int) by omega, cut_fromN], List.eraseIdx_eq_take_drop_succ, List.map_append, List.map_take, List.map_drop]
  have le1 := cut_le (xs := (fewS m n).map rowD) (lo := none) (hi := some (k : Int))
  have le2 := cut_le (xs := (fewS m n).map rowD) (lo := some ((k : Int) + 1)) (hi := none)
  rw [List.length_map] at le1 le2
  refine ⟨small (by omega), ?_⟩
  rw [cut]
  refine ⟨_, rfl, rfl, n, _, rfl, h15.1, h15.2, fun g h => hg g (List.mem_of_mem_eraseIdx h), by rw [List.length_eraseIdx_of_lt hk]; omega, ?_⟩
  refine ⟨_, rfl, _, rfl, _, rfl, rfl, m, n, n, rfl, hm, h15.1, h15.2, h15.1, h15.2, fun e => absurd e ht.1, ?_⟩
  refine ⟨trivial, ?_⟩
  rw [List.length_map]
  dsimp only
  rw [show decide (((closL ((fewS m n).eraseIdx k) n).length : Int) < ((leadRows m n n).length : Int)) = true from decide_eq_true (Int.ofNat_lt.mpr lt)]
  exact hr
end
end Pg
set_option Elab.async false
set_option linter.all false
set_option maxRecDepth 100000
set_option maxHeartbeats 4100000
namespace Pg
open PySem L2 RZ Kn
open PyProof.Rows (envOfC)
section
variable {G : Gd} {P : Program} {w : World} {mg : Str → Option Value} {fa a : Addr} {fd : FuncData} {s₁ : Shared} {ns : List Int}
/-- the facts of the law's callees, over the urn -/
structure Calls (G : Gd) (P : Program) (w : World) (mg : Str → Option Value) (base : Heap) : Prop where
  man : GTup G mg "MANNERS" manners
  pick : Fk G P w mg base 2 "_law_pick" ["pen", "some"] 1 sPick
  draw : Fk G P w mg base 1 "_law_draw" ["pen", "many"] 1 sDraw
  world : Fk G P w mg base 9 "_law_world_right" ["manner", "things"] 0 sWorld
  less : Fk G P w mg base 9 "_law_less_right" ["pen", "things"] 2 sLess
abbrev s_law : Stmt := topS 50
theorem sc_law : FnScope ["script", "pen", "things", "manner"] ["script"] (defScope s_law) := ⟨rfl, rfl, rfl, by decide +kernel, rfl, by decide +kernel, by decide +kernel⟩
theorem ok_law {cd : Addr} (hGu : G.u = none) (F : FunC G.K "law" "law" s_law fa fd cd) (hb : ∀ (s : Shared) (v : Value), BindsTo s fd ⟨[v], []⟩ [("script", v)]) (bn : Bn mg) (hlen : ns.length ≤ 63) (hr : Room 11 callerA)
    (hC : ∀ (q : Addr × Addr) (base : Heap), Calls { G with u := some (q, []) } P w mg base)
    (h0 : ∀ (base : Heap) (H : Hp), Room 10 (callerA.deeper (envOfC "law" (defScope s_law) s₁.heap.objs.size fa (.ref cd))) → PS (cxOf (L2.CX P w) P w G.K mg base ["script", "pen", "things", "manner"] "law" (defScope s_law) fa (.ref cd) callerA [] s₁ H EF) ((defBody s_law).getD 0 (.Pass ⟨0, 0, 0, 0⟩)) (tAsg (tCall (spPen G.K) [] EF (tCons (tVar 0) tNil)) (gName 1))) :
    LawOkT P w G.K mg fa a ns s₁ [] := by
  refine law_of (T := []) nofun hGu F sc_law hb hr (by decide) rfl ?_ hlen h0 (fun p b base H _ rm => have xk := xk_def (G := { G with u := some ((p, b), []) }) (E := EF) rm rfl; have Cc := hC (p, b) base; (ds_cons (ds_for xk po_def (di_seq xk.K (de_lst (da_cons de_int (da_cons de_int (da_cons de_int (da_cons (de_call Cc.pick xk (da_cons (dv 1) (da_cons (de_lst (da_cons de_int (da_cons de_int (da_cons de_int (da_cons de_int da_nil))))) da_nil))) da_nil)))))) (dg_name (i := 2) sc_law.nd rfl (Or.inl rfl)) (ds_one (ds_for xk po_def (di_seq xk.K (de_gtup Cc.man)) (dg_name (i := 3) sc_law.nd rfl (Or.inl rfl)) (ds_one (ds_if (dt_w (dw_and (dt_w (dw_or (dt_cmp (o_ne xk.K xk.u64) (dv 3) de_str (by rfl)) (dw_or1 (dt_cmp (o_gt) (dv 2) de_int (by rfl))))) (dw_and1 (dt_not (dt_val (de_call Cc.world xk (da_cons (dv 3) (da_cons (dv 2) da_nil)))))))) (ds_one (ds_ret de_bl)) ds_nil))))) (ds_cons (ds_set (i := 3) sc_law.nd rfl (Or.inl rfl) (de_call Cc.pick xk (da_cons (dv 1) (da_cons (de_lst (da_cons de_str (da_cons de_str (da_cons de_str (da_cons de_str (da_cons de_str (da_cons de_str (da_cons de_str (da_cons de_str (da_cons de_str (da_cons de_str (da_cons de_str (da_cons de_str (da_cons de_str (da_cons de_str (da_cons de_str da_nil)))))))))))))))) da_nil)))) (ds_one (ds_ret (de_and (de_call Cc.world xk (da_cons (dv 3) (da_cons de_int da_nil))) (de_one (de_call Cc.less xk (da_cons (dv 1) (da_cons (de_op (o_add xk.K) de_int (de_call Cc.draw xk (da_cons (dv 1) (da_cons de_int da_nil)))) da_nil)))))))))) ?_
  · decide
  have two_ok : ("two" : Str) ∈ manners := by decide +kernel
  refine seq_to (fun env' => ∃ s2 s3, env' = [.emp, .val .urn, s2, s3]) (fun de' hnx hrt => ?_) (fun env' e => ?_)
  · refine ⟨_, rfl, small (by simp), rfl, _, _, rfl, rfl, by simp, by simp, fun i x hx => ?_⟩
    have hk : ∃ k : Nat, x = .int k ∧ 1 ≤ k ∧ k ≤ 5 := by
      have hm := List.mem_of_getElem? hx
      simp only [List.mem_cons, List.not_mem_nil, or_false] at hm; rcases hm with rfl | rfl | rfl | rfl
      · exact ⟨4, rfl, by omega, by omega⟩
      · exact ⟨3, rfl, by omega, by omega⟩
      · exact ⟨4, rfl, by omega, by omega⟩
      · exact ⟨2, rfl, by omega, by omega⟩
    obtain ⟨k, rfl, k1, k5⟩ := hk
    refine ⟨small (by simp), ?_⟩
    refine sForL_of (xs := ([1, 2, 3, k] : List Nat)) (fun (m : Nat) => D.int m) (fun i env => ∃ s2 s3, env = [.emp, .val .urn, s2, s3]) ⟨_, _, rfl⟩ (fun i t env hi hI nx hn2 => ?_) (fun env hI => hnx _ hI)
    obtain ⟨s2, s3, rfl⟩ := hI
    have ht : 1 ≤ t ∧ t ≤ 5 := by
      have hm := List.mem_of_getElem? hi; simp only [List.mem_cons, List.not_mem_nil, or_false] at hm
      omega
    unfold tgName sFor iSeq dC
    dsimp only [List.set]
    change sForL _ _ _ _ (manners.map D.str) _
    refine sForL_of (xs := manners) D.str (fun i env => ∃ s3, env = [.emp, .val .urn, .val (.int t), s3]) ⟨_, rfl⟩ (fun j m env hj hI nx2 hn3 => ?_) (fun env hI => ?_)
    · obtain ⟨s3, rfl⟩ := hI
      have hm : m ∈ manners := List.mem_of_getElem? hj
      refine sif_of (x := (!(m == ("two" : Str)) || decide ((1 : Int) < t)) && !true) (tst_and (tst_or (fun K hK => ?_) fun _ K hK => ?_) fun hb K hK => ?_) (fun hb => by simp at hb) fun _ => hn3 _ ⟨_, rfl⟩
      · exact ⟨.str m, rfl, by dsimp only; exact ne_str (man_ok m hm) (man_ok _ two_ok) ⟨_, rfl, hK⟩⟩
      · exact ⟨_, rfl, trivial, _, rfl, hK⟩
      · refine ⟨_, rfl, _, rfl, rfl, m, t, rfl, hm, ht.1, ht.2, fun e => ?_, true, rfl, hK⟩
        rw [e, beq_self_eq_true, Bool.not_true, Bool.false_or, decide_eq_true_iff] at hb
        omega
    · obtain ⟨s3, rfl⟩ := hI
      exact hn2 _ ⟨_, _, rfl⟩
  obtain ⟨s2, s3, rfl⟩ := e
  refine seq_to (fun env' => ∃ m : Str, m ∈ manners ∧ env' = [.emp, .val .urn, s2, .val (.str m)]) (fun de' hnx hrt => ?_) (fun env' e => ?_)
  · refine ⟨_, rfl, small (by simp), rfl, _, _, rfl, rfl, by simp, by simp, fun i x hx => ?_⟩
    have hk : ∃ m : Str, x = .str m ∧ m ∈ manners := by
      have hm := List.mem_of_getElem? hx
      simp only [List.mem_cons, List.not_mem_nil, or_false] at hm; rcases hm with rfl | rfl | rfl | rfl | rfl | rfl | rfl | rfl | rfl | rfl | rfl | rfl | rfl | rfl | rfl
      all_goals exact ⟨_, rfl, by decide +kernel⟩
    obtain ⟨m, rfl, hm⟩ := hk
    exact hnx _ ⟨m, hm, rfl⟩
  obtain ⟨m, hm, rfl⟩ := e
  refine d_and (x := true) (y := true) (fun K hK => ?_) (fun _ K hK => ?_) rfl
  · exact ⟨_, rfl, rfl, m, 5, rfl, hm, by omega, by omega, fun _ => by omega, hK⟩
  · refine ⟨_, rfl, _, rfl, rfl, 3, rfl, by omega, by omega, fun v b1 b2 => ?_⟩
    obtain ⟨k, rfl⟩ := Int.eq_ofNat_of_zero_le b1
    refine ⟨rfl, 3 + k, by rw [Int.natCast_add]; rfl, ?_, hK⟩
    have : k = 0 ∨ k = 1 ∨ k = 2 := by omega
    rcases this with rfl | rfl | rfl <;> simp
end
end Pg
set_option Elab.async false
set_option linter.all false
set_option maxRecDepth 100000
set_option maxHeartbeats 4100000
namespace Pg
open PySem L2 RZ Kn
/-- the classes that the law reaches: their addresses, their fields -/
def clK (a1 a2 : Addr) : Nat → Addr
  | 1 => a1
  | 2 => a2
  | _ => 0
def flK : Nat → List Str
  | 1 => ["begin", "into", "row"]
  | 2 => ["words", "taken"]
  | _ => []
section
variable {K : PySem.W.Frag} {a1 a2 : Addr} {u : Option Ur} {f : Str}
theorem fld_ok (h1 : f ∈ (["begin", "into", "row"] : List Str) → Cls K a1 ∧ NoAttr K a1 f) (h2 : f ∈ (["words", "taken"] : List Str) → Cls K a2 ∧ NoAttr K a2 f) : FldOk ⟨K, clK a1 a2, flK, u⟩ f := ⟨fun c hc => by
  match c with
  | 0 => cases hc
  | 1 => exact h1 hc
  | 2 => exact h2 hc
  | n + 3 => cases hc⟩
theorem flK_nd (c : Nat) : (flK c).Nodup := by
  match c with
  | 0 => exact List.nodup_nil
  | 1 => decide +kernel
  | 2 => decide +kernel
  | n + 3 => exact List.nodup_nil
theorem flK_sm (c : Nat) : (flK c).length ≤ 100 := by
  match c with
  | 0 => exact Nat.zero_le _
  | 1 => decide
  | 2 => decide
  | n + 3 => exact Nat.zero_le _
end
end Pg
set_option Elab.async false
set_option linter.all false
set_option maxRecDepth 100000
set_option maxHeartbeats 4100000
namespace Pg
open PySem PySem.Spec PyProof.Rows L2 Kn
open RZ
theorem close {l : PySem.W.OpenLaw} {w : World} {K : PySem.W.Frag} {h : Heap} {mg : Str → Option Value} {fa a : Addr} {s : Shared} {ns : List Int} (X : K.In h) (Gh : h.Ns mainGlobals mg) (hfa : mg "law" = some (.ref fa)) (hlen : ns.length ≤ 63)
    {C_Lead : Addr}
    {C_Items : Addr}
    {f_law : Addr} {oc_law kV_law dc_law pm_law ct_law : Value} {od_law an_law : Option Addr} {sl_law : Array (Option Value)}
    {cd_law : Addr}
    {f_is_integer : Addr} {oc_is_integer kV_is_integer dc_is_integer pm_is_integer ct_is_integer : Value} {od_is_integer an_is_integer : Option Addr} {sl_is_integer : Array (Option Value)}
    {cd_is_integer : Value}
    {f_are_numbers : Addr} {oc_are_numbers kV_are_numbers dc_are_numbers pm_are_numbers ct_are_numbers : Value} {od_are_numbers an_are_numbers : Option Addr} {sl_are_numbers : Array (Option Value)}
    {cd_are_numbers : Value}
    {f_is_within : Addr} {oc_is_within kV_is_within dc_is_within pm_is_within ct_is_within : Value} {od_is_within an_is_within : Option Addr} {sl_is_within : Array (Option Value)}
    {cd_is_within : Value}
    {f_demand_number : Addr} {oc_demand_number kV_demand_number dc_demand_number pm_demand_number ct_demand_number : Value} {od_demand_number an_demand_number : Option Addr} {sl_demand_number : Array (Option Value)}
    {cd_demand_number : Value}
    {f_demand_world : Addr} {oc_demand_world kV_demand_world dc_demand_world pm_demand_world ct_demand_world : Value} {od_demand_world an_demand_world : Option Addr} {sl_demand_world : Array (Option Value)}
    {cd_demand_world : Value}
    {f_demand_numbers : Addr} {oc_demand_numbers kV_demand_numbers dc_demand_numbers pm_demand_numbers ct_demand_numbers : Value} {od_demand_numbers an_demand_numbers : Option Addr} {sl_demand_numbers : Array (Option Value)}
    {cd_demand_numbers : Value}
    {f_demand_things : Addr} {oc_demand_things kV_demand_things dc_demand_things pm_demand_things ct_demand_things : Value} {od_demand_things an_demand_things : Option Addr} {sl_demand_things : Array (Option Value)}
    {cd_demand_things : Value}
    {f_Lead___init__ : Addr} {oc_Lead___init__ kV_Lead___init__ dc_Lead___init__ pm_Lead___init__ ct_Lead___init__ : Value} {od_Lead___init__ an_Lead___init__ : Option Addr} {sl_Lead___init__ : Array (Option Value)}
    {cd_Lead___init__ : Value}
    {f_all_rows : Addr} {oc_all_rows kV_all_rows dc_all_rows pm_all_rows ct_all_rows : Value} {od_all_rows an_all_rows : Option Addr} {sl_all_rows : Array (Option Value)}
    {cd_all_rows : Value}
    {f_never_falls : Addr} {oc_never_falls kV_never_falls dc_never_falls pm_never_falls ct_never_falls : Value} {od_never_falls an_never_falls : Option Addr} {sl_never_falls : Array (Option Value)}
    {cd_never_falls : Value}
    {f_never_rises : Addr} {oc_never_rises kV_never_rises dc_never_rises pm_never_rises ct_never_rises : Value} {od_never_rises an_never_rises : Option Addr} {sl_never_rises : Array (Option Value)}
    {cd_never_rises : Value}
    {f_rises : Addr} {oc_rises kV_rises dc_rises pm_rises ct_rises : Value} {od_rises an_rises : Option Addr} {sl_rises : Array (Option Value)}
    {cd_rises : Value}
    {f_row_is_of : Addr} {oc_row_is_of kV_row_is_of dc_row_is_of pm_row_is_of ct_row_is_of : Value} {od_row_is_of an_row_is_of : Option Addr} {sl_row_is_of : Array (Option Value)}
    {cd_row_is_of : Value}
    {f_demand_manner : Addr} {oc_demand_manner kV_demand_manner dc_demand_manner pm_demand_manner ct_demand_manner : Value} {od_demand_manner an_demand_manner : Option Addr} {sl_demand_manner : Array (Option Value)}
    {cd_demand_manner : Value}
    {f_demand_two : Addr} {oc_demand_two kV_demand_two dc_demand_two pm_demand_two ct_demand_two : Value} {od_demand_two an_demand_two : Option Addr} {sl_demand_two : Array (Option Value)}
    {cd_demand_two : Value}
    {f_put_row : Addr} {oc_put_row kV_put_row dc_put_row pm_put_row ct_put_row : Value} {od_put_row an_put_row : Option Addr} {sl_put_row : Array (Option Value)}
    {cd_put_row : Value}
    {f_exchange_row : Addr} {oc_exchange_row kV_exchange_row dc_exchange_row pm_exchange_row ct_exchange_row : Value} {od_exchange_row an_exchange_row : Option Addr} {sl_exchange_row : Array (Option Value)}
    {cd_exchange_row : Value}
    {f_candidate_rows : Addr} {oc_candidate_rows kV_candidate_rows dc_candidate_rows pm_candidate_rows ct_candidate_rows : Value} {od_candidate_rows an_candidate_rows : Option Addr} {sl_candidate_rows : Array (Option Value)}
    {cd_candidate_rows : Value}
    {f_few_rows : Addr} {oc_few_rows kV_few_rows dc_few_rows pm_few_rows ct_few_rows : Value} {od_few_rows an_few_rows : Option Addr} {sl_few_rows : Array (Option Value)}
    {cd_few_rows : Value}
    {f_leads : Addr} {oc_leads kV_leads dc_leads pm_leads ct_leads : Value} {od_leads an_leads : Option Addr} {sl_leads : Array (Option Value)}
    {cd_leads : Value}
    {f_many_leads : Addr} {oc_many_leads kV_many_leads dc_many_leads pm_many_leads ct_many_leads : Value} {od_many_leads an_many_leads : Option Addr} {sl_many_leads : Array (Option Value)}
    {cd_many_leads : Value}
    {f_few_leads : Addr} {oc_few_leads kV_few_leads dc_few_leads pm_few_leads ct_few_leads : Value} {od_few_leads an_few_leads : Option Addr} {sl_few_leads : Array (Option Value)}
    {cd_few_leads : Value}
    {f_law_pen : Addr} {oc_law_pen kV_law_pen dc_law_pen pm_law_pen ct_law_pen : Value} {od_law_pen an_law_pen : Option Addr} {sl_law_pen : Array (Option Value)}
    {cd_law_pen : Value}
    {f_law_draw : Addr} {oc_law_draw kV_law_draw dc_law_draw pm_law_draw ct_law_draw : Value} {od_law_draw an_law_draw : Option Addr} {sl_law_draw : Array (Option Value)}
    {cd_law_draw : Value}
    {f_law_pick : Addr} {oc_law_pick kV_law_pick dc_law_pick pm_law_pick ct_law_pick : Value} {od_law_pick an_law_pick : Option Addr} {sl_law_pick : Array (Option Value)}
    {cd_law_pick : Value}
    {f_law_is : Addr} {oc_law_is kV_law_is dc_law_is pm_law_is ct_law_is : Value} {od_law_is an_law_is : Option Addr} {sl_law_is : Array (Option Value)}
    {cd_law_is : Value}
    {f_law_few : Addr} {oc_law_few kV_law_few dc_law_few pm_law_few ct_law_few : Value} {od_law_few an_law_few : Option Addr} {sl_law_few : Array (Option Value)}
    {cd_law_few : Value}
    {f_law_closed : Addr} {oc_law_closed kV_law_closed dc_law_closed pm_law_closed ct_law_closed : Value} {od_law_closed an_law_closed : Option Addr} {sl_law_closed : Array (Option Value)}
    {cd_law_closed : Value}
    {f_law_world_right : Addr} {oc_law_world_right kV_law_world_right dc_law_world_right pm_law_world_right ct_law_world_right : Value} {od_law_world_right an_law_world_right : Option Addr} {sl_law_world_right : Array (Option Value)}
    {cd_law_world_right : Value}
    {f_law_less_right : Addr} {oc_law_less_right kV_law_less_right dc_law_less_right pm_law_less_right ct_law_less_right : Value} {od_law_less_right an_law_less_right : Option Addr} {sl_law_less_right : Array (Option Value)}
    {cd_law_less_right : Value}
    {t_MOST_THINGS : Tok}
    {a_MANNERS : Addr}
    (aC_Lead : PySem.W.nsIn K mainGlobals "Lead" = some (some (.ref C_Lead)))
    (pg_Lead : PySem.W.plainGet K C_Lead Str.empty = true)
    (hd_Lead : PySem.W.hasDictIn K C_Lead = true)
    (po_Lead : PySem.W.plainOver K C_Lead = true)
    (sa_Lead : PySem.W.findIn K (.ref C_Lead) "__setattr__" = some (some (.builtin "object.__setattr__")))
    (mk_Lead : PySem.W.makesIn K C_Lead = true)
    (kc_Lead : PySem.W.keepIn K (.ref C_Lead) = true)
    (n_Lead_begin : PySem.W.findIn K (.ref C_Lead) "begin" = some none)
    (n_Lead_into : PySem.W.findIn K (.ref C_Lead) "into" = some none)
    (n_Lead_row : PySem.W.findIn K (.ref C_Lead) "row" = some none)
    (aC_Items : PySem.W.nsIn K mainGlobals "Items" = some (some (.ref C_Items)))
    (pg_Items : PySem.W.plainGet K C_Items Str.empty = true)
    (hd_Items : PySem.W.hasDictIn K C_Items = true)
    (po_Items : PySem.W.plainOver K C_Items = true)
    (sa_Items : PySem.W.findIn K (.ref C_Items) "__setattr__" = some (some (.builtin "object.__setattr__")))
    (mk_Items : PySem.W.makesIn K C_Items = true)
    (kc_Items : PySem.W.keepIn K (.ref C_Items) = true)
    (n_Items_words : PySem.W.findIn K (.ref C_Items) "words" = some none)
    (n_Items_taken : PySem.W.findIn K (.ref C_Items) "taken" = some none)
    (a_law : PySem.W.nsIn K mainGlobals "law" = some (some (.ref f_law)))
    (l_law : K.lookup f_law = some ⟨oc_law, od_law, .func (PySem.W.fnOf "law" "law" (defArgs (topS 50)) (defBody (topS 50)) (defScope (topS 50)) .none kV_law dc_law pm_law an_law (.ref cd_law) ct_law), sl_law⟩)
    (c_law : PySem.W.codeIn K (.ref cd_law) "law" = true)
    (k_law : PySem.W.keepIn K (.ref f_law) = true)
    (a_is_integer : PySem.W.nsIn K mainGlobals "is_integer" = some (some (.ref f_is_integer)))
    (l_is_integer : K.lookup f_is_integer = some ⟨oc_is_integer, od_is_integer, .func (PySem.W.fnOf "is_integer" "is_integer" (defArgs (topS 2)) (defBody (topS 2)) (defScope (topS 2)) .none kV_is_integer dc_is_integer pm_is_integer an_is_integer cd_is_integer ct_is_integer), sl_is_integer⟩)
    (c_is_integer : PySem.W.codeIn K cd_is_integer "is_integer" = true)
    (k_is_integer : PySem.W.keepIn K (.ref f_is_integer) = true)
    (a_are_numbers : PySem.W.nsIn K mainGlobals "are_numbers" = some (some (.ref f_are_numbers)))
    (l_are_numbers : K.lookup f_are_numbers = some ⟨oc_are_numbers, od_are_numbers, .func (PySem.W.fnOf "are_numbers" "are_numbers" (defArgs (topS 4)) (defBody (topS 4)) (defScope (topS 4)) .none kV_are_numbers dc_are_numbers pm_are_numbers an_are_numbers cd_are_numbers ct_are_numbers), sl_are_numbers⟩)
    (c_are_numbers : PySem.W.codeIn K cd_are_numbers "are_numbers" = true)
    (k_are_numbers : PySem.W.keepIn K (.ref f_are_numbers) = true)
    (a_is_within : PySem.W.nsIn K mainGlobals "is_within" = some (some (.ref f_is_within)))
    (l_is_within : K.lookup f_is_within = some ⟨oc_is_within, od_is_within, .func (PySem.W.fnOf "is_within" "is_within" (defArgs (topS 3)) (defBody (topS 3)) (defScope (topS 3)) .none kV_is_within dc_is_within pm_is_within an_is_within cd_is_within ct_is_within), sl_is_within⟩)
    (c_is_within : PySem.W.codeIn K cd_is_within "is_within" = true)
    (k_is_within : PySem.W.keepIn K (.ref f_is_within) = true)
    (a_demand_number : PySem.W.nsIn K mainGlobals "demand_number" = some (some (.ref f_demand_number)))
    (l_demand_number : K.lookup f_demand_number = some ⟨oc_demand_number, od_demand_number, .func (PySem.W.fnOf "demand_number" "demand_number" (defArgs (topS 15)) (defBody (topS 15)) (defScope (topS 15)) .none kV_demand_number dc_demand_number pm_demand_number an_demand_number cd_demand_number ct_demand_number), sl_demand_number⟩)
    (c_demand_number : PySem.W.codeIn K cd_demand_number "demand_number" = true)
    (k_demand_number : PySem.W.keepIn K (.ref f_demand_number) = true)
    (a_demand_world : PySem.W.nsIn K mainGlobals "demand_world" = some (some (.ref f_demand_world)))
    (l_demand_world : K.lookup f_demand_world = some ⟨oc_demand_world, od_demand_world, .func (PySem.W.fnOf "demand_world" "demand_world" (defArgs (topS 16)) (defBody (topS 16)) (defScope (topS 16)) .none kV_demand_world dc_demand_world pm_demand_world an_demand_world cd_demand_world ct_demand_world), sl_demand_world⟩)
    (c_demand_world : PySem.W.codeIn K cd_demand_world "demand_world" = true)
    (k_demand_world : PySem.W.keepIn K (.ref f_demand_world) = true)
    (a_demand_numbers : PySem.W.nsIn K mainGlobals "demand_numbers" = some (some (.ref f_demand_numbers)))
    (l_demand_numbers : K.lookup f_demand_numbers = some ⟨oc_demand_numbers, od_demand_numbers, .func (PySem.W.fnOf "demand_numbers" "demand_numbers" (defArgs (topS 17)) (defBody (topS 17)) (defScope (topS 17)) .none kV_demand_numbers dc_demand_numbers pm_demand_numbers an_demand_numbers cd_demand_numbers ct_demand_numbers), sl_demand_numbers⟩)
    (c_demand_numbers : PySem.W.codeIn K cd_demand_numbers "demand_numbers" = true)
    (k_demand_numbers : PySem.W.keepIn K (.ref f_demand_numbers) = true)
    (a_demand_things : PySem.W.nsIn K mainGlobals "demand_things" = some (some (.ref f_demand_things)))
    (l_demand_things : K.lookup f_demand_things = some ⟨oc_demand_things, od_demand_things, .func (PySem.W.fnOf "demand_things" "demand_things" (defArgs (topS 18)) (defBody (topS 18)) (defScope (topS 18)) .none kV_demand_things dc_demand_things pm_demand_things an_demand_things cd_demand_things ct_demand_things), sl_demand_things⟩)
    (c_demand_things : PySem.W.codeIn K cd_demand_things "demand_things" = true)
    (k_demand_things : PySem.W.keepIn K (.ref f_demand_things) = true)
    (a_Lead___init__ : PySem.W.findIn K (.ref C_Lead) "__init__" = some (some (.ref f_Lead___init__)))
    (i_Lead___init__ : PySem.W.isFn K (.ref f_Lead___init__) = true)
    (l_Lead___init__ : K.lookup f_Lead___init__ = some ⟨oc_Lead___init__, od_Lead___init__, .func (PySem.W.fnOf "__init__" "Lead.__init__" (defArgs (inClass (topS 23) 0)) (defBody (inClass (topS 23) 0)) (defScope (inClass (topS 23) 0)) .none kV_Lead___init__ dc_Lead___init__ pm_Lead___init__ an_Lead___init__ cd_Lead___init__ ct_Lead___init__), sl_Lead___init__⟩)
    (c_Lead___init__ : PySem.W.codeIn K cd_Lead___init__ "Lead.__init__" = true)
    (k_Lead___init__ : PySem.W.keepIn K (.ref f_Lead___init__) = true)
    (a_all_rows : PySem.W.nsIn K mainGlobals "all_rows" = some (some (.ref f_all_rows)))
    (l_all_rows : K.lookup f_all_rows = some ⟨oc_all_rows, od_all_rows, .func (PySem.W.fnOf "all_rows" "all_rows" (defArgs (topS 25)) (defBody (topS 25)) (defScope (topS 25)) .none kV_all_rows dc_all_rows pm_all_rows an_all_rows cd_all_rows ct_all_rows), sl_all_rows⟩)
    (c_all_rows : PySem.W.codeIn K cd_all_rows "all_rows" = true)
    (k_all_rows : PySem.W.keepIn K (.ref f_all_rows) = true)
    (a_never_falls : PySem.W.nsIn K mainGlobals "never_falls" = some (some (.ref f_never_falls)))
    (l_never_falls : K.lookup f_never_falls = some ⟨oc_never_falls, od_never_falls, .func (PySem.W.fnOf "never_falls" "never_falls" (defArgs (topS 30)) (defBody (topS 30)) (defScope (topS 30)) .none kV_never_falls dc_never_falls pm_never_falls an_never_falls cd_never_falls ct_never_falls), sl_never_falls⟩)
    (c_never_falls : PySem.W.codeIn K cd_never_falls "never_falls" = true)
    (k_never_falls : PySem.W.keepIn K (.ref f_never_falls) = true)
    (a_never_rises : PySem.W.nsIn K mainGlobals "never_rises" = some (some (.ref f_never_rises)))
    (l_never_rises : K.lookup f_never_rises = some ⟨oc_never_rises, od_never_rises, .func (PySem.W.fnOf "never_rises" "never_rises" (defArgs (topS 31)) (defBody (topS 31)) (defScope (topS 31)) .none kV_never_rises dc_never_rises pm_never_rises an_never_rises cd_never_rises ct_never_rises), sl_never_rises⟩)
    (c_never_rises : PySem.W.codeIn K cd_never_rises "never_rises" = true)
    (k_never_rises : PySem.W.keepIn K (.ref f_never_rises) = true)
    (a_rises : PySem.W.nsIn K mainGlobals "rises" = some (some (.ref f_rises)))
    (l_rises : K.lookup f_rises = some ⟨oc_rises, od_rises, .func (PySem.W.fnOf "rises" "rises" (defArgs (topS 32)) (defBody (topS 32)) (defScope (topS 32)) .none kV_rises dc_rises pm_rises an_rises cd_rises ct_rises), sl_rises⟩)
    (c_rises : PySem.W.codeIn K cd_rises "rises" = true)
    (k_rises : PySem.W.keepIn K (.ref f_rises) = true)
    (a_row_is_of : PySem.W.nsIn K mainGlobals "row_is_of" = some (some (.ref f_row_is_of)))
    (l_row_is_of : K.lookup f_row_is_of = some ⟨oc_row_is_of, od_row_is_of, .func (PySem.W.fnOf "row_is_of" "row_is_of" (defArgs (topS 33)) (defBody (topS 33)) (defScope (topS 33)) .none kV_row_is_of dc_row_is_of pm_row_is_of an_row_is_of cd_row_is_of ct_row_is_of), sl_row_is_of⟩)
    (c_row_is_of : PySem.W.codeIn K cd_row_is_of "row_is_of" = true)
    (k_row_is_of : PySem.W.keepIn K (.ref f_row_is_of) = true)
    (a_demand_manner : PySem.W.nsIn K mainGlobals "demand_manner" = some (some (.ref f_demand_manner)))
    (l_demand_manner : K.lookup f_demand_manner = some ⟨oc_demand_manner, od_demand_manner, .func (PySem.W.fnOf "demand_manner" "demand_manner" (defArgs (topS 28)) (defBody (topS 28)) (defScope (topS 28)) .none kV_demand_manner dc_demand_manner pm_demand_manner an_demand_manner cd_demand_manner ct_demand_manner), sl_demand_manner⟩)
    (c_demand_manner : PySem.W.codeIn K cd_demand_manner "demand_manner" = true)
    (k_demand_manner : PySem.W.keepIn K (.ref f_demand_manner) = true)
    (a_demand_two : PySem.W.nsIn K mainGlobals "demand_two" = some (some (.ref f_demand_two)))
    (l_demand_two : K.lookup f_demand_two = some ⟨oc_demand_two, od_demand_two, .func (PySem.W.fnOf "demand_two" "demand_two" (defArgs (topS 29)) (defBody (topS 29)) (defScope (topS 29)) .none kV_demand_two dc_demand_two pm_demand_two an_demand_two cd_demand_two ct_demand_two), sl_demand_two⟩)
    (c_demand_two : PySem.W.codeIn K cd_demand_two "demand_two" = true)
    (k_demand_two : PySem.W.keepIn K (.ref f_demand_two) = true)
    (a_put_row : PySem.W.nsIn K mainGlobals "put_row" = some (some (.ref f_put_row)))
    (l_put_row : K.lookup f_put_row = some ⟨oc_put_row, od_put_row, .func (PySem.W.fnOf "put_row" "put_row" (defArgs (topS 36)) (defBody (topS 36)) (defScope (topS 36)) .none kV_put_row dc_put_row pm_put_row an_put_row cd_put_row ct_put_row), sl_put_row⟩)
    (c_put_row : PySem.W.codeIn K cd_put_row "put_row" = true)
    (k_put_row : PySem.W.keepIn K (.ref f_put_row) = true)
    (a_exchange_row : PySem.W.nsIn K mainGlobals "exchange_row" = some (some (.ref f_exchange_row)))
    (l_exchange_row : K.lookup f_exchange_row = some ⟨oc_exchange_row, od_exchange_row, .func (PySem.W.fnOf "exchange_row" "exchange_row" (defArgs (topS 37)) (defBody (topS 37)) (defScope (topS 37)) .none kV_exchange_row dc_exchange_row pm_exchange_row an_exchange_row cd_exchange_row ct_exchange_row), sl_exchange_row⟩)
    (c_exchange_row : PySem.W.codeIn K cd_exchange_row "exchange_row" = true)
    (k_exchange_row : PySem.W.keepIn K (.ref f_exchange_row) = true)
    (a_candidate_rows : PySem.W.nsIn K mainGlobals "candidate_rows" = some (some (.ref f_candidate_rows)))
    (l_candidate_rows : K.lookup f_candidate_rows = some ⟨oc_candidate_rows, od_candidate_rows, .func (PySem.W.fnOf "candidate_rows" "candidate_rows" (defArgs (topS 38)) (defBody (topS 38)) (defScope (topS 38)) .none kV_candidate_rows dc_candidate_rows pm_candidate_rows an_candidate_rows cd_candidate_rows ct_candidate_rows), sl_candidate_rows⟩)
    (c_candidate_rows : PySem.W.codeIn K cd_candidate_rows "candidate_rows" = true)
    (k_candidate_rows : PySem.W.keepIn K (.ref f_candidate_rows) = true)
    (a_few_rows : PySem.W.nsIn K mainGlobals "few_rows" = some (some (.ref f_few_rows)))
    (l_few_rows : K.lookup f_few_rows = some ⟨oc_few_rows, od_few_rows, .func (PySem.W.fnOf "few_rows" "few_rows" (defArgs (topS 39)) (defBody (topS 39)) (defScope (topS 39)) .none kV_few_rows dc_few_rows pm_few_rows an_few_rows cd_few_rows ct_few_rows), sl_few_rows⟩)
    (c_few_rows : PySem.W.codeIn K cd_few_rows "few_rows" = true)
    (k_few_rows : PySem.W.keepIn K (.ref f_few_rows) = true)
    (a_leads : PySem.W.nsIn K mainGlobals "leads" = some (some (.ref f_leads)))
    (l_leads : K.lookup f_leads = some ⟨oc_leads, od_leads, .func (PySem.W.fnOf "leads" "leads" (defArgs (topS 34)) (defBody (topS 34)) (defScope (topS 34)) .none kV_leads dc_leads pm_leads an_leads cd_leads ct_leads), sl_leads⟩)
    (c_leads : PySem.W.codeIn K cd_leads "leads" = true)
    (k_leads : PySem.W.keepIn K (.ref f_leads) = true)
    (a_many_leads : PySem.W.nsIn K mainGlobals "many_leads" = some (some (.ref f_many_leads)))
    (l_many_leads : K.lookup f_many_leads = some ⟨oc_many_leads, od_many_leads, .func (PySem.W.fnOf "many_leads" "many_leads" (defArgs (topS 35)) (defBody (topS 35)) (defScope (topS 35)) .none kV_many_leads dc_many_leads pm_many_leads an_many_leads cd_many_leads ct_many_leads), sl_many_leads⟩)
    (c_many_leads : PySem.W.codeIn K cd_many_leads "many_leads" = true)
    (k_many_leads : PySem.W.keepIn K (.ref f_many_leads) = true)
    (a_few_leads : PySem.W.nsIn K mainGlobals "few_leads" = some (some (.ref f_few_leads)))
    (l_few_leads : K.lookup f_few_leads = some ⟨oc_few_leads, od_few_leads, .func (PySem.W.fnOf "few_leads" "few_leads" (defArgs (topS 40)) (defBody (topS 40)) (defScope (topS 40)) .none kV_few_leads dc_few_leads pm_few_leads an_few_leads cd_few_leads ct_few_leads), sl_few_leads⟩)
    (c_few_leads : PySem.W.codeIn K cd_few_leads "few_leads" = true)
    (k_few_leads : PySem.W.keepIn K (.ref f_few_leads) = true)
    (a_law_pen : PySem.W.nsIn K mainGlobals "_law_pen" = some (some (.ref f_law_pen)))
    (l_law_pen : K.lookup f_law_pen = some ⟨oc_law_pen, od_law_pen, .func (PySem.W.fnOf "_law_pen" "_law_pen" (defArgs (topS 42)) (defBody (topS 42)) (defScope (topS 42)) .none kV_law_pen dc_law_pen pm_law_pen an_law_pen cd_law_pen ct_law_pen), sl_law_pen⟩)
    (c_law_pen : PySem.W.codeIn K cd_law_pen "_law_pen" = true)
    (k_law_pen : PySem.W.keepIn K (.ref f_law_pen) = true)
    (a_law_draw : PySem.W.nsIn K mainGlobals "_law_draw" = some (some (.ref f_law_draw)))
    (l_law_draw : K.lookup f_law_draw = some ⟨oc_law_draw, od_law_draw, .func (PySem.W.fnOf "_law_draw" "_law_draw" (defArgs (topS 43)) (defBody (topS 43)) (defScope (topS 43)) .none kV_law_draw dc_law_draw pm_law_draw an_law_draw cd_law_draw ct_law_draw), sl_law_draw⟩)
    (c_law_draw : PySem.W.codeIn K cd_law_draw "_law_draw" = true)
    (k_law_draw : PySem.W.keepIn K (.ref f_law_draw) = true)
    (a_law_pick : PySem.W.nsIn K mainGlobals "_law_pick" = some (some (.ref f_law_pick)))
    (l_law_pick : K.lookup f_law_pick = some ⟨oc_law_pick, od_law_pick, .func (PySem.W.fnOf "_law_pick" "_law_pick" (defArgs (topS 44)) (defBody (topS 44)) (defScope (topS 44)) .none kV_law_pick dc_law_pick pm_law_pick an_law_pick cd_law_pick ct_law_pick), sl_law_pick⟩)
    (c_law_pick : PySem.W.codeIn K cd_law_pick "_law_pick" = true)
    (k_law_pick : PySem.W.keepIn K (.ref f_law_pick) = true)
    (a_law_is : PySem.W.nsIn K mainGlobals "_law_is" = some (some (.ref f_law_is)))
    (l_law_is : K.lookup f_law_is = some ⟨oc_law_is, od_law_is, .func (PySem.W.fnOf "_law_is" "_law_is" (defArgs (topS 45)) (defBody (topS 45)) (defScope (topS 45)) .none kV_law_is dc_law_is pm_law_is an_law_is cd_law_is ct_law_is), sl_law_is⟩)
    (c_law_is : PySem.W.codeIn K cd_law_is "_law_is" = true)
    (k_law_is : PySem.W.keepIn K (.ref f_law_is) = true)
    (a_law_few : PySem.W.nsIn K mainGlobals "_law_few" = some (some (.ref f_law_few)))
    (l_law_few : K.lookup f_law_few = some ⟨oc_law_few, od_law_few, .func (PySem.W.fnOf "_law_few" "_law_few" (defArgs (topS 46)) (defBody (topS 46)) (defScope (topS 46)) .none kV_law_few dc_law_few pm_law_few an_law_few cd_law_few ct_law_few), sl_law_few⟩)
    (c_law_few : PySem.W.codeIn K cd_law_few "_law_few" = true)
    (k_law_few : PySem.W.keepIn K (.ref f_law_few) = true)
    (a_law_closed : PySem.W.nsIn K mainGlobals "_law_closed" = some (some (.ref f_law_closed)))
    (l_law_closed : K.lookup f_law_closed = some ⟨oc_law_closed, od_law_closed, .func (PySem.W.fnOf "_law_closed" "_law_closed" (defArgs (topS 47)) (defBody (topS 47)) (defScope (topS 47)) .none kV_law_closed dc_law_closed pm_law_closed an_law_closed cd_law_closed ct_law_closed), sl_law_closed⟩)
    (c_law_closed : PySem.W.codeIn K cd_law_closed "_law_closed" = true)
    (k_law_closed : PySem.W.keepIn K (.ref f_law_closed) = true)
    (a_law_world_right : PySem.W.nsIn K mainGlobals "_law_world_right" = some (some (.ref f_law_world_right)))
    (l_law_world_right : K.lookup f_law_world_right = some ⟨oc_law_world_right, od_law_world_right, .func (PySem.W.fnOf "_law_world_right" "_law_world_right" (defArgs (topS 48)) (defBody (topS 48)) (defScope (topS 48)) .none kV_law_world_right dc_law_world_right pm_law_world_right an_law_world_right cd_law_world_right ct_law_world_right), sl_law_world_right⟩)
    (c_law_world_right : PySem.W.codeIn K cd_law_world_right "_law_world_right" = true)
    (k_law_world_right : PySem.W.keepIn K (.ref f_law_world_right) = true)
    (a_law_less_right : PySem.W.nsIn K mainGlobals "_law_less_right" = some (some (.ref f_law_less_right)))
    (l_law_less_right : K.lookup f_law_less_right = some ⟨oc_law_less_right, od_law_less_right, .func (PySem.W.fnOf "_law_less_right" "_law_less_right" (defArgs (topS 49)) (defBody (topS 49)) (defScope (topS 49)) .none kV_law_less_right dc_law_less_right pm_law_less_right an_law_less_right cd_law_less_right ct_law_less_right), sl_law_less_right⟩)
    (c_law_less_right : PySem.W.codeIn K cd_law_less_right "_law_less_right" = true)
    (k_law_less_right : PySem.W.keepIn K (.ref f_law_less_right) = true)
    (v_MOST_THINGS : PySem.W.nsIn K mainGlobals "MOST_THINGS" = some (some (.int 5 t_MOST_THINGS)))
    (aM_MANNERS : PySem.W.nsIn K mainGlobals "MANNERS" = some (some (.ref a_MANNERS)))
    (gK_MANNERS : Kn.KTup K a_MANNERS (manners.map V.str))
    (z_len : PySem.W.nsIn K mainGlobals "len" = some none)
    (z_all : PySem.W.nsIn K mainGlobals "all" = some none)
    (z_any : PySem.W.nsIn K mainGlobals "any" = some none)
    (z_isinstance : PySem.W.nsIn K mainGlobals "isinstance" = some none)
    (z_int : PySem.W.nsIn K mainGlobals "int" = some none)
    (z_bool : PySem.W.nsIn K mainGlobals "bool" = some none)
    (z_list : PySem.W.nsIn K mainGlobals "list" = some none)
    (z_tuple : PySem.W.nsIn K mainGlobals "tuple" = some none)
    (z_str : PySem.W.nsIn K mainGlobals "str" = some none)
    (z_range : PySem.W.nsIn K mainGlobals "range" = some none)
    (z_zip : PySem.W.nsIn K mainGlobals "zip" = some none)
    (z_sorted : PySem.W.nsIn K mainGlobals "sorted" = some none)
    (z_type : PySem.W.nsIn K mainGlobals "type" = some none)
    (z_max : PySem.W.nsIn K mainGlobals "max" = some none)
    (z_min : PySem.W.nsIn K mainGlobals "min" = some none)
    (z_abs : PySem.W.nsIn K mainGlobals "abs" = some none)
    (z_repr : PySem.W.nsIn K mainGlobals "repr" = some none)
    (z_set : PySem.W.nsIn K mainGlobals "set" = some none)
    (z_enumerate : PySem.W.nsIn K mainGlobals "enumerate" = some none)
    (z_dict : PySem.W.nsIn K mainGlobals "dict" = some none)
    (z_sum : PySem.W.nsIn K mainGlobals "sum" = some none) :
    LawOkT l.prog w K mg fa a ns s [] := by
  cases hfa.symm.trans (PySem.W.mg_of X Gh a_law)
  have F_law := fun_mk (st := (topS 50)) l_law c_law k_law
  have FC_law : FunC K "law" "law" (topS 50) _ _ cd_law := ⟨⟨_, _, _, _, _, _, _, _, rfl, l_law, c_law⟩, k_law⟩
  have b_law := F_law.binds (ps := ["script"]) fun _ _ _ _ _ _ us hl => match us, hl with | [_], _ => rfl
  have F_is_integer := fun_mk (st := (topS 2)) l_is_integer c_is_integer k_is_integer
  have b_is_integer := F_is_integer.binds (ps := ["value"]) fun _ _ _ _ _ _ us hl => match us, hl with | [_], _ => rfl
  have F_are_numbers := fun_mk (st := (topS 4)) l_are_numbers c_are_numbers k_are_numbers
  have b_are_numbers := F_are_numbers.binds (ps := ["value"]) fun _ _ _ _ _ _ us hl => match us, hl with | [_], _ => rfl
  have F_is_within := fun_mk (st := (topS 3)) l_is_within c_is_within k_is_within
  have b_is_within := F_is_within.binds (ps := ["value", "least", "most"]) fun _ _ _ _ _ _ us hl => match us, hl with | [_, _, _], _ => rfl
  have F_demand_number := fun_mk (st := (topS 15)) l_demand_number c_demand_number k_demand_number
  have b_demand_number := F_demand_number.binds (ps := ["value", "least", "most", "part"]) fun _ _ _ _ _ _ us hl => match us, hl with | [_, _, _, _], _ => rfl
  have F_demand_world := fun_mk (st := (topS 16)) l_demand_world c_demand_world k_demand_world
  have b_demand_world := F_demand_world.binds (ps := ["things", "part"]) fun _ _ _ _ _ _ us hl => match us, hl with | [_, _], _ => rfl
  have F_demand_numbers := fun_mk (st := (topS 17)) l_demand_numbers c_demand_numbers k_demand_numbers
  have b_demand_numbers := F_demand_numbers.binds (ps := ["values", "part"]) fun _ _ _ _ _ _ us hl => match us, hl with | [_, _], _ => rfl
  have F_demand_things := fun_mk (st := (topS 18)) l_demand_things c_demand_things k_demand_things
  have b_demand_things := F_demand_things.binds (ps := ["values", "things"]) fun _ _ _ _ _ _ us hl => match us, hl with | [_, _], _ => rfl
  have F_Lead___init__ := fun_mk (st := (inClass (topS 23) 0)) l_Lead___init__ c_Lead___init__ k_Lead___init__
  have b_Lead___init__ := F_Lead___init__.binds (ps := ["self", "into", "row"]) fun _ _ _ _ _ _ us hl => match us, hl with | [_, _, _], _ => rfl
  have F_all_rows := fun_mk (st := (topS 25)) l_all_rows c_all_rows k_all_rows
  have b_all_rows := F_all_rows.binds (ps := ["things", "many"]) fun _ _ _ _ _ _ us hl => match us, hl with | [_, _], _ => rfl
  have F_never_falls := fun_mk (st := (topS 30)) l_never_falls c_never_falls k_never_falls
  have b_never_falls := F_never_falls.binds (ps := ["row"]) fun _ _ _ _ _ _ us hl => match us, hl with | [_], _ => rfl
  have F_never_rises := fun_mk (st := (topS 31)) l_never_rises c_never_rises k_never_rises
  have b_never_rises := F_never_rises.binds (ps := ["row"]) fun _ _ _ _ _ _ us hl => match us, hl with | [_], _ => rfl
  have F_rises := fun_mk (st := (topS 32)) l_rises c_rises k_rises
  have b_rises := F_rises.binds (ps := ["row"]) fun _ _ _ _ _ _ us hl => match us, hl with | [_], _ => rfl
  have F_row_is_of := fun_mk (st := (topS 33)) l_row_is_of c_row_is_of k_row_is_of
  have b_row_is_of := F_row_is_of.binds (ps := ["row", "into", "manner"]) fun _ _ _ _ _ _ us hl => match us, hl with | [_, _, _], _ => rfl
  have F_demand_manner := fun_mk (st := (topS 28)) l_demand_manner c_demand_manner k_demand_manner
  have b_demand_manner := F_demand_manner.binds (ps := ["manner", "part"]) fun _ _ _ _ _ _ us hl => match us, hl with | [_, _], _ => rfl
  have F_demand_two := fun_mk (st := (topS 29)) l_demand_two c_demand_two k_demand_two
  have b_demand_two := F_demand_two.binds (ps := ["manner", "worlds"]) fun _ _ _ _ _ _ us hl => match us, hl with | [_, _], _ => rfl
  have F_put_row := fun_mk (st := (topS 36)) l_put_row c_put_row k_put_row
  have b_put_row := F_put_row.binds (ps := ["things", "thing", "other"]) fun _ _ _ _ _ _ us hl => match us, hl with | [_, _, _], _ => rfl
  have F_exchange_row := fun_mk (st := (topS 37)) l_exchange_row c_exchange_row k_exchange_row
  have b_exchange_row := F_exchange_row.binds (ps := ["things", "thing", "other"]) fun _ _ _ _ _ _ us hl => match us, hl with | [_, _, _], _ => rfl
  have F_candidate_rows := fun_mk (st := (topS 38)) l_candidate_rows c_candidate_rows k_candidate_rows
  have b_candidate_rows := F_candidate_rows.binds (ps := ["manner", "things"]) fun _ _ _ _ _ _ us hl => match us, hl with | [_, _], _ => rfl
  have F_few_rows := fun_mk (st := (topS 39)) l_few_rows c_few_rows k_few_rows
  have b_few_rows := F_few_rows.binds (ps := ["manner", "things"]) fun _ _ _ _ _ _ us hl => match us, hl with | [_, _], _ => rfl
  have F_leads := fun_mk (st := (topS 34)) l_leads c_leads k_leads
  have b_leads := F_leads.binds (ps := ["manner", "begin", "into"]) fun _ _ _ _ _ _ us hl => match us, hl with | [_, _, _], _ => rfl
  have F_many_leads := fun_mk (st := (topS 35)) l_many_leads c_many_leads k_many_leads
  have b_many_leads := F_many_leads.binds (ps := ["manner", "begin", "into"]) fun _ _ _ _ _ _ us hl => match us, hl with | [_, _, _], _ => rfl
  have F_few_leads := fun_mk (st := (topS 40)) l_few_leads c_few_leads k_few_leads
  have b_few_leads := F_few_leads.binds (ps := ["manner", "things"]) fun _ _ _ _ _ _ us hl => match us, hl with | [_, _], _ => rfl
  have F_law_pen := fun_mk (st := (topS 42)) l_law_pen c_law_pen k_law_pen
  have b_law_pen := F_law_pen.binds (ps := ["script"]) fun _ _ _ _ _ _ us hl => match us, hl with | [_], _ => rfl
  have F_law_draw := fun_mk (st := (topS 43)) l_law_draw c_law_draw k_law_draw
  have b_law_draw := F_law_draw.binds (ps := ["pen", "many"]) fun _ _ _ _ _ _ us hl => match us, hl with | [_, _], _ => rfl
  have F_law_pick := fun_mk (st := (topS 44)) l_law_pick c_law_pick k_law_pick
  have b_law_pick := F_law_pick.binds (ps := ["pen", "some"]) fun _ _ _ _ _ _ us hl => match us, hl with | [_, _], _ => rfl
  have F_law_is := fun_mk (st := (topS 45)) l_law_is c_law_is k_law_is
  have b_law_is := F_law_is.binds (ps := ["manner", "row", "into"]) fun _ _ _ _ _ _ us hl => match us, hl with | [_, _, _], _ => rfl
  have F_law_few := fun_mk (st := (topS 46)) l_law_few c_law_few k_law_few
  have b_law_few := F_law_few.binds (ps := ["manner", "things"]) fun _ _ _ _ _ _ us hl => match us, hl with | [_, _], _ => rfl
  have F_law_closed := fun_mk (st := (topS 47)) l_law_closed c_law_closed k_law_closed
  have b_law_closed := F_law_closed.binds (ps := ["rows", "things"]) fun _ _ _ _ _ _ us hl => match us, hl with | [_, _], _ => rfl
  have F_law_world_right := fun_mk (st := (topS 48)) l_law_world_right c_law_world_right k_law_world_right
  have b_law_world_right := F_law_world_right.binds (ps := ["manner", "things"]) fun _ _ _ _ _ _ us hl => match us, hl with | [_, _], _ => rfl
  have F_law_less_right := fun_mk (st := (topS 49)) l_law_less_right c_law_less_right k_law_less_right
  have b_law_less_right := F_law_less_right.binds (ps := ["pen", "things"]) fun _ _ _ _ _ _ us hl => match us, hl with | [_, _], _ => rfl
  have bn : Bn mg := ⟨PySem.W.mg_none_of X Gh z_len, PySem.W.mg_none_of X Gh z_all, PySem.W.mg_none_of X Gh z_any, PySem.W.mg_none_of X Gh z_isinstance, PySem.W.mg_none_of X Gh z_int, PySem.W.mg_none_of X Gh z_bool, PySem.W.mg_none_of X Gh z_list, PySem.W.mg_none_of X Gh z_tuple, PySem.W.mg_none_of X Gh z_str, PySem.W.mg_none_of X Gh z_range, PySem.W.mg_none_of X Gh z_zip, PySem.W.mg_none_of X Gh z_sorted, PySem.W.mg_none_of X Gh z_type, PySem.W.mg_none_of X Gh z_max, PySem.W.mg_none_of X Gh z_min, PySem.W.mg_none_of X Gh z_abs, PySem.W.mg_none_of X Gh z_repr, PySem.W.mg_none_of X Gh z_set, PySem.W.mg_none_of X Gh z_enumerate, PySem.W.mg_none_of X Gh z_dict, PySem.W.mg_none_of X Gh z_sum⟩
  have cls_Lead : Cls K C_Lead := ⟨pg_Lead, hd_Lead, po_Lead, sa_Lead⟩
  have cls_Items : Cls K C_Items := ⟨pg_Items, hd_Items, po_Items, sa_Items⟩
  let Gd0 : Option Ur → Gd := fun u => ⟨K, clK C_Lead C_Items, flK, u⟩
  have gt_MANNERS : ∀ u, GTup (Gd0 u) mg "MANNERS" manners := fun u => ⟨_, PySem.W.mg_of X Gh aM_MANNERS, gK_MANNERS, small (n := 9) (by decide)⟩
  have all : ∀ (u : Option Ur) (base : Heap), Calls (Gd0 u) l.prog w mg base := by
    intro u base
    have fo : Gk (Gd0 u) := ⟨rfl, rfl, fld_ok (fun _ => ⟨cls_Lead, n_Lead_begin⟩) (fun h => absurd h (by decide +kernel)), fld_ok (fun _ => ⟨cls_Lead, n_Lead_into⟩) (fun h => absurd h (by decide +kernel)), fld_ok (fun _ => ⟨cls_Lead, n_Lead_row⟩) (fun h => absurd h (by decide +kernel)), fld_ok (fun h => absurd h (by decide +kernel)) (fun _ => ⟨cls_Items, n_Items_words⟩), fld_ok (fun h => absurd h (by decide +kernel)) (fun _ => ⟨cls_Items, n_Items_taken⟩), flK_nd, flK_sm⟩
    have A_is_integer := ok_is_integer (G := Gd0 u) (P := l.prog) (w := w) (base := base) F_is_integer bn
    have A_are_numbers := ok_are_numbers (G := Gd0 u) (P := l.prog) (w := w) (base := base) F_are_numbers bn ⟨_, _, A_is_integer, PySem.W.mg_of X Gh a_is_integer, k_is_integer, b_is_integer⟩
    have A_is_within := ok_is_within (G := Gd0 u) (P := l.prog) (w := w) (base := base) F_is_within bn ⟨_, _, A_is_integer, PySem.W.mg_of X Gh a_is_integer, k_is_integer, b_is_integer⟩
    have A_demand_number := ok_demand_number (G := Gd0 u) (P := l.prog) (w := w) (base := base) F_demand_number bn ⟨_, _, A_is_within, PySem.W.mg_of X Gh a_is_within, k_is_within, b_is_within⟩
    have A_demand_world := ok_demand_world (G := Gd0 u) (P := l.prog) (w := w) (base := base) F_demand_world bn ⟨_, _, A_demand_number, PySem.W.mg_of X Gh a_demand_number, k_demand_number, b_demand_number⟩ ⟨_, PySem.W.mg_of X Gh v_MOST_THINGS⟩
    have A_demand_numbers := ok_demand_numbers (G := Gd0 u) (P := l.prog) (w := w) (base := base) F_demand_numbers bn ⟨_, _, A_are_numbers, PySem.W.mg_of X Gh a_are_numbers, k_are_numbers, b_are_numbers⟩
    have A_demand_things := ok_demand_things (G := Gd0 u) (P := l.prog) (w := w) (base := base) F_demand_things bn ⟨_, _, A_is_within, PySem.W.mg_of X Gh a_is_within, k_is_within, b_is_within⟩
    have A_Lead___init__ := ok_Lead___init__ (G := Gd0 u) (P := l.prog) (w := w) (base := base) F_Lead___init__ bn fo ⟨_, _, A_demand_world, PySem.W.mg_of X Gh a_demand_world, k_demand_world, b_demand_world⟩ ⟨_, _, A_demand_things, PySem.W.mg_of X Gh a_demand_things, k_demand_things, b_demand_things⟩ ⟨_, _, A_are_numbers, PySem.W.mg_of X Gh a_are_numbers, k_are_numbers, b_are_numbers⟩ ⟨_, PySem.W.mg_of X Gh v_MOST_THINGS⟩
    have A_all_rows := ok_all_rows (G := Gd0 u) (P := l.prog) (w := w) (base := base) F_all_rows bn
    have A_never_falls := ok_never_falls (G := Gd0 u) (P := l.prog) (w := w) (base := base) F_never_falls bn
    have A_never_rises := ok_never_rises (G := Gd0 u) (P := l.prog) (w := w) (base := base) F_never_rises bn
    have A_rises := ok_rises (G := Gd0 u) (P := l.prog) (w := w) (base := base) F_rises bn
    have A_row_is_of := ok_row_is_of (G := Gd0 u) (P := l.prog) (w := w) (base := base) F_row_is_of bn ⟨_, _, A_never_falls, PySem.W.mg_of X Gh a_never_falls, k_never_falls, b_never_falls⟩ ⟨_, _, A_never_rises, PySem.W.mg_of X Gh a_never_rises, k_never_rises, b_never_rises⟩ ⟨_, _, A_rises, PySem.W.mg_of X Gh a_rises, k_rises, b_rises⟩
    have A_demand_manner := ok_demand_manner (G := Gd0 u) (P := l.prog) (w := w) (base := base) F_demand_manner bn (gt_MANNERS u)
    have A_demand_two := ok_demand_two (G := Gd0 u) (P := l.prog) (w := w) (base := base) F_demand_two bn
    have A_put_row := ok_put_row (G := Gd0 u) (P := l.prog) (w := w) (base := base) F_put_row bn
    have A_exchange_row := ok_exchange_row (G := Gd0 u) (P := l.prog) (w := w) (base := base) F_exchange_row bn
    have A_candidate_rows := ok_candidate_rows (G := Gd0 u) (P := l.prog) (w := w) (base := base) F_candidate_rows bn ⟨_, _, A_put_row, PySem.W.mg_of X Gh a_put_row, k_put_row, b_put_row⟩ ⟨_, _, A_exchange_row, PySem.W.mg_of X Gh a_exchange_row, k_exchange_row, b_exchange_row⟩
    have A_few_rows := ok_few_rows (G := Gd0 u) (P := l.prog) (w := w) (base := base) F_few_rows bn ⟨_, _, A_candidate_rows, PySem.W.mg_of X Gh a_candidate_rows, k_candidate_rows, b_candidate_rows⟩ ⟨_, _, A_row_is_of, PySem.W.mg_of X Gh a_row_is_of, k_row_is_of, b_row_is_of⟩
    have A_leads := ok_leads (G := Gd0 u) (P := l.prog) (w := w) (base := base) F_leads bn ⟨_, _, A_demand_manner, PySem.W.mg_of X Gh a_demand_manner, k_demand_manner, b_demand_manner⟩ ⟨_, _, A_demand_two, PySem.W.mg_of X Gh a_demand_two, k_demand_two, b_demand_two⟩ ⟨_, _, A_row_is_of, PySem.W.mg_of X Gh a_row_is_of, k_row_is_of, b_row_is_of⟩ ⟨_, _, A_all_rows, PySem.W.mg_of X Gh a_all_rows, k_all_rows, b_all_rows⟩ ⟨_, _, A_Lead___init__, PySem.W.mg_of X Gh aC_Lead, ⟨mk_Lead, a_Lead___init__, i_Lead___init__, kc_Lead⟩, b_Lead___init__, by decide⟩ ⟨_, _, A_demand_world, PySem.W.mg_of X Gh a_demand_world, k_demand_world, b_demand_world⟩
    have A_many_leads := ok_many_leads (G := Gd0 u) (P := l.prog) (w := w) (base := base) F_many_leads bn ⟨_, _, A_leads, PySem.W.mg_of X Gh a_leads, k_leads, b_leads⟩
    have A_few_leads := ok_few_leads (G := Gd0 u) (P := l.prog) (w := w) (base := base) F_few_leads bn ⟨_, _, A_demand_manner, PySem.W.mg_of X Gh a_demand_manner, k_demand_manner, b_demand_manner⟩ ⟨_, _, A_demand_two, PySem.W.mg_of X Gh a_demand_two, k_demand_two, b_demand_two⟩ ⟨_, _, A_few_rows, PySem.W.mg_of X Gh a_few_rows, k_few_rows, b_few_rows⟩ ⟨_, _, A_Lead___init__, PySem.W.mg_of X Gh aC_Lead, ⟨mk_Lead, a_Lead___init__, i_Lead___init__, kc_Lead⟩, b_Lead___init__, by decide⟩ ⟨_, _, A_demand_world, PySem.W.mg_of X Gh a_demand_world, k_demand_world, b_demand_world⟩
    have A_law_draw := ok_law_draw (G := Gd0 u) (P := l.prog) (w := w) (base := base) F_law_draw bn
    have A_law_pick := ok_law_pick (G := Gd0 u) (P := l.prog) (w := w) (base := base) F_law_pick bn ⟨_, _, A_law_draw, PySem.W.mg_of X Gh a_law_draw, k_law_draw, b_law_draw⟩
    have A_law_is := ok_law_is (G := Gd0 u) (P := l.prog) (w := w) (base := base) F_law_is bn
    have A_law_few := ok_law_few (G := Gd0 u) (P := l.prog) (w := w) (base := base) F_law_few bn ⟨_, _, A_law_is, PySem.W.mg_of X Gh a_law_is, k_law_is, b_law_is⟩
    have A_law_closed := ok_law_closed (G := Gd0 u) (P := l.prog) (w := w) (base := base) F_law_closed bn
    have A_law_world_right := ok_law_world_right (G := Gd0 u) (P := l.prog) (w := w) (base := base) F_law_world_right bn fo ⟨_, _, A_few_leads, PySem.W.mg_of X Gh a_few_leads, k_few_leads, Kk.all (fun us hl => match us, hl with | [_, _], _ => rfl) (by decide) rfl⟩ ⟨_, _, A_law_few, PySem.W.mg_of X Gh a_law_few, k_law_few, b_law_few⟩ ⟨_, _, A_law_closed, PySem.W.mg_of X Gh a_law_closed, k_law_closed, b_law_closed⟩ ⟨_, _, A_leads, PySem.W.mg_of X Gh a_leads, k_leads, b_leads⟩ ⟨_, _, A_many_leads, PySem.W.mg_of X Gh a_many_leads, k_many_leads, b_many_leads⟩
    have A_law_less_right := ok_law_less_right (G := Gd0 u) (P := l.prog) (w := w) (base := base) F_law_less_right bn fo ⟨_, _, A_law_draw, PySem.W.mg_of X Gh a_law_draw, k_law_draw, b_law_draw⟩ ⟨_, _, A_law_pick, PySem.W.mg_of X Gh a_law_pick, k_law_pick, b_law_pick⟩ ⟨_, _, A_few_leads, PySem.W.mg_of X Gh a_few_leads, k_few_leads, b_few_leads⟩ ⟨_, _, A_law_closed, PySem.W.mg_of X Gh a_law_closed, k_law_closed, b_law_closed⟩ ⟨_, _, A_many_leads, PySem.W.mg_of X Gh a_many_leads, k_many_leads, b_many_leads⟩
    exact ⟨(gt_MANNERS u), ⟨_, _, A_law_pick, PySem.W.mg_of X Gh a_law_pick, k_law_pick, b_law_pick⟩, ⟨_, _, A_law_draw, PySem.W.mg_of X Gh a_law_draw, k_law_draw, b_law_draw⟩, ⟨_, _, A_law_world_right, PySem.W.mg_of X Gh a_law_world_right, k_law_world_right, b_law_world_right⟩, ⟨_, _, A_law_less_right, PySem.W.mg_of X Gh a_law_less_right, k_law_less_right, b_law_less_right⟩⟩
  exact ok_law (G := Gd0 none) rfl FC_law (fun s v => .of_eq rfl) bn hlen ⟨rfl, by decide, by decide⟩ (fun q base => all (some (q, [])) base)
    (fun base H rm => ps_set (i := 1) sc_law.nd rfl (by first | exact Or.inl rfl | exact Or.inr rfl) (pe_call (ok_law_pen F_law_pen bn.int) (rm.mono (by decide)) rfl (PySem.W.mg_of X Gh a_law_pen) k_law_pen b_law_pen .nil (xk_def (G := Gd0 none) (E := EF) rm rfl).pass (pa_cons (pe_var (i := 0) rfl (by first | exact Or.inl rfl | exact Or.inr (Or.inl rfl) | exact Or.inr (Or.inr rfl)) (by decide) (by decide)) pa_nil)))
end Pg
set_option Elab.async false
set_option linter.all false
set_option maxRecDepth 100000
set_option maxHeartbeats 4100000
open PySem
open PySem.W
open PySem.Calls PyProof.Rows
open L2 Kn Pg in
set_option
      maxRecDepth 100000 in
set_option maxHeartbeats 0 in
theorem PySem.Challenge.cw_kindtells_k06_whole_few_leads_make_all_o_holds : PySem.Challenge.rw_kindtells_k06_whole_few_leads_make_all_o.Holds := by
  w_on; o_law
  refine Pg.head_y (r := OpenLaw.row PySem.Challenge.rw_kindtells_k06_whole_few_leads_make_all_o) (q := view (OpenLaw.row PySem.Challenge.rw_kindtells_k06_whole_few_leads_make_all_o).prog [50]) HX.asL HX.fa HX.fn HX.dc (M := 12000) (loose := HX.names) (d := HandSHeadRun.topDef (OpenLaw.row PySem.Challenge.rw_kindtells_k06_whole_few_leads_make_all_o).prog 50) (kwd := []) (by kernel_rfl) (fun s => by kernel_rfl) (PySem.W.byRow2 "special-get-raises" HX.runfalse HX.runtrue) (by kernel_rfl) (by kernel_rfl) (by kernel_rfl) (by rfl) (by first | assumption | decide +kernel) (by decide +kernel) ⟨rfl, rfl, rfl, rfl, rfl, by decide +kernel⟩ ?hw ?hc
  case hw => w_witness2
  case hc =>
    refine Pg.law_rowX (l := PySem.Challenge.rw_kindtells_k06_whole_few_leads_make_all_o) (n := 63) rfl (by decide) (by kernel_rfl) ?F
    intro w mg fa a h s ns Y Gh hmg0 hlen
    obtain ⟨K, KX, c⟩ := Y
    have hmg : mg ("law" : PySem.Str)
          = some (.ref fa) := by
      have e : (HandSHeadRun.topDef (OpenLaw.row PySem.Challenge.rw_kindtells_k06_whole_few_leads_make_all_o).prog 50).name = ("law" : PySem.Str) := by kernel_rfl
      rw [← e]
      exact hmg0
    have hf : HX.fa K = true := c.facts
    obtain ⟨d0, hf⟩ := Bool.and_eq_true_iff.mp hf
    obtain ⟨aC_Lead, pg_Lead, hd_Lead, po_Lead, sa_Lead, mk_Lead, kc_Lead, n_Lead_begin, n_Lead_into, n_Lead_row, aC_Items, pg_Items, hd_Items, po_Items, sa_Items, mk_Items, kc_Items, n_Items_words, n_Items_taken, a_law, k_law, a_is_integer, k_is_integer, a_are_numbers, k_are_numbers⟩ : HX.fac0 K := of_decide_eq_true d0
    obtain ⟨d1, hf⟩ := Bool.and_eq_true_iff.mp hf
    obtain ⟨a_is_within, k_is_within, a_demand_number, k_demand_number, a_demand_world, k_demand_world, a_demand_numbers, k_demand_numbers, a_demand_things, k_demand_things, a_Lead___init__, i_Lead___init__, k_Lead___init__, a_all_rows, k_all_rows, a_never_falls, k_never_falls, a_never_rises, k_never_rises, a_rises, k_rises, a_row_is_of, k_row_is_of, a_demand_manner, k_demand_manner⟩ : HX.fac1 K := of_decide_eq_true d1
    obtain ⟨d2, hf⟩ := Bool.and_eq_true_iff.mp hf
    obtain ⟨a_demand_two, k_demand_two, a_put_row, k_put_row, a_exchange_row, k_exchange_row, a_candidate_rows, k_candidate_rows, a_few_rows, k_few_rows, a_leads, k_leads, a_many_leads, k_many_leads, a_few_leads, k_few_leads, a_law_pen, k_law_pen, a_law_draw, k_law_draw, a_law_pick, k_law_pick, a_law_is, k_law_is, a_law_few⟩ : HX.fac2 K := of_decide_eq_true d2
    obtain ⟨d3, hf⟩ := Bool.and_eq_true_iff.mp hf
    obtain ⟨k_law_few, a_law_closed, k_law_closed, a_law_world_right, k_law_world_right, a_law_less_right, k_law_less_right, v_MOST_THINGS, aM_MANNERS, gK_MANNERSb, z_len, z_all, z_any, z_isinstance, z_int, z_bool, z_list, z_tuple, z_str, z_range, z_zip, z_sorted, z_type, z_max, z_min⟩ : HX.fac3 K := of_decide_eq_true d3
    obtain ⟨d4, hf⟩ := Bool.and_eq_true_iff.mp hf
    obtain ⟨z_abs, z_repr, z_set, z_enumerate, z_dict, z_sum, cr_law⟩ : HX.fac4 K := of_decide_eq_true d4
    obtain ⟨oc_law, od_law, sl_law, kV_law, dc_law, pm_law, an_law, cd_law, ct_law, l_law, c_law⟩ := c.func 0 (d := ⟨HX.f_law, "law", "law", defArgs (topS 50), defBody (topS 50), defScope (topS 50)⟩) rfl
    have ec_law : cd_law = .ref (Pg.cdOf K (HX.f_law K)) := Pg.cdRef_ok cr_law l_law
    subst ec_law
    obtain ⟨oc_is_integer, od_is_integer, sl_is_integer, kV_is_integer, dc_is_integer, pm_is_integer, an_is_integer, cd_is_integer, ct_is_integer, l_is_integer, c_is_integer⟩ := c.func 1 (d := ⟨HX.f_is_integer, "is_integer", "is_integer", defArgs (topS 2), defBody (topS 2), defScope (topS 2)⟩) rfl
    obtain ⟨oc_are_numbers, od_are_numbers, sl_are_numbers, kV_are_numbers, dc_are_numbers, pm_are_numbers, an_are_numbers, cd_are_numbers, ct_are_numbers, l_are_numbers, c_are_numbers⟩ := c.func 2 (d := ⟨HX.f_are_numbers, "are_numbers", "are_numbers", defArgs (topS 4), defBody (topS 4), defScope (topS 4)⟩) rfl
    obtain ⟨oc_is_within, od_is_within, sl_is_within, kV_is_within, dc_is_within, pm_is_within, an_is_within, cd_is_within, ct_is_within, l_is_within, c_is_within⟩ := c.func 3 (d := ⟨HX.f_is_within, "is_within", "is_within", defArgs (topS 3), defBody (topS 3), defScope (topS 3)⟩) rfl
    obtain ⟨oc_demand_number, od_demand_number, sl_demand_number, kV_demand_number, dc_demand_number, pm_demand_number, an_demand_number, cd_demand_number, ct_demand_number, l_demand_number, c_demand_number⟩ := c.func 4 (d := ⟨HX.f_demand_number, "demand_number", "demand_number", defArgs (topS 15), defBody (topS 15), defScope (topS 15)⟩) rfl
    obtain ⟨oc_demand_world, od_demand_world, sl_demand_world, kV_demand_world, dc_demand_world, pm_demand_world, an_demand_world, cd_demand_world, ct_demand_world, l_demand_world, c_demand_world⟩ := c.func 5 (d := ⟨HX.f_demand_world, "demand_world", "demand_world", defArgs (topS 16), defBody (topS 16), defScope (topS 16)⟩) rfl
    obtain ⟨oc_demand_numbers, od_demand_numbers, sl_demand_numbers, kV_demand_numbers, dc_demand_numbers, pm_demand_numbers, an_demand_numbers, cd_demand_numbers, ct_demand_numbers, l_demand_numbers, c_demand_numbers⟩ := c.func 6 (d := ⟨HX.f_demand_numbers, "demand_numbers", "demand_numbers", defArgs (topS 17), defBody (topS 17), defScope (topS 17)⟩) rfl
    obtain ⟨oc_demand_things, od_demand_things, sl_demand_things, kV_demand_things, dc_demand_things, pm_demand_things, an_demand_things, cd_demand_things, ct_demand_things, l_demand_things, c_demand_things⟩ := c.func 7 (d := ⟨HX.f_demand_things, "demand_things", "demand_things", defArgs (topS 18), defBody (topS 18), defScope (topS 18)⟩) rfl
    obtain ⟨oc_Lead___init__, od_Lead___init__, sl_Lead___init__, kV_Lead___init__, dc_Lead___init__, pm_Lead___init__, an_Lead___init__, cd_Lead___init__, ct_Lead___init__, l_Lead___init__, c_Lead___init__⟩ := c.func 8 (d := ⟨HX.f_Lead___init__, "__init__", "Lead.__init__", defArgs (inClass (topS 23) 0), defBody (inClass (topS 23) 0), defScope (inClass (topS 23) 0)⟩) rfl
    obtain ⟨oc_all_rows, od_all_rows, sl_all_rows, kV_all_rows, dc_all_rows, pm_all_rows, an_all_rows, cd_all_rows, ct_all_rows, l_all_rows, c_all_rows⟩ := c.func 9 (d := ⟨HX.f_all_rows, "all_rows", "all_rows", defArgs (topS 25), defBody (topS 25), defScope (topS 25)⟩) rfl
    obtain ⟨oc_never_falls, od_never_falls, sl_never_falls, kV_never_falls, dc_never_falls, pm_never_falls, an_never_falls, cd_never_falls, ct_never_falls, l_never_falls, c_never_falls⟩ := c.func 10 (d := ⟨HX.f_never_falls, "never_falls", "never_falls", defArgs (topS 30), defBody (topS 30), defScope (topS 30)⟩) rfl
    obtain ⟨oc_never_rises, od_never_rises, sl_never_rises, kV_never_rises, dc_never_rises, pm_never_rises, an_never_rises, cd_never_rises, ct_never_rises, l_never_rises, c_never_rises⟩ := c.func 11 (d := ⟨HX.f_never_rises, "never_rises", "never_rises", defArgs (topS 31), defBody (topS 31), defScope (topS 31)⟩) rfl
    obtain ⟨oc_rises, od_rises, sl_rises, kV_rises, dc_rises, pm_rises, an_rises, cd_rises, ct_rises, l_rises, c_rises⟩ := c.func 12 (d := ⟨HX.f_rises, "rises", "rises", defArgs (topS 32), defBody (topS 32), defScope (topS 32)⟩) rfl
    obtain ⟨oc_row_is_of, od_row_is_of, sl_row_is_of, kV_row_is_of, dc_row_is_of, pm_row_is_of, an_row_is_of, cd_row_is_of, ct_row_is_of, l_row_is_of, c_row_is_of⟩ := c.func 13 (d := ⟨HX.f_row_is_of, "row_is_of", "row_is_of", defArgs (topS 33), defBody (topS 33), defScope (topS 33)⟩) rfl
    obtain ⟨oc_demand_manner, od_demand_manner, sl_demand_manner, kV_demand_manner, dc_demand_manner, pm_demand_manner, an_demand_manner, cd_demand_manner, ct_demand_manner, l_demand_manner, c_demand_manner⟩ := c.func 14 (d := ⟨HX.f_demand_manner, "demand_manner", "demand_manner", defArgs (topS 28), defBody (topS 28), defScope (topS 28)⟩) rfl
    obtain ⟨oc_demand_two, od_demand_two, sl_demand_two, kV_demand_two, dc_demand_two, pm_demand_two, an_demand_two, cd_demand_two, ct_demand_two, l_demand_two, c_demand_two⟩ := c.func 15 (d := ⟨HX.f_demand_two, "demand_two", "demand_two", defArgs (topS 29), defBody (topS 29), defScope (topS 29)⟩) rfl
    obtain ⟨oc_put_row, od_put_row, sl_put_row, kV_put_row, dc_put_row, pm_put_row, an_put_row, cd_put_row, ct_put_row, l_put_row, c_put_row⟩ := c.func 16 (d := ⟨HX.f_put_row, "put_row", "put_row", defArgs (topS 36), defBody (topS 36), defScope (topS 36)⟩) rfl
    obtain ⟨oc_exchange_row, od_exchange_row, sl_exchange_row, kV_exchange_row, dc_exchange_row, pm_exchange_row, an_exchange_row, cd_exchange_row, ct_exchange_row, l_exchange_row, c_exchange_row⟩ := c.func 17 (d := ⟨HX.f_exchange_row, "exchange_row", "exchange_row", defArgs (topS 37), defBody (topS 37), defScope (topS 37)⟩) rfl
    obtain ⟨oc_candidate_rows, od_candidate_rows, sl_candidate_rows, kV_candidate_rows, dc_candidate_rows, pm_candidate_rows, an_candidate_rows, cd_candidate_rows, ct_candidate_rows, l_candidate_rows, c_candidate_rows⟩ := c.func 18 (d := ⟨HX.f_candidate_rows, "candidate_rows", "candidate_rows", defArgs (topS 38), defBody (topS 38), defScope (topS 38)⟩) rfl
    obtain ⟨oc_few_rows, od_few_rows, sl_few_rows, kV_few_rows, dc_few_rows, pm_few_rows, an_few_rows, cd_few_rows, ct_few_rows, l_few_rows, c_few_rows⟩ := c.func 19 (d := ⟨HX.f_few_rows, "few_rows", "few_rows", defArgs (topS 39), defBody (topS 39), defScope (topS 39)⟩) rfl
    obtain ⟨oc_leads, od_leads, sl_leads, kV_leads, dc_leads, pm_leads, an_leads, cd_leads, ct_leads, l_leads, c_leads⟩ := c.func 20 (d := ⟨HX.f_leads, "leads", "leads", defArgs (topS 34), defBody (topS 34), defScope (topS 34)⟩) rfl
    obtain ⟨oc_many_leads, od_many_leads, sl_many_leads, kV_many_leads, dc_many_leads, pm_many_leads, an_many_leads, cd_many_leads, ct_many_leads, l_many_leads, c_many_leads⟩ := c.func 21 (d := ⟨HX.f_many_leads, "many_leads", "many_leads", defArgs (topS 35), defBody (topS 35), defScope (topS 35)⟩) rfl
    obtain ⟨oc_few_leads, od_few_leads, sl_few_leads, kV_few_leads, dc_few_leads, pm_few_leads, an_few_leads, cd_few_leads, ct_few_leads, l_few_leads, c_few_leads⟩ := c.func 22 (d := ⟨HX.f_few_leads, "few_leads", "few_leads", defArgs (topS 40), defBody (topS 40), defScope (topS 40)⟩) rfl
    obtain ⟨oc_law_pen, od_law_pen, sl_law_pen, kV_law_pen, dc_law_pen, pm_law_pen, an_law_pen, cd_law_pen, ct_law_pen, l_law_pen, c_law_pen⟩ := c.func 23 (d := ⟨HX.f_law_pen, "_law_pen", "_law_pen", defArgs (topS 42), defBody (topS 42), defScope (topS 42)⟩) rfl
    obtain ⟨oc_law_draw, od_law_draw, sl_law_draw, kV_law_draw, dc_law_draw, pm_law_draw, an_law_draw, cd_law_draw, ct_law_draw, l_law_draw, c_law_draw⟩ := c.func 24 (d := ⟨HX.f_law_draw, "_law_draw", "_law_draw", defArgs (topS 43), defBody (topS 43), defScope (topS 43)⟩) rfl
    obtain ⟨oc_law_pick, od_law_pick, sl_law_pick, kV_law_pick, dc_law_pick, pm_law_pick, an_law_pick, cd_law_pick, ct_law_pick, l_law_pick, c_law_pick⟩ := c.func 25 (d := ⟨HX.f_law_pick, "_law_pick", "_law_pick", defArgs (topS 44), defBody (topS 44), defScope (topS 44)⟩) rfl
    obtain ⟨oc_law_is, od_law_is, sl_law_is, kV_law_is, dc_law_is, pm_law_is, an_law_is, cd_law_is, ct_law_is, l_law_is, c_law_is⟩ := c.func 26 (d := ⟨HX.f_law_is, "_law_is", "_law_is", defArgs (topS 45), defBody (topS 45), defScope (topS 45)⟩) rfl
    obtain ⟨oc_law_few, od_law_few, sl_law_few, kV_law_few, dc_law_few, pm_law_few, an_law_few, cd_law_few, ct_law_few, l_law_few, c_law_few⟩ := c.func 27 (d := ⟨HX.f_law_few, "_law_few", "_law_few", defArgs (topS 46), defBody (topS 46), defScope (topS 46)⟩) rfl
    obtain ⟨oc_law_closed, od_law_closed, sl_law_closed, kV_law_closed, dc_law_closed, pm_law_closed, an_law_closed, cd_law_closed, ct_law_closed, l_law_closed, c_law_closed⟩ := c.func 28 (d := ⟨HX.f_law_closed, "_law_closed", "_law_closed", defArgs (topS 47), defBody (topS 47), defScope (topS 47)⟩) rfl
    obtain ⟨oc_law_world_right, od_law_world_right, sl_law_world_right, kV_law_world_right, dc_law_world_right, pm_law_world_right, an_law_world_right, cd_law_world_right, ct_law_world_right, l_law_world_right, c_law_world_right⟩ := c.func 29 (d := ⟨HX.f_law_world_right, "_law_world_right", "_law_world_right", defArgs (topS 48), defBody (topS 48), defScope (topS 48)⟩) rfl
    obtain ⟨oc_law_less_right, od_law_less_right, sl_law_less_right, kV_law_less_right, dc_law_less_right, pm_law_less_right, an_law_less_right, cd_law_less_right, ct_law_less_right, l_law_less_right, c_law_less_right⟩ := c.func 30 (d := ⟨HX.f_law_less_right, "_law_less_right", "_law_less_right", defArgs (topS 49), defBody (topS 49), defScope (topS 49)⟩) rfl
    exact ⟨K, KX, [], nofun, Pg.close KX Gh hmg hlen aC_Lead pg_Lead hd_Lead po_Lead sa_Lead mk_Lead kc_Lead n_Lead_begin n_Lead_into n_Lead_row aC_Items pg_Items hd_Items po_Items sa_Items mk_Items kc_Items n_Items_words n_Items_taken a_law l_law c_law k_law a_is_integer l_is_integer c_is_integer k_is_integer a_are_numbers l_are_numbers c_are_numbers k_are_numbers a_is_within l_is_within c_is_within k_is_within a_demand_number l_demand_number c_demand_number k_demand_number a_demand_world l_demand_world c_demand_world k_demand_world a_demand_numbers l_demand_numbers c_demand_numbers k_demand_numbers a_demand_things l_demand_things c_demand_things k_demand_things a_Lead___init__ i_Lead___init__ l_Lead___init__ c_Lead___init__ k_Lead___init__ a_all_rows l_all_rows c_all_rows k_all_rows a_never_falls l_never_falls c_never_falls k_never_falls a_never_rises l_never_rises c_never_rises k_never_rises a_rises l_rises c_rises k_rises a_row_is_of l_row_is_of c_row_is_of k_row_is_of a_demand_manner l_demand_manner c_demand_manner k_demand_manner a_demand_two l_demand_two c_demand_two k_demand_two a_put_row l_put_row c_put_row k_put_row a_exchange_row l_exchange_row c_exchange_row k_exchange_row a_candidate_rows l_candidate_rows c_candidate_rows k_candidate_rows a_few_rows l_few_rows c_few_rows k_few_rows a_leads l_leads c_leads k_leads a_many_leads l_many_leads c_many_leads k_many_leads a_few_leads l_few_leads c_few_leads k_few_leads a_law_pen l_law_pen c_law_pen k_law_pen a_law_draw l_law_draw c_law_draw k_law_draw a_law_pick l_law_pick c_law_pick k_law_pick a_law_is l_law_is c_law_is k_law_is a_law_few l_law_few c_law_few k_law_few a_law_closed l_law_closed c_law_closed k_law_closed a_law_world_right l_law_world_right c_law_world_right k_law_world_right a_law_less_right l_law_less_right c_law_less_right k_law_less_right v_MOST_THINGS aM_MANNERS (Pg.tupsB_ok (small (n := 9) (by decide)) gK_MANNERSb) z_len z_all z_any z_isinstance z_int z_bool z_list z_tuple z_str z_range z_zip z_sorted z_type z_max z_min z_abs z_repr z_set z_enumerate z_dict z_sum⟩
