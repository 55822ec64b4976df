import PyProof.Rows.All
import HandS.Base
import HandS.Head0
import HandS.Head1
import HandS.Head2
import HandS.HeadHook1
import HandS.Words
import KE.RegKTryMore
import KE.RegKIsAll
import Wide.All
import OpenK.AllK
import Wide.FinOn
import HandS.ForMost
import HandS.Exc
import HandS.WordsExc
import HandS.Deep
import HandS.Lambda
import HandS.TupAny
import HandS.SortInts
import HandS.IsInst
import HandS.RaiseMore
import HandS.Zip
import HandS.Wide
import HandS.Style
import HandS.TupMul
import HandS.TupLe
import HandS.SetFor
import PyProof.P3In
import HandS.SlotsOwn
import PyProof.ReprRoads
import HandS.Conv
import PyProof.EqAt
import HandS.OwnEq
import PyProof.SeqRoads2
import HandS.Dict
import HandS.FStr
import HandS.ClsMeth
import KE.KCallOwn
import PyProof.TypeOfCall
import KE.KTypeOf
import HandS.TryOnly
import HandS.SetKeys
import HandS.Strs
import HandS.ExcField
import HandS.ExcIs
import HandS.ExcValue
import KE.KExcIs
import HandS.ExcInit
import KE.KNest
import HandS.EndTab
import HandS.SortKw
import KE.DataMinMax
import HandS.List
import KE.GoesMore
import KE.KDictZip
import HandS.OwnIter
import PyProof.Rows.FinIter
import PyProof.Rows.RegFStrParts
import PyProof.NeKinds
import PyProof.Rows.SetFrom
import HandS.SortRule
import KE.KDictKeyed
import KE.KDictCopyH
import HandS.TupSets
import KE.DataFind
import PyProof.CallFns
import HandS.Star
import PyProof.Rows.Range3
import HandS.Sort
import OpenK.KTop
import HandS.Iter
import HandS.DictComp
import PySem.Challenge.RW_kindtells_k15_whole_blind_over_two_thing
set_option Elab.async false
set_option linter.all false
set_option maxRecDepth 100000
set_option maxHeartbeats 2100000
namespace Pg
open PySem
open PySem.Spec PyProof.Rows L2
/-- a def: where it stands, as the text has it -/
structure FnX where
  at_ : PySem.W.Frag → Addr
  name : Str
  qual : Str
  params : Arguments
  body : List Stmt
  scope : Scope
def FnX.val (d : FnX) : He.FnV := some (d.name, d.qual, d.params,
  .stmts d.body, d.scope, mainGlobals, [], .none, builtinsNs)
def fnObsX (K : PySem.W.Frag) (a : Addr) : He.FnV := match K.lookup a with
  | some ⟨_, _, .func z, _⟩ => some (z.name, z.qualname, z.params, z.body, z.scope,
      z.globals, z.closure, z.defaults, z.builtins)
  | _ => none
def codeOkX (K : PySem.W.Frag) (a : Addr) (q : Str) : Bool := match K.lookup a with
  | some ⟨_, _, .func z, _⟩ => PySem.W.codeIn K z.code q
  | _ => false
theorem fnX_ok {K : PySem.W.Frag} {d : FnX} (e : fnObsX K (d.at_ K) = d.val) (c : codeOkX K (d.at_ K) d.qual = true) :
    ∃ oc od osl kV doc pm an cdv ct, K.lookup (d.at_ K) = some ⟨oc, od, .func (PySem.W.fnOf d.name d.qual d.params d.body d.scope .none kV doc pm an cdv ct), osl⟩ ∧ PySem.W.codeIn K cdv d.qual = true := by
  unfold fnObsX at e; unfold codeOkX at c
  cases q : K.lookup
        (d.at_ K) with
  | none => rw [q] at c; cases c
  | some o =>
    obtain ⟨oc, od, dt, osl⟩ := o
    rw [q] at c e
    cases dt with
    | func z =>
      obtain ⟨n1, n2, n3, n4, n5, n6, n7, n8, n9, n10, n11, n12, n13, n14, n15⟩ := z
      have e2 : (some (n1, n2, n3, n4, n5, n6, n7, n8, n15) : He.FnV) = d.val := e
      unfold FnX.val at e2
      simp only [Option.some.injEq, Prod.mk.injEq] at e2; obtain ⟨h1, h2, h3, h4, h5, h6, h7, h8, h9⟩ := e2
      subst h1; subst h2; subst h3; subst h4; subst h5; subst h6; subst h7; subst h8; subst h9
      exact ⟨oc, od, osl, n9, n10, n11, n12, n13, n14, rfl, c⟩
    | _ => cases c
/-- a dict of the module whose keys are written texts -/
structure DcX where
  at_ : PySem.W.Frag → Addr
  keys : List Str
abbrev DcV : Type := Option (List (Option Str × Int))
def keyOf (v : Value) : Option Str := match v with
  | .str x _ => some x
  | _ => none
def dcObs (K : PySem.W.Frag) (a : Addr) : DcV := match K.lookup a with
  | some ⟨.type c, none, .dict es _, sl⟩ => if c = "dict" ∧ sl.toList.length = 0 then some (es.toList.map fun e => (keyOf e.key, e.hash)) else none
  | _ => none
def DcX.val (d : DcX) (w : World) : DcV := some (d.keys.map fun x => (some x, PyData.keyHash w.params x))
theorem keys_ok {w : World} : ∀ {es : List DictEntry} {ks : List Str}, es.map (fun e => (keyOf e.key, e.hash)) = ks.map (fun x => (some x, PyData.keyHash w.params x)) → PySem.W.KeysLit w.params es
  | [], _, _ => trivial
  | e :: es, [], h => by cases h
  | e :: es, k :: ks, h => by
    simp only [List.map_cons, List.cons.injEq, Prod.mk.injEq] at h
    obtain ⟨⟨h1, h2⟩, h3⟩ := h
    refine ⟨?_, keys_ok h3⟩
    unfold keyOf at h1
    split at h1
    · rename_i x t hx
      cases h1
      exact ⟨_, _, hx, h2⟩
    · cases h1
theorem dcX_ok {K : PySem.W.Frag} {w : World} {d : DcX} (e : dcObs K (d.at_ K) = d.val w) : ∃ es n, K.lookup (d.at_ K) = some ⟨.type "dict", none, .dict es n, #[]⟩ ∧ PySem.W.KeysLit w.params es.toList := by
  unfold dcObs at e
  cases q : K.lookup
        (d.at_ K) with
  | none =>
        rw [q] at e; cases e
  | some o =>
    obtain ⟨oc, od, dt, osl⟩ := o
    rw [q] at e
    cases oc with
    | type c =>
      cases od with
      | some a => cases e
      | none =>
        cases dt with
        | dict es n =>
          dsimp only at e
          split at e
          · rename_i h
            obtain ⟨rfl, h2⟩ := h
            unfold DcX.val at e
            have : osl = #[] := by
              have := List.eq_nil_of_length_eq_zero h2
              exact Array.toList_eq_nil_iff.mp this
            subst this
            exact ⟨es, n, rfl, keys_ok (Option.some.inj e)⟩
          · cases e
        | _ => cases e
    | _ => cases od <;> cases dt <;> cases e
abbrev AlX : Type := Bool × List He.FnV × List DcV
def obsX (fa : PySem.W.Frag → Bool) (fn : List FnX) (dc : List DcX) (K : PySem.W.Frag) : AlX :=
  (fa K && fn.all fun d => codeOkX K (d.at_ K) d.qual, fn.map fun d => fnObsX K (d.at_ K), dc.map fun d => dcObs K (d.at_ K))
def valX (fn : List FnX) (dc : List DcX) (w : World) : AlX := (true, fn.map FnX.val, dc.map fun d => d.val w)
def SaysX (fa : PySem.W.Frag → Bool) (fn : List FnX) (dc : List DcX) (w : World) (K : PySem.W.Frag) : Prop := obsX fa fn dc K = valX fn dc w
def hookX (as : List Addr) (fa : PySem.W.Frag → Bool) (fn : List FnX) (dc : List DcX) : PySem.W.Hook where
  α := AlX
  obs := fun s => obsX fa fn dc (He.frG s.heap.get? as)
  val := valX fn dc
  says := fun w h => ∃ K : PySem.W.Frag, K.In h ∧ SaysX fa fn dc w K
  of := fun _ _ e => ⟨_, He.frG_in, e⟩
  keeps := fun _ _ _ ⟨K, hK, c⟩ k =>
        ⟨K, PySem.W.Frag.In.keeps hK k, c⟩
section
variable {fa : PySem.W.Frag → Bool} {fn : List FnX} {dc : List DcX} {w : World} {K : PySem.W.Frag}
theorem SaysX.facts (c : SaysX fa fn dc w K) : fa K = true := (Bool.and_eq_true_iff.mp (congrArg (fun z : AlX => z.1) c)).1
theorem SaysX.func (c : SaysX fa fn dc w K) (i : Nat) {d : FnX} (h : fn[i]? = some d) :
    ∃ oc od osl kV doc pm an cdv ct, K.lookup (d.at_ K) = some ⟨oc, od, .func (PySem.W.fnOf d.name d.qual d.params d.body d.scope .none kV doc pm an cdv ct), osl⟩ ∧ PySem.W.codeIn K cdv d.qual = true := by
  have c2 := (Bool.and_eq_true_iff.mp (congrArg (fun z : AlX => z.1) c)).2
  have e : fn.map (fun d => fnObsX K (d.at_ K)) = fn.map FnX.val := congrArg (fun z : AlX => z.2.1) c
  have e2 : (fn.map fun d => fnObsX K (d.at_ K))[i]? = (fn.map FnX.val)[i]? := by rw [e]
  rw [List.getElem?_map, List.getElem?_map, h] at e2; exact fnX_ok (Option.some.inj e2) (List.all_eq_true.mp c2 d (List.mem_of_getElem? h))
theorem SaysX.dict (c : SaysX fa fn dc w K) (i : Nat) {d : DcX} (h : dc[i]? = some d) : ∃ es n, K.lookup (d.at_ K) = some ⟨.type "dict", none, .dict es n, #[]⟩ ∧ PySem.W.KeysLit w.params es.toList := by
  have e : dc.map (fun d => dcObs K (d.at_ K)) = dc.map (fun d => d.val w) := congrArg (fun z : AlX => z.2.2) c
  have e2 : (dc.map fun d => dcObs K (d.at_ K))[i]? = (dc.map fun d => d.val w)[i]? := by rw [e]
  rw [List.getElem?_map, List.getElem?_map, h] at e2; exact dcX_ok (Option.some.inj e2)
end
def tkOf (K : PySem.W.Frag) (a : Addr) (x : Str) : Tok := match PySem.W.nsIn K a x with
  | some (some (.int _ t)) => t
  | _ => default
def isVal (f : Option PySem.W.CFound) (a : Value) : Bool := match f with
  | some (.val a') => decide (a' = a)
  | _ => false
theorem isVal_ok {f : Option PySem.W.CFound} {a : Value} (h : isVal f a = true) : f = some (.val a) := by
  unfold isVal at h
  split at h
  · have := of_decide_eq_true h
    rw [this]
  · cases h
/-- a tuple of texts in the module -/
def strsB : List Value → List Str → Bool
  | [], [] => true
  | .str x _ :: vs, y :: ys => decide (x = y) && strsB vs ys
  | _, _ => false
def tupsB (K : PySem.W.Frag) (a : Addr) (ys : List Str) : Bool := match K.lookup a with
  | some ⟨.type c, _, .seq its _, _⟩ => decide (c = "tuple") && strsB its.toList ys
  | _ => false
def cdOf (K : PySem.W.Frag) (f : Addr) : Addr := match K.lookup f with
  | some ⟨_, _, .func z, _⟩ => (match z.code with
    | .ref a => a
    | _ => 0)
  | _ => 0
def cdRef (K : PySem.W.Frag) (f : Addr) : Bool := match K.lookup f with
  | some ⟨_, _, .func z, _⟩ => (match z.code with
    | .ref _ => true
    | _ => false)
  | _ => false
theorem cdRef_ok {K : PySem.W.Frag} {f : Addr} {oc : Value} {od : Option Addr} {z : FuncData} {sl : Array (Option Value)} (h : cdRef K f = true) (q : K.lookup f = some ⟨oc, od, .func z, sl⟩) : z.code = .ref (cdOf K f) := by
  unfold cdRef at h
  unfold cdOf
  rw [q] at h ⊢
  dsimp only at h ⊢
  cases hc : z.code with
  | ref a => rfl
  | _ => rw [hc] at h; cases h
open PySem.W PySem.Calls in
theorem head_y {r : OpenRow} {q : Program} (as : List Addr) (fa : Frag → Bool) (fn : List FnX) (dc : List DcX) {M : Nat} {loose : List PySem.Str} {d : DefRec} {kwd : List (PySem.Str × PySem.Expr)}
    (e1 : opening r.prog = plainProg r.prog.main.scope.names) (f : ∀ s, fenceModules? r.prog s = some s) (run : ∀ w, HandSHeadRun.RunEq r q (hookX as fa fn dc) (fun s => obsX fa fn dc (He.frG (HandSHeadRun.getT s) as)) M loose w)
    (hdef : defOf q r.name = some (d, kwd)) (hp : r.prog.theDef r.name = some (d.params,
          d.body, d.scope)) (hk : kwWritten? d.params.kwonlyargs d.params.kw_defaults = some kwd)
    (hwr : (!r.writes || r.records.isEmpty) = true) (k1 : r.wellSaid = true) (ok : (chainsOk q && opensWell
          r.prog && (frees r.toRowW && r.within.isEmpty)) = true) (hb : r.prog.bare) (hw : r.toRowW.promised)
    (call : WalkO q loose (XL q []) (hookX as fa fn dc).says r.toRowW d kwd fun f vs => PySem.call f vs) : r.Holds := by
  refine HandSHeadRun.head_any (H := hookX as fa fn dc) (ob := fun s => obsX fa fn dc (He.frG (HandSHeadRun.getT s) as)) (fun s => ?_) e1 f run hdef hp hk hwr k1 ok hb hw call
  show obsX fa fn dc (He.frG (HandSHeadRun.getT s) as) = obsX fa fn dc (He.frG s.abs.heap.get? as)
  rw [show HandSHeadRun.getT s = s.abs.heap.get? from funext (HandSHeadRun.getT_eq s)]
end Pg
set_option Elab.async false
set_option linter.all false
set_option maxRecDepth 100000
set_option maxHeartbeats 2100000
namespace Pg
open PySem
open PySem.Spec PyProof.Rows L2
def tabPOf (K : PySem.W.Frag) (cd : Addr) : Addr := match K.lookup cd with
  | some ⟨_, _, .fields vs, _⟩ =>
        (match (vs[11]? : Option Value) with
    | some (.ref p) => p
    | _ => 0)
  | _ => 0
def tabB (K : PySem.W.Frag) (cd P : Addr) : Bool := match K.lookup cd with
  | some ⟨_, _, .fields vs, _⟩ => decide ((vs[11]? : Option Value) = some (.ref P)) && (K.lookup P).isNone
  | _ => false
theorem tabB_ok {K : PySem.W.Frag} {cd P : Addr} (h : tabB K cd P = true) : ∃ oc od vs sl, K.lookup cd = some ⟨oc, od, .fields vs, sl⟩ ∧ (vs[11]? : Option Value) = some (.ref P) ∧ K.lookup P = none := by
  unfold tabB at h
  cases q : K.lookup cd with
  | none => rw [q] at h; cases h
  | some o =>
    obtain ⟨oc, od, dt, osl⟩ := o
    rw [q] at h
    cases dt with
    | fields vs =>
      obtain ⟨h1, h2⟩ := Bool.and_eq_true_iff.mp h
      exact ⟨oc, od, vs, osl, rfl, of_decide_eq_true h1, Option.isNone_iff_eq_none.mp h2⟩
    | _ => cases h
end Pg
namespace Pg
open PySem
open PySem.Spec PyProof.Rows L2
def refsB : List Value → Bool
  | .ref _ :: r => refsB r
  | l => decide (l = [.type "ValueError", .type "Exception", .type "BaseException", .type "object"])
/-- a class of errors below ValueError, as it stands -/
def excB (K : PySem.W.Frag) (C : Addr) : Bool := match K.lookup C with
  | some ⟨.type t, _, .cls cd, sl⟩ => decide (t = "type") && (cd.hasDict && (!cd.hasDel && ((match cd.mro with
      | .ref c :: bm => decide (c = C) && refsB bm
      | _ => false) && (match sl.toList with
      | [_, _, _, _, some (.builtin n), _] => decide (n = "ValueError.__new__")
      | _ => false))))
  | _ => false
end Pg
set_option Elab.async false
set_option linter.all false
set_option maxRecDepth 100000
set_option maxHeartbeats 4100000
namespace HX
open PySem PySem.W PyProof.Rows L2 Pg
def tS (i : Nat) : Stmt := PySem.Challenge.pw_kindtells_k15_whole_blind_over_two_thing.main.body.getD i (.Pass ⟨0, 0, 0, 0⟩)
def C_Lead (K : Frag) : Addr := He.ga K "Lead"
def C_Items (K : Frag) : Addr := He.ga K "Items"
def C_Told (K : Frag) : Addr := He.ga K "Told"
def C_Kept (K : Frag) : Addr := He.ga K "Kept"
def C_Parting (K : Frag) : Addr := He.ga K "Parting"
def C_Paper (K : Frag) : Addr := He.ga K "Paper"
def C_Denial (K : Frag) : Addr := He.ga K "Denial"
def C_Worker (K : Frag) : Addr := He.ga K "Worker"
def C_Place (K : Frag) : Addr := He.ga K "Place"
def C_Thing (K : Frag) : Addr := He.ga K "Thing"
def C_BadTold (K : Frag) : Addr := He.ga K "BadTold"
def C_Misfit (K : Frag) : Addr := He.ga K "Misfit"
def C_TellsError (K : Frag) : Addr := He.ga K "TellsError"
def f_law (K : Frag) : Addr := He.ga K "law"
def f_is_integer (K : Frag) : Addr := He.ga K "is_integer"
def f_are_numbers (K : Frag) : Addr := He.ga K "are_numbers"
def f_is_within (K : Frag) : Addr := He.ga K "is_within"
def f_demand_number (K : Frag) : Addr := He.ga K "demand_number"
def f_demand_world (K : Frag) : Addr := He.ga K "demand_world"
def f_demand_numbers (K : Frag) : Addr := He.ga K "demand_numbers"
def f_demand_things (K : Frag) : Addr := He.ga K "demand_things"
def f_Lead___init__ (K : Frag) : Addr := He.ma K (C_Lead K) "__init__"
def f_all_rows (K : Frag) : Addr := He.ga K "all_rows"
def f_many_rows (K : Frag) : Addr := He.ga K "many_rows"
def f_row_index (K : Frag) : Addr := He.ga K "row_index"
def f_demand_many_places (K : Frag) : Addr := He.ga K "demand_many_places"
def f_demand_many_numbers (K : Frag) : Addr := He.ga K "demand_many_numbers"
def f_demand_few_values (K : Frag) : Addr := He.ga K "demand_few_values"
def f_inputs (K : Frag) : Addr := He.ga K "inputs"
def f_Told___init__ (K : Frag) : Addr := He.ma K (C_Told K) "__init__"
def f_Told___eq__ (K : Frag) : Addr := He.ma K (C_Told K) "__eq__"
def f_never_falls (K : Frag) : Addr := He.ga K "never_falls"
def f_never_rises (K : Frag) : Addr := He.ga K "never_rises"
def f_rises (K : Frag) : Addr := He.ga K "rises"
def f_row_is_of (K : Frag) : Addr := He.ga K "row_is_of"
def f_demand_manner (K : Frag) : Addr := He.ga K "demand_manner"
def f_demand_two (K : Frag) : Addr := He.ga K "demand_two"
def f_row_at (K : Frag) : Addr := He.ga K "row_at"
def f_led_indices (K : Frag) : Addr := He.ga K "led_indices"
def f_demand_told (K : Frag) : Addr := He.ga K "demand_told"
def f_first_parting (K : Frag) : Addr := He.ga K "first_parting"
def f_put_row (K : Frag) : Addr := He.ga K "put_row"
def f_exchange_row (K : Frag) : Addr := He.ga K "exchange_row"
def f_candidate_rows (K : Frag) : Addr := He.ga K "candidate_rows"
def f_few_rows (K : Frag) : Addr := He.ga K "few_rows"
def f_fixed (K : Frag) : Addr := He.ga K "fixed"
def f_Paper___init__ (K : Frag) : Addr := He.ma K (C_Paper K) "__init__"
def f_Denial___init__ (K : Frag) : Addr := He.ma K (C_Denial K) "__init__"
def f_Kept___init__ (K : Frag) : Addr := He.ma K (C_Kept K) "__init__"
def f_Parting___init__ (K : Frag) : Addr := He.ma K (C_Parting K) "__init__"
def f_Paper___bool__ (K : Frag) : Addr := He.ma K (C_Paper K) "__bool__"
def f_Denial___bool__ (K : Frag) : Addr := He.ma K (C_Denial K) "__bool__"
def f_demand_told_manner (K : Frag) : Addr := He.ga K "demand_told_manner"
def f_kept (K : Frag) : Addr := He.ga K "kept"
def f_keeps (K : Frag) : Addr := He.ga K "keeps"
def f_demand_place (K : Frag) : Addr := He.ga K "demand_place"
def f_Worker___init__ (K : Frag) : Addr := He.ma K (C_Worker K) "__init__"
def f_Place___init__ (K : Frag) : Addr := He.ma K (C_Place K) "__init__"
def f_Place_over (K : Frag) : Addr := He.ma K (C_Place K) "over"
def f_demand_known_manner (K : Frag) : Addr := He.ga K "demand_known_manner"
def f_all_known (K : Frag) : Addr := He.ga K "all_known"
def f_known_of (K : Frag) : Addr := He.ga K "known_of"
def f_law_jug (K : Frag) : Addr := He.ga K "_law_jug"
def f_law_tap (K : Frag) : Addr := He.ga K "_law_tap"
def f_law_pick (K : Frag) : Addr := He.ga K "_law_pick"
def f_law_inputs (K : Frag) : Addr := He.ga K "_law_inputs"
def f_is_turned (K : Frag) : Addr := He.ga K "is_turned"
def f_Place___eq__ (K : Frag) : Addr := He.ma K (C_Place K) "__eq__"
def f_law_goes (K : Frag) : Addr := He.ga K "_law_goes"
def f_law_is_turned (K : Frag) : Addr := He.ga K "_law_is_turned"
def f_law_digits (K : Frag) : Addr := He.ga K "_law_digits"
def f_law_half (K : Frag) : Addr := He.ga K "_law_half"
def f_law_bent (K : Frag) : Addr := He.ga K "_law_bent"
def f_law_parts (K : Frag) : Addr := He.ga K "_law_parts"
def f_law_right (K : Frag) : Addr := He.ga K "_law_right"
def f_law_heard (K : Frag) : Addr := He.ga K "_law_heard"
def f_law_refused_right (K : Frag) : Addr := He.ga K "_law_refused_right"
def f_Thing___init__ (K : Frag) : Addr := He.ma K (C_Thing K) "__init__"
def f_BadTold___init__ (K : Frag) : Addr := He.ma K (C_BadTold K) "__init__"
def f_Misfit___init__ (K : Frag) : Addr := He.ma K (C_Misfit K) "__init__"
def t_MOST_THINGS (K : Frag) : Tok := Pg.tkOf K mainGlobals "MOST_THINGS"
def t_MOST_PLACES (K : Frag) : Tok := Pg.tkOf K mainGlobals "MOST_PLACES"
def t_MOST_VALUES (K : Frag) : Tok := Pg.tkOf K mainGlobals "MOST_VALUES"
def a_MANNERS (K : Frag) : Addr := He.ga K "MANNERS"
def Pt_law_refused_right (K : Frag) : Addr := Pg.tabPOf K (Pg.cdOf K (f_law_refused_right K))
def t_KT (K : Frag) : Addr := He.ga K "KNOWN_THINGS"
def tk_KT (K : Frag) : Tok := Pg.tkOf K (t_KT K) "blind"
def fac0 (K : Frag) : Prop :=
  (PySem.W.nsIn K mainGlobals "Lead" = some (some (.ref (HX.C_Lead K)))) ∧
  (PySem.W.plainGet K (HX.C_Lead K) Str.empty = true) ∧
  (PySem.W.hasDictIn K (HX.C_Lead K) = true) ∧
  (PySem.W.plainOver K (HX.C_Lead K) = true) ∧
  (PySem.W.findIn K (.ref (HX.C_Lead K)) "__setattr__" = some (some (.builtin "object.__setattr__"))) ∧
  (PySem.W.makesIn K (HX.C_Lead K) = true) ∧
  (PySem.W.keepIn K (.ref (HX.C_Lead K)) = true) ∧
  (PySem.W.findIn K (.ref (HX.C_Lead K)) "begin" = some none) ∧
  (PySem.W.findIn K (.ref (HX.C_Lead K)) "into" = some none) ∧
  (PySem.W.findIn K (.ref (HX.C_Lead K)) "row" = some none) ∧
  (PySem.W.nsIn K mainGlobals "Items" = some (some (.ref (HX.C_Items K)))) ∧
  (PySem.W.plainGet K (HX.C_Items K) Str.empty = true) ∧
  (PySem.W.hasDictIn K (HX.C_Items K) = true) ∧
  (PySem.W.plainOver K (HX.C_Items K) = true) ∧
  (PySem.W.findIn K (.ref (HX.C_Items K)) "__setattr__" = some (some (.builtin "object.__setattr__"))) ∧
  (PySem.W.makesIn K (HX.C_Items K) = true) ∧
  (PySem.W.keepIn K (.ref (HX.C_Items K)) = true) ∧
  (PySem.W.findIn K (.ref (HX.C_Items K)) "words" = some none) ∧
  (PySem.W.findIn K (.ref (HX.C_Items K)) "taken" = some none) ∧
  (PySem.W.nsIn K mainGlobals "Told" = some (some (.ref (HX.C_Told K)))) ∧
  (PySem.W.plainGet K (HX.C_Told K) Str.empty = true) ∧
  (PySem.W.hasDictIn K (HX.C_Told K) = true) ∧
  (PySem.W.plainOver K (HX.C_Told K) = true) ∧
  (PySem.W.findIn K (.ref (HX.C_Told K)) "__setattr__" = some (some (.builtin "object.__setattr__"))) ∧
  (PySem.W.mroIn K (HX.C_Told K) (.type "object") = some true)
instance (K : Frag) : Decidable (fac0 K) := by unfold fac0; infer_instance
def fac1 (K : Frag) : Prop :=
  (PySem.W.findIn K (.ref (HX.C_Told K)) "__ne__" = some (some (.builtin "object.__ne__"))) ∧
  (PySem.W.makesIn K (HX.C_Told K) = true) ∧
  (PySem.W.keepIn K (.ref (HX.C_Told K)) = true) ∧
  (PySem.W.findIn K (.ref (HX.C_Told K)) "things" = some none) ∧
  (PySem.W.findIn K (.ref (HX.C_Told K)) "places" = some none) ∧
  (PySem.W.findIn K (.ref (HX.C_Told K)) "tells" = some none) ∧
  (PySem.W.nsIn K mainGlobals "Kept" = some (some (.ref (HX.C_Kept K)))) ∧
  (PySem.W.plainGet K (HX.C_Kept K) Str.empty = true) ∧
  (PySem.W.hasDictIn K (HX.C_Kept K) = true) ∧
  (PySem.W.plainOver K (HX.C_Kept K) = true) ∧
  (PySem.W.findIn K (.ref (HX.C_Kept K)) "__setattr__" = some (some (.builtin "object.__setattr__"))) ∧
  (PySem.W.makesIn K (HX.C_Kept K) = true) ∧
  (PySem.W.keepIn K (.ref (HX.C_Kept K)) = true) ∧
  (PySem.W.findIn K (.ref (HX.C_Kept K)) "word" = some none) ∧
  (PySem.W.findIn K (.ref (HX.C_Kept K)) "parts" = some none) ∧
  (PySem.W.nsIn K mainGlobals "Parting" = some (some (.ref (HX.C_Parting K)))) ∧
  (PySem.W.plainGet K (HX.C_Parting K) Str.empty = true) ∧
  (PySem.W.hasDictIn K (HX.C_Parting K) = true) ∧
  (PySem.W.plainOver K (HX.C_Parting K) = true) ∧
  (PySem.W.findIn K (.ref (HX.C_Parting K)) "__setattr__" = some (some (.builtin "object.__setattr__"))) ∧
  (PySem.W.makesIn K (HX.C_Parting K) = true) ∧
  (PySem.W.keepIn K (.ref (HX.C_Parting K)) = true) ∧
  (PySem.W.findIn K (.ref (HX.C_Parting K)) "word" = some none) ∧
  (PySem.W.findIn K (.ref (HX.C_Parting K)) "parts" = some none) ∧
  (PySem.W.findIn K (.ref (HX.C_Parting K)) "lead" = some none)
instance (K : Frag) : Decidable (fac1 K) := by unfold fac1; infer_instance
def fac2 (K : Frag) : Prop :=
  (PySem.W.findIn K (.ref (HX.C_Parting K)) "row" = some none) ∧
  (PySem.W.nsIn K mainGlobals "Paper" = some (some (.ref (HX.C_Paper K)))) ∧
  (PySem.W.plainGet K (HX.C_Paper K) Str.empty = true) ∧
  (PySem.W.hasDictIn K (HX.C_Paper K) = true) ∧
  (PySem.W.plainOver K (HX.C_Paper K) = true) ∧
  (PySem.W.findIn K (.ref (HX.C_Paper K)) "__setattr__" = some (some (.builtin "object.__setattr__"))) ∧
  (PySem.W.readsIn K (HX.C_Paper K) (.type "type") = true) ∧
  (PySem.W.specialIn K (.ref (HX.C_Paper K)) "__getattribute__" = some (some (.builtin "type.__getattribute__"))) ∧
  (PySem.W.makesIn K (HX.C_Paper K) = true) ∧
  (PySem.W.keepIn K (.ref (HX.C_Paper K)) = true) ∧
  (PySem.W.nsIn K mainGlobals "Denial" = some (some (.ref (HX.C_Denial K)))) ∧
  (PySem.W.plainGet K (HX.C_Denial K) Str.empty = true) ∧
  (PySem.W.hasDictIn K (HX.C_Denial K) = true) ∧
  (PySem.W.plainOver K (HX.C_Denial K) = true) ∧
  (PySem.W.findIn K (.ref (HX.C_Denial K)) "__setattr__" = some (some (.builtin "object.__setattr__"))) ∧
  (PySem.W.readsIn K (HX.C_Denial K) (.type "type") = true) ∧
  (PySem.W.specialIn K (.ref (HX.C_Denial K)) "__getattribute__" = some (some (.builtin "type.__getattribute__"))) ∧
  (PySem.W.makesIn K (HX.C_Denial K) = true) ∧
  (PySem.W.keepIn K (.ref (HX.C_Denial K)) = true) ∧
  (PySem.W.nsIn K mainGlobals "Worker" = some (some (.ref (HX.C_Worker K)))) ∧
  (PySem.W.plainGet K (HX.C_Worker K) Str.empty = true) ∧
  (PySem.W.hasDictIn K (HX.C_Worker K) = true) ∧
  (PySem.W.plainOver K (HX.C_Worker K) = true) ∧
  (PySem.W.findIn K (.ref (HX.C_Worker K)) "__setattr__" = some (some (.builtin "object.__setattr__"))) ∧
  (PySem.W.readsIn K (HX.C_Worker K) (.type "type") = true)
instance (K : Frag) : Decidable (fac2 K) := by unfold fac2; infer_instance
def fac3 (K : Frag) : Prop :=
  (PySem.W.specialIn K (.ref (HX.C_Worker K)) "__getattribute__" = some (some (.builtin "type.__getattribute__"))) ∧
  (PySem.W.makesIn K (HX.C_Worker K) = true) ∧
  (PySem.W.keepIn K (.ref (HX.C_Worker K)) = true) ∧
  (PySem.W.nsIn K mainGlobals "Place" = some (some (.ref (HX.C_Place K)))) ∧
  (PySem.W.plainGet K (HX.C_Place K) Str.empty = true) ∧
  (PySem.W.hasDictIn K (HX.C_Place K) = true) ∧
  (PySem.W.plainOver K (HX.C_Place K) = true) ∧
  (PySem.W.findIn K (.ref (HX.C_Place K)) "__setattr__" = some (some (.builtin "object.__setattr__"))) ∧
  (PySem.W.mroIn K (HX.C_Place K) (.type "object") = some true) ∧
  (PySem.W.findIn K (.ref (HX.C_Place K)) "__ne__" = some (some (.builtin "object.__ne__"))) ∧
  (PySem.W.makesIn K (HX.C_Place K) = true) ∧
  (PySem.W.keepIn K (.ref (HX.C_Place K)) = true) ∧
  (PySem.W.findIn K (.ref (HX.C_Place K)) "places" = some none) ∧
  (PySem.W.findIn K (.ref (HX.C_Place K)) "place" = some none) ∧
  (PySem.W.nsIn K mainGlobals "Thing" = some (some (.ref (HX.C_Thing K)))) ∧
  (PySem.W.plainGet K (HX.C_Thing K) Str.empty = true) ∧
  (PySem.W.hasDictIn K (HX.C_Thing K) = true) ∧
  (PySem.W.plainOver K (HX.C_Thing K) = true) ∧
  (PySem.W.findIn K (.ref (HX.C_Thing K)) "__setattr__" = some (some (.builtin "object.__setattr__"))) ∧
  (PySem.W.makesIn K (HX.C_Thing K) = true) ∧
  (PySem.W.keepIn K (.ref (HX.C_Thing K)) = true) ∧
  (PySem.W.nsIn K mainGlobals "law" = some (some (.ref (HX.f_law K)))) ∧
  (PySem.W.keepIn K (.ref (HX.f_law K)) = true) ∧
  (PySem.W.nsIn K mainGlobals "is_integer" = some (some (.ref (HX.f_is_integer K)))) ∧
  (PySem.W.keepIn K (.ref (HX.f_is_integer K)) = true)
instance (K : Frag) : Decidable (fac3 K) := by unfold fac3; infer_instance
def fac4 (K : Frag) : Prop :=
  (PySem.W.nsIn K mainGlobals "are_numbers" = some (some (.ref (HX.f_are_numbers K)))) ∧
  (PySem.W.keepIn K (.ref (HX.f_are_numbers K)) = true) ∧
  (PySem.W.nsIn K mainGlobals "is_within" = some (some (.ref (HX.f_is_within K)))) ∧
  (PySem.W.keepIn K (.ref (HX.f_is_within K)) = true) ∧
  (PySem.W.nsIn K mainGlobals "demand_number" = some (some (.ref (HX.f_demand_number K)))) ∧
  (PySem.W.keepIn K (.ref (HX.f_demand_number K)) = true) ∧
  (PySem.W.nsIn K mainGlobals "demand_world" = some (some (.ref (HX.f_demand_world K)))) ∧
  (PySem.W.keepIn K (.ref (HX.f_demand_world K)) = true) ∧
  (PySem.W.nsIn K mainGlobals "demand_numbers" = some (some (.ref (HX.f_demand_numbers K)))) ∧
  (PySem.W.keepIn K (.ref (HX.f_demand_numbers K)) = true) ∧
  (PySem.W.nsIn K mainGlobals "demand_things" = some (some (.ref (HX.f_demand_things K)))) ∧
  (PySem.W.keepIn K (.ref (HX.f_demand_things K)) = true) ∧
  (PySem.W.findIn K (.ref (HX.C_Lead K)) "__init__" = some (some (.ref (HX.f_Lead___init__ K)))) ∧
  (PySem.W.isFn K (.ref (HX.f_Lead___init__ K)) = true) ∧
  (PySem.W.keepIn K (.ref (HX.f_Lead___init__ K)) = true) ∧
  (PySem.W.nsIn K mainGlobals "all_rows" = some (some (.ref (HX.f_all_rows K)))) ∧
  (PySem.W.keepIn K (.ref (HX.f_all_rows K)) = true) ∧
  (PySem.W.nsIn K mainGlobals "many_rows" = some (some (.ref (HX.f_many_rows K)))) ∧
  (PySem.W.keepIn K (.ref (HX.f_many_rows K)) = true) ∧
  (PySem.W.nsIn K mainGlobals "row_index" = some (some (.ref (HX.f_row_index K)))) ∧
  (PySem.W.keepIn K (.ref (HX.f_row_index K)) = true) ∧
  (PySem.W.nsIn K mainGlobals "demand_many_places" = some (some (.ref (HX.f_demand_many_places K)))) ∧
  (PySem.W.keepIn K (.ref (HX.f_demand_many_places K)) = true) ∧
  (PySem.W.nsIn K mainGlobals "demand_many_numbers" = some (some (.ref (HX.f_demand_many_numbers K)))) ∧
  (PySem.W.keepIn K (.ref (HX.f_demand_many_numbers K)) = true)
instance (K : Frag) : Decidable (fac4 K) := by unfold fac4; infer_instance
def fac5 (K : Frag) : Prop :=
  (PySem.W.nsIn K mainGlobals "demand_few_values" = some (some (.ref (HX.f_demand_few_values K)))) ∧
  (PySem.W.keepIn K (.ref (HX.f_demand_few_values K)) = true) ∧
  (PySem.W.nsIn K mainGlobals "inputs" = some (some (.ref (HX.f_inputs K)))) ∧
  (PySem.W.keepIn K (.ref (HX.f_inputs K)) = true) ∧
  (PySem.W.findIn K (.ref (HX.C_Told K)) "__init__" = some (some (.ref (HX.f_Told___init__ K)))) ∧
  (PySem.W.isFn K (.ref (HX.f_Told___init__ K)) = true) ∧
  (PySem.W.keepIn K (.ref (HX.f_Told___init__ K)) = true) ∧
  (PySem.W.findIn K (.ref (HX.C_Told K)) "__eq__" = some (some (.ref (HX.f_Told___eq__ K)))) ∧
  (PySem.W.isFn K (.ref (HX.f_Told___eq__ K)) = true) ∧
  (PySem.W.keepIn K (.ref (HX.f_Told___eq__ K)) = true) ∧
  (PySem.W.nsIn K mainGlobals "never_falls" = some (some (.ref (HX.f_never_falls K)))) ∧
  (PySem.W.keepIn K (.ref (HX.f_never_falls K)) = true) ∧
  (PySem.W.nsIn K mainGlobals "never_rises" = some (some (.ref (HX.f_never_rises K)))) ∧
  (PySem.W.keepIn K (.ref (HX.f_never_rises K)) = true) ∧
  (PySem.W.nsIn K mainGlobals "rises" = some (some (.ref (HX.f_rises K)))) ∧
  (PySem.W.keepIn K (.ref (HX.f_rises K)) = true) ∧
  (PySem.W.nsIn K mainGlobals "row_is_of" = some (some (.ref (HX.f_row_is_of K)))) ∧
  (PySem.W.keepIn K (.ref (HX.f_row_is_of K)) = true) ∧
  (PySem.W.nsIn K mainGlobals "demand_manner" = some (some (.ref (HX.f_demand_manner K)))) ∧
  (PySem.W.keepIn K (.ref (HX.f_demand_manner K)) = true) ∧
  (PySem.W.nsIn K mainGlobals "demand_two" = some (some (.ref (HX.f_demand_two K)))) ∧
  (PySem.W.keepIn K (.ref (HX.f_demand_two K)) = true) ∧
  (PySem.W.nsIn K mainGlobals "row_at" = some (some (.ref (HX.f_row_at K)))) ∧
  (PySem.W.keepIn K (.ref (HX.f_row_at K)) = true) ∧
  (PySem.W.nsIn K mainGlobals "led_indices" = some (some (.ref (HX.f_led_indices K))))
instance (K : Frag) : Decidable (fac5 K) := by unfold fac5; infer_instance
def fac6 (K : Frag) : Prop :=
  (PySem.W.keepIn K (.ref (HX.f_led_indices K)) = true) ∧
  (PySem.W.nsIn K mainGlobals "demand_told" = some (some (.ref (HX.f_demand_told K)))) ∧
  (PySem.W.keepIn K (.ref (HX.f_demand_told K)) = true) ∧
  (PySem.W.nsIn K mainGlobals "first_parting" = some (some (.ref (HX.f_first_parting K)))) ∧
  (PySem.W.keepIn K (.ref (HX.f_first_parting K)) = true) ∧
  (PySem.W.nsIn K mainGlobals "put_row" = some (some (.ref (HX.f_put_row K)))) ∧
  (PySem.W.keepIn K (.ref (HX.f_put_row K)) = true) ∧
  (PySem.W.nsIn K mainGlobals "exchange_row" = some (some (.ref (HX.f_exchange_row K)))) ∧
  (PySem.W.keepIn K (.ref (HX.f_exchange_row K)) = true) ∧
  (PySem.W.nsIn K mainGlobals "candidate_rows" = some (some (.ref (HX.f_candidate_rows K)))) ∧
  (PySem.W.keepIn K (.ref (HX.f_candidate_rows K)) = true) ∧
  (PySem.W.nsIn K mainGlobals "few_rows" = some (some (.ref (HX.f_few_rows K)))) ∧
  (PySem.W.keepIn K (.ref (HX.f_few_rows K)) = true) ∧
  (PySem.W.nsIn K mainGlobals "fixed" = some (some (.ref (HX.f_fixed K)))) ∧
  (PySem.W.keepIn K (.ref (HX.f_fixed K)) = true) ∧
  (PySem.W.findIn K (.ref (HX.C_Paper K)) "__init__" = some (some (.ref (HX.f_Paper___init__ K)))) ∧
  (PySem.W.isFn K (.ref (HX.f_Paper___init__ K)) = true) ∧
  (PySem.W.keepIn K (.ref (HX.f_Paper___init__ K)) = true) ∧
  (PySem.W.findIn K (.ref (HX.C_Denial K)) "__init__" = some (some (.ref (HX.f_Denial___init__ K)))) ∧
  (PySem.W.isFn K (.ref (HX.f_Denial___init__ K)) = true) ∧
  (PySem.W.keepIn K (.ref (HX.f_Denial___init__ K)) = true) ∧
  (PySem.W.findIn K (.ref (HX.C_Kept K)) "__init__" = some (some (.ref (HX.f_Kept___init__ K)))) ∧
  (PySem.W.isFn K (.ref (HX.f_Kept___init__ K)) = true) ∧
  (PySem.W.keepIn K (.ref (HX.f_Kept___init__ K)) = true) ∧
  (PySem.W.findIn K (.ref (HX.C_Parting K)) "__init__" = some (some (.ref (HX.f_Parting___init__ K))))
instance (K : Frag) : Decidable (fac6 K) := by unfold fac6; infer_instance
def fac7 (K : Frag) : Prop :=
  (PySem.W.isFn K (.ref (HX.f_Parting___init__ K)) = true) ∧
  (PySem.W.keepIn K (.ref (HX.f_Parting___init__ K)) = true) ∧
  (PySem.W.findIn K (.ref (HX.C_Paper K)) "__bool__" = some (some (.ref (HX.f_Paper___bool__ K)))) ∧
  (PySem.W.isFn K (.ref (HX.f_Paper___bool__ K)) = true) ∧
  (PySem.W.keepIn K (.ref (HX.f_Paper___bool__ K)) = true) ∧
  (PySem.W.findIn K (.ref (HX.C_Denial K)) "__bool__" = some (some (.ref (HX.f_Denial___bool__ K)))) ∧
  (PySem.W.isFn K (.ref (HX.f_Denial___bool__ K)) = true) ∧
  (PySem.W.keepIn K (.ref (HX.f_Denial___bool__ K)) = true) ∧
  (PySem.W.nsIn K mainGlobals "demand_told_manner" = some (some (.ref (HX.f_demand_told_manner K)))) ∧
  (PySem.W.keepIn K (.ref (HX.f_demand_told_manner K)) = true) ∧
  (PySem.W.nsIn K mainGlobals "kept" = some (some (.ref (HX.f_kept K)))) ∧
  (PySem.W.keepIn K (.ref (HX.f_kept K)) = true) ∧
  (PySem.W.nsIn K mainGlobals "keeps" = some (some (.ref (HX.f_keeps K)))) ∧
  (PySem.W.keepIn K (.ref (HX.f_keeps K)) = true) ∧
  (PySem.W.nsIn K mainGlobals "demand_place" = some (some (.ref (HX.f_demand_place K)))) ∧
  (PySem.W.keepIn K (.ref (HX.f_demand_place K)) = true) ∧
  (PySem.W.findIn K (.ref (HX.C_Worker K)) "__init__" = some (some (.ref (HX.f_Worker___init__ K)))) ∧
  (PySem.W.isFn K (.ref (HX.f_Worker___init__ K)) = true) ∧
  (PySem.W.keepIn K (.ref (HX.f_Worker___init__ K)) = true) ∧
  (PySem.W.findIn K (.ref (HX.C_Place K)) "__init__" = some (some (.ref (HX.f_Place___init__ K)))) ∧
  (PySem.W.isFn K (.ref (HX.f_Place___init__ K)) = true) ∧
  (PySem.W.keepIn K (.ref (HX.f_Place___init__ K)) = true) ∧
  (PySem.W.findIn K (.ref (HX.C_Place K)) "over" = some (some (.ref (HX.f_Place_over K)))) ∧
  (PySem.W.isFn K (.ref (HX.f_Place_over K)) = true) ∧
  (PySem.W.keepIn K (.ref (HX.f_Place_over K)) = true)
instance (K : Frag) : Decidable (fac7 K) := by unfold fac7; infer_instance
def fac8 (K : Frag) : Prop :=
  (PySem.W.nsIn K mainGlobals "demand_known_manner" = some (some (.ref (HX.f_demand_known_manner K)))) ∧
  (PySem.W.keepIn K (.ref (HX.f_demand_known_manner K)) = true) ∧
  (PySem.W.nsIn K mainGlobals "all_known" = some (some (.ref (HX.f_all_known K)))) ∧
  (PySem.W.keepIn K (.ref (HX.f_all_known K)) = true) ∧
  (PySem.W.nsIn K mainGlobals "known_of" = some (some (.ref (HX.f_known_of K)))) ∧
  (PySem.W.keepIn K (.ref (HX.f_known_of K)) = true) ∧
  (PySem.W.nsIn K mainGlobals "_law_jug" = some (some (.ref (HX.f_law_jug K)))) ∧
  (PySem.W.keepIn K (.ref (HX.f_law_jug K)) = true) ∧
  (PySem.W.nsIn K mainGlobals "_law_tap" = some (some (.ref (HX.f_law_tap K)))) ∧
  (PySem.W.keepIn K (.ref (HX.f_law_tap K)) = true) ∧
  (PySem.W.nsIn K mainGlobals "_law_pick" = some (some (.ref (HX.f_law_pick K)))) ∧
  (PySem.W.keepIn K (.ref (HX.f_law_pick K)) = true) ∧
  (PySem.W.nsIn K mainGlobals "_law_inputs" = some (some (.ref (HX.f_law_inputs K)))) ∧
  (PySem.W.keepIn K (.ref (HX.f_law_inputs K)) = true) ∧
  (PySem.W.nsIn K mainGlobals "is_turned" = some (some (.ref (HX.f_is_turned K)))) ∧
  (PySem.W.keepIn K (.ref (HX.f_is_turned K)) = true) ∧
  (PySem.W.findIn K (.ref (HX.C_Place K)) "__eq__" = some (some (.ref (HX.f_Place___eq__ K)))) ∧
  (PySem.W.isFn K (.ref (HX.f_Place___eq__ K)) = true) ∧
  (PySem.W.keepIn K (.ref (HX.f_Place___eq__ K)) = true) ∧
  (PySem.W.nsIn K mainGlobals "_law_goes" = some (some (.ref (HX.f_law_goes K)))) ∧
  (PySem.W.keepIn K (.ref (HX.f_law_goes K)) = true) ∧
  (PySem.W.nsIn K mainGlobals "_law_is_turned" = some (some (.ref (HX.f_law_is_turned K)))) ∧
  (PySem.W.keepIn K (.ref (HX.f_law_is_turned K)) = true) ∧
  (PySem.W.nsIn K mainGlobals "_law_digits" = some (some (.ref (HX.f_law_digits K)))) ∧
  (PySem.W.keepIn K (.ref (HX.f_law_digits K)) = true)
instance (K : Frag) : Decidable (fac8 K) := by unfold fac8; infer_instance
def fac9 (K : Frag) : Prop :=
  (PySem.W.nsIn K mainGlobals "_law_half" = some (some (.ref (HX.f_law_half K)))) ∧
  (PySem.W.keepIn K (.ref (HX.f_law_half K)) = true) ∧
  (PySem.W.nsIn K mainGlobals "_law_bent" = some (some (.ref (HX.f_law_bent K)))) ∧
  (PySem.W.keepIn K (.ref (HX.f_law_bent K)) = true) ∧
  (PySem.W.nsIn K mainGlobals "_law_parts" = some (some (.ref (HX.f_law_parts K)))) ∧
  (PySem.W.keepIn K (.ref (HX.f_law_parts K)) = true) ∧
  (PySem.W.nsIn K mainGlobals "_law_right" = some (some (.ref (HX.f_law_right K)))) ∧
  (PySem.W.keepIn K (.ref (HX.f_law_right K)) = true) ∧
  (PySem.W.nsIn K mainGlobals "_law_heard" = some (some (.ref (HX.f_law_heard K)))) ∧
  (PySem.W.keepIn K (.ref (HX.f_law_heard K)) = true) ∧
  (PySem.W.nsIn K mainGlobals "_law_refused_right" = some (some (.ref (HX.f_law_refused_right K)))) ∧
  (PySem.W.keepIn K (.ref (HX.f_law_refused_right K)) = true) ∧
  (PySem.W.findIn K (.ref (HX.C_Thing K)) "__init__" = some (some (.ref (HX.f_Thing___init__ K)))) ∧
  (PySem.W.isFn K (.ref (HX.f_Thing___init__ K)) = true) ∧
  (PySem.W.keepIn K (.ref (HX.f_Thing___init__ K)) = true) ∧
  (PySem.W.findIn K (.ref (HX.C_BadTold K)) "__init__" = some (some (.ref (HX.f_BadTold___init__ K)))) ∧
  (PySem.W.isFn K (.ref (HX.f_BadTold___init__ K)) = true) ∧
  (PySem.W.keepIn K (.ref (HX.f_BadTold___init__ K)) = true) ∧
  (PySem.W.findIn K (.ref (HX.C_Misfit K)) "__init__" = some (some (.ref (HX.f_Misfit___init__ K)))) ∧
  (PySem.W.isFn K (.ref (HX.f_Misfit___init__ K)) = true) ∧
  (PySem.W.keepIn K (.ref (HX.f_Misfit___init__ K)) = true) ∧
  (PySem.W.nsIn K mainGlobals "MOST_THINGS" = some (some (.int 5 (HX.t_MOST_THINGS K)))) ∧
  (PySem.W.nsIn K mainGlobals "MOST_PLACES" = some (some (.int 4 (HX.t_MOST_PLACES K)))) ∧
  (PySem.W.nsIn K mainGlobals "MOST_VALUES" = some (some (.int 256 (HX.t_MOST_VALUES K)))) ∧
  (PySem.W.nsIn K mainGlobals "MANNERS" = some (some (.ref (HX.a_MANNERS K))))
instance (K : Frag) : Decidable (fac9 K) := by unfold fac9; infer_instance
def fac10 (K : Frag) : Prop :=
  (Pg.tupsB K (HX.a_MANNERS K) ["blind", "rank", "either", "least", "ends", "one", "two", "alike", "order"] = true) ∧
  (PySem.W.nsIn K mainGlobals "len" = some none) ∧
  (PySem.W.nsIn K mainGlobals "all" = some none) ∧
  (PySem.W.nsIn K mainGlobals "any" = some none) ∧
  (PySem.W.nsIn K mainGlobals "isinstance" = some none) ∧
  (PySem.W.nsIn K mainGlobals "int" = some none) ∧
  (PySem.W.nsIn K mainGlobals "bool" = some none) ∧
  (PySem.W.nsIn K mainGlobals "list" = some none) ∧
  (PySem.W.nsIn K mainGlobals "tuple" = some none) ∧
  (PySem.W.nsIn K mainGlobals "str" = some none) ∧
  (PySem.W.nsIn K mainGlobals "range" = some none) ∧
  (PySem.W.nsIn K mainGlobals "zip" = some none) ∧
  (PySem.W.nsIn K mainGlobals "sorted" = some none) ∧
  (PySem.W.nsIn K mainGlobals "type" = some none) ∧
  (PySem.W.nsIn K mainGlobals "max" = some none) ∧
  (PySem.W.nsIn K mainGlobals "min" = some none) ∧
  (PySem.W.nsIn K mainGlobals "abs" = some none) ∧
  (PySem.W.nsIn K mainGlobals "repr" = some none) ∧
  (PySem.W.nsIn K mainGlobals "set" = some none) ∧
  (PySem.W.nsIn K mainGlobals "enumerate" = some none) ∧
  (PySem.W.nsIn K mainGlobals "dict" = some none) ∧
  (PySem.W.nsIn K mainGlobals "sum" = some none) ∧
  (PySem.W.nsIn K mainGlobals "KNOWN_THINGS" = some (some (.ref (HX.t_KT K)))) ∧
  (((HX.t_KT K) == sysModules) = false) ∧
  (PySem.W.nsIn K (HX.t_KT K) "blind" = some (some (.int 0 (HX.tk_KT K))))
instance (K : Frag) : Decidable (fac10 K) := by unfold fac10; infer_instance
def fac11 (K : Frag) : Prop :=
  (PySem.W.specialIn K (.builtin "object.__class__") "__get__" = some (some (.builtin "getset_descriptor.__get__"))) ∧
  (PySem.W.takesIn K (.builtin "object.__class__") = some true) ∧
  (PySem.W.findIn K (.ref (HX.C_Lead K)) "__class__" = some (some (.builtin "object.__class__"))) ∧
  (PySem.W.mroIn K (HX.C_Lead K) (.type "object") = some true) ∧
  (PySem.W.findIn K (.ref (HX.C_Kept K)) "__class__" = some (some (.builtin "object.__class__"))) ∧
  (PySem.W.mroIn K (HX.C_Kept K) (.type "object") = some true) ∧
  (PySem.W.findIn K (.ref (HX.C_Parting K)) "__class__" = some (some (.builtin "object.__class__"))) ∧
  (PySem.W.mroIn K (HX.C_Parting K) (.type "object") = some true) ∧
  (PySem.W.kitAny K (.ref (HX.C_Lead K)) [.type "list", .type "tuple"] = some false) ∧
  (PySem.W.kitOne K (.ref (HX.C_Kept K)) (.ref (HX.C_Kept K)) = some true) ∧
  (PySem.W.kitOne K (.ref (HX.C_Parting K)) (.ref (HX.C_Parting K)) = some true) ∧
  (PySem.W.findIn K (.ref (HX.C_Kept K)) "__bool__" = some (some (.ref (HX.f_Paper___bool__ K)))) ∧
  (PySem.W.findIn K (.ref (HX.C_Parting K)) "__bool__" = some (some (.ref (HX.f_Denial___bool__ K)))) ∧
  (Pg.isVal (PySem.W.findCls K (.ref (HX.C_Paper K)) (.type "type") "__init__") (.ref (HX.f_Paper___init__ K)) = true) ∧
  (Pg.isVal (PySem.W.findCls K (.ref (HX.C_Denial K)) (.type "type") "__init__") (.ref (HX.f_Denial___init__ K)) = true) ∧
  (Pg.isVal (PySem.W.findCls K (.ref (HX.C_Worker K)) (.type "type") "__init__") (.ref (HX.f_Worker___init__ K)) = true) ∧
  (PySem.W.nsIn K mainGlobals "BadTold" = some (some (.ref (HX.C_BadTold K)))) ∧
  (PySem.W.nsIn K mainGlobals "Misfit" = some (some (.ref (HX.C_Misfit K)))) ∧
  (PySem.W.nsIn K mainGlobals "TellsError" = some (some (.ref (HX.C_TellsError K)))) ∧
  (Pg.excB K (HX.C_BadTold K) = true) ∧
  (PySem.W.findIn K (.ref (HX.C_BadTold K)) "__setattr__" = some (some (.builtin "object.__setattr__"))) ∧
  (PySem.W.subIn K (.ref (HX.C_BadTold K)) (.type "BaseException") = some true) ∧
  (PySem.W.typeIn K (.ref (HX.C_BadTold K)) = some (.type "type")) ∧
  (PySem.W.keepIn K (.ref (HX.C_BadTold K)) = true) ∧
  (PySem.W.findIn K (.ref (HX.C_BadTold K)) "part" = some none)
instance (K : Frag) : Decidable (fac11 K) := by unfold fac11; infer_instance
def fac12 (K : Frag) : Prop :=
  (PySem.W.hasDictIn K (HX.C_BadTold K) = true) ∧
  ((PySem.W.clsIn K (HX.C_BadTold K)).isSome = true) ∧
  (PySem.W.findIn K (.ref (HX.C_BadTold K)) "__getattribute__" = some (some (.builtin "BaseException.__getattribute__"))) ∧
  (PySem.W.findIn K (.ref (HX.C_BadTold K)) "__getattr__" = some none) ∧
  (PySem.W.findIn K (.ref (HX.C_BadTold K)) "__class__" = some (some (.builtin "object.__class__"))) ∧
  (PySem.W.mroIn K (HX.C_BadTold K) (.type "object") = some true) ∧
  (PySem.W.typeIn K (.ref (HX.f_BadTold___init__ K)) = some (.type "function")) ∧
  (PySem.W.exmOne K (.ref (HX.C_BadTold K)) (.ref (HX.C_TellsError K)) = some true) ∧
  (Pg.excB K (HX.C_Misfit K) = true) ∧
  (PySem.W.findIn K (.ref (HX.C_Misfit K)) "__setattr__" = some (some (.builtin "object.__setattr__"))) ∧
  (PySem.W.subIn K (.ref (HX.C_Misfit K)) (.type "BaseException") = some true) ∧
  (PySem.W.typeIn K (.ref (HX.C_Misfit K)) = some (.type "type")) ∧
  (PySem.W.keepIn K (.ref (HX.C_Misfit K)) = true) ∧
  (PySem.W.findIn K (.ref (HX.C_Misfit K)) "part" = some none) ∧
  (PySem.W.hasDictIn K (HX.C_Misfit K) = true) ∧
  ((PySem.W.clsIn K (HX.C_Misfit K)).isSome = true) ∧
  (PySem.W.findIn K (.ref (HX.C_Misfit K)) "__getattribute__" = some (some (.builtin "BaseException.__getattribute__"))) ∧
  (PySem.W.findIn K (.ref (HX.C_Misfit K)) "__getattr__" = some none) ∧
  (PySem.W.findIn K (.ref (HX.C_Misfit K)) "__class__" = some (some (.builtin "object.__class__"))) ∧
  (PySem.W.mroIn K (HX.C_Misfit K) (.type "object") = some true) ∧
  (PySem.W.typeIn K (.ref (HX.f_Misfit___init__ K)) = some (.type "function")) ∧
  (PySem.W.exmOne K (.ref (HX.C_Misfit K)) (.ref (HX.C_TellsError K)) = some true) ∧
  (PySem.W.kitOne K (.ref (HX.C_BadTold K)) (.ref (HX.C_BadTold K)) = some true) ∧
  (PySem.W.kitOne K (.ref (HX.C_Misfit K)) (.ref (HX.C_BadTold K)) = some false) ∧
  (PySem.W.kitAny K (.ref (HX.C_BadTold K)) [.ref (HX.C_BadTold K), .ref (HX.C_Misfit K)] = some true)
instance (K : Frag) : Decidable (fac12 K) := by unfold fac12; infer_instance
def fac13 (K : Frag) : Prop :=
  (PySem.W.kitAny K (.ref (HX.C_Misfit K)) [.ref (HX.C_BadTold K), .ref (HX.C_Misfit K)] = some true) ∧
  ((HX.C_Place K) ≠ (HX.C_Told K)) ∧
  (Pg.tabB K (Pg.cdOf K (HX.f_law_refused_right K)) (HX.Pt_law_refused_right K) = true) ∧
  (Pg.cdRef K (HX.f_law K) = true) ∧
  (Pg.cdRef K (HX.f_law_refused_right K) = true)
instance (K : Frag) : Decidable (fac13 K) := by unfold fac13; infer_instance
def fa (K : Frag) : Bool := decide (fac0 K) && (decide (fac1 K) && (decide (fac2 K) && (decide (fac3 K) && (decide (fac4 K) && (decide (fac5 K) && (decide (fac6 K) && (decide (fac7 K) && (decide (fac8 K) && (decide (fac9 K) && (decide (fac10 K) && (decide (fac11 K) && (decide (fac12 K) && (decide (fac13 K) && (true))))))))))))))
def fn0 : List Pg.FnX := [⟨HX.f_law, "law", "law", defArgs (HX.tS 94), defBody (HX.tS 94), defScope (HX.tS 94)⟩,
  ⟨HX.f_is_integer, "is_integer", "is_integer", defArgs (HX.tS 6), defBody (HX.tS 6), defScope (HX.tS 6)⟩,
  ⟨HX.f_are_numbers, "are_numbers", "are_numbers", defArgs (HX.tS 8), defBody (HX.tS 8), defScope (HX.tS 8)⟩,
  ⟨HX.f_is_within, "is_within", "is_within", defArgs (HX.tS 7), defBody (HX.tS 7), defScope (HX.tS 7)⟩,
  ⟨HX.f_demand_number, "demand_number", "demand_number", defArgs (HX.tS 24), defBody (HX.tS 24), defScope (HX.tS 24)⟩,
  ⟨HX.f_demand_world, "demand_world", "demand_world", defArgs (HX.tS 25), defBody (HX.tS 25), defScope (HX.tS 25)⟩,
  ⟨HX.f_demand_numbers, "demand_numbers", "demand_numbers", defArgs (HX.tS 27), defBody (HX.tS 27), defScope (HX.tS 27)⟩,
  ⟨HX.f_demand_things, "demand_things", "demand_things", defArgs (HX.tS 29), defBody (HX.tS 29), defScope (HX.tS 29)⟩,
  ⟨HX.f_Lead___init__, "__init__", "Lead.__init__", defArgs (inClass (HX.tS 35) 0), defBody (inClass (HX.tS 35) 0), defScope (inClass (HX.tS 35) 0)⟩,
  ⟨HX.f_all_rows, "all_rows", "all_rows", defArgs (HX.tS 38), defBody (HX.tS 38), defScope (HX.tS 38)⟩,
  ⟨HX.f_many_rows, "many_rows", "many_rows", defArgs (HX.tS 37), defBody (HX.tS 37), defScope (HX.tS 37)⟩,
  ⟨HX.f_row_index, "row_index", "row_index", defArgs (HX.tS 39), defBody (HX.tS 39), defScope (HX.tS 39)⟩,
  ⟨HX.f_demand_many_places, "demand_many_places", "demand_many_places", defArgs (HX.tS 26), defBody (HX.tS 26), defScope (HX.tS 26)⟩,
  ⟨HX.f_demand_many_numbers, "demand_many_numbers", "demand_many_numbers", defArgs (HX.tS 28), defBody (HX.tS 28), defScope (HX.tS 28)⟩,
  ⟨HX.f_demand_few_values, "demand_few_values", "demand_few_values", defArgs (HX.tS 56), defBody (HX.tS 56), defScope (HX.tS 56)⟩,
  ⟨HX.f_inputs, "inputs", "inputs", defArgs (HX.tS 57), defBody (HX.tS 57), defScope (HX.tS 57)⟩,
  ⟨HX.f_Told___init__, "__init__", "Told.__init__", defArgs (inClass (HX.tS 59) 0), defBody (inClass (HX.tS 59) 0), defScope (inClass (HX.tS 59) 0)⟩,
  ⟨HX.f_Told___eq__, "__eq__", "Told.__eq__", defArgs (inClass (HX.tS 59) 1), defBody (inClass (HX.tS 59) 1), defScope (inClass (HX.tS 59) 1)⟩,
  ⟨HX.f_never_falls, "never_falls", "never_falls", defArgs (HX.tS 46), defBody (HX.tS 46), defScope (HX.tS 46)⟩,
  ⟨HX.f_never_rises, "never_rises", "never_rises", defArgs (HX.tS 47), defBody (HX.tS 47), defScope (HX.tS 47)⟩,
  ⟨HX.f_rises, "rises", "rises", defArgs (HX.tS 48), defBody (HX.tS 48), defScope (HX.tS 48)⟩,
  ⟨HX.f_row_is_of, "row_is_of", "row_is_of", defArgs (HX.tS 49), defBody (HX.tS 49), defScope (HX.tS 49)⟩,
  ⟨HX.f_demand_manner, "demand_manner", "demand_manner", defArgs (HX.tS 44), defBody (HX.tS 44), defScope (HX.tS 44)⟩,
  ⟨HX.f_demand_two, "demand_two", "demand_two", defArgs (HX.tS 45), defBody (HX.tS 45), defScope (HX.tS 45)⟩,
  ⟨HX.f_row_at, "row_at", "row_at", defArgs (HX.tS 40), defBody (HX.tS 40), defScope (HX.tS 40)⟩]
def fn1 : List Pg.FnX := [⟨HX.f_led_indices, "led_indices", "led_indices", defArgs (HX.tS 41), defBody (HX.tS 41), defScope (HX.tS 41)⟩,
  ⟨HX.f_demand_told, "demand_told", "demand_told", defArgs (HX.tS 60), defBody (HX.tS 60), defScope (HX.tS 60)⟩,
  ⟨HX.f_first_parting, "first_parting", "first_parting", defArgs (HX.tS 76), defBody (HX.tS 76), defScope (HX.tS 76)⟩,
  ⟨HX.f_put_row, "put_row", "put_row", defArgs (HX.tS 50), defBody (HX.tS 50), defScope (HX.tS 50)⟩,
  ⟨HX.f_exchange_row, "exchange_row", "exchange_row", defArgs (HX.tS 51), defBody (HX.tS 51), defScope (HX.tS 51)⟩,
  ⟨HX.f_candidate_rows, "candidate_rows", "candidate_rows", defArgs (HX.tS 52), defBody (HX.tS 52), defScope (HX.tS 52)⟩,
  ⟨HX.f_few_rows, "few_rows", "few_rows", defArgs (HX.tS 53), defBody (HX.tS 53), defScope (HX.tS 53)⟩,
  ⟨HX.f_fixed, "fixed", "fixed", defArgs (HX.tS 2), defBody (HX.tS 2), defScope (HX.tS 2)⟩,
  ⟨HX.f_Paper___init__, "__init__", "Paper.__init__", defArgs (inClass (HX.tS 3) 0), defBody (inClass (HX.tS 3) 0), defScope (inClass (HX.tS 3) 0)⟩,
  ⟨HX.f_Denial___init__, "__init__", "Denial.__init__", defArgs (inClass (HX.tS 4) 0), defBody (inClass (HX.tS 4) 0), defScope (inClass (HX.tS 4) 0)⟩,
  ⟨HX.f_Kept___init__, "__init__", "Kept.__init__", defArgs (inClass (HX.tS 74) 0), defBody (inClass (HX.tS 74) 0), defScope (inClass (HX.tS 74) 0)⟩,
  ⟨HX.f_Parting___init__, "__init__", "Parting.__init__", defArgs (inClass (HX.tS 75) 0), defBody (inClass (HX.tS 75) 0), defScope (inClass (HX.tS 75) 0)⟩,
  ⟨HX.f_Paper___bool__, "__bool__", "Paper.__bool__", defArgs (inClass (HX.tS 3) 2), defBody (inClass (HX.tS 3) 2), defScope (inClass (HX.tS 3) 2)⟩,
  ⟨HX.f_Denial___bool__, "__bool__", "Denial.__bool__", defArgs (inClass (HX.tS 4) 2), defBody (inClass (HX.tS 4) 2), defScope (inClass (HX.tS 4) 2)⟩,
  ⟨HX.f_demand_told_manner, "demand_told_manner", "demand_told_manner", defArgs (HX.tS 77), defBody (HX.tS 77), defScope (HX.tS 77)⟩,
  ⟨HX.f_kept, "kept", "kept", defArgs (HX.tS 78), defBody (HX.tS 78), defScope (HX.tS 78)⟩,
  ⟨HX.f_keeps, "keeps", "keeps", defArgs (HX.tS 79), defBody (HX.tS 79), defScope (HX.tS 79)⟩,
  ⟨HX.f_demand_place, "demand_place", "demand_place", defArgs (HX.tS 30), defBody (HX.tS 30), defScope (HX.tS 30)⟩,
  ⟨HX.f_Worker___init__, "__init__", "Worker.__init__", defArgs (inClass (HX.tS 64) 0), defBody (inClass (HX.tS 64) 0), defScope (inClass (HX.tS 64) 0)⟩,
  ⟨HX.f_Place___init__, "__init__", "Place.__init__", defArgs (inClass (HX.tS 65) 0), defBody (inClass (HX.tS 65) 0), defScope (inClass (HX.tS 65) 0)⟩,
  ⟨HX.f_Place_over, "over", "Place.over", defArgs (inClass (HX.tS 65) 3), defBody (inClass (HX.tS 65) 3), defScope (inClass (HX.tS 65) 3)⟩,
  ⟨HX.f_demand_known_manner, "demand_known_manner", "demand_known_manner", defArgs (HX.tS 69), defBody (HX.tS 69), defScope (HX.tS 69)⟩,
  ⟨HX.f_all_known, "all_known", "all_known", defArgs (HX.tS 70), defBody (HX.tS 70), defScope (HX.tS 70)⟩,
  ⟨HX.f_known_of, "known_of", "known_of", defArgs (HX.tS 71), defBody (HX.tS 71), defScope (HX.tS 71)⟩,
  ⟨HX.f_law_jug, "_law_jug", "_law_jug", defArgs (HX.tS 81), defBody (HX.tS 81), defScope (HX.tS 81)⟩]
def fn2 : List Pg.FnX := [⟨HX.f_law_tap, "_law_tap", "_law_tap", defArgs (HX.tS 82), defBody (HX.tS 82), defScope (HX.tS 82)⟩,
  ⟨HX.f_law_pick, "_law_pick", "_law_pick", defArgs (HX.tS 83), defBody (HX.tS 83), defScope (HX.tS 83)⟩,
  ⟨HX.f_law_inputs, "_law_inputs", "_law_inputs", defArgs (HX.tS 84), defBody (HX.tS 84), defScope (HX.tS 84)⟩,
  ⟨HX.f_is_turned, "is_turned", "is_turned", defArgs (HX.tS 72), defBody (HX.tS 72), defScope (HX.tS 72)⟩,
  ⟨HX.f_Place___eq__, "__eq__", "Place.__eq__", defArgs (inClass (HX.tS 65) 1), defBody (inClass (HX.tS 65) 1), defScope (inClass (HX.tS 65) 1)⟩,
  ⟨HX.f_law_goes, "_law_goes", "_law_goes", defArgs (HX.tS 85), defBody (HX.tS 85), defScope (HX.tS 85)⟩,
  ⟨HX.f_law_is_turned, "_law_is_turned", "_law_is_turned", defArgs (HX.tS 86), defBody (HX.tS 86), defScope (HX.tS 86)⟩,
  ⟨HX.f_law_digits, "_law_digits", "_law_digits", defArgs (HX.tS 87), defBody (HX.tS 87), defScope (HX.tS 87)⟩,
  ⟨HX.f_law_half, "_law_half", "_law_half", defArgs (HX.tS 88), defBody (HX.tS 88), defScope (HX.tS 88)⟩,
  ⟨HX.f_law_bent, "_law_bent", "_law_bent", defArgs (HX.tS 93), defBody (HX.tS 93), defScope (HX.tS 93)⟩,
  ⟨HX.f_law_parts, "_law_parts", "_law_parts", defArgs (HX.tS 89), defBody (HX.tS 89), defScope (HX.tS 89)⟩,
  ⟨HX.f_law_right, "_law_right", "_law_right", defArgs (HX.tS 90), defBody (HX.tS 90), defScope (HX.tS 90)⟩,
  ⟨HX.f_law_heard, "_law_heard", "_law_heard", defArgs (HX.tS 91), defBody (HX.tS 91), defScope (HX.tS 91)⟩,
  ⟨HX.f_law_refused_right, "_law_refused_right", "_law_refused_right", defArgs (HX.tS 92), defBody (HX.tS 92), defScope (HX.tS 92)⟩,
  ⟨HX.f_Thing___init__, "__init__", "Thing.__init__", defArgs (inClass (HX.tS 66) 0), defBody (inClass (HX.tS 66) 0), defScope (inClass (HX.tS 66) 0)⟩,
  ⟨HX.f_BadTold___init__, "__init__", "BadTold.__init__", defArgs (inClass (HX.tS 13) 0), defBody (inClass (HX.tS 13) 0), defScope (inClass (HX.tS 13) 0)⟩,
  ⟨HX.f_Misfit___init__, "__init__", "Misfit.__init__", defArgs (inClass (HX.tS 15) 0), defBody (inClass (HX.tS 15) 0), defScope (inClass (HX.tS 15) 0)⟩]
def fn : List Pg.FnX := fn0 ++ (fn1 ++ (fn2))
def dc : List Pg.DcX := [⟨HX.t_KT, ["blind", "one", "two"]⟩]
def nm0 : List PySem.Str := ["_wall", "fixed", "Paper", "Denial", "is_integer", "is_within", "are_numbers", "TellsError", "BadNumber", "BadLead", "BadTold", "BadManner", "Misfit", "Missing", "NoThing", "NoPlace", "TooMany", "BadText", "MOST_THINGS", "MOST_PLACES", "demand_number", "demand_world", "demand_many_places", "demand_numbers", "demand_many_numbers", "demand_things", "demand_place", "spaced", "Items", "Lead"]
def nm1 : List PySem.Str := ["many_rows", "all_rows", "row_index", "row_at", "led_indices", "MANNERS", "demand_manner", "demand_two", "never_falls", "never_rises", "rises", "row_is_of", "put_row", "exchange_row", "candidate_rows", "few_rows", "MOST_VALUES", "demand_few_values", "inputs", "most_places", "Told", "demand_told", "demand_input", "told_over", "Worker", "Place", "Thing", "KNOWN_THINGS", "demand_known_manner", "all_known"]
def nm2 : List PySem.Str := ["known_of", "is_turned", "Kept", "Parting", "first_parting", "demand_told_manner", "kept", "keeps", "_law_jug", "_law_tap", "_law_pick", "_law_inputs", "_law_goes", "_law_is_turned", "_law_digits", "_law_half", "_law_parts", "_law_right", "_law_heard", "_law_bent"]
def names : List PySem.Str := nm0 ++ nm1 ++ nm2
def as0 : List Addr := [2, 3, 15, 17, 18, 20, 21, 22, 25, 26, 34, 36, 37, 39, 40, 41, 43, 44, 46, 47, 48, 50, 51, 53, 54, 55, 56, 57, 58, 59, 62, 69, 71, 72, 74, 75, 76, 78, 79, 81]
def as1 : List Addr := [82, 83, 85, 86, 88, 89, 90, 91, 92, 95, 97, 98, 100, 101, 102, 104, 105, 107, 108, 109, 112, 113, 114, 121, 122, 123, 124, 127, 134, 136, 137, 139, 140, 141, 142, 143, 146, 153, 155, 156]
def as2 : List Addr := [158, 159, 160, 161, 162, 165, 172, 174, 175, 177, 178, 179, 180, 181, 184, 191, 193, 194, 196, 197, 198, 199, 200, 203, 210, 212, 213, 215, 216, 217, 218, 219, 222, 229, 231, 232, 234, 235, 236, 237]
def as3 : List Addr := [238, 241, 248, 250, 251, 253, 254, 255, 256, 257, 260, 267, 269, 270, 272, 273, 274, 275, 276, 279, 286, 288, 289, 291, 292, 293, 294, 295, 298, 305, 307, 308, 310, 311, 312, 313, 314, 317, 319, 320]
def as4 : List Addr := [322, 323, 324, 326, 327, 329, 330, 331, 333, 334, 336, 337, 338, 340, 341, 343, 344, 345, 347, 348, 350, 351, 352, 354, 355, 357, 358, 359, 361, 362, 364, 365, 366, 369, 370, 378, 380, 381, 383, 384]
def as5 : List Addr := [385, 387, 388, 390, 391, 392, 394, 395, 397, 398, 399, 401, 402, 404, 405, 406, 408, 409, 411, 412, 413, 414, 415, 416, 417, 427, 429, 430, 432, 433, 434, 436, 437, 439, 440, 441, 443, 444, 446, 447]
def as6 : List Addr := [448, 450, 451, 453, 454, 455, 456, 457, 458, 461, 462, 463, 465, 466, 468, 469, 470, 471, 472, 473, 474, 477, 479, 480, 482, 483, 484, 487, 488, 489, 491, 492, 494, 495, 496, 498, 499, 501, 502, 503]
def as7 : List Addr := [506, 507, 508, 509, 511, 512, 514, 515, 516, 518, 519, 521, 522, 523, 526, 527, 528, 531, 532, 533, 536, 537, 538, 540, 541, 543, 544, 545, 548, 549, 550, 552, 553, 555, 556, 557, 560, 561, 562, 565]
def as8 : List Addr := [566, 567, 569, 570, 572, 573, 574, 576, 577, 579, 580, 581, 584, 585, 593, 595, 596, 598, 599, 600, 602, 603, 605, 606, 607, 609, 610, 612, 613, 614, 617, 618, 619, 620, 621, 622, 624, 625, 627, 628]
def as9 : List Addr := [629, 631, 632, 634, 635, 636, 637, 638, 639, 640, 643, 645, 646, 648, 649, 650, 652, 653, 655, 656, 657, 660, 661, 669, 671, 672, 674, 675, 676, 678, 679, 681, 682, 683, 685, 686, 688, 689, 690, 692]
def as10 : List Addr := [693, 695, 696, 697, 698, 699, 700, 701, 704, 711, 713, 714, 716, 717, 718, 720, 721, 723, 724, 725, 727, 728, 730, 731, 732, 735, 736, 737, 738, 739, 742, 749, 751, 752, 754, 755, 756, 758, 759, 761]
def as11 : List Addr := [762, 763, 765, 766, 768, 769, 770, 772, 773, 775, 776, 777, 778, 779, 782, 783, 785, 786, 788, 789, 790, 793, 794, 795, 797, 798, 800, 801, 802, 805, 806, 807, 814, 816, 817, 819, 820, 821, 822, 823]
def as12 : List Addr := [826, 833, 835, 836, 838, 839, 840, 841, 842, 845, 848, 849, 850, 852, 853, 855, 856, 857, 859, 860, 862, 863, 864, 866, 867, 869, 870, 871, 874, 875, 876, 878, 879, 881, 882, 883, 885, 886, 888, 889]
def as13 : List Addr := [890, 893, 894, 895, 898, 899, 900, 903, 904, 905, 907, 908, 910, 911, 912, 915, 916, 917, 920, 921, 922, 925, 926, 927, 929, 930, 932, 933, 934, 937, 938, 939, 941, 942, 944, 945, 946, 949, 950]
def asL : List Addr := as0 ++ (as1 ++ (as2 ++ (as3 ++ (as4 ++ (as5 ++ (as6 ++ (as7 ++ (as8 ++ (as9 ++ (as10 ++ (as11 ++ (as12 ++ (as13)))))))))))))
theorem runfalse (w : World) : HandSHeadRun.RunEq (OpenLaw.row PySem.Challenge.rw_kindtells_k15_whole_blind_over_two_thing) (view (OpenLaw.row PySem.Challenge.rw_kindtells_k15_whole_blind_over_two_thing).prog [92, 94]) (hookX asL fa fn dc) (fun s => obsX fa fn dc (He.frG (HandSHeadRun.getT s) asL)) 12000 names (w.withFollow "special-get-raises" false) := by
  intro os
  kernel_rfl
theorem runtrue (w : World) : HandSHeadRun.RunEq (OpenLaw.row PySem.Challenge.rw_kindtells_k15_whole_blind_over_two_thing) (view (OpenLaw.row PySem.Challenge.rw_kindtells_k15_whole_blind_over_two_thing).prog [92, 94]) (hookX asL fa fn dc) (fun s => obsX fa fn dc (He.frG (HandSHeadRun.getT s) asL)) 12000 names (w.withFollow "special-get-raises" true) := by
  intro os
  kernel_rfl
end HX
set_option Elab.async false
set_option linter.all false
set_option maxRecDepth 100000
set_option maxHeartbeats 2100000
namespace Kn
open PySem L2
/-- a value with all that it holds -/
inductive D where
  | non | bl (b : Bool) | int (i : Int) | str (x : Str)
  | lst (ds : List D) | tup (ds : List D)
  | ins (c : Nat) (ds : List D)
  | opq (v : V)
  | urn
  | at_ (a : Addr) (ds : List D)
  | dct (ks : List Str) (ds : List D)
  | tupn (ds : List D)
  | exc (c : Nat) (ds : List D)
  | dic (ks : List Key) (ds : List D)
  | dcT (ks : List (List Int)) (ds : List D)
  | dcf (ks : List Str) (ds : List D)
/-- what may change: the urn's two addresses, the tables of code objects with the name that they tell -/
abbrev Ur := (Addr × Addr) × List (Addr × Str)
/-- what is known of the program: its written part, its classes by number, the fields of each, in order -/
structure Gd where
  K : PySem.W.Frag
  cl : Nat → Addr
  fl : Nat → List Str
  u : Option Ur
/-- the urn's addresses; each table's, twice -/
def Pr (u : Option Ur) (p : Addr × Addr) : Prop := ∃ r, u = some r ∧ (p = r.1 ∨ ∃ t ∈ r.2, p = (t.1, t.1))
theorem Pr.none {p : Addr × Addr} (h : Pr none p) : False := by
  obtain ⟨_, e, _⟩ := h; cases e
/-- none that may change stands at b -/
def NU (u : Option Ur) (b : Addr) : Prop := ∀ p, Pr u p → p.1 ≠ b
theorem NU.none {b : Addr} : NU none b := fun _ h => h.none.elim
theorem NU.of {u : Option Ur} {B : Addr → Prop} {b : Addr} (hu : ∀ p, Pr u p → B p.1) (n : ¬ B b) : NU u b := fun p e z => n (z ▸ hu p e)
theorem NU.em {u : Option Ur} {b : Addr} : NU u b ∨ ∃ p, Pr u p ∧ p.1 = b := by
  by_cases h : NU u b
  · exact .inl h
  · refine .inr (Classical.byContradiction fun z => h fun p e q => z ⟨p, e, q⟩)
/-- an error of one's own: the number of its class, its fields -/
structure Exc where
  c : Nat
  ds : List D
/-- an exception of the class cls, with the dict d, that stands at a -/
def ExK (cls : Value) (d : Option Addr) (a : Addr) : HO := .ext fun h => ∃ (oe : Obj) (vs : Array Value), h.get? a = some oe ∧ Zc cls d oe ∧ oe.data = .fields vs
/-- a tuple of the module -/
def KTup (K : PySem.W.Frag) (a : Addr) (xs : List V) : Prop :=
  ∃ (o : Obj) (its : Array Value) (n : Nat), K.lookup a = some o ∧ o.cls =
    .type "tuple" ∧ o.data = .seq its n ∧ its.size ≤ sizeLine ∧ Vals xs its.toList
/-- an entry of a dict whose keys are rows of ints: the row, where it stands, the value -/
def dent (x : List Int × Addr × Value) : DictEntry := ⟨reduceHash (Builtin.Tuple.tupleHashOf (x.1.map hashInt)), .ref x.2.1, x.2.2⟩
/-- a dict whose keys are rows of ints stands at a -/
structure DicAt (h : Heap) (a : Addr) (L : List (List Int × Addr × V)) : Prop where
  low : (a == sysModules) = false
  few : L.length ≤ sizeLine
  nd : (L.map (·.1)).Nodup
  ex : ∃ (xs : List (List Int × Addr × Value)) (o : Obj) (es : Array DictEntry) (ep : Nat), Paired (fun (p : List Int × Addr × V) (q : List Int × Addr × Value) => p.1 = q.1 ∧ p.2.1 = q.2.1 ∧ RelV p.2.2 q.2.2) L xs ∧
    h.get? a = some o ∧ o.ExactDict ∧ o.data = .dict es ep ∧ es.toList = xs.map dent
def DicO (a : Addr) (L : List (List Int × Addr × V)) : HO := .ext fun h => DicAt h a L
/-- where the keys of such a dict stand -/
def KeysOk (K : PySem.W.Frag) (B : Addr → Prop) (H : Hp) (L : List (List Int × Addr × V)) : Prop :=
  ∀ p ∈ L, (¬ B p.2.1 ∨ KTup K p.2.1 (p.1.map V.int)) ∧ SqT K H p.2.1 (p.1.map V.int) ∧ p.1.length ≤ sizeLine
theorem KeysOk.keep {K : PySem.W.Frag} {B B' : Addr → Prop} {H H' : Hp} {L : List (List Int × Addr × V)} (k : ∀ b o, ¬ B b → H b = some o → H' b = some o) (s : ∀ b, B' b → B b ∨ H b = none) (h : KeysOk K B H L) : KeysOk K B' H' L := fun p hp => by
  obtain ⟨nb, hs, hl⟩ := h p hp
  rcases nb with nb | nb
  · rcases hs with (e | ⟨o, e⟩) | e
    · refine ⟨.inl fun hb => ?_, .inl (.inl (k _ _ nb e)), hl⟩
      rcases s _ hb with z | z
      · exact nb z
      · rw [z] at e; cases e
    · refine ⟨.inl fun hb => ?_, .inl (.inr ⟨o, k _ _ nb e⟩), hl⟩
      rcases s _ hb with z | z
      · exact nb z
      · rw [z] at e; cases e
    · exact ⟨.inr e, .inr e, hl⟩
  · exact ⟨.inr nb, .inr nb, hl⟩
section
variable (G : Gd) (B : Addr → Prop) (H : Hp)
mutual
def Den : D → V → Prop
  | .non, v => v = .non
  | .bl b, v => v = .bl b
  | .int i, v => v = .int i
  | .str x, v => v = .str x
  | .lst ds, v => ∃ a xs, v = .ref a ∧ ¬ B a ∧ H a = some (.lst xs) ∧ xs.length ≤ sizeLine ∧ DenL ds xs
  | .tup ds, v => ∃ a xs, v = .ref a ∧ (¬ B a ∨ KTup G.K a xs) ∧ SqT G.K H a xs ∧ xs.length ≤ sizeLine ∧ DenL ds xs
  | .ins c ds, v => ∃ a dx xs, v = .ref a ∧ ¬ B a ∧ H a = some (.ins (G.cl c) dx ((G.fl c).zip xs)) ∧ xs.length = (G.fl c).length ∧ DenL ds xs
  | .opq w, v => v = w
  | .urn, v => ∃ p, G.u = some p ∧ v = .ref p.1.1
  | .at_ a ds, v => ∃ xs, v = .ref a ∧ ¬ B a ∧ H a = some (.lst xs) ∧ xs.length ≤ sizeLine ∧ DenL ds xs
  | .tupn ds, v => ∃ a xs o, v = .ref a ∧ ¬ B a ∧ H a = some (.frz o (.tup xs)) ∧ o.cls = .type "tuple" ∧ o.dict = none ∧ xs.length ≤ sizeLine ∧ DenL ds xs
  | .exc c ds, v => ∃ a dd xs, v = .ref a ∧ ¬ B a ∧ ¬ B dd ∧ H a = some (ExK (.ref (G.cl c)) (some dd) a) ∧ H dd = some (.xd ((G.fl c).zip xs)) ∧ xs.length = (G.fl c).length ∧ DenL ds xs
  | .dic ks ds, v => ∃ (a : Addr) (kvs : List (Key × V)), v = .ref a ∧ ¬ B a ∧ H a = some (.dK kvs) ∧ kvs.map (·.1) = ks ∧ DenL ds (kvs.map (·.2))
  | .dct ks ds, v => ∃ (a : Addr) (kvs : List (Key × V)), v = .ref a ∧ ¬ B a ∧ H a = some (.dK kvs) ∧ kvs.map (·.1) = ks.map Sum.inr ∧ DenL ds (kvs.map (·.2))
  | .dcT ks ds, v => ∃ (a : Addr) (L : List (List Int × Addr × V)), v = .ref a ∧ ¬ B a ∧ H a = some (DicO a L) ∧ L.map (·.1) = ks ∧ KeysOk G.K B H L ∧ DenL ds (L.map (·.2.2))
  | .dcf ks ds, v => ∃ (a : Addr) (o : Obj) (kvs : List (Key × V)), v = .ref a ∧ ¬ B a ∧ H a = some (.frz o (.dK kvs)) ∧ kvs.map (·.1) = ks.map Sum.inr ∧ DenL ds (kvs.map (·.2))
def DenL : List D → List V → Prop
  | [], xs => xs = []
  | d :: ds, xs => ∃ x r, xs = x :: r ∧ Den d x ∧ DenL ds r
end
end
/-- what was tracked stands, but at u -/
def Ext (u : Option Ur) (H H' : Hp) : Prop := ∀ b o, H b = some o → NU u b → H' b = some o
theorem Ext.refl (u : Option Ur) (H : Hp) : Ext u H H := fun _ _ h _ => h
theorem Ext.trans {u : Option Ur} {H H1 H2 : Hp} (a : Ext u H H1) (b : Ext u H1 H2) : Ext u H H2 := fun c o h n => b c o (a c o h n) n
theorem Ext.weak {u : Option Ur} {H H1 : Hp} (a : Ext none H H1) : Ext u H H1 := fun c o h _ => a c o h NU.none
theorem Ext.new {u : Option Ur} {H : Hp} {p : Addr} {o : HO} (h : H p = none) : Ext u H (upd H p o) := fun a x e _ => by
  rw [upd_ne (ne_of_none e h)]; exact e
theorem Ext.rd {u : Option Ur} {H H' : Hp} {a : Addr} {o : HO} (e : Ext u H H') (n : NU u a) (h : Rd H a o) : Rd H' a o := by
  rcases h with h | ⟨q, h⟩
  · exact .inl (e _ _ h n)
  · exact .inr ⟨q, e _ _ h n⟩
theorem Ext.sqL {K : PySem.W.Frag} {u : Option Ur} {H H' : Hp} {a : Addr} {xs : List V} (e : Ext u H H') (n : NU u a) (h : SqL K H a xs) : SqL K H' a xs := by
  rcases h with h | h
  · exact .inl (e.rd n h)
  · exact .inr h
section
variable {G : Gd} {B B' : Addr → Prop} {H H' : Hp} {u : Option Ur}
mutual
/-- what stands at addresses out of B stays as it is -/
theorem Den.keep (k : ∀ b o, ¬ B b → H b = some o → H' b = some o) (s : ∀ b, B' b → B b ∨ H b = none) : ∀ (d : D) (v : V), Den G B H d v → Den G B' H' d v
  | .non, _, h => h
  | .bl _, _, h => h
  | .int _, _, h => h
  | .str _, _, h => h
  | .opq _, _, h => h
  | .urn, _, h => h
  | .at_ a ds, v, ⟨xs, e, nb, hs, hl, hd⟩ => by
    refine ⟨xs, e, fun hb => ?_, k _ _ nb hs, hl, DenL.keep k s ds xs hd⟩
    rcases s a hb with z | z
    · exact nb z
    · rw [z] at hs; cases hs
  | .lst ds, v, ⟨a, xs, e, nb, hs, hl, hd⟩ => by
    refine ⟨a, xs, e, fun hb => ?_, k _ _ nb hs, hl, DenL.keep k s ds xs hd⟩
    rcases s a hb with z | z
    · exact nb z
    · rw [z] at hs; cases hs
  | .tup ds, v, ⟨a, xs, e, nb, hs, hl, hd⟩ => by
    rcases nb with nb | nb
    · rcases hs with (h | ⟨o, h⟩) | h
      · refine ⟨a, xs, e, .inl fun hb => ?_, .inl (.inl (k _ _ nb h)), hl, DenL.keep k s ds xs hd⟩
        rcases s a hb with z | z
        · exact nb z
        · rw [z] at h; cases h
      · refine ⟨a, xs, e, .inl fun hb => ?_, .inl (.inr ⟨o, k _ _ nb h⟩), hl, DenL.keep k s ds xs hd⟩
        rcases s a hb with z | z
        · exact nb z
        · rw [z] at h; cases h
      · exact ⟨a, xs, e, .inr h, .inr h, hl, DenL.keep k s ds xs hd⟩
    · exact ⟨a, xs, e, .inr nb, .inr nb, hl, DenL.keep k s ds xs hd⟩
  | .tupn ds, v, ⟨a, xs, o, e, nb, hs, hc, hdn, hl, hd⟩ => by
    refine ⟨a, xs, o, e, fun hb => ?_, k _ _ nb hs, hc, hdn, hl, DenL.keep k s ds xs hd⟩
    rcases s a hb with z | z
    · exact nb z
    · rw [z] at hs; cases hs
  | .exc c ds, v, ⟨a, dd, xs, e, nb, nd, hs, hx, hl, hd⟩ => by
    refine ⟨a, dd, xs, e, fun hb => ?_, fun hb => ?_, k _ _ nb hs, k _ _ nd hx, hl, DenL.keep k s ds xs hd⟩
    · rcases s a hb with z | z
      · exact nb z
      · rw [z] at hs; cases hs
    · rcases s dd hb with z | z
      · exact nd z
      · rw [z] at hx; cases hx
  | .dic ks ds, v, ⟨a, kvs, e, nb, hs, hk, hd⟩ => by
    refine ⟨a, kvs, e, fun hb => ?_, k _ _ nb hs, hk, DenL.keep k s ds _ hd⟩
    rcases s a hb with z | z
    · exact nb z
    · rw [z] at hs; cases hs
  | .dct ks ds, v, ⟨a, kvs, e, nb, hs, hk, hd⟩ => by
    refine ⟨a, kvs, e, fun hb => ?_, k _ _ nb hs, hk, DenL.keep k s ds _ hd⟩
    rcases s a hb with z | z
    · exact nb z
    · rw [z] at hs; cases hs
  | .dcf ks ds, v, ⟨a, o, kvs, e, nb, hs, hk, hd⟩ => by
    refine ⟨a, o, kvs, e, fun hb => ?_, k _ _ nb hs, hk, DenL.keep k s ds _ hd⟩
    rcases s a hb with z | z
    · exact nb z
    · rw [z] at hs; cases hs
  | .dcT ks ds, v, ⟨a, L, e, nb, hs, hk, hx, hd⟩ => by
    refine ⟨a, L, e, fun hb => ?_, k _ _ nb hs, hk, hx.keep k s, DenL.keep k s ds _ hd⟩
    rcases s a hb with z | z
    · exact nb z
    · rw [z] at hs; cases hs
  | .ins c ds, v, ⟨a, dx, xs, e, nb, hs, hl, hd⟩ => by
    refine ⟨a, dx, xs, e, fun hb => ?_, k _ _ nb hs, hl, DenL.keep k s ds xs hd⟩
    rcases s a hb with z | z
    · exact nb z
    · rw [z] at hs; cases hs
theorem DenL.keep (k : ∀ b o, ¬ B b → H b = some o → H' b = some o) (s : ∀ b, B' b → B b ∨ H b = none) : ∀ (ds : List D) (xs : List V), DenL G B H ds xs → DenL G B' H' ds xs
  | [], _, h => h
  | d :: ds, xs, ⟨x, r, e, h1, h2⟩ => ⟨x, r, e, Den.keep k s d x h1, DenL.keep k s ds r h2⟩
end
theorem Den.ext (e : Ext u H H') (hu : ∀ p, Pr u p → B p.1) {d : D} {v : V} (h : Den G B H d v) : Den G B H' d v :=
  Den.keep (fun b o nb hb => e b o hb (NU.of hu nb)) (fun b h => .inl h) d v h
theorem DenL.ext (e : Ext u H H') (hu : ∀ p, Pr u p → B p.1) {ds : List D} {xs : List V} (h : DenL G B H ds xs) : DenL G B H' ds xs :=
  DenL.keep (fun b o nb hb => e b o hb (NU.of hu nb)) (fun b h => .inl h) ds xs h
theorem DenL.length : ∀ {ds : List D} {xs : List V}, DenL G B H ds xs → ds.length = xs.length
  | [], _, h => by cases h; rfl
  | _ :: ds, _, ⟨x, r, e, _, h2⟩ => by subst e; simp [DenL.length h2]
theorem DenL.get : ∀ {ds : List D} {xs : List V} {i : Nat} {d : D}, DenL G B H ds xs → ds[i]? = some d → ∃ x, xs[i]? = some x ∧ Den G B H d x
  | [], _, _, _, _, e => by simp at e
  | _ :: ds, _, 0, d, ⟨x, r, e, h1, _⟩, ed => by simp at ed; subst e; subst ed; exact ⟨x, rfl, h1⟩
  | _ :: ds, _, i + 1, d, ⟨x, r, e, _, h2⟩, ed => by subst e; simpa using DenL.get (i := i) h2 (by simpa using ed)
theorem DenL.getV : ∀ {ds : List D} {xs : List V} {i : Nat} {x : V}, DenL G B H ds xs → xs[i]? = some x → ∃ d, ds[i]? = some d ∧ Den G B H d x
  | [], _, _, _, h, e => by cases h; simp at e
  | d :: ds, _, 0, x, ⟨y, r, e, h1, _⟩, ed => by subst e; simp at ed; subst ed; exact ⟨d, rfl, h1⟩
  | _ :: ds, _, i + 1, x, ⟨y, r, e, _, h2⟩, ed => by subst e; simpa using DenL.getV (i := i) h2 (by simpa using ed)
theorem DenL.append : ∀ {ds es : List D} {xs ys : List V}, DenL G B H ds xs → DenL G B H es ys → DenL G B H (ds ++ es) (xs ++ ys)
  | [], _, _, _, h, h' => by cases h; exact h'
  | _ :: ds, _, _, _, ⟨x, r, e, h1, h2⟩, h' => by subst e; exact ⟨x, r ++ _, rfl, h1, DenL.append h2 h'⟩
theorem DenL.take : ∀ (n : Nat) {ds : List D} {xs : List V}, DenL G B H ds xs → DenL G B H (ds.take n) (xs.take n)
  | 0, _, _, _ => rfl
  | _ + 1, [], _, h => by cases h; rfl
  | n + 1, _ :: ds, _, ⟨x, r, e, h1, h2⟩ => by subst e; exact ⟨x, r.take n, rfl, h1, DenL.take n h2⟩
theorem DenL.drop : ∀ (n : Nat) {ds : List D} {xs : List V}, DenL G B H ds xs → DenL G B H (ds.drop n) (xs.drop n)
  | 0, _, _, h => h
  | _ + 1, [], _, h => by cases h; rfl
  | n + 1, _ :: ds, _, ⟨x, r, e, h1, h2⟩ => by subst e; exact DenL.drop n h2
theorem DenL.set : ∀ (i : Nat) {ds : List D} {xs : List V} {d : D} {x : V}, DenL G B H ds xs → Den G B H d x → DenL G B H (ds.set i d) (xs.set i x)
  | _, [], _, _, _, h, _ => by cases h; rfl
  | 0, _ :: ds, _, d, x, ⟨y, r, e, h1, h2⟩, h => by subst e; exact ⟨x, r, rfl, h, h2⟩
  | i + 1, _ :: ds, _, d, x, ⟨y, r, e, h1, h2⟩, h => by subst e; exact ⟨y, r.set i x, rfl, h1, DenL.set i h2 h⟩
theorem DenL.ints : ∀ {is : List Int} {xs : List V}, DenL G B H (is.map D.int) xs → xs = is.map V.int
  | [], _, h => h
  | i :: is, _, ⟨x, r, e, h1, h2⟩ => by subst e; rw [show x = V.int i from h1, DenL.ints h2]; rfl
theorem DenL.of_ints : ∀ {is : List Int}, DenL G B H (is.map D.int) (is.map V.int)
  | [] => rfl
  | i :: is => ⟨_, _, rfl, rfl, DenL.of_ints⟩
end
/-- a key as a tuple of ints, and back -/
theorem KeysOk.den {G : Gd} {B : Addr → Prop} {H : Hp} {L : List (List Int × Addr × V)} (h : KeysOk G.K B H L) {p : List Int × Addr × V} (hp : p ∈ L) : Den G B H (.tup (p.1.map D.int)) (.ref p.2.1) :=
  let ⟨h1, h2, h3⟩ := h p hp
  ⟨_, _, rfl, h1, h2, by rw [List.length_map]; exact h3, DenL.of_ints⟩
theorem KeysOk.of_den {G : Gd} {B : Addr → Prop} {H : Hp} {L : List (List Int × Addr × V)} (h : ∀ p ∈ L, Den G B H (.tup (p.1.map D.int)) (.ref p.2.1)) : KeysOk G.K B H L := fun p hp => by
  obtain ⟨a, xs, e, nb, hs, hl, hd⟩ := h p hp
  cases e
  have ex := hd.ints
  subst ex
  rw [List.length_map] at hl
  exact ⟨nb, hs, hl⟩
theorem KeysOk.by {G : Gd} {B B' : Addr → Prop} {H H' : Hp} {L : List (List Int × Addr × V)} (k : ∀ {d : D} {v : V}, Den G B H d v → Den G B' H' d v) (h : KeysOk G.K B H L) : KeysOk G.K B' H' L :=
  KeysOk.of_den fun p hp => k (h.den hp)
theorem KeysOk.ext {K : PySem.W.Frag} {B : Addr → Prop} {H H' : Hp} {u : Option Ur} {L : List (List Int × Addr × V)} (e : Ext u H H') (hu : ∀ p, Pr u p → B p.1) (h : KeysOk K B H L) : KeysOk K B H' L :=
  h.keep (fun b o nb hb => e b o hb (NU.of hu nb)) fun b h => .inl h
theorem dicO_ne_code {a : Addr} {L : List (List Int × Addr × V)} (q : Str) : DicO a L ≠ LamX.CodeO a q := fun z => by
  unfold DicO LamX.CodeO at z
  injection z with z
  let o : Obj := { cls := .none, data := .fields #[.none, .str q default] }
  let h : Heap := { objs := Array.replicate (a + 1) o }
  have hg : h.get? a = some o := by
    show (match (Array.replicate (a + 1) o)[a]? with | some ⟨_, _, .freed, _⟩ => none | o => o) = some o
    rw [Array.getElem?_replicate, if_pos (Nat.lt_succ_self a)]
  have e := congrFun z h
  have c : DicAt h a L := by
    rw [e]
    exact ⟨o, _, default, hg, rfl, rfl⟩
  obtain ⟨xs, o', es, ep, _, h1, _, h2, _⟩ := c.ex
  rw [hg] at h1
  cases h1
  cases h2
def atLine : Int := 2 ^ 4096
def Good : Option Ur → Hp → Nat → Prop
  | none, _, _ => True
  | some ((a, b), T), H, n => (∃ (cells : List Int) (k r : Int), H a = some (.lst [.ref b, .int k, .int r]) ∧ H b = some (.lst (cells.map V.int)) ∧ cells.length ≤ 63 ∧ a ≠ b ∧ 0 ≤ r ∧ 0 ≤ k ∧ k + n ≤ atLine) ∧ LamX.Tabs T H
theorem Good.less {u : Option Ur} {H : Hp} {n m : Nat} (h : Good u H n) (hm : m ≤ n) : Good u H m := by
  cases u with
  | none => trivial
  | some p =>
    obtain ⟨⟨a, b⟩, T⟩ := p
    obtain ⟨⟨cells, k, r, h1, h2, h3, h4, h5, h6, h7⟩, t⟩ := h
    exact ⟨⟨cells, k, r, h1, h2, h3, h4, h5, h6, by omega⟩, t⟩
theorem Good.ext {u : Option Ur} {H H' : Hp} {n : Nat} (h : Good u H n) (e : Ext none H H') : Good u H' n := by
  cases u with
  | none => trivial
  | some p =>
    obtain ⟨⟨a, b⟩, T⟩ := p
    obtain ⟨⟨cells, k, r, h1, h2, h⟩, t⟩ := h
    exact ⟨⟨cells, k, r, e _ _ h1 NU.none, e _ _ h2 NU.none, h⟩, t.ext fun b o q => e b o q NU.none⟩
/-- what may change is there -/
theorem Good.there {u : Option Ur} {H : Hp} {n : Nat} (h : Good u H n) {p : Addr × Addr} (e : Pr u p) : (∃ o, H p.1 = some o) ∧ ∃ o, H p.2 = some o := by
  obtain ⟨r, rfl, q⟩ := e
  obtain ⟨⟨a, b⟩, T⟩ := r
  obtain ⟨⟨_, _, _, h1, h2, _⟩, t⟩ := h
  rcases q with rfl | ⟨t', ht, rfl⟩
  · exact ⟨⟨_, h1⟩, ⟨_, h2⟩⟩
  · obtain ⟨ps, z, _⟩ := t t' ht
    exact ⟨⟨_, z⟩, ⟨_, z⟩⟩
inductive Sl where
  | emp | val (d : D) | own (a : Addr) (ds : List D) | slf (a dx : Addr) (c : Nat) (ds : List D)
  | obj (a : Addr) (o : HO)
  | dic (a : Addr) (ks : List (List Int)) (ds : List D)
/-- what this frame alone may change -/
def Sl.mine : Sl → Bool
  | .own _ _ => true
  | .slf _ _ _ _ => true
  | .obj _ _ => true
  | .dic _ _ _ => true
  | _ => false
section
variable (G : Gd) (X0 : Hp) (B : Addr → Prop) (H : Hp)
def SlOk : Sl → Option V → Prop
  | .emp, _ => True
  | .val d, v => ∃ x, v = some x ∧ Den G B H d x
  | .own a ds, v => ∃ xs, v = some (.ref a) ∧ X0 a = none ∧ H a = some (.lst xs) ∧ xs.length ≤ sizeLine ∧ DenL G B H ds xs
  | .slf a dx c ds, v => ∃ xs, v = some (.ref a) ∧ X0 a = none ∧ H a = some (.ins (G.cl c) dx ((G.fl c).zip xs)) ∧ xs.length ≤ (G.fl c).length ∧ DenL G B H ds xs
  | .obj a o, v => v = some (.ref a) ∧ X0 a = none ∧ H a = some o ∧ ∀ q, o ≠ LamX.CodeO a q
  | .dic a ks ds, v => ∃ L, v = some (.ref a) ∧ X0 a = none ∧ H a = some (DicO a L) ∧ L.map (·.1) = ks ∧ KeysOk G.K B H L ∧ DenL G B H ds (L.map (·.2.2))
end
/-- B, and the addresses of the frame's own lists -/
def XBof (B : Addr → Prop) (env : List Sl) (σ : List (Option V)) : Addr → Prop := fun a => B a ∨ ∃ (i : Nat) (s : Sl), env[i]? = some s ∧ s.mine = true ∧ σ[i]? = some (some (V.ref a))
/-- an error as it lies: its class, its own dict -/
def ExcIs (G : Gd) (B : Addr → Prop) (H : Hp) (x : Exc) (C : Value) (d : Option Addr) : Prop :=
  C = .ref (G.cl x.c) ∧ ∃ dd xs, d = some dd ∧ ¬ B dd ∧ H dd = some (.xd ((G.fl x.c).zip xs)) ∧ xs.length = (G.fl x.c).length ∧ DenL G B H x.ds xs
/-- the state of a body: what is known of its slots, of the heap, what is wanted of errors -/
structure Wd (G : Gd) (E : XK) (σ : List (Option V)) (H : Hp) where
  u : Option Ur
  n : Nat
  m : Nat
  B : Addr → Prop
  H0 : Hp
  env : List Sl
  ex : Exc → Prop
  ug : u = G.u
  hu : ∀ p, Pr u p → B p.1 ∧ B p.2
  hB : ∀ a, B a → H0 a ≠ none
  fr : Ext u H0 H
  good : Good u H n
  len : env.length = σ.length
  sl : ∀ (i : Nat) (s : Sl), env[i]? = some s → SlOk G H0 (XBof B env σ) H s (σ[i]?.join)
  nd : ∀ (i j : Nat) (a : Addr) (s t : Sl), env[i]? = some s → env[j]? = some t → s.mine = true → t.mine = true → σ[i]? = some (some (V.ref a)) → σ[j]? = some (some (V.ref a)) → i = j
  exc : ∀ x C d H', Ext u H0 H' → Good u H' m → ExcIs G B H' x C d → ex x → E C d H'
section
variable {G : Gd} {E : XK} {σ : List (Option V)} {H H' : Hp}
abbrev Wd.XB (W : Wd G E σ H) : Addr → Prop := XBof W.B W.env σ
structure Step (W : Wd G E σ H) (c : Nat) (H' : Hp) : Prop where
  ext : Ext W.u H H'
  good : Good W.u H' (W.n - c)
theorem Wd.huX (W : Wd G E σ H) : ∀ p, Pr W.u p → W.XB p.1 := fun p e => .inl (W.hu p e).1
theorem Wd.den (W : Wd G E σ H) {c : Nat} (st : Step W c H') {d : D} {v : V} (h : Den G W.XB H d v) : Den G W.XB H' d v := h.ext st.ext W.huX
/-- the frame's own address is none of the urn's -/
theorem Wd.own_ne (W : Wd G E σ H) {a : Addr} (h : W.H0 a = none) : ¬ W.B a := fun z => W.hB a z h
theorem Wd.nu (W : Wd G E σ H) {a : Addr} (h : W.H0 a = none) : NU W.u a := NU.of (fun p e => (W.hu p e).1) (W.own_ne h)
theorem Wd.nuX (W : Wd G E σ H) {a : Addr} (h : ¬ W.XB a) : NU W.u a := NU.of W.huX h
theorem SlOk.step (W : Wd G E σ H) {c : Nat} (st : Step W c H') {s : Sl} {v : Option V} (h : SlOk G W.H0 W.XB H s v) : SlOk G W.H0 W.XB H' s v := by
  cases s with
  | emp => trivial
  | val d => obtain ⟨x, e, h⟩ := h; exact ⟨x, e, W.den st h⟩
  | own a ds =>
    obtain ⟨xs, e, h0, h1, hl, h2⟩ := h
    refine ⟨xs, e, h0, st.ext a _ h1 (W.nu h0), hl, h2.ext st.ext W.huX⟩
  | slf a dx c ds =>
    obtain ⟨xs, e, h0, h1, hl, h2⟩ := h
    refine ⟨xs, e, h0, st.ext a _ h1 (W.nu h0), hl, h2.ext st.ext W.huX⟩
  | obj a o =>
    obtain ⟨e, h0, h1, h2⟩ := h
    exact ⟨e, h0, st.ext a _ h1 (W.nu h0), h2⟩
  | dic a ks ds =>
    obtain ⟨L, e, h0, h1, hk, hx, h2⟩ := h
    exact ⟨L, e, h0, st.ext a _ h1 (W.nu h0), hk, hx.ext st.ext W.huX, h2.ext st.ext W.huX⟩
/-- where a thing of the frame's own stands -/
theorem Wd.mine_at (W : Wd G E σ H) {i : Nat} {s : Sl} {a : Addr} (e : W.env[i]? = some s) (hm : s.mine = true) (es : σ[i]? = some (some (.ref a))) : W.H0 a = none ∧ ∃ o, H a = some o := by
  have z := W.sl i _ e
  rw [es] at z
  cases s with
  | emp => cases hm
  | val d => cases hm
  | own b ds => obtain ⟨xs, ea, h0, h1, _⟩ := z; cases ea; exact ⟨h0, _, h1⟩
  | slf b dx c ds => obtain ⟨xs, ea, h0, h1, _⟩ := z; cases ea; exact ⟨h0, _, h1⟩
  | obj b o => obtain ⟨ea, h0, h1, h2⟩ := z; cases ea; exact ⟨h0, _, h1⟩
  | dic b ks ds => obtain ⟨L, ea, h0, h1, _⟩ := z; cases ea; exact ⟨h0, _, h1⟩
/-- .. it is no code object -/
theorem Wd.mine_nc (W : Wd G E σ H) {i : Nat} {s : Sl} {a : Addr} (e : W.env[i]? = some s) (hm : s.mine = true) (es : σ[i]? = some (some (.ref a))) : ∀ q, H a ≠ some (LamX.CodeO a q) := fun q y => by
  have z := W.sl i _ e
  rw [es] at z
  cases s with
  | emp => cases hm
  | val d => cases hm
  | own b ds => obtain ⟨xs, ea, h0, h1, _⟩ := z; cases ea; rw [h1] at y; cases y
  | slf b dx c ds => obtain ⟨xs, ea, h0, h1, _⟩ := z; cases ea; rw [h1] at y; cases y
  | obj b o => obtain ⟨ea, h0, h1, h2⟩ := z; cases ea; rw [h1] at y; exact h2 q (Option.some.inj y)
  | dic b ks ds => obtain ⟨L, ea, h0, h1, _⟩ := z; cases ea; rw [h1] at y; exact dicO_ne_code q (Option.some.inj y)
def Wd.next (W : Wd G E σ H) {c : Nat} (st : Step W c H') : Wd G E σ H' where
  u := W.u
  n := W.n - c
  m := W.m
  B := W.B
  H0 := W.H0
  env := W.env
  ex := W.ex
  ug := W.ug
  hu := W.hu
  hB := W.hB
  fr := W.fr.trans st.ext
  good := st.good
  len := W.len
  sl := fun i s e => (W.sl i s e).step W st
  nd := W.nd
  exc := W.exc
theorem Step.refl (W : Wd G E σ H) : Step W 0 H := ⟨Ext.refl _ _, W.good⟩
theorem Step.trans {W : Wd G E σ H} {c c' : Nat} {H2 : Hp} (a : Step W c H') (b : Step (W.next a) c' H2) : Step W (c + c') H2 :=
  ⟨a.ext.trans b.ext, by have := b.good; show Good W.u H2 (W.n - (c + c')); rw [Nat.sub_add_eq]; exact this⟩
theorem Step.pure {W : Wd G E σ H} {c : Nat} (a : Step W c H') {H2 : Hp} (e : Ext none H' H2) : Step W c H2 := ⟨a.ext.trans e.weak, a.good.ext e⟩
theorem Step.new {W : Wd G E σ H} {c : Nat} (a : Step W c H') {p : Addr} {o : HO} (h : H' p = none) : Step W c (upd H' p o) := a.pure (Ext.new h)
theorem Step.less {W : Wd G E σ H} {c c' : Nat} (a : Step W c H') (h : c ≤ c') : Step W c' H' := ⟨a.ext, a.good.less (by omega)⟩
/-- a new address is out of XB -/
theorem Wd.fresh (W : Wd G E σ H) {p : Addr} (h : H p = none) : ¬ W.XB p := fun z => by
  rcases z with z | ⟨i, sl, e, hm, es⟩
  · cases q : W.H0 p with
    | none => exact W.hB p z q
    | some o =>
      rcases NU.em (u := W.u) (b := p) with n | ⟨r, hr, rfl⟩
      · rw [W.fr p o q n] at h; cases h
      · obtain ⟨⟨o, h1⟩, _⟩ := W.good.there hr
        rw [h1] at h; cases h
  · obtain ⟨_, o, h1⟩ := W.mine_at e hm es
    rw [h1] at h; cases h
end
abbrev DT := (Exc → Prop) → List Sl → (D → Prop) → Prop
def lift (G : Gd) (E : XK) (c : Nat) (t : DT) : TE := fun σ H Q' => ∃ W : Wd G E σ H, W.m + c ≤ W.n ∧ ∃ Q, t W.ex W.env Q ∧ ∀ v H' d, Step W c H' → Den G W.XB H' d v → Q d → Q' v H'
abbrev DA := (Exc → Prop) → List Sl → (List D → Prop) → Prop
def liftA (G : Gd) (E : XK) (c : Nat) (t : DA) : TA := fun σ H Q' => ∃ W : Wd G E σ H, W.m + c ≤ W.n ∧ ∃ Q, t W.ex W.env Q ∧ ∀ vs H' ds, Step W c H' → DenL G W.XB H' ds vs → Q ds → Q' vs H'
abbrev DB := (Exc → Prop) → List Sl → (Bool → Prop) → Prop
def liftB (G : Gd) (E : XK) (c : Nat) (t : DB) : TT := fun σ H Q' => ∃ W : Wd G E σ H, W.m + c ≤ W.n ∧ ∃ Q, t W.ex W.env Q ∧ ∀ b H', Step W c H' → Q b → Q' b H'
/-- e is t, at most c draws -/
abbrev DE (G : Gd) (E : XK) (X : Cx) (c : Nat) (e : Expr) (t : DT) : Prop := PE X e (lift G E c t)
abbrev DEs (G : Gd) (E : XK) (X : Cx) (c : Nat) (es : List Expr) (t : DA) : Prop := PA X es (liftA G E c t)
abbrev DPt (G : Gd) (E : XK) (X : Cx) (c : Nat) (e : Expr) (t : DB) : Prop := PT X e (liftB G E c t)
theorem imp {X : Cx} {e : Expr} {t t' : TE} (h : PE X e t) (i : ∀ σ H Q, t' σ H Q → t σ H Q) : PE X e t' := ⟨fun pins s σ H Q I q => h.run pins s σ H Q I (i σ H Q q)⟩
theorem impT {X : Cx} {e : Expr} {t t' : TT} (h : PT X e t) (i : ∀ σ H Q, t' σ H Q → t σ H Q) : PT X e t' := ⟨fun pins s σ H Q I q => h.run pins s σ H Q I (i σ H Q q)⟩
theorem impA {X : Cx} {e : List Expr} {t t' : TA} (h : PA X e t) (i : ∀ σ H Q, t' σ H Q → t σ H Q) : PA X e t' := ⟨fun pos pins s σ H Q I q => h.run pos pins s σ H Q I (i σ H Q q)⟩
end Kn
set_option Elab.async false
set_option linter.all false
set_option maxRecDepth 100000
set_option maxHeartbeats 2100000
namespace Kn
open PySem L2
section
variable {G : Gd} {E : XK} {X : Cx}
def dVar (i : Nat) : DT := fun _ env Q => ∃ d, env[i]? = some (.val d) ∧ Q d
def dC (d : D) : DT := fun _ _ Q => Q d
theorem lift_var {i : Nat} {σ : List (Option V)} {H : Hp} {Q' : VK} (h : lift G E 0 (dVar i) σ H Q') : tVar i σ H Q' := by
  obtain ⟨W, _, Q, ⟨d, he, hq⟩, k⟩ := h
  obtain ⟨x, hx, hd⟩ := W.sl i _ he
  cases hs : σ[i]? with
  | none => rw [hs] at hx; cases hx
  | some o =>
    rw [hs] at hx
    have hx' : o = some x := hx
    exact ⟨x, by rw [hs, hx'], k x H d (Step.refl W) hd hq⟩
theorem dv (i : Nat) {x : Str} {pos : Pos} (hN : X.N[i]? = some x := by rfl) (hv : Vis X.env.scope x := by first | exact Or.inl rfl | exact Or.inr (Or.inl rfl) | exact Or.inr (Or.inr rfl)) (hd : (x == ("__debug__" : Str)) = false := by decide)
    (hcd : (x == ("__classdict__" : Str)) = false := by decide) : DE G E X 0 (.Name x pos) (dVar i) := imp (pe_var hN hv hd hcd) fun _ _ _ h => lift_var h
theorem den_int {B : Addr → Prop} {H : Hp} (i : Int) : Den G B H (.int i) (.int i) := rfl
theorem den_bl {B : Addr → Prop} {H : Hp} (b : Bool) : Den G B H (.bl b) (.bl b) := rfl
theorem den_str {B : Addr → Prop} {H : Hp} (x : Str) : Den G B H (.str x) (.str x) := rfl
theorem den_non {B : Addr → Prop} {H : Hp} : Den G B H .non .non := rfl
theorem lift_c {d : D} {v : V} (hd : ∀ B H, Den G B H d v) {σ : List (Option V)} {H : Hp} {Q' : VK} (h : lift G E 0 (dC d) σ H Q') : tC v σ H Q' := by
  obtain ⟨W, _, Q, hq, k⟩ := h
  exact k v H d (Step.refl W) (hd _ _) hq
theorem de_int {i j pos} : DE G E X 0 (.Constant (.int i) j pos) (dC (.int i)) := imp pe_int fun _ _ _ h => lift_c (fun _ _ => den_int i) h
theorem de_bl {b j pos} : DE G E X 0 (.Constant (.bool b) j pos) (dC (.bl b)) := imp pe_bl fun _ _ _ h => lift_c (fun _ _ => den_bl b) h
theorem de_non {j pos} : DE G E X 0 (.Constant .none j pos) (dC .non) := imp pe_non fun _ _ _ h => lift_c (fun _ _ => den_non) h
theorem de_str {x j pos} : DE G E X 0 (.Constant (.str x) j pos) (dC (.str x)) := imp pe_str fun _ _ _ h => lift_c (fun _ _ => den_str x) h
abbrev G2 := D → D → (D → Prop) → Prop
def rD (G : Gd) (g : G2) : R2 := fun x y H Q' => ∃ B d e Q, Den G B H d x ∧ Den G B H e y ∧ (∀ p, H p = none → ¬ B p) ∧ g d e Q ∧ ∀ r H' rd, Ext none H H' → Den G B H' rd r → Q rd → Q' r H'
def dOp (g : G2) (ta tb : DT) : DT := fun ex env Q => ta ex env fun x => tb ex env fun y => g x y Q
theorem lift_op {g : G2} {ca cb : Nat} {ta tb : DT} {σ : List (Option V)} {H : Hp} {Q' : VK} (h : lift G E (ca + cb) (dOp g ta tb) σ H Q') : tOp (rD G g) (lift G E ca ta) (lift G E cb tb) σ H Q' := by
  obtain ⟨W, hc, Q, ht, k⟩ := h
  refine ⟨W, by omega, _, ht, fun v H1 d st hd hq => ?_⟩
  refine ⟨W.next st, by show W.m + cb ≤ W.n - ca; omega, _, hq, fun v2 H2 e st2 he hg => ?_⟩
  refine ⟨W.XB, d, e, Q, (W.next st).den st2 hd, he, fun p hp => ((W.next st).next st2).fresh hp, hg, fun r H' rd ex hr q => ?_⟩
  exact k r H' rd ((st.trans st2).pure ex) hr q
theorem de_op {a b : Expr} {op : Operator} {pos : Pos} {g : G2} {ca cb : Nat} {ta tb : DT} (ho : OpR X (binaryOp op) (rD G g)) (ha : DE G E X ca a ta) (hb : DE G E X cb b tb) : DE G E X (ca + cb) (.BinOp a op b pos) (dOp g ta tb) :=
  imp (pe_op ho ha hb) fun _ _ _ h => lift_op h
theorem de_cmp {a b : Expr} {op : CmpOp} {pos : Pos} {g : G2} {ca cb : Nat} {ta tb : DT} (ho : OpR X (compareOp op) (rD G g)) (ha : DE G E X ca a ta) (hb : DE G E X cb b tb) (hm : behindInMarks op b = false) : DE G E X (ca + cb) (.Compare a [op] [b] pos) (dOp g ta tb) :=
  imp (pe_cmpR ho ha hb hm) fun _ _ _ h => lift_op h
theorem den_upd {B : Addr → Prop} {H : Hp} {p : Addr} {o : HO} {d : D} {v : V} (hp : H p = none) (h : Den G B H d v) : Den G B (upd H p o) d v := h.ext (u := none) (Ext.new hp) (fun _ z => z.none.elim)
theorem denL_upd {B : Addr → Prop} {H : Hp} {p : Addr} {o : HO} {ds : List D} {xs : List V} (hp : H p = none) (h : DenL G B H ds xs) : DenL G B (upd H p o) ds xs := h.ext (u := none) (Ext.new hp) (fun _ z => z.none.elim)
/-- a new list | tuple of known items -/
theorem den_lst {B : Addr → Prop} {H : Hp} {p : Addr} {ds : List D} {xs : List V} (hp : H p = none) (nb : ¬ B p) (hl : xs.length ≤ sizeLine) (h : DenL G B H ds xs) : Den G B (upd H p (.lst xs)) (.lst ds) (.ref p) :=
  ⟨p, xs, rfl, nb, upd_same, hl, denL_upd hp h⟩
theorem den_tup {B : Addr → Prop} {H : Hp} {p : Addr} {ds : List D} {xs : List V} (hp : H p = none) (nb : ¬ B p) (hl : xs.length ≤ sizeLine) (h : DenL G B H ds xs) : Den G B (upd H p (.tup xs)) (.tup ds) (.ref p) :=
  ⟨p, xs, rfl, .inl nb, SqT.of upd_same, hl, denL_upd hp h⟩
def gI (C : Int → Int → Prop) (f : Int → Int → D) : G2 := fun d e Q => match d, e with
  | .int i, .int j => C i j ∧ Q (f i j)
  | _, _ => False
theorem rD_I {g : Int → Int → V} {f : Int → Int → D} {C : Int → Int → Prop} (hf : ∀ i j B H, Den G B H (f i j) (g i j)) {x y : V} {H : Hp} {Q' : VK} (h : rD G (gI C f) x y H Q') : rI C g x y H Q' := by
  obtain ⟨B, d, e, Q, hd, he, _, hg, k⟩ := h
  cases d <;> cases e <;> try exact hg.elim
  rename_i i j
  exact ⟨i, j, hd, he, hg.1, k _ H _ (Ext.refl _ _) (hf i j B H) hg.2⟩
theorem opr_imp {f : Value → Value → Sem Value} {r r' : R2} (h : OpR X f r) (i : ∀ x y H Q, r' x y H Q → r x y H Q) : OpR X f r' := fun pins s σ H x y v u Q I rx ry q => h pins s σ H x y v u Q I rx ry (i x y H Q q)
theorem rI_of0 {g : Int → Int → V} {x y : V} {H : Hp} {Q : VK} (h : rI (fun _ _ => True) g x y H Q) : rI0 g x y H Q := by
  obtain ⟨i, j, h1, h2, _, q⟩ := h
  exact ⟨i, j, h1, h2, q⟩
def gAdd : G2 := fun d e Q => match d, e with
  | .int i, .int j => Q (.int (i + j))
  | .lst xs, .lst ys => xs.length + ys.length ≤ sizeLine ∧ Q (.lst (xs ++ ys))
  | .tup xs, .tup ys => xs.length + ys.length ≤ sizeLine ∧ Q (.tup (xs ++ ys))
  | .str x, .str y => x.length + y.length ≤ sizeLine ∧ Q (.str (x ++ y))
  | _, _ => False
theorem o_add (hK : X.K = G.K) : OpR X (binaryOp .Add) (rD G gAdd) := by
  intro pins s σ H x y v u Q' I rx ry h
  obtain ⟨B, d, e, Q, hd, he, hf, hg, k⟩ := h
  cases d <;> cases e <;> try exact hg.elim
  · rename_i i j
    exact op_add pins s σ H x y v u Q' I rx ry ⟨i, j, hd, he, k _ H (.int (i + j)) (Ext.refl _ _) rfl hg⟩
  · rename_i a b
    exact op_add_str pins s σ H x y v u Q' I rx ry ⟨a, b, hd, he, hg.1, k _ H (.str (a ++ b)) (Ext.refl _ _) rfl hg.2⟩
  · rename_i ds es
    obtain ⟨a, xs, rfl, na, ha, la, da⟩ := hd
    obtain ⟨b, ys, rfl, nb, hb, lb, db⟩ := he
    have e1 := da.length
    have e2 := db.length
    have hz : ds.length + es.length ≤ sizeLine := hg.1
    refine op_cat pins s σ H _ _ v u Q' I rx ry ⟨a, b, xs, ys, rfl, rfl, ha, hb, by omega, fun p hp => ?_⟩
    exact k _ _ (.lst (ds ++ es)) (Ext.new hp) (den_lst hp (hf p hp) (by rw [List.length_append]; omega) (da.append db)) hg.2
  · rename_i ds es
    obtain ⟨a, xs, rfl, na, ha, la, da⟩ := hd
    obtain ⟨b, ys, rfl, nb, hb, lb, db⟩ := he
    have e1 := da.length
    have e2 := db.length
    have hz : ds.length + es.length ≤ sizeLine := hg.1
    refine op_catA pins s σ H _ _ v u Q' I rx ry ⟨a, b, xs, ys, rfl, rfl, by rw [hK]; exact ha, by rw [hK]; exact hb, by omega, fun h => ?_, fun _ h => ?_, fun _ _ p hp => ?_⟩
    · subst h
      have : ds = [] := List.eq_nil_of_length_eq_zero (by simpa using e1)
      subst this
      exact k _ H (.tup ([] ++ es)) (Ext.refl _ _) ⟨b, ys, rfl, nb, hb, lb, db⟩ hg.2
    · subst h
      have : es = [] := List.eq_nil_of_length_eq_zero (by simpa using e2)
      subst this
      exact k _ H (.tup (ds ++ [])) (Ext.refl _ _) (by rw [List.append_nil]; exact ⟨a, xs, rfl, na, ha, la, da⟩) hg.2
    · exact k _ _ (.tup (ds ++ es)) (Ext.new hp) (den_tup hp (hf p hp) (by rw [List.length_append]; omega) (da.append db)) hg.2
def gSub : G2 := gI (fun _ _ => True) fun i j => .int (i - j)
theorem o_sub : OpR X (binaryOp .Sub) (rD G gSub) := opr_imp op_sub fun _ _ _ _ h => rI_of0 (rD_I (fun _ _ _ _ => den_int _) h)
def gMul : G2 := gI CMul fun i j => .int (i * j)
theorem o_mul : OpR X (binaryOp .Mult) (rD G gMul) := opr_imp op_mul fun _ _ _ _ h => rD_I (fun _ _ _ _ => den_int _) h
def gMod : G2 := gI (fun _ j => 0 < j) fun i j => .int (i % j)
theorem o_mod : OpR X (binaryOp .Mod) (rD G gMod) := opr_imp op_mod fun _ _ _ _ h => rD_I (fun _ _ _ _ => den_int _) h
def gDiv : G2 := gI CDiv fun i j => .int (i / j)
theorem o_div : OpR X (binaryOp .FloorDiv) (rD G gDiv) := opr_imp op_fdiv fun _ _ _ _ h => rD_I (fun _ _ _ _ => den_int _) h
def gLt : G2 := gI (fun _ _ => True) fun i j => .bl (decide (i < j))
theorem o_lt : OpR X (compareOp .Lt) (rD G gLt) := opr_imp op_lt fun _ _ _ _ h => rI_of0 (rD_I (fun _ _ _ _ => den_bl _) h)
def gLe : G2 := gI (fun _ _ => True) fun i j => .bl (decide (i ≤ j))
theorem o_le : OpR X (compareOp .LtE) (rD G gLe) := opr_imp op_le fun _ _ _ _ h => rI_of0 (rD_I (fun _ _ _ _ => den_bl _) h)
def gGt : G2 := gI (fun _ _ => True) fun i j => .bl (decide (j < i))
theorem o_gt : OpR X (compareOp .Gt) (rD G gGt) := opr_imp op_gt fun _ _ _ _ h => rI_of0 (rD_I (fun _ _ _ _ => den_bl _) h)
def gGe : G2 := gI (fun _ _ => True) fun i j => .bl (decide (j ≤ i))
theorem o_ge : OpR X (compareOp .GtE) (rD G gGe) := opr_imp op_ge fun _ _ _ _ h => rI_of0 (rD_I (fun _ _ _ _ => den_bl _) h)
mutual
def pd : D → Option PyData
  | .non => some .none
  | .bl b => some (.bool b)
  | .int i => some (.int i)
  | .str x => some (.str x)
  | .lst ds => (pdL ds).map .list
  | .tup ds => (pdL ds).map .tuple
  | .ins _ _ => none
  | .opq _ => none
  | .urn => none
  | .at_ _ _ => none
  | .dct _ _ => none
  | .tupn _ => none
  | .exc _ _ => none
  | .dic _ _ => none
  | .dcT _ _ => none
  | .dcf _ _ => none
def pdL : List D → Option (List PyData)
  | [] => some []
  | d :: ds => match pd d, pdL ds with
    | some p, some ps => some (p :: ps)
    | _, _ => none
end
mutual
theorem Den.dp {B : Addr → Prop} {H : Hp} : ∀ (d : D) (v : V) (p : PyData), Den G B H d v → pd d = some p → Dp G.K H v p
  | .non, _, _, h, e => by cases h; cases e; exact .non
  | .bl b, _, _, h, e => by cases h; cases e; exact .bl b
  | .int i, _, _, h, e => by cases h; cases e; exact .int i
  | .str x, _, _, h, e => by cases h; cases e; exact .str x
  | .lst ds, v, p, ⟨a, xs, e1, _, hs, _, hd⟩, e => by
    cases hp : pdL ds with
    | none => simp [pd, hp] at e
    | some ps =>
      simp [pd, hp] at e
      subst e; subst e1
      exact .lst (SqL.of hs) (DenL.dp ds xs ps hd hp)
  | .tup ds, v, p, ⟨a, xs, e1, _, hs, _, hd⟩, e => by
    cases hp : pdL ds with
    | none => simp [pd, hp] at e
    | some ps =>
      simp [pd, hp] at e
      subst e; subst e1
      exact .tup hs (DenL.dp ds xs ps hd hp)
  | .ins _ _, _, _, _, e => by simp [pd] at e
  | .opq _, _, _, _, e => by simp [pd] at e
  | .urn, _, _, _, e => by simp [pd] at e
  | .at_ _ _, _, _, _, e => by simp [pd] at e
  | .dct _ _, _, _, _, e => by simp [pd] at e
  | .tupn _, _, _, _, e => by simp [pd] at e
  | .exc _ _, _, _, _, e => by simp [pd] at e
  | .dic _ _, _, _, _, e => by simp [pd] at e
  | .dcT _ _, _, _, _, e => by simp [pd] at e
  | .dcf _ _, _, _, _, e => by simp [pd] at e
theorem DenL.dp {B : Addr → Prop} {H : Hp} : ∀ (ds : List D) (xs : List V) (ps : List PyData), DenL G B H ds xs → pdL ds = some ps → DpAll G.K H xs ps
  | [], _, _, h, e => by cases h; cases e; exact .nil
  | d :: ds, xs, ps, ⟨x, r, e1, h1, h2⟩, e => by
    subst e1
    cases hp : pd d with
    | none => simp [pdL, hp] at e
    | some p =>
      cases hq : pdL ds with
      | none => simp [pdL, hp, hq] at e
      | some qs =>
        simp [pdL, hp, hq] at e
        subst e
        exact .cons (Den.dp d x p h1 hp) (DenL.dp ds r qs h2 hq)
end
def gEq : G2 := fun d e Q => ∃ p q, pd d = some p ∧ pd e = some q ∧ SeqAt.shaped p = true ∧ SeqAt.shaped q = true ∧ Q (.bl (PyData.eqv p q))
def gNe : G2 := fun d e Q => ∃ p q, pd d = some p ∧ pd e = some q ∧ SeqAt.shaped p = true ∧ SeqAt.shaped q = true ∧ Q (.bl (!PyData.eqv p q))
theorem o_eq (hK : X.K = G.K) (hu : X.A.units + 64 < cLine) : OpR X (compareOp .Eq) (rD G gEq) := opr_imp (op_eqD hu) fun x y H Q' h => by
  obtain ⟨B, d, e, Q, hd, he, _, ⟨p, q, e1, e2, s1, s2, hq⟩, k⟩ := h
  exact ⟨p, q, by rw [hK]; exact hd.dp _ _ _ e1, by rw [hK]; exact he.dp _ _ _ e2, s1, s2, k _ H (.bl _) (Ext.refl _ _) (den_bl _) hq⟩
theorem o_ne (hK : X.K = G.K) (hu : X.A.units + 64 < cLine) : OpR X (compareOp .NotEq) (rD G gNe) := opr_imp (op_neD hu) fun x y H Q' h => by
  obtain ⟨B, d, e, Q, hd, he, _, ⟨p, q, e1, e2, s1, s2, hq⟩, k⟩ := h
  exact ⟨p, q, by rw [hK]; exact hd.dp _ _ _ e1, by rw [hK]; exact he.dp _ _ _ e2, s1, s2, k _ H (.bl _) (Ext.refl _ _) (den_bl _) hq⟩
def gNi : G2 := fun d e Q => ∃ p qs es, e = .lst es ∧ pd d = some p ∧ pdL es = some qs ∧ SeqAt.shaped p = true ∧ SeqAt.shaped (.list qs) = true ∧ Q (.bl (!qs.any fun z => PyData.eqv z p))
theorem o_ni (hK : X.K = G.K) (hu : X.A.units + 65 < cLine) : OpR X (compareOp .NotIn) (rD G gNi) := opr_imp (op_notInD hu) fun x y H Q' h => by
  obtain ⟨B, d, e, Q, hd, he, _, ⟨p, qs, es, e0, e1, e2, s1, s2, hq⟩, k⟩ := h
  subst e0
  exact ⟨p, qs, by rw [hK]; exact hd.dp _ _ _ e1, by rw [hK]; exact he.dp _ _ _ (by simp [pd, e2]), s1, s2, k _ H (.bl _) (Ext.refl _ _) (den_bl _) hq⟩
def D.isN : D → Bool
  | .non => true
  | _ => false
/-- is None -/
def gIs : G2 := fun d e Q => e = .non ∧ (∀ v, d ≠ .opq v) ∧ Q (.bl d.isN)
def gIsn : G2 := fun d e Q => e = .non ∧ (∀ v, d ≠ .opq v) ∧ Q (.bl (!d.isN))
theorem Den.isN {B : Addr → Prop} {H : Hp} {d : D} {v : V} (h : Den G B H d v) (n : ∀ v, d ≠ .opq v) : decide (v = .non) = d.isN := by
  cases d with
  | non => cases h; rfl
  | bl b => cases h; rfl
  | int b => cases h; rfl
  | str b => cases h; rfl
  | lst ds => obtain ⟨a, _, rfl, _⟩ := h; rfl
  | tup ds => obtain ⟨a, _, rfl, _⟩ := h; rfl
  | ins c ds => obtain ⟨a, _, _, rfl, _⟩ := h; rfl
  | opq w => exact absurd rfl (n w)
  | urn => obtain ⟨p, _, rfl⟩ := h; rfl
  | at_ a ds => obtain ⟨xs, rfl, _⟩ := h; rfl
  | dct ks ds => obtain ⟨a, _, rfl, _⟩ := h; rfl
  | tupn ds => obtain ⟨a, _, _, rfl, _⟩ := h; rfl
  | exc c ds => obtain ⟨a, _, _, rfl, _⟩ := h; rfl
  | dic c ds => obtain ⟨a, _, rfl, _⟩ := h; rfl
  | dcT c ds => obtain ⟨a, _, rfl, _⟩ := h; rfl
  | dcf c ds => obtain ⟨a, _, _, rfl, _⟩ := h; rfl
theorem o_is : OpR X (compareOp .Is) (rD G gIs) := opr_imp op_isN fun x y H Q' h => by
  obtain ⟨B, d, e, Q, hd, he, _, ⟨e0, n, hq⟩, k⟩ := h
  subst e0
  cases he
  exact ⟨rfl, k _ H (.bl d.isN) (Ext.refl _ _) (by rw [hd.isN n]; rfl) hq⟩
theorem o_isn : OpR X (compareOp .IsNot) (rD G gIsn) := opr_imp op_notN fun x y H Q' h => by
  obtain ⟨B, d, e, Q, hd, he, _, ⟨e0, n, hq⟩, k⟩ := h
  subst e0
  cases he
  exact ⟨rfl, k _ H (.bl (!d.isN)) (Ext.refl _ _) (by rw [hd.isN n]; rfl) hq⟩
def dAnd (ta tb : DT) : DT := fun ex env Q => ta ex env fun x => ∃ c, x = .bl c ∧ if c = true then tb ex env Q else Q (.bl false)
def dOr (ta tb : DT) : DT := fun ex env Q => ta ex env fun x => ∃ c, x = .bl c ∧ if c = true then Q (.bl true) else tb ex env Q
def dNot (ta : DT) : DT := fun ex env Q => ta ex env fun x => ∃ c, x = .bl c ∧ Q (.bl (!c))
theorem de_and {a b : Expr} {rest : List Expr} {pos : Pos} {ca cb : Nat} {ta tb : DT} (ha : DE G E X ca a ta) (hb : DE G E X cb (.BoolOp .And (b :: rest) pos) tb) : DE G E X (ca + cb) (.BoolOp .And (a :: b :: rest) pos) (dAnd ta tb) :=
  imp (pe_and ha hb) fun σ H Q' h => by
    obtain ⟨W, hc, Q, ht, k⟩ := h
    refine ⟨W, by omega, _, ht, fun v H1 d st hd ⟨c, e, hq⟩ => ⟨c, by subst e; exact hd, ?_⟩⟩
    cases c with
    | true => exact ⟨W.next st, by show W.m + cb ≤ W.n - ca; omega, Q, hq, fun r H2 rd st2 hr q => k r H2 rd (st.trans st2) hr q⟩
    | false => exact k _ H1 (.bl false) (st.less (by omega)) rfl hq
theorem de_or {a b : Expr} {rest : List Expr} {pos : Pos} {ca cb : Nat} {ta tb : DT} (ha : DE G E X ca a ta) (hb : DE G E X cb (.BoolOp .Or (b :: rest) pos) tb) : DE G E X (ca + cb) (.BoolOp .Or (a :: b :: rest) pos) (dOr ta tb) :=
  imp (pe_or ha hb) fun σ H Q' h => by
    obtain ⟨W, hc, Q, ht, k⟩ := h
    refine ⟨W, by omega, _, ht, fun v H1 d st hd ⟨c, e, hq⟩ => ⟨c, by subst e; exact hd, ?_⟩⟩
    cases c with
    | false => exact ⟨W.next st, by show W.m + cb ≤ W.n - ca; omega, Q, hq, fun r H2 rd st2 hr q => k r H2 rd (st.trans st2) hr q⟩
    | true => exact k _ H1 (.bl true) (st.less (by omega)) rfl hq
theorem de_not {a : Expr} {pos : Pos} {ca : Nat} {ta : DT} (ha : DE G E X ca a ta) : DE G E X ca (.UnaryOp .Not a pos) (dNot ta) :=
  imp (pe_not ha) fun σ H Q' h => by
    obtain ⟨W, hc, Q, ht, k⟩ := h
    exact ⟨W, hc, _, ht, fun v H1 d st hd ⟨c, e, hq⟩ => ⟨c, by subst e; exact hd, k _ H1 (.bl (!c)) st rfl hq⟩⟩
end
end Kn
set_option Elab.async false
set_option linter.all false
set_option maxRecDepth 100000
set_option maxHeartbeats 2100000
namespace Kn
open PySem L2
open PyProof.Rows (envOfC)
structure DEnds where
  nx : List Sl → Prop
  rt : D → List Sl → Prop
  bk : List Sl → Prop := fun _ => False
  ct : List Sl → Prop := fun _ => False
abbrev DS := (Exc → Prop) → DEnds → List Sl → Prop
section
variable {G : Gd} {E : XK}
/-- the same body, later -/
structure Later {σ σ' : List (Option V)} {H H' : Hp} (W : Wd G E σ H) (c : Nat) (W' : Wd G E σ' H') : Prop where
  u : W'.u = W.u
  B : W'.B = W.B
  H0 : W'.H0 = W.H0
  ex : W'.ex = W.ex
  m : W'.m = W.m
  n : W.n ≤ W'.n + c
  keep : ∀ b o, ¬ W.XB b → H b = some o → H' b = some o
  xb : ∀ b, W'.XB b → W.XB b ∨ H b = none
theorem Later.trans {σ σ' τ : List (Option V)} {H H' L : Hp} {W : Wd G E σ H} {c d : Nat} {W' : Wd G E σ' H'} {W2 : Wd G E τ L} (a : Later W c W') (b : Later W' d W2) : Later W (c + d) W2 :=
  ⟨b.u.trans a.u, b.B.trans a.B, b.H0.trans a.H0, b.ex.trans a.ex, b.m.trans a.m, by have := a.n; have := b.n; omega,
    fun p o n e => b.keep p o (fun z => (a.xb p z).elim n (fun q => by rw [e] at q; cases q)) (a.keep p o n e), fun p z => (b.xb p z).elim (a.xb p) fun q => by
      by_cases hx : W.XB p
      · exact .inl hx
      · cases hp : H p with
        | none => exact .inr rfl
        | some o => rw [a.keep p o hx hp] at q; cases q⟩
theorem Later.more {σ σ' : List (Option V)} {H H' : Hp} {W : Wd G E σ H} {c d : Nat} {W' : Wd G E σ' H'} (a : Later W c W') (h : c ≤ d) : Later W d W' :=
  ⟨a.u, a.B, a.H0, a.ex, a.m, by have := a.n; omega, a.keep, a.xb⟩
theorem Later.refl {σ : List (Option V)} {H : Hp} (W : Wd G E σ H) : Later W 0 W := ⟨rfl, rfl, rfl, rfl, rfl, by omega, fun _ _ _ h => h, fun _ h => .inl h⟩
theorem Step.keep {σ : List (Option V)} {H H' : Hp} {W : Wd G E σ H} {c : Nat} (st : Step W c H') {b : Addr} {o : HO} (n : ¬ W.XB b) (h : H b = some o) : H' b = some o := st.ext b o h (W.nuX n)
theorem Later.next {σ : List (Option V)} {H H' : Hp} {W : Wd G E σ H} {c : Nat} (st : Step W c H') : Later W c (W.next st) := ⟨rfl, rfl, rfl, rfl, rfl, by show W.n ≤ W.n - c + c; omega, fun b o n h => st.keep n h, fun b h => .inl h⟩
/-- what holds of a value beside the frame's own lists holds of it behind the frame -/
theorem Den.out {σ : List (Option V)} {H H' : Hp} (W : Wd G E σ H) {d : D} {v : V} (h : Den G W.XB H' d v) : Den G W.B H' d v :=
  Den.keep (fun _ _ _ h => h) (fun _ h => .inl (.inl h)) d v h
end
def liftS (G : Gd) (E : XK) (c : Nat) (ts : DS) : TS := fun Dn σ H => ∃ W : Wd G E σ H, W.m + c ≤ W.n ∧ ∃ de : DEnds, ts W.ex de W.env ∧
  (∀ σ' H' (W' : Wd G E σ' H'), Later W c W' → de.nx W'.env → Dn.nx σ' H') ∧
  (∀ v σ' H' (W' : Wd G E σ' H') d, Later W c W' → Den G W.B H' d v → de.rt d W'.env → Dn.rt v H') ∧
  (∀ σ' H' (W' : Wd G E σ' H'), Later W c W' → de.bk W'.env → Dn.bk σ' H') ∧
  (∀ σ' H' (W' : Wd G E σ' H'), Later W c W' → de.ct W'.env → Dn.ct σ' H')
abbrev DSt (G : Gd) (E : XK) (X : Cx) (c : Nat) (st : Stmt) (t : DS) : Prop := PS X st (liftS G E c t)
abbrev DSs (G : Gd) (E : XK) (X : Cx) (c : Nat) (sts : List Stmt) (t : DS) : Prop := PSs X sts (liftS G E c t)
theorem impS {X : Cx} {st : Stmt} {t t' : TS} (h : PS X st t) (i : ∀ D σ H, t' D σ H → t D σ H) : PS X st t' := ⟨fun pins s σ H D I q => h.run pins s σ H D I (i D σ H q)⟩
theorem impSs {X : Cx} {st : List Stmt} {t t' : TS} (h : PSs X st t) (i : ∀ D σ H, t' D σ H → t D σ H) : PSs X st t' := ⟨fun pins s σ H D I q => h.run pins s σ H D I (i D σ H q)⟩
abbrev FSpec := List D → (D → Prop) → (Exc → Prop) → Prop
def liftF (G : Gd) (c : Nat) (S : FSpec) : Sp := fun vs H Q E => ∃ (u : Option Ur) (n : Nat) (B : Addr → Prop) (ds : List D) (R : D → Prop) (ex : Exc → Prop),
  u = G.u ∧ c ≤ n ∧ (∀ p, Pr u p → B p.1 ∧ B p.2) ∧ (∀ a, B a → H a ≠ none) ∧ Good u H n ∧ DenL G B H ds vs ∧ S ds R ex ∧
  (∀ v H' d, Ext u H H' → Good u H' (n - c) → Den G B H' d v → R d → Q v H') ∧ (∀ x C d H', Ext u H H' → Good u H' (n - c) → ExcIs G B H' x C d → ex x → E C d H')
/-- the def at f keeps S, by at most c draws and k calls deep, where no repr is under way -/
structure FnD (G : Gd) (P : Program) (w : World) (mg : Str → Option Value) (base : Heap) (k : Nat) (f : Addr) (fd : FuncData) (ps : List Str) (c : Nat) (S : FSpec) : Prop where
  run : ∀ (A : Around) (outer : List Env) (s : Shared) (H : Hp) (args : Args) (us : List Value) (vs : List V) (Q : VK) (E : XK), Room k A → A.guards = some [] → Env0 P w G.K mg base A outer s H →
    BindsTo s fd args (ps.zip us) → Vals vs us → vs.length = ps.length → liftF G c S vs H Q E → codeAny (model P w) A (.call (.ref f) args) (CR (L2.CX P w) outer P w H s Q E) s
/-- the slots at the entry -/
def env0 (N : List Str) (ds : List D) : List Sl := ds.map Sl.val ++ List.replicate (N.length - ds.length) Sl.emp
section
variable {G : Gd} {P : Program} {w : World} {mg : Str → Option Value} {base : Heap}
theorem FnD.mono {j k : Nat} {f : Addr} {fd : FuncData} {ps : List Str} {c : Nat} {S : FSpec} (F : FnD G P w mg base j f fd ps c S) (h : j ≤ k) : FnD G P w mg base k f fd ps c S :=
  ⟨fun A outer s H args us vs Q E hr => F.run A outer s H args us vs Q E (hr.mono h)⟩
theorem env0_get {N : List Str} {ds : List D} {i : Nat} {s : Sl} (h : (env0 N ds)[i]? = some s) : (∃ d, ds[i]? = some d ∧ s = .val d) ∨ s = .emp := by
  unfold env0 at h
  by_cases hi : i < ds.length
  · rw [List.getElem?_append_left (by simpa using hi), List.getElem?_map, List.getElem?_eq_getElem hi] at h
    exact .inl ⟨ds[i], List.getElem?_eq_getElem hi, (Option.some.inj h).symm⟩
  · rw [List.getElem?_append_right (by simpa using hi), List.getElem?_replicate] at h
    split at h
    · exact .inr (Option.some.inj h).symm
    · cases h
theorem start_get {N : List Str} {vs : List V} {i : Nat} {v : V} (h : vs[i]? = some v) : (L2.start N vs)[i]? = some (some v) := by
  have hi : i < vs.length := (List.getElem?_eq_some_iff.mp h).1
  unfold L2.start
  rw [List.getElem?_append_left (by simpa using hi), List.getElem?_map, h]
  rfl
/-- the state at a body's entry -/
theorem wd_start {N : List Str} {vs : List V} {H : Hp} {E : XK} {u : Option Ur} {n c : Nat} {B : Addr → Prop} {ds : List D} {ex : Exc → Prop} (hN : vs.length ≤ N.length) (hug : u = G.u) (hc : c ≤ n)
    (hu : ∀ p, Pr u p → B p.1 ∧ B p.2) (hB : ∀ a, B a → H a ≠ none) (hg : Good u H n) (hd : DenL G B H ds vs) (hx : ∀ x C d H', Ext u H H' → Good u H' (n - c) → ExcIs G B H' x C d → ex x → E C d H') :
    ∃ W : Wd G E (L2.start N vs) H, W.u = u ∧ W.n = n ∧ W.m = n - c ∧ W.B = B ∧ W.H0 = H ∧ W.env = env0 N ds ∧ W.ex = ex := by
  have hl := hd.length
  refine ⟨{ u := u, n := n, m := n - c, B := B, H0 := H, env := env0 N ds, ex := ex, ug := hug, hu := hu, hB := hB, fr := Ext.refl _ _, good := hg, len := ?_, sl := ?_, nd := ?_, exc := hx }, rfl, rfl, rfl, rfl, rfl, rfl, rfl⟩
  · unfold env0 L2.start
    simp only [List.length_append, List.length_map, List.length_replicate]
    omega
  · intro i s hs
    rcases env0_get hs with ⟨d, hd1, rfl⟩ | rfl
    · obtain ⟨x, hx1, hx2⟩ := hd.get hd1
      refine ⟨x, by rw [start_get hx1]; rfl, ?_⟩
      exact Den.keep (fun _ _ _ h => h) (fun b hb => by
        rcases hb with hb | ⟨i, es, e1, hm, _⟩
        · exact .inl hb
        · rcases env0_get e1 with ⟨_, _, z⟩ | z <;> (subst z; cases hm)) d x hx2
    · trivial
  · intro i j a s t e1 _ hm
    rcases env0_get e1 with ⟨_, _, z⟩ | z <;> (subst z; cases hm)
/-- THE RULE for a def: its body as a term of rules over trees, what the promise asks of that term -/
theorem fnd_at {k : Nat} {f : Addr} {x qual : Str} {st : Stmt} {fd : FuncData} {N ps : List Str} {c : Nat} {S : FSpec} {ts : DS} {cdv : Value}
    (hF : ∃ (oc : Value) (od : Option Addr) (kV doc pm : Value) (an : Option Addr) (ct : Value) (osl : Array (Option Value)), fd = PySem.W.fnOf x qual (defArgs st) (defBody st) (defScope st) .none kV doc pm an cdv ct ∧ G.K.lookup f = some ⟨oc, od, .func fd, osl⟩ ∧ PySem.W.codeIn G.K cdv qual = true) (Sc : FnScope N ps (defScope st))
    (hder : ∀ (A : Around) (outer : List Env) (s : Shared) (H : Hp) (E : XK), Room k (A.deeper (envOfC qual (defScope st) s.heap.objs.size f cdv)) → A.guards = some [] →
      DSs G E (cxOf (L2.CX P w) P w G.K mg base N qual (defScope st) f cdv A outer s H E) c (defBody st) ts)
    (hS : ∀ ds R ex, ds.length = ps.length → S ds R ex → ts ex { nx := fun _ => R .non, rt := fun d _ => R d } (env0 N ds)) : FnD G P w mg base (k + 1) f fd ps c S := by
  refine ⟨fun A outer s H args us vs Q E hr hgd e0 hb rv hlen hsp => ?_⟩
  obtain ⟨u, n, B, ds, R, ex, hug, hc, hu, hB, hg, hd, hs, hq, hx⟩ := hsp
  have hNl : vs.length ≤ N.length := by
    have h1 := congrArg List.length Sc.pre
    rw [List.length_take] at h1
    omega
  obtain ⟨oc, od, kV, doc, pm, an, ct, osl, rfl, lk, hcd⟩ := hF; have KX : G.K.In s.heap := PySem.W.Frag.In.keeps e0.mod.kin (fun b o e => (e0.bs b o e).1)
  have nolim : s.heap.NoLimit := Heap.NoLimit.keeps e0.mod.nolimit (fun b o e => (e0.bs b o e).1)
  have kinds : ∀ y ∈ ps.zip us, (defScope st).names.lookup y.1 = some .local ∨
      ((defScope st).names.lookup y.1 = some .cell ∧ ((cellsFrom (s.heap.objs.size + 1) (defScope st).names []).lookup y.1).isSome = true) := by
    intro y hy
    obtain ⟨n1, v1⟩ := y
    rcases Sc.par n1 (List.of_mem_zip hy).1 with z | z
    · exact .inl z
    · exact .inr ⟨z, PySem.W.cellsFrom_some _ _ _ (.inl z)⟩
  refine codeAny_call_function hr.depth (KX _ _ lk) rfl Sc.co Sc.gen rfl (PySem.W.codeRec_of KX hcd) ?_
  refine hb _ _ _ _ (wpAny_newFunctionEnv_cells Sc.kind kinds ?_)
  intro env he s1 ic
  subst he
  refine ⟨nolim.keeps ic.toInCall.keep, codeAny_func ?_⟩
  have I : Inv (cxOf (L2.CX P w) P w G.K mg base N qual (defScope st) f cdv A outer s H E) [] (L2.start N vs) H s1 := inv_start Sc hr.hd e0 hlen rv ic
  have hds : ds.length = ps.length := by rw [hd.length, hlen]
  obtain ⟨W, w1, w2, w3, w4, w5, w6, w7⟩ := wd_start (N := N) (E := E) hNl hug hc hu hB hg hd hx
  have body := (hder A outer s H E (hr.deeper _) hgd).run [] s1 (L2.start N vs) H { nx := fun _ H' => Q .non H', rt := Q } I (by
    refine ⟨W, by rw [w2, w3]; omega, _, by rw [w6, w7]; exact hS ds R ex hds hs, ?_, ?_, ?_, ?_⟩
    · intro σ' H' W' lt hr'
      have hE : Ext u H H' := by have z := W'.fr; rw [lt.u, lt.H0, w1, w5] at z; exact z
      have hG : Good u H' (n - c) := by have z := W'.good; rw [lt.u, w1] at z; exact z.less (by have := lt.n; rw [w2] at this; omega)
      exact hq .non H' .non hE hG rfl hr'
    · intro v σ' H' W' d lt hd' hr'
      have hE : Ext u H H' := by have z := W'.fr; rw [lt.u, lt.H0, w1, w5] at z; exact z
      have hG : Good u H' (n - c) := by have z := W'.good; rw [lt.u, w1] at z; exact z.less (by have := lt.n; rw [w2] at this; omega)
      rw [w4] at hd'
      exact hq v H' d hE hG hd' hr'
    · intro σ' H' W' lt z; exact z.elim
    · intro σ' H' W' lt z; exact z.elim)
  refine wpAny_mono body ?_ (fun e s' hs => hs)
  intro fl s' hfl
  cases fl with
  | next => obtain ⟨σ', H', J, q⟩ := hfl; exact ⟨.non, H', J.os, J.bare, J.base, J.hok, rfl, q⟩
  | ret v' => obtain ⟨v, σ', H', J, r1, q⟩ := hfl; exact ⟨v, H', J.os, J.bare, J.base, J.hok, r1, q⟩
  | brk => obtain ⟨σ', H', J, q⟩ := hfl; exact q.elim
  | cont => obtain ⟨σ', H', J, q⟩ := hfl; exact q.elim
theorem fnd_of {k : Nat} {f : Addr} {x qual : Str} {st : Stmt} {fd : FuncData} {N ps : List Str} {c : Nat} {S : FSpec} {ts : DS} (F : Fun G.K x qual st f fd) (Sc : FnScope N ps (defScope st))
    (hder : ∀ (cdv : Value) (A : Around) (outer : List Env) (s : Shared) (H : Hp) (E : XK), Room k (A.deeper (envOfC qual (defScope st) s.heap.objs.size f cdv)) → A.guards = some [] →
      DSs G E (cxOf (L2.CX P w) P w G.K mg base N qual (defScope st) f cdv A outer s H E) c (defBody st) ts)
    (hS : ∀ ds R ex, ds.length = ps.length → S ds R ex → ts ex { nx := fun _ => R .non, rt := fun d _ => R d } (env0 N ds)) : FnD G P w mg base (k + 1) f fd ps c S := by
  obtain ⟨oc, od, kV, doc, pm, an, cdv, ct, osl, h1, h2, h3⟩ := F.ex
  exact fnd_at ⟨oc, od, kV, doc, pm, an, ct, osl, h1, h2, h3⟩ Sc (hder cdv) hS
end
end Kn
set_option Elab.async false
set_option linter.all false
set_option maxRecDepth 100000
set_option maxHeartbeats 2100000
namespace Kn
open PySem L2
open PyProof.Rows (envOfC)
section
variable {G : Gd} {E : XK} {X : Cx}
def sNil : DS := fun _ de env => de.nx env
def sSeq (t u : DS) : DS := fun ex de env => t ex { de with nx := fun env' => u ex de env' } env
theorem ds_nil : DSs G E X 0 [] sNil := impSs pss_nil fun Dn σ H h => by
  obtain ⟨W, _, de, ht, k, _⟩ := h
  exact k σ H W (Later.refl W) ht
theorem lift_seq {c d : Nat} {t u : DS} {Dn : Ends} {σ : List (Option V)} {H : Hp} (h : liftS G E (c + d) (sSeq t u) Dn σ H) : tSeq (liftS G E c t) (liftS G E d u) Dn σ H := by
  obtain ⟨W, hc, de, ht, k1, k2, k3, k4⟩ := h
  refine ⟨W, by omega, _, ht, fun σ' H' W' lt hn => ?_, fun v σ' H' W' d' lt hd hr => k2 v σ' H' W' d' (lt.more (by omega)) hd hr, fun σ' H' W' lt hn => k3 σ' H' W' (lt.more (by omega)) hn, fun σ' H' W' lt hn => k4 σ' H' W' (lt.more (by omega)) hn⟩
  refine ⟨W', by have := lt.n; rw [lt.m]; omega, de, by rw [lt.ex]; exact hn, fun σ2 H2 W2 l2 q => k1 σ2 H2 W2 (lt.trans l2) q, fun v σ2 H2 W2 d' l2 hd hr => k2 v σ2 H2 W2 d' (lt.trans l2) (by rw [lt.B] at hd; exact hd) hr,
    fun σ2 H2 W2 l2 q => k3 σ2 H2 W2 (lt.trans l2) q, fun σ2 H2 W2 l2 q => k4 σ2 H2 W2 (lt.trans l2) q⟩
theorem ds_cons {c d : Nat} {st : Stmt} {rest : List Stmt} {t u : DS} (h1 : DSt G E X c st t) (h2 : DSs G E X d rest u) : DSs G E X (c + d) (st :: rest) (sSeq t u) := impSs (pss_cons h1 h2) fun Dn σ H h => lift_seq h
theorem ds_one {c : Nat} {st : Stmt} {t : DS} (h1 : DSt G E X c st t) : DSs G E X c [st] t := pss_one h1
def sNever : DS := fun _ _ _ => False
theorem ds_never {st : Stmt} : DSt G E X 0 st sNever := impS ps_never fun Dn σ H h => by
  obtain ⟨W, _, de, ht, _⟩ := h
  exact ht
def sRet (te : DT) : DS := fun ex de env => te ex env fun d => de.rt d env
theorem ds_ret {c : Nat} {e : Expr} {pos : Pos} {te : DT} (he : DE G E X c e te) : DSt G E X c (.Return (some e) pos) (sRet te) := impS (ps_ret he) fun Dn σ H h => by
  obtain ⟨W, hc, de, ht, k1, k2, k3, k4⟩ := h
  exact ⟨W, hc, _, ht, fun v H' d st hd hr => k2 v _ H' (W.next st) d (Later.next st) (hd.out W) hr⟩
def dTrue (te : DT) : DB := fun ex env Q => te ex env fun x => ∃ b, x = .bl b ∧ Q b
def sIf (tc : DB) (t u : DS) : DS := fun ex de env => tc ex env fun b => if b = true then t ex de env else u ex de env
theorem ds_if {cc ca cb : Nat} {e : Expr} {a b : List Stmt} {pos : Pos} {tc : DB} {t u : DS} (hc : DPt G E X cc e tc) (ha : DSs G E X ca a t) (hb : DSs G E X cb b u) : DSt G E X (cc + (ca + cb)) (.If e a b pos) (sIf tc t u) :=
  impS (ps_if hc ha hb) fun Dn σ H h => by
    obtain ⟨W, hn, de, ht, k1, k2, k3, k4⟩ := h
    refine ⟨W, by omega, _, ht, fun r H' st hr => ?_⟩
    have l := Later.next st
    cases r with
    | true =>
      refine ⟨W.next st, by show W.m + ca ≤ W.n - cc; omega, de, hr, fun σ2 H2 W2 l2 q => k1 σ2 H2 W2 ((l.trans l2).more (by omega)) q, fun v σ2 H2 W2 d' l2 hd hr => k2 v σ2 H2 W2 d' ((l.trans l2).more (by omega)) hd hr,
        fun σ2 H2 W2 l2 q => k3 σ2 H2 W2 ((l.trans l2).more (by omega)) q, fun σ2 H2 W2 l2 q => k4 σ2 H2 W2 ((l.trans l2).more (by omega)) q⟩
    | false =>
      refine ⟨W.next st, by show W.m + cb ≤ W.n - cc; omega, de, hr, fun σ2 H2 W2 l2 q => k1 σ2 H2 W2 ((l.trans l2).more (by omega)) q, fun v σ2 H2 W2 d' l2 hd hr => k2 v σ2 H2 W2 d' ((l.trans l2).more (by omega)) hd hr,
        fun σ2 H2 W2 l2 q => k3 σ2 H2 W2 ((l.trans l2).more (by omega)) q, fun σ2 H2 W2 l2 q => k4 σ2 H2 W2 ((l.trans l2).more (by omega)) q⟩
theorem lift_true {c : Nat} {te : DT} {σ : List (Option V)} {H : Hp} {Q' : Bool → Hp → Prop} (h : liftB G E c (dTrue te) σ H Q') : lift G E c te σ H fun x H' => ∃ b, x = .bl b ∧ Q' b H' := by
  obtain ⟨W, hc, Q, ht, k⟩ := h
  refine ⟨W, hc, _, ht, fun v H' d st hd ⟨b, e, hq⟩ => ⟨b, by subst e; exact hd, k b H' st hq⟩⟩
/-- a test that is a comparison -/
theorem dt_cmp {a b : Expr} {op : CmpOp} {pos : Pos} {g : G2} {ca cb : Nat} {ta tb : DT} (ho : OpR X (compareOp op) (rD G g)) (ha : DE G E X ca a ta) (hb : DE G E X cb b tb) (hm : behindInMarks op b = false) :
    DPt G E X (ca + cb) (.Compare a [op] [b] pos) (dTrue (dOp g ta tb)) := impT (pt_cmpR ho ha hb hm) fun σ H Q' h => by
  have h2 := lift_true h
  exact lift_op h2
/-- a test by its value: a name, a call, an attribute, an item -/
theorem dt_val {e : Expr} {c : Nat} {te : DT} (h : DE G E X c e te) (he : ∀ whole, isTrue e X.env whole = (do let v ← whole; standAt e.pos; holding [v] (truthy v)) := by intro _; rfl) : DPt G E X c e (dTrue te) :=
  impT (pt_val h he) fun σ H Q' h => lift_true h
def bAnd (t u : DB) : DB := fun ex env Q => t ex env fun b => if b = true then u ex env Q else Q false
def bOr (t u : DB) : DB := fun ex env Q => t ex env fun b => if b = true then Q true else u ex env Q
def bNot (t : DB) : DB := fun ex env Q => t ex env fun b => Q (!b)
end
end Kn
set_option Elab.async false
set_option linter.all false
set_option maxRecDepth 100000
set_option maxHeartbeats 2100000
namespace Kn
open PySem L2
open PyProof.Rows (envOfC)
section
variable {G : Gd} {E : XK} {X : Cx}
theorem dw_and {a b : Expr} {rest : List Expr} {pos : Pos} {ca cb : Nat} {t u : DB} (ha : DPt G E X ca a t) (hb : PW X (.BoolOp .And (b :: rest) pos) (liftB G E cb u)) : PW X (.BoolOp .And (a :: b :: rest) pos) (liftB G E (ca + cb) (bAnd t u)) :=
  ⟨fun wh pins s σ H Q I h => (pw_and ha hb).run wh pins s σ H Q I (by
    obtain ⟨W, hn, Q1, ht, k⟩ := h
    refine ⟨W, by omega, _, ht, fun r H' st hr => ?_⟩
    cases r with
    | true => exact ⟨W.next st, by show W.m + cb ≤ W.n - ca; omega, Q1, hr, fun r2 H2 st2 q => k r2 H2 (st.trans st2) q⟩
    | false => exact k false H' (st.less (by omega)) hr)⟩
theorem dw_or {a b : Expr} {rest : List Expr} {pos : Pos} {ca cb : Nat} {t u : DB} (ha : DPt G E X ca a t) (hb : PW X (.BoolOp .Or (b :: rest) pos) (liftB G E cb u)) : PW X (.BoolOp .Or (a :: b :: rest) pos) (liftB G E (ca + cb) (bOr t u)) :=
  ⟨fun wh pins s σ H Q I h => (pw_or ha hb).run wh pins s σ H Q I (by
    obtain ⟨W, hn, Q1, ht, k⟩ := h
    refine ⟨W, by omega, _, ht, fun r H' st hr => ?_⟩
    cases r with
    | true => exact k true H' (st.less (by omega)) hr
    | false => exact ⟨W.next st, by show W.m + cb ≤ W.n - ca; omega, Q1, hr, fun r2 H2 st2 q => k r2 H2 (st.trans st2) q⟩)⟩
theorem dw_and1 {a : Expr} {pos : Pos} {c : Nat} {t : DB} (ha : DPt G E X c a t) : PW X (.BoolOp .And [a] pos) (liftB G E c t) := pw_and1 ha
theorem dw_or1 {a : Expr} {pos : Pos} {c : Nat} {t : DB} (ha : DPt G E X c a t) : PW X (.BoolOp .Or [a] pos) (liftB G E c t) := pw_or1 ha
theorem dt_w {e : Expr} {c : Nat} {t : DB} (h : PW X e (liftB G E c t)) : DPt G E X c e t := h.pt
theorem dt_not {a : Expr} {pos : Pos} {c : Nat} {t : DB} (ha : DPt G E X c a t) : DPt G E X c (.UnaryOp .Not a pos) (bNot t) := impT (pt_not ha) fun σ H Q' h => by
  obtain ⟨W, hn, Q1, ht, k⟩ := h
  exact ⟨W, hn, _, ht, fun r H' st hr => k _ H' st hr⟩
/-- a < b <= c -/
def dChain (g g' : G2) (ta tb tc : DT) : DT := fun ex env Q => ta ex env fun x => tb ex env fun y => g x y fun z => ∃ k, z = .bl k ∧ if k = true then tc ex env fun w' => g' y w' Q else Q (.bl false)
theorem lift_chain {g g' : G2} {ca cb cc : Nat} {ta tb tc : DT} {σ : List (Option V)} {H : Hp} {Q' : VK} (h : lift G E (ca + (cb + cc)) (dChain g g' ta tb tc) σ H Q') :
    tChain (rD G g) (rD G g') (lift G E ca ta) (lift G E cb tb) (lift G E cc tc) σ H Q' := by
  obtain ⟨W, hc, Q, ht, k⟩ := h
  refine ⟨W, by omega, _, ht, fun v H1 d st hd hq => ⟨W.next st, by show W.m + cb ≤ W.n - ca; omega, _, hq, fun v2 H2 e st2 he hg => ?_⟩⟩
  refine ⟨W.XB, d, e, _, (W.next st).den st2 hd, he, fun p hp => ((W.next st).next st2).fresh hp, hg, fun r H' rd ex hr ⟨b, e1, hq2⟩ => ?_⟩
  subst e1
  have s3 : Step W (ca + cb) H' := (st.trans st2).pure ex
  refine ⟨b, hr, ?_⟩
  cases b with
  | false => exact k _ H' (.bl false) (s3.less (by omega)) (den_bl false) hq2
  | true =>
    refine ⟨W.next s3, by show W.m + cc ≤ W.n - (ca + cb); omega, _, hq2, fun v3 H3 f st3 hf hg3 => ?_⟩
    refine ⟨W.XB, e, f, Q, ?_, hf, fun p hp => ((W.next s3).next st3).fresh hp, hg3, fun r2 H4 rd2 ex2 hr2 q => k r2 H4 rd2 (((s3.trans st3).pure ex2).less (by omega)) hr2 q⟩
    exact (W.next s3).den st3 (he.ext (u := none) ex (fun _ z => z.none.elim))
theorem dt_chain {a b c : Expr} {op op' : CmpOp} {pos : Pos} {g g' : G2} {ca cb cc : Nat} {ta tb tc : DT} (ho : OpR X (compareOp op) (rD G g)) (ho' : OpR X (compareOp op') (rD G g')) (ha : DE G E X ca a ta) (hb : DE G E X cb b tb) (hc : DE G E X cc c tc)
    (hm : lastMarks [op, op'] [b, c] = false := by with_unfolding_all rfl) : DPt G E X (ca + (cb + cc)) (.Compare a [op, op'] [b, c] pos) (dTrue (dChain g g' ta tb tc)) := impT (pt_chain ho ho' ha hb hc hm) fun _ _ _ h => by
  have h2 := lift_true h
  exact lift_chain h2
/-- a if t else b -/
def dIf (tc : DB) (ta tb : DT) : DT := fun ex env Q => tc ex env fun b => if b = true then ta ex env Q else tb ex env Q
theorem de_ife {c a b : Expr} {pos : Pos} {cc ca cb : Nat} {tc : DB} {ta tb : DT} (hc : DPt G E X cc c tc) (ha : DE G E X ca a ta) (hb : DE G E X cb b tb) : DE G E X (cc + (ca + cb)) (.IfExp c a b pos) (dIf tc ta tb) :=
  imp (pe_ifExp hc ha hb) fun σ H Q' h => by
    obtain ⟨W, hn, Q, ht, k⟩ := h
    refine ⟨W, by omega, _, ht, fun r H' st hr => ?_⟩
    cases r with
    | true => exact ⟨W.next st, by show W.m + ca ≤ W.n - cc; omega, Q, hr, fun v H2 d st2 hd q => k v H2 d ((st.trans st2).less (by omega)) hd q⟩
    | false => exact ⟨W.next st, by show W.m + cb ≤ W.n - cc; omega, Q, hr, fun v H2 d st2 hd q => k v H2 d ((st.trans st2).less (by omega)) hd q⟩
def aNil : DA := fun _ _ Q => Q []
def aCons (t : DT) (u : DA) : DA := fun ex env Q => t ex env fun x => u ex env fun xs => Q (x :: xs)
theorem da_nil : DEs G E X 0 [] aNil := impA pa_nil fun σ H Q' h => by
  obtain ⟨W, hn, Q, ht, k⟩ := h
  exact k [] H [] (Step.refl W) rfl ht
theorem da_cons {e : Expr} {es : List Expr} {c d : Nat} {t : DT} {u : DA} (he : DE G E X c e t) (hes : DEs G E X d es u) (hs : ∀ env : Env, starEach (e :: es) env = (false, eval e env) :: starEach es env := by intro _; rfl) : DEs G E X (c + d) (e :: es) (aCons t u) :=
  impA (pa_cons he hes (by exact hs X.env)) fun σ H Q' h => by
    obtain ⟨W, hn, Q, ht, k⟩ := h
    refine ⟨W, by omega, _, ht, fun v H1 d1 st hd hq => ⟨W.next st, by show W.m + d ≤ W.n - c; omega, _, hq, fun vs H2 ds st2 hds q => ?_⟩⟩
    exact k (v :: vs) H2 (d1 :: ds) (st.trans st2) ⟨v, vs, rfl, (W.next st).den st2 hd, hds⟩ q
def dTup (u : DA) : DT := fun ex env Q => u ex env fun ds => ds.length ≤ sizeLine ∧ Q (.tup ds)
def dLst (u : DA) : DT := fun ex env Q => u ex env fun ds => ds.length ≤ sizeLine ∧ Q (.lst ds)
theorem de_tup {es : List Expr} {x1 : Nat} {pos : Pos} {c : Nat} {u : DA} (h : DEs G E X c es u) : DE G E X c (.Tuple es x1 pos) (dTup u) := imp (pe_tup h) fun σ H Q' h => by
  obtain ⟨W, hn, Q, ht, k⟩ := h
  refine ⟨W, hn, _, ht, fun vs H1 ds st hd ⟨hl, hq⟩ => ⟨by rw [← hd.length]; exact hl, fun p hp => ?_⟩⟩
  exact k _ _ (.tup ds) (st.new hp) (den_tup hp ((W.next st).fresh hp) (by rw [← hd.length]; exact hl) hd) hq
theorem de_lst {es : List Expr} {pos : Pos} {c : Nat} {u : DA} (h : DEs G E X c es u) : DE G E X c (.List es pos) (dLst u) := imp (pe_lst h) fun σ H Q' h => by
  obtain ⟨W, hn, Q, ht, k⟩ := h
  refine ⟨W, hn, _, ht, fun vs H1 ds st hd ⟨hl, hq⟩ => ⟨by rw [← hd.length]; exact hl, fun p hp => ?_⟩⟩
  exact k _ _ (.lst ds) (st.new hp) (den_lst hp ((W.next st).fresh hp) (by rw [← hd.length]; exact hl) hd) hq
def gIx : G2 := fun d e Q => match d, e with
  | .lst ds, .int i => ∃ x, atI ds i = some x ∧ Q x
  | .tup ds, .int i => ∃ x, atI ds i = some x ∧ Q x
  | _, _ => False
theorem denL_at {B : Addr → Prop} {H : Hp} {ds : List D} {xs : List V} {i : Int} {d : D} (h : DenL G B H ds xs) (e : atI ds i = some d) : ∃ x, atI xs i = some x ∧ Den G B H d x := by
  unfold atI at e ⊢
  rw [h.length] at e
  cases hj : ixN xs.length i with
  | none => rw [hj] at e; cases e
  | some j => rw [hj] at e; exact h.get e
theorem i_ix (hK : X.K = G.K) : IxR X (rD G gIx) := by
  intro value slice pins s σ H x y v u Q' I rx ry h hs
  obtain ⟨B, d, e, Q, hd, he, hf, hg, k⟩ := h
  cases d <;> cases e <;> try exact hg.elim
  · rename_i ds i
    obtain ⟨a, xs, rfl, na, ha, la, da⟩ := hd
    obtain ⟨z, hz, hq⟩ := hg
    obtain ⟨x, hx, dx⟩ := denL_at da hz
    exact ix_list value slice pins s σ H _ _ v u Q' I rx ry ⟨a, xs, i, x, rfl, he, SqL.of ha, hx, k _ H z (Ext.refl _ _) dx hq⟩ hs
  · rename_i ds i
    obtain ⟨a, xs, rfl, na, ha, la, da⟩ := hd
    obtain ⟨z, hz, hq⟩ := hg
    obtain ⟨x, hx, dx⟩ := denL_at da hz
    exact ix_tup value slice pins s σ H _ _ v u Q' I rx ry ⟨a, xs, i, x, rfl, he, by rw [hK]; exact ha, hx, k _ H z (Ext.refl _ _) dx hq⟩ hs
theorem de_ix {a b : Expr} {pos : Pos} {ca cb : Nat} {ta tb : DT} (hK : X.K = G.K) (ha : DE G E X ca a ta) (hb : DE G E X cb b tb) (hs : PlainIx b) : DE G E X (ca + cb) (.Subscript a b pos) (dOp gIx ta tb) :=
  imp (pe_ix (i_ix hK) ha hb hs) fun _ _ _ h => lift_op h
abbrev GL := List D → (D → Prop) → Prop
def rDL (G : Gd) (g : GL) : List V → Hp → VK → Prop := fun xs H Q' => ∃ B ds Q, DenL G B H ds xs ∧ (∀ p, H p = none → ¬ B p) ∧ g ds Q ∧ ∀ r H' rd, Ext none H H' → Den G B H' rd r → Q rd → Q' r H'
def dBi (g : GL) (u : DA) : DT := fun ex env Q => u ex env fun ds => g ds Q
theorem lift_bi {g : GL} {c : Nat} {u : DA} {σ : List (Option V)} {H : Hp} {Q' : VK} (h : lift G E c (dBi g u) σ H Q') : tCB (rDL G g) (liftA G E c u) σ H Q' := by
  obtain ⟨W, hn, Q, ht, k⟩ := h
  refine ⟨W, hn, _, ht, fun vs H1 ds st hd hg => ⟨W.XB, ds, Q, hd, fun p hp => (W.next st).fresh hp, hg, fun r H' rd ex hr q => k r H' rd (st.pure ex) hr q⟩⟩
theorem de_bi {e : Expr} {es : List Expr} {x : Str} {p pos : Pos} {id : String} {g : GL} {c : Nat} {u : DA} (hc : CallR X (.builtin id) (rDL G g)) (hm : X.mg x = none) (ha : DEs G E X c (e :: es) u) (hg : Gl X x := by rfl) (hv : bootBuiltins x = some (.builtin id) := by decide +kernel)
    (hn : x ≠ "__name__" := by decide) (hdb : (x == ("__debug__" : Str)) = false := by decide) (he : starEach (e :: es) X.env = (false, eval e X.env) :: starEach es X.env := by rfl) (hpl : (backTo pos (starEach es X.env)).any (·.1) = false := by rfl) :
    DE G E X c (.Call (.Name x p) (e :: es) [] pos) (dBi g u) := imp (pe_callB hc hg hm hv ha hn hdb he hpl) fun _ _ _ h => lift_bi h
theorem de_ty {e : Expr} {es : List Expr} {x : Str} {p pos : Pos} {T : String} {g : GL} {c : Nat} {u : DA} (hc : CallR X (.type T) (rDL G g)) (hm : X.mg x = none) (ha : DEs G E X c (e :: es) u) (hg : Gl X x := by rfl) (hv : bootBuiltins x = some (.type T) := by decide +kernel)
    (hn : x ≠ "__name__" := by decide) (hdb : (x == ("__debug__" : Str)) = false := by decide) (he : starEach (e :: es) X.env = (false, eval e X.env) :: starEach es X.env := by rfl) (hpl : (backTo pos (starEach es X.env)).any (·.1) = false := by rfl) :
    DE G E X c (.Call (.Name x p) (e :: es) [] pos) (dBi g u) := imp (pe_callTy hc hg hm hv ha hn hdb he hpl) fun _ _ _ h => lift_bi h
theorem callr_imp {f : Value} {r r' : List V → Hp → VK → Prop} (h : CallR X f r) (i : ∀ xs H Q, r' xs H Q → r xs H Q) : CallR X f r' := fun pins s σ H xs us Q I r q => h pins s σ H xs us Q I r (i xs H Q q)
theorem denL1 {B : Addr → Prop} {H : Hp} {d : D} {xs : List V} (h : DenL G B H [d] xs) : ∃ x, xs = [x] ∧ Den G B H d x := by
  obtain ⟨x, r, e, h1, h2⟩ := h
  cases h2
  exact ⟨x, e, h1⟩
theorem denL2 {B : Addr → Prop} {H : Hp} {d e : D} {xs : List V} (h : DenL G B H [d, e] xs) : ∃ x y, xs = [x, y] ∧ Den G B H d x ∧ Den G B H e y := by
  obtain ⟨x, r, e, h1, h2⟩ := h
  obtain ⟨y, rfl, h3⟩ := denL1 h2
  exact ⟨x, y, e, h1, h3⟩
/-- one argument -/
def g1 (g : D → (D → Prop) → Prop) : GL := fun ds Q => match ds with
  | [d] => g d Q
  | _ => False
def g2 (g : G2) : GL := fun ds Q => match ds with
  | [d, e] => g d e Q
  | _ => False
theorem rDL1 {g : D → (D → Prop) → Prop} {xs : List V} {H : Hp} {Q' : VK} (h : rDL G (g1 g) xs H Q') : ∃ B d x Q, xs = [x] ∧ Den G B H d x ∧ (∀ p, H p = none → ¬ B p) ∧ g d Q ∧ ∀ r H' rd, Ext none H H' → Den G B H' rd r → Q rd → Q' r H' := by
  obtain ⟨B, ds, Q, hd, hf, hg, k⟩ := h
  match ds, hd, hg with
  | [d], hd, hg =>
    obtain ⟨x, rfl, hx⟩ := denL1 hd
    exact ⟨B, d, x, Q, rfl, hx, hf, hg, k⟩
theorem rDL2 {g : G2} {xs : List V} {H : Hp} {Q' : VK} (h : rDL G (g2 g) xs H Q') : ∃ B d e x y Q, xs = [x, y] ∧ Den G B H d x ∧ Den G B H e y ∧ (∀ p, H p = none → ¬ B p) ∧ g d e Q ∧ ∀ r H' rd, Ext none H H' → Den G B H' rd r → Q rd → Q' r H' := by
  obtain ⟨B, ds, Q, hd, hf, hg, k⟩ := h
  match ds, hd, hg with
  | [d, e], hd, hg =>
    obtain ⟨x, y, rfl, hx, hy⟩ := denL2 hd
    exact ⟨B, d, e, x, y, Q, rfl, hx, hy, hf, hg, k⟩
def gLen : D → (D → Prop) → Prop := fun d Q => match d with
  | .lst ds => Q (.int ds.length)
  | .tup ds => Q (.int ds.length)
  | .str x => x.length ≤ sizeLine ∧ Q (.int x.length)
  | _ => False
theorem c_len (hK : X.K = G.K) : CallR X (.builtin "len") (rDL G (g1 gLen)) := callr_imp call_len fun xs H Q' h => by
  obtain ⟨B, d, x, Q, rfl, hd, hf, hg, k⟩ := rDL1 h
  cases d <;> try exact hg.elim
  · rename_i z
    cases hd
    exact ⟨_, _, rfl, ⟨hg.1, rfl⟩, k _ H (.int z.length) (Ext.refl _ _) (den_int _) hg.2⟩
  · rename_i ds
    obtain ⟨a, ys, rfl, na, ha, la, da⟩ := hd
    exact ⟨_, _, rfl, .inl ⟨ys, SqL.of ha, rfl⟩, k _ H (.int ds.length) (Ext.refl _ _) (by rw [da.length]; exact den_int _) hg⟩
  · rename_i ds
    obtain ⟨a, ys, rfl, na, ha, la, da⟩ := hd
    exact ⟨_, _, rfl, .inr ⟨ys, by rw [hK]; exact ha, rfl⟩, k _ H (.int ds.length) (Ext.refl _ _) (by rw [da.length]; exact den_int _) hg⟩
def gList : D → (D → Prop) → Prop := fun d Q => match d with
  | .lst ds => Q (.lst ds)
  | .tup ds => Q (.lst ds)
  | _ => False
theorem c_list (hK : X.K = G.K) : CallR X (.type "list") (rDL G (g1 gList)) := callr_imp call_list_of fun xs H Q' h => by
  obtain ⟨B, d, x, Q, rfl, hd, hf, hg, k⟩ := rDL1 h
  cases d <;> try exact hg.elim
  · rename_i ds
    obtain ⟨a, ys, rfl, na, ha, la, da⟩ := hd
    exact ⟨_, ys, rfl, .inl (SqL.of ha), fun p hp => k _ _ (.lst ds) (Ext.new hp) (den_lst hp (hf p hp) la da) hg⟩
  · rename_i ds
    obtain ⟨a, ys, rfl, na, ha, la, da⟩ := hd
    exact ⟨_, ys, rfl, .inr (by rw [hK]; exact ha), fun p hp => k _ _ (.lst ds) (Ext.new hp) (den_lst hp (hf p hp) la da) hg⟩
def gTuple : D → (D → Prop) → Prop := fun d Q => match d with
  | .lst ds => Q (.tup ds)
  | .tup ds => Q (.tup ds)
  | _ => False
theorem c_tuple (hK : X.K = G.K) : CallR X (.type "tuple") (rDL G (g1 gTuple)) := callr_imp call_tuple_of fun xs H Q' h => by
  obtain ⟨B, d, x, Q, rfl, hd, hf, hg, k⟩ := rDL1 h
  cases d <;> try exact hg.elim
  · rename_i ds
    obtain ⟨a, ys, rfl, na, ha, la, da⟩ := hd
    exact ⟨_, ys, rfl, .inl ⟨SqL.of ha, fun p hp => k _ _ (.tup ds) (Ext.new hp) (den_tup hp (hf p hp) la da) hg⟩⟩
  · rename_i ds
    obtain ⟨a, ys, rfl, na, ha, la, da⟩ := hd
    exact ⟨_, ys, rfl, .inr ⟨by rw [hK]; exact ha, k _ H (.tup ds) (Ext.refl _ _) ⟨a, ys, rfl, na, ha, la, da⟩ hg⟩⟩
theorem DenL.bls {B : Addr → Prop} {H : Hp} : ∀ {bs : List Bool} {xs : List V}, DenL G B H (bs.map D.bl) xs → xs = bs.map V.bl
  | [], _, h => h
  | b :: bs, _, ⟨x, r, e, h1, h2⟩ => by subst e; rw [show x = V.bl b from h1, DenL.bls h2]; rfl
/-- all | any of a list of truths -/
def gAll : D → (D → Prop) → Prop := fun d Q => ∃ bs : List Bool, d = .lst (bs.map D.bl) ∧ Q (.bl (bs.all id))
theorem c_all (hc : X.calm = true) : CallR X (.builtin "all") (rDL G (g1 gAll)) := callr_imp (cr_all hc) fun xs H Q' h => by
  obtain ⟨B, d, x, Q, rfl, hd, hf, ⟨bs, rfl, hq⟩, k⟩ := rDL1 h
  obtain ⟨a, ys, rfl, na, ha, la, da⟩ := hd
  have := da.bls
  subst this
  exact ⟨a, bs, rfl, SqL.of ha, k _ H (.bl _) (Ext.refl _ _) (den_bl _) hq⟩
def gInt : D → (D → Prop) → Prop := fun d Q => match d with
  | .int i => Q (.int i)
  | .bl b => Q (.int (if b then 1 else 0))
  | _ => False
theorem c_int : CallR X (.type "int") (rDL G (g1 gInt)) := callr_imp call_int1 fun xs H Q' h => by
  obtain ⟨B, d, x, Q, rfl, hd, hf, hg, k⟩ := rDL1 h
  cases d <;> try exact hg.elim
  · rename_i b
    cases hd
    exact .inr ⟨b, rfl, k _ H (.int _) (Ext.refl _ _) (den_int _) hg⟩
  · rename_i i
    cases hd
    exact .inl ⟨i, rfl, k _ H (.int i) (Ext.refl _ _) (den_int _) hg⟩
end
end Kn
set_option Elab.async false
set_option linter.all false
set_option maxRecDepth 100000
set_option maxHeartbeats 2100000
namespace Kn
open PySem L2
open PyProof.Rows (envOfC)
section
variable {G : Gd} {E : XK} {X : Cx} {σ : List (Option V)} {H H' : Hp}
theorem getD_set {α : Type} {l : List (Option α)} {i j : Nat} {v : Option α} : (l.set i v)[j]?.join = if i = j ∧ i < l.length then v else l[j]?.join := by
  by_cases h : i = j
  · subst h
    by_cases hi : i < l.length
    · rw [List.getElem?_set_self hi, if_pos ⟨rfl, hi⟩]; rfl
    · rw [List.getElem?_eq_none (by simpa using hi), if_neg (fun z => hi z.2), List.getElem?_eq_none (by simpa using hi)]
  · rw [List.getElem?_set_ne h, if_neg (fun z => h z.1)]
theorem xb_val {B : Addr → Prop} {env : List Sl} {i : Nat} {d : D} {v : Option V} {a : Addr} (hl : env.length = σ.length) (h : XBof B (env.set i (.val d)) (σ.set i v) a) : XBof B env σ a := by
  rcases h with h | ⟨j, s, h1, hm, h2⟩
  · exact .inl h
  · by_cases hj : i = j
    · subst hj
      by_cases hi : i < env.length
      · rw [List.getElem?_set_self hi] at h1; cases h1; cases hm
      · rw [List.getElem?_eq_none (by simpa using hi)] at h1; cases h1
    · rw [List.getElem?_set_ne hj] at h1 h2
      exact .inr ⟨j, s, h1, hm, h2⟩
theorem xb_emp {B : Addr → Prop} {env : List Sl} {i : Nat} {v : Option V} {a : Addr} (h : XBof B (env.set i .emp) (σ.set i v) a) : XBof B env σ a := by
  rcases h with h | ⟨j, s, h1, hm, h2⟩
  · exact .inl h
  · by_cases hj : i = j
    · subst hj
      by_cases hi : i < env.length
      · rw [List.getElem?_set_self hi] at h1; cases h1; cases hm
      · rw [List.getElem?_eq_none (by simpa using hi)] at h1; cases h1
    · rw [List.getElem?_set_ne hj] at h1 h2
      exact .inr ⟨j, s, h1, hm, h2⟩
theorem Den.fewer {B B' : Addr → Prop} {H : Hp} (s : ∀ b, B' b → B b) {d : D} {v : V} (h : Den G B H d v) : Den G B' H d v := Den.keep (fun _ _ _ h => h) (fun b hb => .inl (s b hb)) d v h
theorem DenL.fewer {B B' : Addr → Prop} {H : Hp} (s : ∀ b, B' b → B b) {ds : List D} {xs : List V} (h : DenL G B H ds xs) : DenL G B' H ds xs := DenL.keep (fun _ _ _ h => h) (fun b hb => .inl (s b hb)) ds xs h
theorem SlOk.fewer {H0 : Hp} {B B' : Addr → Prop} {H : Hp} (k : ∀ b, B' b → B b) {s : Sl} {v : Option V} (h : SlOk G H0 B H s v) : SlOk G H0 B' H s v := by
  cases s with
  | emp => trivial
  | val d => obtain ⟨x, e, h⟩ := h; exact ⟨x, e, h.fewer k⟩
  | own a ds => obtain ⟨xs, e, h0, h1, hl, h2⟩ := h; exact ⟨xs, e, h0, h1, hl, h2.fewer k⟩
  | slf a dx c ds => obtain ⟨xs, e, h0, h1, hl, h2⟩ := h; exact ⟨xs, e, h0, h1, hl, h2.fewer k⟩
  | obj a o => exact h
  | dic a ks ds => obtain ⟨L, e, h0, h1, hk, hx, h2⟩ := h; exact ⟨L, e, h0, h1, hk, hx.keep (fun _ _ _ h => h) (fun b hb => .inl (k b hb)), h2.fewer k⟩
/-- slot i holds a value from now on -/
def Wd.put (W : Wd G E σ H) (i : Nat) {d : D} {v : V} (hd : Den G W.XB H d v) : Wd G E (σ.set i (some v)) H where
  u := W.u
  n := W.n
  m := W.m
  B := W.B
  H0 := W.H0
  env := W.env.set i (.val d)
  ex := W.ex
  ug := W.ug
  hu := W.hu
  hB := W.hB
  fr := W.fr
  good := W.good
  len := by rw [List.length_set, List.length_set]; exact W.len
  sl := fun j s e => by
    have sub : ∀ b, XBof W.B (W.env.set i (.val d)) (σ.set i (some v)) b → W.XB b := fun b => xb_val W.len
    by_cases hj : i = j
    · subst hj
      by_cases hi : i < W.env.length
      · rw [List.getElem?_set_self hi] at e
        cases e
        rw [getD_set, if_pos ⟨rfl, by rw [← W.len]; exact hi⟩]
        exact ⟨v, rfl, hd.fewer sub⟩
      · rw [List.getElem?_eq_none (by simpa using hi)] at e; cases e
    · rw [List.getElem?_set_ne hj] at e
      rw [getD_set, if_neg (fun z => hj z.1)]
      exact (W.sl j s e).fewer sub
  nd := fun j k a s t h1 h2 m1 m2 h3 h4 => by
    have nj : i ≠ j := fun z => by
      subst z
      by_cases hi : i < W.env.length
      · rw [List.getElem?_set_self hi] at h1; cases h1; cases m1
      · rw [List.getElem?_eq_none (by simpa using hi)] at h1; cases h1
    have nk : i ≠ k := fun z => by
      subst z
      by_cases hi : i < W.env.length
      · rw [List.getElem?_set_self hi] at h2; cases h2; cases m2
      · rw [List.getElem?_eq_none (by simpa using hi)] at h2; cases h2
    rw [List.getElem?_set_ne nj] at h1 h3
    rw [List.getElem?_set_ne nk] at h2 h4
    exact W.nd j k a s t h1 h2 m1 m2 h3 h4
  exc := W.exc
/-- slot i is forgotten -/
def Wd.drop (W : Wd G E σ H) (i : Nat) (v : Option V) : Wd G E (σ.set i v) H where
  u := W.u
  n := W.n
  m := W.m
  B := W.B
  H0 := W.H0
  env := W.env.set i .emp
  ex := W.ex
  ug := W.ug
  hu := W.hu
  hB := W.hB
  fr := W.fr
  good := W.good
  len := by rw [List.length_set, List.length_set]; exact W.len
  sl := fun j s e => by
    have sub : ∀ b, XBof W.B (W.env.set i .emp) (σ.set i v) b → W.XB b := fun b => xb_emp
    by_cases hj : i = j
    · subst hj
      by_cases hi : i < W.env.length
      · rw [List.getElem?_set_self hi] at e
        cases e
        trivial
      · rw [List.getElem?_eq_none (by simpa using hi)] at e; cases e
    · rw [List.getElem?_set_ne hj] at e
      rw [getD_set, if_neg (fun z => hj z.1)]
      exact (W.sl j s e).fewer sub
  nd := fun j k a s t h1 h2 m1 m2 h3 h4 => by
    have nj : i ≠ j := fun z => by
      subst z
      by_cases hi : i < W.env.length
      · rw [List.getElem?_set_self hi] at h1; cases h1; cases m1
      · rw [List.getElem?_eq_none (by simpa using hi)] at h1; cases h1
    have nk : i ≠ k := fun z => by
      subst z
      by_cases hi : i < W.env.length
      · rw [List.getElem?_set_self hi] at h2; cases h2; cases m2
      · rw [List.getElem?_eq_none (by simpa using hi)] at h2; cases h2
    rw [List.getElem?_set_ne nj] at h1 h3
    rw [List.getElem?_set_ne nk] at h2 h4
    exact W.nd j k a s t h1 h2 m1 m2 h3 h4
  exc := W.exc
theorem Later.put (W : Wd G E σ H) (i : Nat) {d : D} {v : V} (hd : Den G W.XB H d v) : Later W 0 (W.put i hd) := ⟨rfl, rfl, rfl, rfl, rfl, by show W.n ≤ W.n + 0; omega, fun _ _ _ h => h, fun b h => .inl (xb_val W.len h)⟩
theorem Later.drop (W : Wd G E σ H) (i : Nat) (v : Option V) : Later W 0 (W.drop i v) := ⟨rfl, rfl, rfl, rfl, rfl, by show W.n ≤ W.n + 0; omega, fun _ _ _ h => h, fun b h => .inl (xb_emp h)⟩
def sSet (i : Nat) (te : DT) : DS := fun ex de env => te ex env fun d => de.nx (env.set i (.val d))
theorem ds_set {i : Nat} {x : Str} {e : Expr} {pos pos' : Pos} {c : Nat} {te : DT} (hN : X.N.Nodup) (hi : X.N[i]? = some x) (hx : Loc X.env.scope x) (he : DE G E X c e te) (hs : swapsWith e (some (.Name x pos')) pos.line X.env = pure false := by rfl)
    (hf : X.fn x = true ∨ X.env.scope.names.lookup x = some .local := by first | exact .inl rfl | exact .inr rfl) : DSt G E X c (.Assign [.Name x pos'] e pos) (sSet i te) :=
  impS (ps_set hN hi hx he hs hf) fun Dn σ H h => by
    obtain ⟨W, hn, de, ht, k1, k2, k3, k4⟩ := h
    refine ⟨W, hn, _, ht, fun v H' d st hd hq => ?_⟩
    have hd' : Den G (W.next st).XB H' d v := hd
    exact k1 _ H' ((W.next st).put i hd') (((Later.next st).trans (Later.put _ i hd')).more (by omega)) hq
/-- a value dropped -/
def sExpr (te : DT) : DS := fun ex de env => te ex env fun _ => de.nx env
theorem ds_expr {e : Expr} {pos : Pos} {c : Nat} {te : DT} (he : DE G E X c e te) (hs : swapsWith e none pos.line X.env = pure false := by rfl) : DSt G E X c (.Expr e pos) (sExpr te) :=
  impS (ps_expr he hs) fun Dn σ H h => by
    obtain ⟨W, hn, de, ht, k1, k2, k3, k4⟩ := h
    exact ⟨W, hn, _, ht, fun v H' d st hd hq => k1 _ H' (W.next st) (Later.next st) hq⟩
/-- an exception of a callee reaches
  what this body wants of exceptions -/
theorem run_fnd {k : Nat} {f : Addr} {fd : FuncData} {ps : List Str} {cf : Nat} {S : FSpec} {pins : List (Addr × Obj)} {s : Shared} {Q' : VK} {us : List Value} {vs : List V} {hK : X.K = G.K}
    (F : FnD G X.prog X.w X.mg X.base k f fd ps cf S) (hr : Room k X.A) (hgd : X.A.guards = some []) (hx : Passes (L2.CX X.prog X.w) X E) (I : Inv X pins σ H s) (r : Vals vs us) (hl : vs.length = ps.length) (args : Args) (hb : BindsTo s fd args (ps.zip us))
    (h : liftF G cf S vs H Q' E) : codeAny (model X.prog X.w) X.A (.call (.ref f) args) (fun r s' => match r with
      | .ok (.ret v) => EP X pins σ Q' v s'
      | .ok _ => False
      | .error e => X.xe e s') s := by
  have e0 : Env0 X.prog X.w G.K X.mg X.base X.A X.stack s H := by rw [← hK]; exact I.env0
  refine codeAny_mono (F.run X.A X.stack s H args us vs Q' E hr hgd e0 hb r hl h) fun r s' hq => ?_
  cases r with
  | error e =>
    exact hx pins σ H s e s' I hq
  | ok fl =>
    cases fl with
    | ret u => exact I.after hq
    | next => exact hq.elim
    | brk => exact hq.elim
    | cont => exact hq.elim
end
end Kn
set_option Elab.async false
set_option linter.all false
set_option maxRecDepth 100000
set_option maxHeartbeats 2100000
namespace Kn
open PySem L2
open PyProof.Rows (envOfC)
section
variable {G : Gd} {E : XK} {X : Cx} {σ : List (Option V)} {H H' : Hp}
/-- from a body's state: what a callee of the promise S is handed -/
theorem lift_callee {W : Wd G E σ H} {c cf : Nat} {H1 : Hp} (st : Step W c H1) (hn : W.m + (c + cf) ≤ W.n) {S : FSpec} {ds : List D} {vs : List V} {Q : D → Prop} {Q' : VK} (hd : DenL G W.XB H1 ds vs) (hs : S ds Q W.ex)
    (k : ∀ v H' d, Step W (c + cf) H' → Den G W.XB H' d v → Q d → Q' v H') : liftF G cf S vs H1 Q' E := by
  refine ⟨W.u, W.n - c, W.XB, ds, Q, W.ex, W.ug, by omega, fun p e => ⟨.inl (W.hu p e).1, .inl (W.hu p e).2⟩, fun a ha z => (W.next st).fresh z ha, st.good, hd, hs, fun v H' d e g hd' q => ?_, fun x C d H' e g hx q => ?_⟩
  · exact k v H' d ⟨st.ext.trans e, by rw [Nat.sub_add_eq]; exact g⟩ hd' q
  · refine W.exc x C d H' ((W.fr.trans st.ext).trans e) (g.less (by omega)) ?_ q
    obtain ⟨e1, dd, xs, e2, nd, e3, e4, e5⟩ := hx
    exact ⟨e1, dd, xs, e2, fun z => nd (.inl z), e3, e4, e5.fewer fun b z => .inl z⟩
/-- what a def's body knows of where it stands -/
structure Xk (G : Gd) (E : XK) (k : Nat) (X : Cx) : Prop where
  K : X.K = G.K
  room : Room k X.A
  gd : X.A.guards = some []
  pass : Passes (L2.CX X.prog X.w) X E
  calm : X.calm = true
  tk : Takes X (fun cls d _ H => E cls d H)
theorem Xk.u (x : Xk G E k X) {n : Nat} (h : n ≤ 100 := by decide) : X.A.units + n < cLine := by have := x.room.un; omega
theorem Xk.u64 (x : Xk G E k X) : X.A.units + 64 < cLine := by have := x.room.un; omega
theorem Xk.u65 (x : Xk G E k X) : X.A.units + 65 < cLine := by have := x.room.un; omega
/-- the def x of the module, known by its promise -/
structure Fk (G : Gd) (P : Program) (w : World) (mg : Str → Option Value) (base : Heap) (k : Nat) (x : Str) (ps : List Str) (cf : Nat) (S : FSpec) : Prop where
  ex : ∃ (f : Addr) (fd : FuncData), FnD G P w mg base k f fd ps cf S ∧ mg x = some (.ref f) ∧ PySem.W.keepIn G.K (.ref f) = true ∧ Binds G.K fd ps []
def dCall (n : Nat) (S : FSpec) (u : DA) : DT := fun ex env Q => u ex env fun ds => ds.length = n ∧ S ds Q ex
theorem de_call {j k : Nat} {x : Str} {ps : List Str} {c cf : Nat} {S : FSpec} {e : Expr} {es : List Expr} {u : DA} {p pos : Pos} (F : Fk G X.prog X.w X.mg X.base j x ps cf S) (xk : Xk G E k X) (ha : DEs G E X c (e :: es) u) (hj : j ≤ k := by decide) (hg : Gl X x := by rfl) (hdb : (x == ("__debug__" : Str)) = false := by decide)
    (he : starEach (e :: es) X.env = (false, eval e X.env) :: starEach es X.env := by rfl) (hpl : (backTo pos (starEach es X.env)).any (·.1) = false := by rfl) : DE G E X (c + cf) (.Call (.Name x p) (e :: es) [] pos) (dCall ps.length S u) := by
  obtain ⟨f, fd, hF0, hm, hk, hb⟩ := F.ex
  have hF := hF0.mono hj
  rw [← xk.K] at hk hb
  refine ⟨fun pins s σ H Q' I h => ?_⟩
  obtain ⟨W, hn, Q, ht, kk⟩ := h
  have args := ha.run pos pins s σ H (fun vs H1 => vs.length = ps.length ∧ liftF G cf S vs H1 Q' E) I ⟨W, by omega, _, ht, fun vs H1 ds st hd ⟨hl, hs⟩ => ⟨by rw [← hd.length]; exact hl, lift_callee st hn hd hs kk⟩⟩
  refine wpAny_Call_Name_kw (ld_glob I hg hm ?_ hdb); refine PySem.W.callWith_K (h₀ := X.base) I.ok.mod.kin hk (thn args ?_) he hpl
  intro us s1 ⟨vs, H1, I1, r1, hl, q1⟩
  refine ⟨I1.kIn, wpAny_call ?_⟩
  have hb' : BindsTo s1 fd ⟨us, []⟩ (ps.zip us) := by
    have z := hb s1 us I1.kIn (by rw [List.append_nil, ← r1.length]; exact hl)
    rw [List.append_nil] at z
    exact z
  exact run_fnd (hK := xk.K) hF xk.room xk.gd xk.pass I1 r1 hl _ hb' q1
/-- f(e, .., k = v, ..): perm puts the given values in the parameters' order -/
abbrev DK (G : Gd) (E : XK) (X : Cx) (c : Nat) (kws : List Keyword) (t : DA) : Prop := PK X kws (liftA G E c t)
theorem dk_nil : DK G E X 0 [] aNil := ⟨fun pos pins s σ H Q' I h => pk_nil.run pos pins s σ H Q' I (by
  obtain ⟨W, hn, Q, ht, k⟩ := h
  exact k [] H [] (Step.refl W) rfl ht)⟩
theorem dk_cons {e : Expr} {kws : List Keyword} {nm : Option Str} {kpos : Pos} {c d : Nat} {t : DT} {u : DA} (he : DE G E X c e t) (hr : DK G E X d kws u) : DK G E X (c + d) (⟨nm, e, kpos⟩ :: kws) (aCons t u) :=
  ⟨fun pos pins s σ H Q' I h => (pk_cons (nm := nm) he hr).run pos pins s σ H Q' I (by
    obtain ⟨W, hn, Q, ht, k⟩ := h
    refine ⟨W, by omega, _, ht, fun v H1 d1 st hd hq => ⟨W.next st, by show W.m + d ≤ W.n - c; omega, _, hq, fun vs H2 ds st2 hds q => ?_⟩⟩
    exact k (v :: vs) H2 (d1 :: ds) (st.trans st2) ⟨v, vs, rfl, (W.next st).den st2 hd, hds⟩ q)⟩
end
end Kn
set_option Elab.async false
set_option linter.all false
set_option maxRecDepth 100000
set_option maxHeartbeats 2100000
namespace Kn
open PySem L2 RZ
open PyProof.Rows (envOfC)
section
variable {G : Gd} {E : XK} {X : Cx} {σ : List (Option V)} {H H' : Hp} {tg : Expr}
/-- J walks the values ds, whatever is done beside them -/
structure Walks (G : Gd) (B : Addr → Prop) (H1 : Hp) (J : It) (ds : List D) : Prop where
  len : ds.length ≤ sizeLine
  go : ∀ (i : Nat) (H' : Hp) (B' : Addr → Prop), (∀ b o, ¬ B b → H1 b = some o → H' b = some o) → (∀ b, B' b → B b ∨ H1 b = none) → (∀ p, H' p = none → ¬ B' p) → i < ds.length →
    J.go i H' ∧ ∀ x H'', J.yld i H' x H'' → Ext none H' H'' ∧ ∃ d, ds[i]? = some d ∧ Den G B' H'' d x
  stop : ∀ (i : Nat) (H' : Hp), (∀ b o, ¬ B b → H1 b = some o → H' b = some o) → i = ds.length → J.stop i H'
def liftI (G : Gd) (E : XK) (c : Nat) (ti : DA) : TI := fun σ H R => ∃ W : Wd G E σ H, W.m + c ≤ W.n ∧ ∃ Q, ti W.ex W.env Q ∧ ∀ J H1 ds, Step W c H1 → Walks G W.XB H1 J ds → Q ds → R J H1
abbrev DI (G : Gd) (E : XK) (X : Cx) (tg : Expr) (c : Nat) (it : Expr) (ti : DA) : Prop := PI X tg it (liftI G E c ti)
theorem impI {it : Expr} {t t' : TI} (h : PI X tg it t) (i : ∀ σ H R, t' σ H R → t σ H R) : PI X tg it t' := ⟨fun pins s σ H R I q => h.run pins s σ H R I (i σ H R q)⟩
/-- a list or a tuple -/
def iSeq (te : DT) : DA := fun ex env Q => te ex env fun d => match d with
  | .lst ds => Q ds
  | .tup ds => Q ds
  | _ => False
def iSq (K : PySem.W.Frag) (tl : TE) : TI := fun σ H R => tl σ H fun x H1 => ∃ a, x = .ref a ∧ (((∃ xs, SqL K H1 a xs) ∧ R (Itl K a) H1) ∨ ((∃ xs, SqT K H1 a xs) ∧ R (Itt K a) H1))
theorem pi_sq {l : Expr} {tl : TE} (hl : PE X l tl) : PI X tg l (iSq X.K tl) := by
  constructor
  intro pins s σ H R I h
  refine thn (hl.run pins s σ H _ I h) ?_
  rintro v s1 ⟨x, H1, I1, r1, a, rfl, q1⟩
  cases r1
  have fp : ∀ b ∈ [s1.heap.objs.size], FpOk X pins H1 b := by
    intro b hb
    rw [List.mem_singleton.mp hb]; exact I1.fpOk (Nat.le_refl _) (I1.hok.fresh (Nat.le_refl _))
  have kept : ∀ {ob : Obj} {tk : Nat}, L2.Inv X pins σ H1 { s1 with heap := s1.heap.push ob, toks := tk } := fun {ob tk} => I1.kept (t' := tk) fun b o e => Heap.get?_push_of_some _ e
  rcases q1 with ⟨⟨xs, hq⟩, q⟩ | ⟨⟨xs, hq⟩, q⟩
  · obtain ⟨its, rv, p, hz⟩ := I1.list hq
    exact wpAny_pyIter_list p.isList ⟨s1.heap.objs.size, [s1.heap.objs.size], _, Itl X.K a, H1, rfl, kept, turn_list a _, ⟨_, Heap.get?_push_size _ rfl, rfl, rfl⟩, fp, q⟩
  · obtain ⟨its, rv, p, hz⟩ := I1.tuple hq
    have p' : s1.heap.IsTuple a its.toArray := p
    exact wpAny_pyIter_tuple p' ⟨s1.heap.objs.size, [s1.heap.objs.size], _, Itt X.K a, H1, rfl, kept, turn_tuple a _, ⟨_, Heap.get?_push_size _ rfl, rfl, rfl⟩, fp, q⟩
theorem keep_sqT {K : PySem.W.Frag} {B : Addr → Prop} {H1 H' : Hp} {a : Addr} {xs : List V} (k : ∀ b o, ¬ B b → H1 b = some o → H' b = some o) (na : ¬ B a ∨ KTup K a xs) (h : SqT K H1 a xs) : SqT K H' a xs := by
  rcases na with na | na
  case inr => exact .inr na
  rcases h with (h
    | ⟨o, h⟩) | h
  · exact .inl (.inl (k _ _ na h))
  · exact .inl (.inr ⟨o, k _ _ na h⟩)
  · exact .inr h
theorem walks_lst {B : Addr → Prop} {H1 : Hp} {a : Addr} {xs : List V} {ds : List D} (na : ¬ B a) (ha : H1 a = some (.lst xs)) (hl : xs.length ≤ sizeLine) (hd : DenL G B H1 ds xs) : Walks G B H1 (Itl G.K a) ds := by
  have e := hd.length
  refine ⟨by omega, fun i H' B' k s hf hi => ?_, fun i H' k hi => ⟨xs, SqL.of (k _ _ na ha), by omega⟩⟩
  have ha' := k _ _ na ha
  refine ⟨⟨xs, xs[i], SqL.of ha', List.getElem?_eq_getElem (by omega)⟩, fun x H'' y => ?_⟩
  obtain ⟨rfl, y⟩ := y
  obtain ⟨d, h1, h2⟩ := hd.getV (y xs (SqL.of ha'))
  exact ⟨Ext.refl _ _, d, h1, Den.keep k s d x h2⟩
theorem walks_tup {B : Addr → Prop} {H1 : Hp} {a : Addr} {xs : List V} {ds : List D} (na : ¬ B a ∨ KTup G.K a xs) (ha : SqT G.K H1 a xs) (hl : xs.length ≤ sizeLine) (hd : DenL G B H1 ds xs) : Walks G B H1 (Itt G.K a) ds := by
  have e := hd.length
  refine ⟨by omega, fun i H' B' k s hf hi => ?_, fun i H' k hi => ⟨xs, keep_sqT k na ha, by omega⟩⟩
  have ha' := keep_sqT k na ha
  refine ⟨⟨xs, xs[i], ha', List.getElem?_eq_getElem (by omega)⟩, fun x H'' y => ?_⟩
  obtain ⟨rfl, y⟩ := y
  obtain ⟨d, h1, h2⟩ := hd.getV (y xs ha')
  exact ⟨Ext.refl _ _, d, h1, Den.keep k s d x h2⟩
theorem di_seq {l : Expr} {c : Nat} {te : DT} (hK : X.K = G.K) (hl : DE G E X c l te) : DI G E X tg c l (iSeq te) := impI (pi_sq hl) fun σ H R h => by
  obtain ⟨W, hn, Q, ht, k⟩ := h
  refine ⟨W, hn, _, ht, fun v H1 d st hd hq => ?_⟩
  cases d <;> try exact hq.elim
  · rename_i ds
    obtain ⟨a, xs, rfl, na, ha, la, da⟩ := hd
    exact ⟨a, rfl, .inl ⟨⟨xs, SqL.of ha⟩, by rw [hK]; exact k _ H1 ds st (walks_lst na ha la da) hq⟩⟩
  · rename_i ds
    obtain ⟨a, xs, rfl, na, ha, la, da⟩ := hd
    exact ⟨a, rfl, .inr ⟨⟨xs, by rw [hK]; exact ha⟩, by rw [hK]; exact k _ H1 ds st (walks_tup na ha la da) hq⟩⟩
/-- range(n), range(a, b) -/
def rangeD (lo : Int) (n : Nat) : List D := (List.range n).map fun (i : Nat) => D.int (lo + (i : Int))
theorem walks_rng {B : Addr → Prop} {H1 : Hp} {lo : Int} {n : Nat} (hl : n ≤ sizeLine) : Walks G B H1 (Itr lo n) (rangeD lo n) := by
  have e : (rangeD lo n).length = n := by simp [rangeD]
  refine ⟨by omega, fun i H' B' k s hf hi => ⟨by show i < n; omega, fun x H'' y => ?_⟩, fun i H' k hi => by show n ≤ i; omega⟩
  obtain ⟨rfl, rfl⟩ := y
  refine ⟨Ext.refl _ _, .int (lo + i), ?_, den_int _⟩
  rw [e] at hi
  simp [rangeD, hi]
def iRange1 (u : DA) : DA := fun ex env Q => u ex env fun ds => ∃ j : Int, ds = [.int j] ∧ j ≤ 16777216 ∧ -(2 ^ 62) ≤ j ∧ Q (rangeD 0 j.toNat)
theorem di_range1 {a : Expr} {c : Nat} {u : DA} {p pos : Pos} (hm : X.mg "range" = none) (ha : DEs G E X c [a] u) (hg : Gl X "range" := by rfl) (hs : starEach [a] X.env = [(false, eval a X.env)] := by rfl) : DI G E X tg c (.Call (.Name "range" p) [a] [] pos) (iRange1 u) :=
  impI (pi_range1 hg hm ha hs) fun σ H R h => by
    obtain ⟨W, hn, Q, ht, k⟩ := h
    refine ⟨W, hn, _, ht, fun vs H1 ds st hd ⟨j, e, h1, h2, hq⟩ => ?_⟩
    subst e
    obtain ⟨x, rfl, hx⟩ := denL1 hd
    cases hx
    have hs := sizeLine_eq
    exact ⟨j, rfl, h2, by omega, k _ H1 _ st (walks_rng (by omega)) hq⟩
/-- zip of two lists, of two tuples -/
def zipD : List D → List D → List D
  | a :: as, b :: bs => .tup [a, b] :: zipD as bs
  | _, _ => []
theorem zipD_len : ∀ as bs : List D, (zipD as bs).length = min as.length bs.length
  | [], _ => by simp [zipD]
  | _ :: _, [] => by simp [zipD]
  | a :: as, b :: bs => by simp only [zipD, List.length_cons, zipD_len as bs]; omega
theorem zipD_get : ∀ (as bs : List D) (i : Nat) (a b : D), as[i]? = some a → bs[i]? = some b → (zipD as bs)[i]? = some (.tup [a, b])
  | [], _, _, _, _, h, _ =>
    by simp at h
  | _ :: _, [], _, _, _, _, h =>
    by simp at h
  | a :: as, b :: bs, 0, _, _, h1, h2 => by simp at h1 h2; subst h1; subst h2; rfl
  | a :: as, b :: bs, i + 1, x, y, h1, h2 => zipD_get as bs i x y (by simpa using h1) (by simpa using h2)
theorem two_size : ([] : List V).length + 2 ≤ sizeLine := by rw [sizeLine_eq]; decide
theorem den_pair {B : Addr → Prop} {H : Hp} {T : Addr} {a b : D} {x y : V} (hT : H T = none) (nb : ¬ B T) (hx : Den G B H a x) (hy : Den G B H b y) : Den G B (upd H T (.tup [x, y])) (.tup [a, b]) (.ref T) :=
  den_tup hT nb two_size ⟨x, [y], rfl, hx, y, [], rfl, hy, rfl⟩
def zipG (ds : List D) (Q : List D → Prop) : Prop := match ds with
  | [.lst as, .lst bs] => Q (zipD as bs)
  | [.tup as, .tup bs] => Q (zipD as bs)
  | _ => False
theorem zip_cases {ds : List D} {Q : List D → Prop} (h : zipG ds Q) : (∃ as bs, ds = [.lst as, .lst bs] ∧ Q (zipD as bs)) ∨ ∃ as bs, ds = [.tup as, .tup bs] ∧ Q (zipD as bs) := by
  unfold zipG at h
  split at h
  · exact .inl ⟨_, _, rfl, h⟩
  · exact .inr ⟨_, _, rfl, h⟩
  · exact h.elim
theorem walks_zipL {B : Addr → Prop} {H1 : Hp} {a b : Addr} {xs ys : List V} {as bs : List D} (na : ¬ B a) (nb : ¬ B b) (ha : H1 a = some (.lst xs)) (hb : H1 b = some (.lst ys)) (la : xs.length ≤ sizeLine) (da : DenL G B H1 as xs) (db : DenL G B H1 bs ys) :
    Walks G B H1 (Itz G.K a b) (zipD as bs) := by
  have e1 := da.length
  have e2 := db.length
  have e3 := zipD_len as bs
  refine ⟨by omega, fun i H' B' k s hf hi => ?_, fun i H' k hi => ⟨xs, ys, SqL.of (k _ _ na ha), SqL.of (k _ _ nb hb), by omega⟩⟩
  have ha' := k _ _ na ha
  have hb' := k _ _ nb hb
  refine ⟨⟨xs, ys, xs[i], ys[i], SqL.of ha', SqL.of hb', List.getElem?_eq_getElem (by omega), List.getElem?_eq_getElem (by omega)⟩, fun x H'' yl => ?_⟩
  obtain ⟨T, x1, y1, rfl, hT, rfl, f1, f2⟩ := yl
  obtain ⟨d, g1, g2⟩ := da.getV (f1 xs (SqL.of ha'))
  obtain ⟨d2, g3, g4⟩ := db.getV (f2 ys (SqL.of hb'))
  exact ⟨Ext.new hT, _, zipD_get as bs i d d2 g1 g3, den_pair hT (hf T hT) (Den.keep k s d x1 g2) (Den.keep k s d2 y1 g4)⟩
theorem walks_zipT {B : Addr → Prop} {H1 : Hp} {a b : Addr} {xs ys : List V} {as bs : List D} (na : ¬ B a ∨ KTup G.K a xs) (nb : ¬ B b ∨ KTup G.K b ys) (ha : SqT G.K H1 a xs) (hb : SqT G.K H1 b ys) (la : xs.length ≤ sizeLine) (da : DenL G B H1 as xs) (db : DenL G B H1 bs ys) :
    Walks G B H1 (ItzT G.K a b) (zipD as bs) := by
  have e1 := da.length
  have e2 := db.length
  have e3 := zipD_len as bs
  refine ⟨by omega, fun i H' B' k s hf hi => ?_, fun i H' k hi => ⟨xs, ys, keep_sqT k na ha, keep_sqT k nb hb, by omega⟩⟩
  have ha' := keep_sqT k na ha
  have hb' := keep_sqT k nb hb
  refine ⟨⟨xs, ys, xs[i], ys[i], ha', hb', List.getElem?_eq_getElem (by omega), List.getElem?_eq_getElem (by omega)⟩, fun x H'' yl => ?_⟩
  obtain ⟨T, x1, y1, rfl, hT, rfl, f1, f2⟩ := yl
  obtain ⟨d, g1, g2⟩ := da.getV (f1 xs ha')
  obtain ⟨d2, g3, g4⟩ := db.getV (f2 ys hb')
  exact ⟨Ext.new hT, _, zipD_get as bs i d d2 g1 g3, den_pair hT (hf T hT) (Den.keep k s d x1 g2) (Den.keep k s d2 y1 g4)⟩
def iZip (u : DA) : DA := fun ex env Q => u ex env fun ds => zipG ds Q
theorem di_zip {e e2 : Expr} {c : Nat} {u : DA} {p pos tpos : Pos} {elts : List Expr} {kk : Nat} (hK : X.K = G.K) (hm : X.mg "zip" = none) (ha : DEs G E X c [e, e2] u) (hg : Gl X "zip" := by rfl)
    (hs : starEach [e, e2] X.env = (false, eval e X.env) :: starEach [e2] X.env := by rfl) (hpl : (backTo pos (starEach [e2] X.env)).any (·.1) = false := by rfl) : DI G E X (.Tuple elts kk tpos) c (.Call (.Name "zip" p) [e, e2] [] pos) (iZip u) :=
  impI (pi_zipA hg hm ha hs hpl) fun σ H R h => by
    obtain ⟨W, hn, Q, ht, k⟩ := h
    refine ⟨W, hn, _, ht, fun vs H1 ds st hd hq => ?_⟩
    rcases zip_cases hq with ⟨as, bs, rfl, hq⟩ | ⟨as, bs, rfl, hq⟩
    ·
      obtain ⟨x, y, rfl, hx, hy⟩ := denL2 hd
      obtain ⟨a, xs, rfl, na, ha, la, da⟩ := hx
      obtain ⟨b, ys, rfl, nb, hb, lb, db⟩ := hy
      exact ⟨a, b, xs, ys, rfl, .inl ⟨SqL.of ha, SqL.of hb, by rw [hK]; exact k _ H1 _ st (walks_zipL na nb ha hb la da db) hq⟩⟩
    ·
      obtain ⟨x, y, rfl, hx, hy⟩ := denL2 hd
      obtain ⟨a, xs, rfl, na, ha, la, da⟩ := hx
      obtain ⟨b, ys, rfl, nb, hb, lb, db⟩ := hy
      exact ⟨a, b, xs, ys, rfl, .inr ⟨by rw [hK]; exact ha, by rw [hK]; exact hb, by rw [hK]; exact k _ H1 _ st (walks_zipT na nb ha hb la da db) hq⟩⟩
end
end Kn
set_option Elab.async false
set_option linter.all false
set_option maxRecDepth 100000
set_option maxHeartbeats 2100000
namespace Kn
open PySem L2 RZ
open PyProof.Rows (envOfC)
section
variable {G : Gd} {E : XK} {X : Cx} {σ : List (Option V)} {H H' : Hp} {tg : Expr}
abbrev DG := D → List Sl → (List Sl → Prop) → Prop
/-- nothing but slots changes; the state's other parts stay -/
structure Alike {σ σ' : List (Option V)} {H H' : Hp} (W : Wd G E σ H) (W' : Wd G E σ' H') : Prop where
  later : Later W 0 W'
  n : W'.n = W.n
def liftG (G : Gd) (E : XK) (sl : List Nat) (t : DG) : TG := fun v σ H Q' => ∃ (W : Wd G E σ H) (d : D) (Q : List Sl → Prop), Den G W.XB H d v ∧ t d W.env Q ∧ ∀ σ' (W' : Wd G E σ' H), Alike W W' → (∀ i, i ∉ sl → σ'[i]? = σ[i]?) ∧ σ'.length = σ.length → Q W'.env → Q' σ' H
abbrev DTg (G : Gd) (E : XK) (X : Cx) (tg : Expr) (sl : List Nat) (t : DG) : Prop := PG X tg (liftG G E sl t)
theorem impG {t t' : TG} (h : PG X tg t) (i : ∀ v σ H Q, t' v σ H Q → t v σ H Q) : PG X tg t' := ⟨fun pins s σ H v u Q I r q => h.run pins s σ H v u Q I r (i v σ H Q q)⟩
def tgName (i : Nat) : DG := fun d env Q => Q (env.set i (.val d))
theorem dg_name {i : Nat} {x : Str} {pos : Pos} (hN : X.N.Nodup) (hi : X.N[i]? = some x) (hx : Loc X.env.scope x) (hf : X.fn x = true ∨ X.env.scope.names.lookup x = some .local := by first | exact .inl rfl | exact .inr rfl | assumption) : DTg G E X (.Name x pos) [i] (tgName i) :=
  impG (pg_name hN hi hx hf) fun v σ H Q' h => by
    obtain ⟨W, d, Q, hd, ht, k⟩ := h
    exact k _ (W.put i hd) ⟨Later.put W i hd, rfl⟩ ⟨(fun j hj => List.getElem?_set_ne (fun z => hj (by rw [z]; exact List.mem_singleton_self _))), List.length_set⟩ ht
/-- a, b (names) of a pair -/
def tgTwo (i j : Nat) : DG := fun d env Q => match d with
  | .tup [a, b] => Q ((env.set i (.val a)).set j (.val b))
  | _ => False
theorem two_cases {i j : Nat} {d : D} {env : List Sl} {Q : List Sl → Prop} (h : tgTwo i j d env Q) : ∃ a b, d = .tup [a, b] ∧ Q ((env.set i (.val a)).set j (.val b)) := by
  unfold tgTwo at h
  split at h
  · exact ⟨_, _, rfl, h⟩
  · exact h.elim
theorem dg_two {i j : Nat} {x y : Str} {pos p1 p2 : Pos} {k : Nat} (hK : X.K = G.K) (hc : X.calm = true) (hN : X.N.Nodup) (hi : X.N[i]? = some x) (hx : Loc X.env.scope x) (hj : X.N[j]? = some y) (hy : Loc X.env.scope y)
    (h1 : PG X (.Name x p1) (gName i)) (h2 : PG X (.Name y p2) (gName j)) : DTg G E X (.Tuple [.Name x p1, .Name y p2] k pos) [i, j] (tgTwo i j) :=
  impG (pg_tup (n := 2) hc (pgs_cons h1 (pgs_cons h2 pgs_nil))) fun v σ H Q' h => by
    obtain ⟨W, d, Q, hd, ht, kk⟩ := h
    obtain ⟨a, b, rfl, ht⟩ := two_cases ht
    obtain ⟨p, xs, rfl, np, hp, lp, dl⟩ := hd
    obtain ⟨u, w, rfl, hu, hw⟩ := denL2 dl
    refine ⟨p, [u, w], rfl, by rw [hK]; exact hp, rfl, u, [w], rfl, w, [], rfl, rfl, ?_⟩
    have hu' : Den G W.XB H a u := hu
    have hw' : Den G (W.put i hu').XB H b w := hw.fewer fun b hb => xb_val W.len hb
    exact kk _ ((W.put i hu').put j hw') ⟨((Later.put W i hu').trans (Later.put _ j hw')).more (by omega), rfl⟩ ⟨(fun l hl => by
      rw [List.getElem?_set_ne (fun z => hl (by rw [← z]; simp)), List.getElem?_set_ne (fun z => hl (by rw [← z]; simp))]), by rw [List.length_set, List.length_set]⟩ ht
def sForL (ex : Exc → Prop) (tg : DG) (tb : DS) (de : DEnds) : List D → List Sl → Prop
  | [], env => de.nx env
  | d :: ds, env => tg d env fun env2 => tb ex { de with nx := sForL ex tg tb de ds, ct := sForL ex tg tb de ds, bk := de.nx } env2
def sFor (ti : DA) (tg : DG) (tb : DS) : DS := fun ex de env => ti ex env fun ds => sForL ex tg tb de ds env
theorem drop_cons {α : Type} {l : List α} {i : Nat} {d : α} (h : l[i]? = some d) : l.drop i = d :: l.drop (i + 1) := by
  obtain ⟨hi, e⟩ := List.getElem?_eq_some_iff.mp h; rw [List.drop_eq_getElem_cons hi, e]
theorem ds_for {it : Expr} {body : List Stmt} {ci cb : Nat} {ti : DA} {t : DG} {tb : DS} {pos : Pos} (xk : Xk G E k X) (hp : PassesOwn (model X.prog X.w) X.A X.env X.xe) (hi : DI G E X tg ci it ti) {sl : List Nat} (hg : DTg G E X tg sl t) (hb : DSs G E X cb body tb)
    (hs : ∀ x, foldedSetIterable it X.env x = pure x := by intro _; rfl) : DSt G E X (ci + 16777216 * cb) (.For tg it body [] pos) (sFor ti t tb) :=
  impS (ps_for hp xk.calm hi hg hb hs) fun Dn σ H h => by
    obtain ⟨W, hn, de, ht, k1, k2, k3, k4⟩ := h
    refine ⟨W, by omega, _, ht, fun J H1 ds st wk hq => ?_⟩
    have hlen : ds.length ≤ 16777216 := by have := wk.len; rw [sizeLine_eq] at this; exact this
    let W1 := W.next st
    refine ⟨fun i m σ' H' => ∃ W' : Wd G E σ' H', Later W1 (i * cb) W' ∧ i ≤ ds.length ∧ m = ds.length - i ∧ sForL W.ex t tb de (ds.drop i) W'.env, ⟨ds.length, W1, (Later.refl W1).more (by omega), Nat.zero_le _, rfl, hq⟩, ?_⟩
    rintro i m σ' H' ⟨W', lt, hi', rfl, hq'⟩
    have lt0 : Later W (ci + i * cb) W' := (Later.next st).trans lt
    by_cases hlt : i < ds.length
    · obtain ⟨go, yl⟩ := wk.go i H' W'.XB lt.keep lt.xb (fun p hp => W'.fresh hp) hlt
      have hmul : (i + 1) * cb ≤ 16777216 * cb := Nat.mul_le_mul_right cb (by omega)
      have hmul2 : (i + 1) * cb = i * cb + cb := by rw [Nat.add_mul, Nat.one_mul]
      refine .inr ⟨go, fun σ2 H2 => ∃ W2 : Wd G E σ2 H2, Later W1 ((i + 1) * cb) W2 ∧ sForL W.ex t tb de (ds.drop (i + 1)) W2.env, fun σ2 H2 ⟨W2, l2, q2⟩ => ⟨ds.length - (i + 1), by omega, W2, l2, hlt, rfl, q2⟩, fun x H2 hy => ?_⟩
      obtain ⟨ex2, d, hd, hden⟩ := yl x H2 hy
      rw [drop_cons hd] at hq'
      have st2 : Step W' 0 H2 := (Step.refl W').pure ex2
      let W2 := W'.next st2
      refine ⟨W2, d, _, hden, hq', fun σ3 W3 al _ hq3 => ?_⟩
      have l3 : Later W1 (i * cb) W3 := ((lt.trans (Later.next st2)).trans al.later).more (by omega)
      have l03 : Later W (ci + i * cb) W3 := (Later.next st).trans l3
      refine ⟨W3, ?_, { de with nx := sForL W.ex t tb de (ds.drop (i + 1)), ct := sForL W.ex t tb de (ds.drop (i + 1)), bk := de.nx }, ?_, fun σ4 H4 W4 l4 q4 => ?_, fun v σ4 H4 W4 d4 l4 hd4 hr4 => ?_, fun σ4 H4 W4 l4 q4 => ?_, fun σ4 H4 W4 l4 q4 => ?_⟩
      · have := l03.n
        rw [l03.m]
        omega
      · rw [l03.ex]; exact hq3
      · exact ⟨W4, (l3.trans l4).more (by omega), q4⟩
      · refine k2 v σ4 H4 W4 d4 ((l03.trans l4).more (by omega)) (by rw [l03.B] at hd4; exact hd4) hr4
      · exact k1 σ4 H4 W4 ((l03.trans l4).more (by omega)) q4
      · exact ⟨W4, (l3.trans l4).more (by omega), q4⟩
    · have e : i = ds.length := by omega
      have hmul : i * cb ≤ 16777216 * cb := Nat.mul_le_mul_right cb (by omega)
      refine .inl ⟨wk.stop i H' lt.keep (by omega), ?_⟩
      rw [e, List.drop_length] at hq'
      exact k1 σ' H' W' (lt0.more (by omega)) hq'
end
end Kn
set_option Elab.async false
set_option linter.all false
set_option maxRecDepth 100000
set_option maxHeartbeats 2100000
namespace Kn
open PySem L2 RZ
open PyProof.Rows (envOfC)
section
variable {G : Gd} {E : XK} {X : Cx} {σ : List (Option V)} {H H' : Hp} {tg : Expr}
theorem wipe_get : ∀ (vs : List Nat) (i : Nat), (wipe σ vs)[i]? = if i ∈ vs ∧ i < σ.length then some none else σ[i]?
  | [], i => by simp [wipe]
  | v :: vs, i => by
    unfold wipe
    by_cases h : v = i
    · subst h
      by_cases hl : v < σ.length
      · rw [List.getElem?_set_self (by rw [wipe_length]; exact hl), if_pos ⟨List.mem_cons_self, hl⟩]
      · rw [List.getElem?_eq_none (by rw [List.length_set, wipe_length]; omega), if_neg (fun z => hl z.2), List.getElem?_eq_none (by omega)]
    · rw [List.getElem?_set_ne h, wipe_get vs i]
      have e : (i ∈ v :: vs) ↔ i ∈ vs := by simp [Ne.symm h]
      simp only [e]
theorem wipe_same {σ' : List (Option V)} {vs sl : List Nat} (hs : ∀ i ∈ sl, i ∈ vs) (h : ∀ i, i ∉ sl → σ'[i]? = (wipe σ vs)[i]?) (hl : σ'.length = σ.length) : wipe σ' vs = wipe σ vs := by
  apply List.ext_getElem?
  intro i
  rw [wipe_get, wipe_get]
  by_cases hi : i ∈ vs
  · by_cases h2 : i < σ.length
    · rw [if_pos ⟨hi, by omega⟩, if_pos ⟨hi, h2⟩]
    · rw [if_neg (fun z => h2 (by omega)), if_neg (fun z => h2 z.2), List.getElem?_eq_none (by omega), List.getElem?_eq_none (by omega)]
  · rw [if_neg (fun z => hi z.1), if_neg (fun z => hi z.1), h i (fun z => hi (hs i z)), wipe_get, if_neg (fun z => hi z.1)]
def noOwn : Sl → Sl
  | .own _ _ => .emp
  | .slf _ _ _ _ => .emp
  | .obj _ _ => .emp
  | .dic _ _ _ => .emp
  | s => s
def wipeE (env : List Sl) : List Nat → List Sl
  | [] => env
  | v :: vs => (wipeE env vs).set v .emp
def inEnv (env : List Sl) (vs : List Nat) : List Sl := wipeE (env.map noOwn) vs
theorem wipeE_len (env : List Sl) : ∀ vs, (wipeE env vs).length = env.length
  | [] => rfl
  | v :: vs => by unfold wipeE; rw [List.length_set, wipeE_len env vs]
theorem inEnv_get {env : List Sl} {i : Nat} {s : Sl} : ∀ {vs : List Nat}, (wipeE (env.map noOwn) vs)[i]? = some s → s = .emp ∨ (i ∉ vs ∧ ∃ s', env[i]? = some s' ∧ s = noOwn s')
  | [], h => by
    unfold wipeE at h
    rw [List.getElem?_map] at h
    cases e : env[i]? with
    | none =>
      rw [e] at h; cases h
    | some s' => rw [e] at h; exact .inr ⟨by simp, s', rfl, (Option.some.inj h).symm⟩
  | v :: vs, h => by
    unfold wipeE at h
    by_cases hv : v = i
    · subst hv
      by_cases hl : v < (wipeE (env.map noOwn) vs).length
      · rw [List.getElem?_set_self hl] at h; exact .inl (Option.some.inj h).symm
      · rw [List.getElem?_eq_none (by rw [List.length_set]; omega)] at h; cases h
    · rw [List.getElem?_set_ne hv] at h
      rcases inEnv_get h with z | ⟨z, y⟩
      · exact .inl z
      · exact .inr ⟨by simp only [List.mem_cons, not_or]; exact ⟨fun q => hv q.symm, z⟩, y⟩
theorem inEnv_noown {env : List Sl} {vs : List Nat} {i : Nat} {s : Sl} (h : (inEnv env vs)[i]? = some s) (hm : s.mine = true) : False := by
  rcases inEnv_get h with z | ⟨_, s', _, z⟩
  · subst z; cases hm
  · subst z; cases s' <;> cases hm
theorem xb_in {B : Addr → Prop} {env : List Sl} {vs : List Nat} {τ : List (Option V)} {a : Addr} (h : XBof B (inEnv env vs) τ a) : B a := by
  rcases h with h | ⟨i, s, h1, hm, _⟩
  · exact h
  · exact (inEnv_noown h1 hm).elim
/-- the state in which one item of a comprehension's new list at D is made -/
def Wd.inner (W : Wd G E σ H) {c : Nat} {H1 : Hp} (st : Step W c H1) (vs : List Nat) (Dn : Addr) (H2 : Hp) (n2 : Nat) (hD : H1 Dn = none) (hD2 : H2 Dn ≠ none) (k : ∀ b o, H1 b = some o → NU W.u b → H2 b = some o) (hg : Good W.u H2 n2) :
    Wd G E0 (wipe σ vs) H2 where
  u := W.u
  n := n2
  m := W.m
  B := fun a => W.XB a ∨ a = Dn
  H0 := H2
  env := inEnv W.env vs
  ex := fun _ => False
  ug := W.ug
  hu := fun p e => ⟨.inl (.inl (W.hu p e).1), .inl (.inl (W.hu p e).2)⟩
  hB := fun a ha z => by
    rcases ha with ha | rfl
    · cases q : H1 a with
      | none => exact (W.next st).fresh q ha
      | some o =>
        rcases NU.em (u := W.u) (b := a) with hu | ⟨r, hr, rfl⟩
        · rw [k a o q hu] at z; cases z
        · obtain ⟨⟨_, h1⟩, _⟩ := hg.there hr
          rw [h1] at z; cases z
    · exact hD2 z
  fr := Ext.refl _ _
  good := hg
  len := by unfold inEnv; rw [wipeE_len, List.length_map, wipe_length]; exact W.len
  sl := fun i s e => by
    rcases inEnv_get e with z | ⟨hi, s', h1, z⟩
    · subst z; trivial
    · subst z
      have so := (W.next st).sl i s' h1
      have ew : (wipe σ vs)[i]? = σ[i]? := by rw [wipe_get, if_neg (fun z => hi z.1)]
      rw [ew]
      cases s' with
      | emp => trivial
      | own a ds => trivial
      | slf a dx c ds => trivial
      | obj a o => trivial
      | dic a ks ds => trivial
      | val d =>
        obtain ⟨x, e1, e2⟩ := so
        refine ⟨x, e1, ?_⟩
        have e2' : Den G W.XB H1 d x := e2
        refine Den.keep (fun b o nb hb => k b o hb (W.nuX nb)) (fun b hb => ?_) d x e2'
        · rcases xb_in hb with q | rfl
          · exact .inl q
          · exact .inr hD
  nd := fun i j a s t h1 _ hm => (inEnv_noown h1 hm).elim
  exc := fun _ _ _ _ _ _ _ z => z.elim
end
end Kn
set_option Elab.async false
set_option linter.all false
set_option maxRecDepth 100000
set_option maxHeartbeats 2100000
namespace Kn
open PySem L2 RZ
open PyProof.Rows (envOfC)
section
variable {G : Gd} {E : XK} {X : Cx} {σ : List (Option V)} {H H' : Hp} {tg : Expr}
def noX : Exc → Prop := fun _ => False
def compL (tg : DG) (tt : DB) (te : DT) (Q : List D → Prop) (env : List Sl) : List D → List D → Prop
  | [], acc => Q acc
  | d :: ds, acc => tg d env fun env2 => tt noX env2 fun b => if b = true then te noX env2 fun y => compL tg tt te Q env ds (acc ++ [y]) else compL tg tt te Q env ds acc
def dComp (vs : List Nat) (ti : DA) (tg : DG) (tt : DB) (te : DT) : DT := fun ex env Q => ti ex env fun ds => compL tg tt te (fun rs => Q (.lst rs)) (inEnv env vs) ds []
def bYes : DB := fun _ _ Q => Q true
abbrev DTs (G : Gd) (X : Cx) (c : Nat) (ifs : List Expr) (t : DB) : Prop := PTs X ifs (liftB G E0 c t)
theorem dts_nil : DTs G X 0 [] bYes := ⟨fun pins s σ H Q I h => pts_nil.run pins s σ H Q I (by
  obtain ⟨W, hn, Q1, ht, k⟩ := h
  exact k true H (Step.refl W) ht)⟩
theorem dts_one {c : Expr} {n : Nat} {t : DB} (h : DPt G E0 X n c t) : DTs G X n [c] t := pts_one h
/-- what stands at D between two turns -/
structure AccAt (G : Gd) {E : XK} {σ : List (Option V)} {H : Hp} (W : Wd G E σ H) (H1 : Hp) (D0 : Addr) (b : Nat) (H2 : Hp) (acc : List D) : Prop where
  at_ : ∃ xs, H2 D0 = some (.lst xs) ∧ xs.length ≤ sizeLine ∧ DenL G (fun a => W.XB a ∨ a = D0) H2 acc xs
  keep : ∀ b o, H1 b = some o → NU W.u b → H2 b = some o
  good : Good W.u H2 b
theorem Good.upd {u : Option Ur} {H : Hp} {n : Nat} {p : Addr} {o : HO} (h : Good u H n) (hp : ∀ r, Pr u r → p ≠ r.1 ∧ p ≠ r.2) (hc : ∀ q, H p ≠ some (LamX.CodeO p q)) : Good u (L2.upd H p o) n := by
  cases u with
  | none => trivial
  | some r =>
    obtain ⟨⟨a, b⟩, T⟩ := r
    obtain ⟨⟨cells, k, r, h1, h2, h3⟩, t⟩ := h
    obtain ⟨n1, n2⟩ := hp (a, b) ⟨_, rfl, .inl rfl⟩
    refine ⟨⟨cells, k, r, by rw [upd_ne (Ne.symm n1)]; exact h1, by rw [upd_ne (Ne.symm n2)]; exact h2, h3⟩, fun x hx => ?_⟩
    obtain ⟨ps, e1, e2, e3⟩ := t x hx
    have n3 := (hp (x.1, x.1) ⟨_, rfl, .inr ⟨x, hx, rfl⟩⟩).1
    refine ⟨ps, by rw [upd_ne (Ne.symm n3)]; exact e1, e2, fun pos cv hcv => ?_⟩
    obtain ⟨c, e4, e5⟩ := e3 pos cv hcv
    refine ⟨c, e4, ?_⟩
    rw [upd_ne (fun z => hc x.2 (by rw [← z]; exact e5))]
    exact e5
theorem lift_comp {ci ce ct : Nat} {ti : DA} {t : DG} {tt : DB} {te : DT} {vs sl : List Nat} (hsl : ∀ i ∈ sl, i ∈ vs) {Q' : VK} (h : lift G E (ci + 16777216 * (ct + ce)) (dComp vs ti t tt te) σ H Q') :
    tLc (liftI G E ci ti) (liftG G E0 sl t) (liftB G E0 ct tt) (lift G E0 ce te) vs σ H Q' := by
  obtain ⟨W, hn, Q, ht, k⟩ := h
  refine ⟨W, by omega, _, ht, fun J H1 ds st wk hq => ?_⟩
  intro D0 hD
  have hlen : ds.length ≤ 16777216 := by have := wk.len; rw [sizeLine_eq] at this; exact this
  have fr0 : ¬ W.XB D0 := (W.next st).fresh hD
  refine ⟨fun i m H2 => ∃ acc, AccAt G W H1 D0 (W.n - ci - i * (ct + ce)) H2 acc ∧ acc.length ≤ i ∧ i ≤ ds.length ∧ m = ds.length - i ∧ compL t tt te (fun rs => Q (.lst rs)) (inEnv W.env vs) (ds.drop i) acc, ⟨ds.length, [], ⟨⟨[], upd_same, by simp, rfl⟩, fun b o hb _ => by rw [upd_ne (ne_of_none hb hD)]; exact hb, ?_⟩, Nat.le_refl _, Nat.zero_le _, rfl, hq⟩, ?_⟩
  · have g := st.good
    rw [Nat.zero_mul, Nat.sub_zero]
    exact g.ext (Ext.new hD)
  rintro i m H2 ⟨acc, A, hacc, hi, rfl, hq2⟩
  obtain ⟨xs, hxs, hxl, hxd⟩ := A.at_
  have keepX : ∀ b o, ¬ W.XB b → H1 b = some o → H2 b = some o := fun b o nb hb => A.keep b o hb (W.nuX nb)
  by_cases hlt : i < ds.length
  · have hmul : (i + 1) * (ct + ce) ≤ 16777216 * (ct + ce) := Nat.mul_le_mul_right _ (by omega)
    have hmul2 : (i + 1) * (ct + ce) = i * (ct + ce) + (ct + ce) := by rw [Nat.add_mul, Nat.one_mul]
    obtain ⟨go, yl⟩ := wk.go i H2 (fun a => W.XB a ∨ a = D0) keepX (fun b hb => by
      rcases hb with hb | rfl
      · exact .inl hb
      · exact .inr hD) (fun p hp hb => by
      rcases hb with hb | rfl
      · cases q : H1 p with
        | none => exact (W.next st).fresh q hb
        | some o =>
          rcases NU.em (u := W.u) (b := p) with hu | ⟨r, hr, rfl⟩
          · rw [A.keep p o q hu] at hp; cases hp
          · obtain ⟨⟨_, h1⟩, _⟩ := A.good.there hr
            rw [h1] at hp; cases hp
      · rw [hxs] at hp; cases hp) hlt
    refine .inr ⟨go, fun H5 => ∃ acc2, AccAt G W H1 D0 (W.n - ci - (i + 1) * (ct + ce)) H5 acc2 ∧ acc2.length ≤ i + 1 ∧ compL t tt te (fun rs => Q (.lst rs)) (inEnv W.env vs) (ds.drop (i + 1)) acc2,
      fun H5 ⟨acc2, a2, l2, q2⟩ => ⟨ds.length - (i + 1), by omega, acc2, a2, l2, hlt, rfl, q2⟩, fun x H3 hy => ?_⟩
    obtain ⟨ex2, d, hd, hden⟩ := yl x H3 hy
    rw [drop_cons hd] at hq2
    have hD3 : H3 D0 = some (.lst xs) := ex2 _ _ hxs NU.none
    let W3 : Wd G E0 (wipe σ vs) H3 := W.inner st vs D0 H3 (W.n - ci - i * (ct + ce)) hD (by rw [hD3]; simp) (fun b o hb nu => ex2 _ _ (A.keep b o hb nu) NU.none) (A.good.ext ex2)
    have hden3 : Den G W3.XB H3 d x := hden.fewer fun b hb => xb_in hb
    refine ⟨W3, d, _, hden3, hq2, fun σ4 W4 al hsl4 hq4 => ⟨wipe_same hsl hsl4.1 (by rw [hsl4.2, wipe_length]), ?_⟩⟩
    have l4 := al.later
    have n4 : W4.n = W.n - ci - i * (ct + ce) := al.n
    have m4 : W4.m = W.m := l4.m
    have u4 : W4.u = W.u := l4.u
    have b4 : ∀ a, (W.XB a ∨ a = D0) → W4.XB a := fun a ha => .inl (by rw [l4.B]; exact ha)
    have nu0 : NU W.u D0 := W.nuX fr0
    have k3 : ∀ b o, H1 b = some o → NU W.u b → H3 b = some o := fun b o hb nu => ex2 _ _ (A.keep b o hb nu) NU.none
    refine ⟨W4, by rw [n4, m4]; omega, _, by rw [l4.ex]; exact hq4, fun b H5 st5 hb => ?_⟩
    have e5 : Ext W.u H3 H5 := by have z := st5.ext; rw [u4] at z; exact z
    have g5 : Good W.u H5 (W.n - ci - i * (ct + ce) - ct) := by have z := st5.good; rw [u4, n4] at z; exact z
    cases b with
    | false =>
      refine ⟨acc, ⟨⟨xs, e5 _ _ hD3 nu0, hxl, ?_⟩, fun b o hb nu => e5 _ _ (k3 b o hb nu) nu, g5.less (by omega)⟩, by omega, hb⟩
      refine (hxd.ext (u := none) ex2 (fun _ z => z.none.elim)).ext e5 (fun p e => .inl (W.huX p e))
    | true =>
      refine ⟨W4.next st5, by show W4.m + ce ≤ W4.n - ct; rw [n4, m4]; omega, _, by rw [show (W4.next st5).ex = noX from l4.ex]; exact hb, fun y H6 e6 st6 hy6 hq6 => ?_⟩
      have x6 : Ext W.u H5 H6 := by have z := st6.ext; rw [show (W4.next st5).u = W.u from u4] at z; exact z
      have g6 : Good W.u H6 (W.n - ci - i * (ct + ce) - ct - ce) := by have z := st6.good; rw [show (W4.next st5).u = W.u from u4, show (W4.next st5).n = W4.n - ct from rfl, n4] at z; exact z
      have hD6 : H6 D0 = some (.lst xs) := x6 _ _ (e5 _ _ hD3 nu0) nu0
      have hxl2 : xs.length < sizeLine := by have := hxd.length; rw [sizeLine_eq]; omega
      have dacc : DenL G (fun a => W.XB a ∨ a = D0) H6 acc xs := ((hxd.ext (u := none) ex2 (fun _ z => z.none.elim)).ext e5 (fun p e => .inl (W.huX p e))).ext x6 (fun p e => .inl (W.huX p e))
      have dy : Den G (fun a => W.XB a ∨ a = D0) H6 e6 y := hy6.fewer b4
      have kk : ∀ b o, ¬ (W.XB b ∨ b = D0) → H6 b = some o → upd H6 D0 (.lst (xs ++ [y])) b = some o := fun b o nb hb => by rw [upd_ne (fun z => nb (.inr z))]; exact hb
      refine ⟨xs, hD6, hxl2, acc ++ [e6], ⟨⟨xs ++ [y], upd_same, by rw [List.length_append]; exact hxl2, ?_⟩, fun b o hb nu => ?_, ?_⟩, by rw [List.length_append]; simp; omega, hq6⟩
      · exact (DenL.keep kk (fun b hb => .inl hb) _ _ dacc).append ⟨y, [], rfl, Den.keep kk (fun b hb => .inl hb) _ _ dy, rfl⟩
      · rw [upd_ne (ne_of_none hb hD)]
        exact x6 _ _ (e5 _ _ (k3 b o hb nu) nu) nu
      · refine (g6.upd (fun p e => ⟨fun z => fr0 (by rw [show D0 = p.1 from z]; exact W.huX p e), fun z => fr0 (by rw [show D0 = p.2 from z]; exact .inl (W.hu p e).2)⟩) (fun φ z => by rw [hD6] at z; cases z)).less (by omega)
  · have e : i = ds.length := by omega
    have hmul : i * (ct + ce) ≤ 16777216 * (ct + ce) := Nat.mul_le_mul_right _ (by omega)
    rw [e, List.drop_length] at hq2
    refine .inl ⟨wk.stop i H2 keepX (by omega), k _ H2 (.lst acc) ⟨fun b o hb nu => A.keep b o (st.ext b o hb nu) nu, A.good.less (by omega)⟩ ⟨D0, xs, rfl, fr0, hxs, hxl, hxd.fewer fun b z => .inl z⟩ hq2⟩
theorem de_comp {elt iter : Expr} {ifs : List Expr} {scope : Scope} {own : List (Str × Nat)} {pos : Pos} {ci ce ct : Nat} {ti : DA} {t : DG} {tt : DB} {te : DT} {sl : List Nat} {k : Nat} (xk : Xk G E k X) (hN : X.N.Nodup) (hi : DI G E X tg ci iter ti) (ok : BlkOk X.N X.env.scope scope own)
    (hg : ∀ (s : Shared) (H : Hp) (C : Addr) (cl : List (Str × Addr)) (fp : List Addr), DTg G E0 (X.blk s H scope (compEnvC scope cl C X.env) fp) tg sl t) (ht : ∀ (s : Shared) (H : Hp) (C : Addr) (cl : List (Str × Addr)) (fp : List Addr), DTs G (X.blk s H scope (compEnvC scope cl C X.env) fp) ct ifs tt)
    (he : ∀ (s : Shared) (H : Hp) (C : Addr) (cl : List (Str × Addr)) (fp : List Addr), DE G E0 (X.blk s H scope (compEnvC scope cl C X.env) fp) ce elt te) (hsl : ∀ i ∈ sl, i ∈ own.map (·.2)) (hs : ∀ x, foldedSetIterable iter X.env x = pure x := by intro _; rfl) :
    DE G E X (ci + 16777216 * (ct + ce)) (.ListComp elt [⟨tg, iter, ifs, 0⟩] scope pos) (dComp (own.map (·.2)) ti t tt te) :=
  imp (pe_lc xk.calm hN hi ok hg ht he hs) fun _ _ _ h => lift_comp hsl h
/-- x = [..] -/
theorem ds_setComp {i : Nat} {y : Str} {py : Pos} {elt iter : Expr} {ifs : List Expr} {scope : Scope} {own : List (Str × Nat)} {pos spos : Pos} {ci ce ct : Nat} {ti : DA} {t : DG} {tt : DB} {te : DT} {sl : List Nat} {k : Nat} (xk : Xk G E k X) (hN : X.N.Nodup) (hy : X.N[i]? = some y) (hyl : X.env.scope.names.lookup y = some .local)
    (hsw : swapsWith (.ListComp elt [⟨tg, iter, ifs, 0⟩] scope pos) (some (.Name y py)) spos.line X.env = pure true) (hi : DI G E X tg ci iter ti) (ok : BlkOk X.N X.env.scope scope own)
    (hg : ∀ (s : Shared) (H : Hp) (C : Addr) (cl : List (Str × Addr)) (fp : List Addr), DTg G E0 (X.blk s H scope (compEnvC scope cl C X.env) fp) tg sl t) (ht : ∀ (s : Shared) (H : Hp) (C : Addr) (cl : List (Str × Addr)) (fp : List Addr), DTs G (X.blk s H scope (compEnvC scope cl C X.env) fp) ct ifs tt)
    (he : ∀ (s : Shared) (H : Hp) (C : Addr) (cl : List (Str × Addr)) (fp : List Addr), DE G E0 (X.blk s H scope (compEnvC scope cl C X.env) fp) ce elt te) (hsl : ∀ i ∈ sl, i ∈ own.map (·.2)) (hs : ∀ x, foldedSetIterable iter X.env x = pure x := by intro _; rfl) :
    DSt G E X (ci + 16777216 * (ct + ce)) (.Assign [.Name y py] (.ListComp elt [⟨tg, iter, ifs, 0⟩] scope pos) spos) (sSet i (dComp (own.map (·.2)) ti t tt te)) :=
  impS (ps_setLc xk.calm hN hy hyl hsw hi ok hg ht he hs) fun Dn σ H h => by
    obtain ⟨W, hn, de, hq, k1, k2, k3, k4⟩ := h
    refine lift_comp (Q' := fun v H' => gName i v σ H' Dn.nx) hsl ⟨W, hn, _, hq, fun v H' d st hd hr => ?_⟩
    have hd' : Den G (W.next st).XB H' d v := hd
    exact k1 _ H' ((W.next st).put i hd') (((Later.next st).trans (Later.put _ i hd')).more (by omega)) hr
end
end Kn
set_option Elab.async false
set_option linter.all false
set_option maxRecDepth 100000
set_option maxHeartbeats 2100000
namespace Kn
open PySem L2 RZ
open PyProof.Rows (envOfC)
section
variable {G : Gd} {E : XK} {X : Cx} {σ : List (Option V)} {H H' : Hp} {k : Nat}
/-- the field f is that of some class's things alone -/
structure FldOk (G : Gd) (f : Str) : Prop where
  ok : ∀ c, f ∈ G.fl c → Cls G.K (G.cl c) ∧ NoAttr G.K (G.cl c) f
theorem zip_lookup {f : Str} {v : V} : ∀ {ns : List Str} {xs : List V}, xs[ns.idxOf f]? = some v → f ∈ ns → (ns.zip xs).lookup f = some v
  | [], _, _, h => by simp at h
  | n :: ns, [], h, _ => by simp at h
  | n :: ns, x :: xs, h, hf => by
    by_cases e : n = f
    · subst e
      rw [List.idxOf_cons_self] at h
      have : x = v := by simpa using h
      subst this
      simp [List.lookup]
    · have e3 : (n == f) = false := beq_eq_false_iff_ne.mpr e
      rw [List.idxOf_cons, e3] at h
      have hf' : f ∈ ns := by
        rcases List.mem_cons.mp hf with z | z
        · exact absurd z.symm e
        · exact z
      have ih := zip_lookup (ns := ns) (xs := xs) (by simpa using h) hf'
      have e2 : (f == n) = false := beq_eq_false_iff_ne.mpr (Ne.symm e)
      simp only [List.zip_cons_cons, List.lookup, e2]
      exact ih
/-- o.f -/
def dFld (G : Gd) (f : Str) (te : DT) : DT := fun ex env Q => te ex env fun d => ∃ c ds x, d = .ins c ds ∧ f ∈ G.fl c ∧ ds[(G.fl c).idxOf f]? = some x ∧ Q x
theorem de_fld {e : Expr} {f : Str} {pos : Pos} {c : Nat} {te : DT} (hK : X.K = G.K) (fo : FldOk G f) (he : DE G E X c e te) (hb : attributeBase e f X.env (eval e X.env) = eval e X.env := by rfl) : DE G E X c (.Attribute e f pos) (dFld G f te) :=
  imp (pe_fld he hb) fun σ H Q' h => by
    obtain ⟨W, hn, Q, ht, kk⟩ := h
    refine ⟨W, hn, _, ht, fun v H1 d st hd ⟨c, ds, x, e, hf, hx, hq⟩ => ?_⟩
    subst e
    obtain ⟨a, dx, xs, rfl, na, ha, hl, hds⟩ := hd
    obtain ⟨y, hy, hdy⟩ := hds.get hx
    obtain ⟨h1, h2⟩ := fo.ok c hf
    exact ⟨a, G.cl c, dx, _, y, rfl, ha, by rw [hK]; exact h1, by rw [hK]; exact h2, zip_lookup hy hf, kk y H1 x st hdy hq⟩
structure Fm (G : Gd) (P : Program) (w : World) (mg : Str → Option Value) (base : Heap) (k : Nat) (c : Nat) (m : Str) (ps : List Str) (cf : Nat) (S : FSpec) : Prop where
  ex : ∃ (f : Addr) (fd : FuncData), FnD G P w mg base k f fd ps cf S ∧ Meth G.K (G.cl c) m f ∧ Cls G.K (G.cl c) ∧ Binds G.K fd ps [] ∧ m ∉ G.fl c
theorem zip_none {f : Str} : ∀ {ns : List Str} {xs : List V}, f ∉ ns → (ns.zip xs).lookup f = none
  | [], _, _ => rfl
  | n :: ns, [], _ => rfl
  | n :: ns, x :: xs, h => by
    have e2 : (f == n) = false := beq_eq_false_iff_ne.mpr (fun z => h (by rw [z]; exact List.mem_cons_self))
    simp only [List.zip_cons_cons, List.lookup, e2]
    exact zip_none fun z => h (List.mem_cons_of_mem _ z)
def dMeth (c n : Nat) (S : FSpec) (te : DT) (u : DA) : DT := fun ex env Q => te ex env fun d => ∃ ds, d = .ins c ds ∧ u ex env fun as => as.length + 1 = n ∧ S (.ins c ds :: as) Q ex
theorem lift_callee1 {W : Wd G E σ H} {c c2 cf : Nat} {H1 H2 : Hp} (st : Step W c H1) (st2 : Step (W.next st) c2 H2) (hn : W.m + (c + c2 + cf) ≤ W.n) {S : FSpec} {d : D} {v : V} {ds : List D} {vs : List V} {Q : D → Prop} {Q' : VK} (hd1 : Den G W.XB H1 d v) (hd : DenL G W.XB H2 ds vs) (hs : S (d :: ds) Q W.ex)
    (kk : ∀ v H' d, Step W (c + c2 + cf) H' → Den G W.XB H' d v → Q d → Q' v H') : liftF G cf S (v :: vs) H2 Q' E :=
  lift_callee (st.trans st2) hn (ds := d :: ds) ⟨v, vs, rfl, (W.next st).den st2 hd1, hd⟩ hs kk
theorem de_meth {j c ce ca cf : Nat} {m : Str} {ps : List Str} {S : FSpec} {o e : Expr} {es : List Expr} {te : DT} {u : DA} {pos apos : Pos} {pl : Sem Bool} (F : Fm G X.prog X.w X.mg X.base j c m ps cf S) (xk : Xk G E k X) (ho : DE G E X ce o te) (ha : DEs G E X ca (e :: es) u) (hj : j ≤ k := by decide)
    (hst : starEach (e :: es) X.env = (false, eval e X.env) :: starEach es X.env :=
      by rfl) (hpl : (backTo pos (starEach es X.env)).any (·.1) = false := by rfl)
    (ht : eval (.Call (.Attribute o m
      apos) (e :: es) [] pos) X.env = (do
        let ov ← eval o X.env
        standAt apos.atName
        let (f, first) ← holding
          [ov] (getMethod ov m pl)
        callWith pos f first (backTo pos (starEach (e :: es) X.env)) (backToKw pos (keywordEach [] X.env))) := by rfl) : DE G E X (ce + ca + cf) (.Call (.Attribute o m apos) (e :: es) [] pos) (dMeth c ps.length S te u) := by
  obtain ⟨f, fd, hF0, hM, hC, hb, hmf⟩ := F.ex
  have hF := hF0.mono hj
  rw [← xk.K] at hM hC hb
  constructor
  intro pins s σ H Q' I h
  obtain ⟨W, hn, Q, hte, kk⟩ := h
  have recv := ho.run pins s σ H (fun x H1 => ∃ a ds, x = .ref a ∧ ∃ dx fs, H1 a = some (.ins (G.cl c) dx fs) ∧ fs.lookup m = none ∧ liftA G E ca u σ H1 fun vs H2 => vs.length + 1 = ps.length ∧ liftF G cf S (.ref a :: vs) H2 Q' E ∧ ds = ds) I
    ⟨W, by omega, _, hte, fun v H1 d st hd ⟨ds, e1, hu⟩ => by
      subst e1
      have hd0 := hd
      obtain ⟨a, dx, xs, rfl, na, hat, hl, hds⟩ := hd
      refine ⟨a, ds, rfl, dx, _, hat, zip_none hmf, W.next st, by show W.m + ca ≤ W.n - ce; omega, _, hu, fun vs H2 as st2 has ⟨hlen, hs⟩ => ⟨by rw [← has.length]; exact hlen, ?_, rfl⟩⟩
      exact lift_callee1 st st2 hn hd0 has hs kk⟩
  refine PySem.W.methodCall_KW (pl := pl) (thn recv ?_) ht
  rintro uv s1 ⟨x, H1, I1, rx, a, ds, rfl, dx, fs, hat, hlk, q⟩
  cases rx
  refine getmeth_ok I1 hat hC hM hlk ?_
  refine PySem.W.callWith_K (first := [.ref a]) (h₀ := X.base) I.ok.mod.kin hM.kp (thn (ha.run pos pins s1 σ H1 _ I1 q) ?_) hst hpl
  rintro us s2 ⟨vs, H2, I2, r2, hl, q2, _⟩
  refine ⟨I2.kIn, wpAny_call ?_⟩
  have hb' : BindsTo s2 fd ⟨.ref a :: us, []⟩ (ps.zip (.ref a :: us)) := by
    have z := hb s2 (.ref a :: us) I2.kIn (by rw [List.append_nil, List.length_cons, ← r2.length]; exact hl)
    rw [List.append_nil] at z
    exact z
  exact run_fnd (hK := xk.K) (vs := .ref a :: vs) hF xk.room xk.gd xk.pass I2 (.cons rfl r2) hl _ hb' q2
/-- what its __init__ does: S says what comes of the arguments behind self -/
def liftN (G : Gd) (c cid : Nat) (S : FSpec) : Sp := fun vs H Q E => ∃ (u : Option Ur) (n : Nat) (B : Addr → Prop) (ds : List D) (R : D → Prop) (ex : Exc → Prop) (x dx : Addr) (vs' : List V),
  u = G.u ∧ vs = .ref x :: vs' ∧ H x = some (.ins (G.cl cid) dx []) ∧ x ≠ dx ∧ ¬ B x ∧ ¬ B dx ∧ (∀ p, Pr u p → x ≠ p.1 ∧ x ≠ p.2 ∧ dx ≠ p.1 ∧ dx ≠ p.2) ∧ c ≤ n ∧ (∀ p, Pr u p → B p.1 ∧ B p.2) ∧ (∀ a, B a → H a ≠ none) ∧ Good u H n ∧ DenL G (fun a => B a ∨ a = x ∨ a = dx) H ds vs' ∧ S ds R ex ∧
  (∀ H' xs ds', (∀ b o, H b = some o → b ≠ x → b ≠ dx → NU u b → H' b = some o) → Good u H' (n - c) → H' x = some (.ins (G.cl cid) dx ((G.fl cid).zip xs)) → xs.length = (G.fl cid).length → DenL G B H' ds' xs → R (.ins cid ds') → Q .non H') ∧
  (∀ y C d H', (∀ b o, H b = some o → b ≠ x → b ≠ dx → NU u b → H' b = some o) → Good u H' (n - c) → ExcIs G B H' y C d → ex y → E C d H')
structure InitD (G : Gd) (P : Program) (w : World) (mg : Str → Option Value) (base : Heap) (k : Nat) (f : Addr) (fd : FuncData) (ps : List Str) (c cid : Nat) (S : FSpec) : Prop where
  run : ∀ (A : Around) (outer : List Env) (s : Shared) (H : Hp) (args : Args) (us : List Value) (vs : List V) (Q : VK) (E : XK), Room k A → A.guards = some [] → Env0 P w G.K mg base A outer s H →
    BindsTo s fd args (ps.zip us) → Vals vs us → vs.length = ps.length → liftN G c cid S vs H Q E → codeAny (model P w) A (.call (.ref f) args) (CR (L2.CX P w) outer P w H s Q E) s
/-- the class x of the module, number cid -/
structure Fc (G : Gd) (P : Program) (w : World) (mg : Str → Option Value) (base : Heap) (k : Nat) (x : Str) (cid : Nat) (ps : List Str) (cf : Nat) (S : FSpec) : Prop where
  ex : ∃ (f : Addr) (fd : FuncData), InitD G P w mg base k f fd ps cf cid S ∧ mg x = some (.ref (G.cl cid)) ∧ Mk G.K (G.cl cid) f ∧ Binds G.K fd ps [] ∧ 0 < ps.length
theorem InitD.mono {P : Program} {w : World} {mg : Str → Option Value} {base : Heap} {j k : Nat} {f : Addr} {fd : FuncData} {ps : List Str} {c cid : Nat} {S : FSpec} (F : InitD G P w mg base j f fd ps c cid S) (h : j ≤ k) : InitD G P w mg base k f fd ps c cid S :=
  ⟨fun A outer s H args us vs Q E hr => F.run A outer s H args us vs Q E (hr.mono h)⟩
theorem guards_make {A : Around} {C : Addr} {us : List Value} {kw : List (Str × Value)} : (A.under (.builtin "type.__call__" ⟨.ref C :: us, kw⟩)).guards = A.guards := by
  first | rfl | simp [Around.under, Code.isGuard, guardIds]
theorem de_make {j : Nat} {x : Str} {cid : Nat} {ps : List Str} {c cf : Nat} {S : FSpec} {e : Expr} {es : List Expr} {u : DA} {p pos : Pos} (F : Fc G X.prog X.w X.mg X.base j x cid ps cf S) (xk : Xk G E k X) (ha : DEs G E X c (e :: es) u) (hj : j + 1 ≤ k := by decide) (hg : Gl X x := by rfl) (hdb : (x == ("__debug__" : Str)) = false := by decide)
    (he : starEach (e :: es) X.env = (false, eval e X.env) :: starEach es X.env := by rfl) (hpl : (backTo pos (starEach es X.env)).any (·.1) = false := by rfl) : DE G E X (c + cf) (.Call (.Name x p) (e :: es) [] pos) (dCall (ps.length - 1) S u) := by
  obtain ⟨f, fd, hF, hm, M, hb, hps⟩ := F.ex
  rw [← xk.K] at M hb
  have room1 : Room (j + 1) X.A := xk.room.mono hj
  constructor
  intro pins s σ H Q' I h
  obtain ⟨W, hn, Q, ht, kk⟩ := h
  have args := ha.run pos pins s σ H (fun vs H1 => vs.length = ps.length - 1 ∧ ∃ (st : Step W c H1) (ds : List D), DenL G W.XB H1 ds vs ∧ S ds Q W.ex) I ⟨W, by omega, _, ht, fun vs H1 ds st hd ⟨hl, hs⟩ => ⟨by rw [← hd.length]; exact hl, st, ds, hd, hs⟩⟩
  refine wpAny_Call_Name_kw (ld_glob I hg hm ?_ hdb); refine PySem.W.callWith_K (h₀ := X.base) I.ok.mod.kin M.kp (thn args ?_) he hpl
  rintro us s1 ⟨vs, H1, I1, r1, hl, st, ds, hd, hs⟩
  refine ⟨I1.kIn, ?_⟩
  have f0 : H1 s1.heap.objs.size = none := I1.hok.fresh (Nat.le_refl _)
  have f1 : H1 (s1.heap.objs.size + 1) = none := I1.hok.fresh (Nat.le_succ _)
  have I2 := Inv.made (C := G.cl cid) I1
  have nx : s1.heap.objs.size ≠ s1.heap.objs.size + 1 := Nat.ne_of_lt (Nat.lt_succ_self _)
  have W1 := W.next st
  have bnd : ∀ b o, H1 b = some o → upd (upd H1 s1.heap.objs.size (.own (s1.heap.objs.size + 1))) (s1.heap.objs.size + 1) (.ins (G.cl cid) s1.heap.objs.size []) b = some o := fun b o e => by
    rw [upd_ne (ne_of_none e f1), upd_ne (ne_of_none e f0)]; exact e
  have hs' : liftN G cf cid S (.ref (s1.heap.objs.size + 1) :: vs) (upd (upd H1 s1.heap.objs.size (.own (s1.heap.objs.size + 1))) (s1.heap.objs.size + 1) (.ins (G.cl cid) s1.heap.objs.size [])) (fun v H2 => v = .non ∧ Q' (.ref (s1.heap.objs.size + 1)) H2) E := by
    refine ⟨W.u, W.n - c, W.XB, ds, Q, W.ex, _, s1.heap.objs.size, vs, W.ug, rfl, upd_same, Ne.symm nx, (W.next st).fresh f1, (W.next st).fresh f0, fun p e => ?_, by omega, fun p e => ⟨.inl (W.hu p e).1, .inl (W.hu p e).2⟩, fun a ha z => ?_, ?_, ?_, hs, fun H' xs ds' kp g hx hl2 hd2 hr => ⟨rfl, ?_⟩, fun y C d H' kp g hx hy => ?_⟩
    · have n1 : ¬ W.XB (s1.heap.objs.size + 1) := (W.next st).fresh f1
      have n0 : ¬ W.XB s1.heap.objs.size := (W.next st).fresh f0
      exact ⟨fun z => n1 (by rw [z]; exact .inl (W.hu p e).1), fun z => n1 (by rw [z]; exact .inl (W.hu p e).2), fun z => n0 (by rw [z]; exact .inl (W.hu p e).1), fun z => n0 (by rw [z]; exact .inl (W.hu p e).2)⟩
    · cases q : H1 a with
      | none => exact (W.next st).fresh q ha
      | some o => rw [bnd a o q] at z; cases z
    · refine Good.ext st.good fun b o e _ => bnd b o e
    · refine DenL.keep (fun b o nb e => bnd b o e) (fun b hb => ?_) ds vs hd
      rcases hb with hb | rfl | rfl
      · exact .inl hb
      · exact .inr f1
      · exact .inr f0
    · refine kk _ H' (.ins cid ds') ⟨fun b o e nu => ?_, by rw [Nat.sub_add_eq]; exact g⟩ ⟨_, _, xs, rfl, (W.next st).fresh f1, hx, hl2, hd2⟩ hr
      have e1 := st.ext b o e nu
      exact kp b o (bnd b o e1) (ne_of_none e1 f1) (ne_of_none e1 f0) nu
    · refine W.exc y C d H' (fun b o e nu => ?_) (g.less (by omega)) ?_ hy
      · have e1 := (W.fr.trans st.ext) b o e nu
        exact kp b o (bnd b o e1) (ne_of_none e1 f1) (ne_of_none e1 f0) nu
      · obtain ⟨e1, dd, xs, e2, nd, e3, e4, e5⟩ := hx
        exact ⟨e1, dd, xs, e2, fun z => nd (.inl z), e3, e4, e5.fewer fun b z => .inl z⟩
  have hlen2 : (V.ref (s1.heap.objs.size + 1) :: vs).length = ps.length := by rw [List.length_cons, hl]; omega
  refine wpAny_call (make_map (f := f) I1.kIn M.makes M.init (beq_iff_eq.mp M.fn) (codeAny_mono (hF.run _ X.stack _ _ ⟨.ref (s1.heap.objs.size + 1) :: us, []⟩ (.ref (s1.heap.objs.size + 1) :: us) (.ref (s1.heap.objs.size + 1) :: vs) _ E (room1.make (G.cl cid) us []) (guards_make.trans xk.gd) (by rw [← xk.K]; exact I2.env0.make (G.cl cid) us []) ?_ (.cons rfl r1) hlen2 hs') ?_))
  · have z := hb { s1 with heap := (s1.heap.push PySem.W.emptyDict).push (PySem.W.instObj (G.cl cid) s1.heap.objs.size) } (.ref (s1.heap.objs.size + 1) :: us) I2.kIn (by rw [List.append_nil, List.length_cons, ← r1.length, hl]; omega)
    rw [List.append_nil] at z
    exact z
  · intro r s' hq
    cases r with
    | error e => exact xk.pass pins σ _ _ e s' I2 hq
    | ok fl =>
      cases fl with
      | ret u =>
        obtain ⟨v, H', I3, rv, ev, q3⟩ := I2.after hq
        subst ev
        exact ⟨rv, ⟨V.ref (s1.heap.objs.size + 1), H', I3, rfl, q3⟩⟩
      | next => exact hq.elim
      | brk => exact hq.elim
      | cont => exact hq.elim
end
end Kn
set_option Elab.async false
set_option linter.all false
set_option maxRecDepth 100000
set_option maxHeartbeats 2100000
namespace Kn
open PySem L2 RZ
open PyProof.Rows (envOfC)
section
variable {G : Gd} {E : XK} {X : Cx} {σ : List (Option V)} {H H' : Hp} {k : Nat}
/-- the slots at the entry of an __init__ -/
def envI (N : List Str) (x dx : Addr) (cid : Nat) (ds : List D) : List Sl := Sl.slf x dx cid [] :: (ds.map Sl.val ++ List.replicate (N.length - 1 - ds.length) Sl.emp)
theorem envI_get {N : List Str} {x dx : Addr} {cid : Nat} {ds : List D} {i : Nat} {s : Sl} (h : (envI N x dx cid ds)[i]? = some s) : (i = 0 ∧ s = .slf x dx cid []) ∨ (∃ j d, i = j + 1 ∧ ds[j]? = some d ∧ s = .val d) ∨ s = .emp := by
  unfold envI at h
  cases i with
  | zero => exact .inl ⟨rfl, (Option.some.inj h).symm⟩
  | succ j =>
    rw [List.getElem?_cons_succ] at h
    by_cases hi : j < ds.length
    · rw [List.getElem?_append_left (by simpa using hi), List.getElem?_map, List.getElem?_eq_getElem hi] at h
      exact .inr (.inl ⟨j, ds[j], rfl, List.getElem?_eq_getElem hi, (Option.some.inj h).symm⟩)
    · rw [List.getElem?_append_right (by simpa using hi), List.getElem?_replicate] at h
      split at h
      · exact .inr (.inr (Option.some.inj h).symm)
      · cases h
theorem wd_init {N : List Str} {vs : List V} {E : XK} {u : Option Ur} {n c cid : Nat} {B : Addr → Prop} {ds : List D} {ex : Exc → Prop} {x dx : Addr} (hN : vs.length + 1 ≤ N.length) (hug : u = G.u) (hx : H x = some (.ins (G.cl cid) dx [])) (nx : x ≠ dx) (bx : ¬ B x) (bdx : ¬ B dx)
    (hux : ∀ p, Pr u p → x ≠ p.1 ∧ x ≠ p.2 ∧ dx ≠ p.1 ∧ dx ≠ p.2) (hu : ∀ p, Pr u p → B p.1 ∧ B p.2) (hB : ∀ a, B a → H a ≠ none) (hg : Good u H n) (hd : DenL G (fun a => B a ∨ a = x ∨ a = dx) H ds vs)
    (hex : ∀ y C d H', (∀ b o, H b = some o → b ≠ x → b ≠ dx → NU u b → H' b = some o) → Good u H' (n - c) → ExcIs G B H' y C d → ex y → E C d H') :
    ∃ W : Wd G E (L2.start N (.ref x :: vs)) H, W.u = u ∧ W.n = n ∧ W.m = n - c ∧ W.B = B ∧ W.H0 = (fun b => if b = x ∨ b = dx then none else H b) ∧ W.env = envI N x dx cid ds ∧ W.ex = ex := by
  have hl := hd.length
  have h0 : ∀ b o, (if b = x ∨ b = dx then (none : Option HO) else H b) = some o → H b = some o ∧ b ≠ x ∧ b ≠ dx := fun b o e => by
    by_cases hb : b = x ∨ b = dx
    · rw [if_pos hb] at e; cases e
    · rw [if_neg hb] at e; exact ⟨e, fun z => hb (.inl z), fun z => hb (.inr z)⟩
  have hmine : ∀ {i : Nat} {s : Sl}, (envI N x dx cid ds)[i]? = some s → s.mine = true → i = 0 := fun {i s} e hm => by
    rcases envI_get e with ⟨z, _⟩ | ⟨_, _, _, _, rfl⟩ | rfl
    · exact z
    · cases hm
    · cases hm
  refine ⟨{ u := u, n := n, m := n - c, B := B, H0 := fun b => if b = x ∨ b = dx then none else H b, env := envI N x dx cid ds, ex := ex, ug := hug, hu := hu, hB := fun a ha z => ?_, fr := fun b o e _ => (h0 b o e).1, good := hg, len := ?_, sl := ?_, nd := ?_, exc := fun y C d H' e g hy hq => ?_ }, rfl, rfl, rfl, rfl, rfl, rfl, rfl⟩
  · rw [if_neg (fun q => q.elim (fun q => bx (q ▸ ha)) fun q => bdx (q ▸ ha))] at z
    exact hB a ha z
  · unfold envI L2.start
    simp only [List.length_append, List.length_map, List.length_replicate, List.length_cons]
    omega
  · intro i s e
    have sub : ∀ b, XBof B (envI N x dx cid ds) (L2.start N (.ref x :: vs)) b → B b ∨ b = x ∨ b = dx := fun b hb => by
      rcases hb with hb | ⟨j, t, e1, hm, e2⟩
      · exact .inl hb
      · have := hmine e1 hm
        subst this
        rw [start_get (i := 0) (v := .ref x) rfl] at e2
        cases e2
        exact .inr (.inl rfl)
    rcases envI_get e with ⟨rfl, rfl⟩ | ⟨j, d, rfl, hdj, rfl⟩ | rfl
    · refine ⟨[], by rw [start_get (i := 0) (v := .ref x) rfl]; rfl, if_pos (.inl rfl), by rw [List.zip_nil_right]; exact hx, Nat.zero_le _, rfl⟩
    · obtain ⟨y, hy, hdy⟩ := hd.get hdj
      exact ⟨y, by rw [start_get (i := j + 1) (v := y) (by simpa using hy)]; rfl, hdy.fewer sub⟩
    · trivial
  · intro i j a s t e1 e2 m1 m2 _ _
    rw [hmine e1 m1, hmine e2 m2]
  · exact hex y C d H' (fun b o hb n1 n2 nu => e b o (by show (if b = x ∨ b = dx then none else H b) = some o; rw [if_neg (fun q => q.elim n1 n2)]; exact hb) nu) g hy hq
/-- THE RULE for an __init__ that stores each field once, in order -/
theorem initd_of {P : Program} {w : World} {mg : Str → Option Value} {base : Heap} {f : Addr} {x qual : Str} {st : Stmt} {fd : FuncData} {N ps : List Str} {c cid : Nat} {S : FSpec} {ts : DS} (F : Fun G.K x qual st f fd) (Sc : FnScope N ps (defScope st))
    (hder : ∀ (cdv : Value) (A : Around) (outer : List Env) (s : Shared) (H : Hp) (E : XK), Room k (A.deeper (envOfC qual (defScope st) s.heap.objs.size f cdv)) → A.guards = some [] →
      DSs G E (cxOf (L2.CX P w) P w G.K mg base N qual (defScope st) f cdv A outer s H E) c (defBody st) ts)
    (hS : ∀ a dx ds R ex, ds.length + 1 = ps.length → S ds R ex → ts ex { nx := fun env => ∃ ds', env[0]? = some (.slf a dx cid ds') ∧ ds'.length = (G.fl cid).length ∧ R (.ins cid ds'), rt := fun _ _ => False } (envI N a dx cid ds)) : InitD G P w mg base (k + 1) f fd ps c cid S := by
  constructor
  intro A outer s H args us vs Q E hr hgd e0 hb rv hlen hsp
  obtain ⟨u, n, B, ds, R, ex, a, dx, vs', hug, rfl, hx, nx, bx, bdx, hux, hc, hu, hB, hg, hd, hs, hq, hex⟩ := hsp
  have hNl : vs'.length + 1 ≤ N.length := by
    have h1 := congrArg List.length Sc.pre
    rw [List.length_take] at h1
    rw [List.length_cons] at hlen
    omega
  obtain ⟨oc, od, kV, doc, pm, an, cdv, ct, osl, rfl, lk, hcd⟩ := F.ex; have KX : G.K.In s.heap := PySem.W.Frag.In.keeps e0.mod.kin (fun b o e => (e0.bs b o e).1)
  have nolim : s.heap.NoLimit := Heap.NoLimit.keeps e0.mod.nolimit (fun b o e => (e0.bs b o e).1)
  have kinds : ∀ y ∈ ps.zip us, (defScope st).names.lookup y.1 = some .local ∨
      ((defScope st).names.lookup y.1 = some .cell ∧ ((cellsFrom (s.heap.objs.size + 1) (defScope st).names []).lookup y.1).isSome = true) := by
    intro y hy
    obtain ⟨n1, v1⟩ := y
    rcases Sc.par n1 (List.of_mem_zip hy).1 with z | z
    · exact .inl z
    · exact .inr ⟨z, PySem.W.cellsFrom_some _ _ _ (.inl z)⟩
  refine codeAny_call_function hr.depth (KX _ _ lk) rfl Sc.co Sc.gen rfl (PySem.W.codeRec_of KX hcd) ?_
  refine hb _ _ _ _ (wpAny_newFunctionEnv_cells Sc.kind kinds ?_)
  intro env he s1 ic
  subst he
  refine ⟨nolim.keeps ic.toInCall.keep, codeAny_func ?_⟩
  have I : Inv (cxOf (L2.CX P w) P w G.K mg base N qual (defScope st) f cdv A outer s H E) [] (L2.start N (.ref a :: vs')) H s1 := inv_start Sc hr.hd e0 hlen rv ic
  have hds : ds.length + 1 = ps.length := by rw [hd.length]; simpa using hlen
  obtain ⟨W, w1, w2, w3, w4, w5, w6, w7⟩ := wd_init (N := N) (E := E) (c := c) hNl hug hx nx bx bdx hux hu hB hg hd hex
  have body := (hder cdv A outer s H E (hr.deeper _) hgd).run [] s1 (L2.start N (.ref a :: vs')) H { nx := fun _ H' => Q .non H', rt := Q } I (by
    refine ⟨W, by rw [w2, w3]; omega, _, by rw [w6, w7]; exact hS a dx ds R ex hds hs, ?_, ?_, ?_, ?_⟩
    · intro σ' H' W' lt ⟨ds', h1, h2, h3⟩
      obtain ⟨xs, ea, h0, ha, hlx, hdx⟩ := W'.sl 0 _ h1
      have hG : Good u H' (n - c) := by have z := W'.good; rw [lt.u, w1] at z; exact z.less (by have := lt.n; rw [w2] at this; omega)
      refine hq H' xs ds' (fun b o e n1 n2 nu => ?_) hG ha (by rw [← hdx.length]; exact h2) ?_ h3
      · have z := W'.fr b o (by rw [lt.H0, w5]; show (if b = a ∨ b = dx then none else H b) = some o; rw [if_neg (fun q => q.elim n1 n2)]; exact e)
        rw [lt.u, w1] at z
        exact z nu
      · refine hdx.fewer fun b hb => ?_
        exact .inl (by rw [lt.B, w4]; exact hb)
    · intro v σ' H' W' d lt hd' hr'; exact hr'.elim
    · intro σ' H' W' lt z; exact z.elim
    · intro σ' H' W' lt z; exact z.elim)
  refine wpAny_mono body ?_ (fun e s' hs => hs)
  intro fl s' hfl
  cases fl with
  | next => obtain ⟨σ', H', J, q⟩ := hfl; exact ⟨.non, H', J.os, J.bare, J.base, J.hok, rfl, q⟩
  | ret v' => obtain ⟨v, σ', H', J, r1, q⟩ := hfl; exact ⟨v, H', J.os, J.bare, J.base, J.hok, r1, q⟩
  | brk => obtain ⟨σ', H', J, q⟩ := hfl; exact q.elim
  | cont => obtain ⟨σ', H', J, q⟩ := hfl; exact q.elim
theorem put_zip {f : Str} {v : V} : ∀ {ns : List Str} {xs : List V}, ns.Nodup → ns[xs.length]? = some f → putF f v (ns.zip xs) = ns.zip (xs ++ [v])
  | [], xs, _, h => by simp at h
  | n :: ns, [], _, h => by
    have e : n = f := by simpa using h
    subst e
    cases ns <;> rfl
  | n :: ns, x :: xs, nd, h => by
    have h' : ns[xs.length]? = some f := by simpa using h
    have hne : n ≠ f := fun z => (List.nodup_cons.mp nd).1 (by rw [z]; exact List.mem_of_getElem? h')
    show (if n = f then (n, v) :: ns.zip xs else (n, x) :: putF f v (ns.zip xs)) = _
    rw [if_neg hne, put_zip (List.nodup_cons.mp nd).2 h']
    rfl
def sFld (G : Gd) (i : Nat) (f : Str) (te : DT) : DS := fun ex de env => te ex env fun d => ∃ a dx c ds, env[i]? = some (.slf a dx c ds) ∧ (G.fl c)[ds.length]? = some f ∧ de.nx (env.set i (.slf a dx c (ds ++ [d])))
theorem join_some {α : Type} {l : List (Option α)} {i : Nat} {a : α} (h : l[i]?.join = some a) : l[i]? = some (some a) := by
  cases q : l[i]? with
  | none => rw [q] at h; cases h
  | some o => rw [q] at h; rw [show o = some a from h]
/-- the frame's own thing in slot i, at a, changes -/
theorem wd_mut (W : Wd G E σ H) {i : Nat} {a : Addr} {s0 s1 : Sl} {o1 : HO} (he : W.env[i]? = some s0) (hm : s0.mine = true) (hsi : σ[i]? = some (some (.ref a))) (hm1 : s1.mine = true) (ok : SlOk G W.H0 W.XB (L2.upd H a o1) s1 (some (.ref a))) :
    ∃ W' : Wd G E σ (L2.upd H a o1), Later W 0 W' ∧ W'.env = W.env.set i s1 ∧ W'.n = W.n := by
  have hil : i < W.env.length := (List.getElem?_eq_some_iff.mp he).1
  have xa : W.XB a := .inr ⟨i, _, he, hm, hsi⟩
  obtain ⟨h0, oa, hoa⟩ := W.mine_at he hm hsi
  have nB : ¬ W.B a := W.own_ne h0
  have xb : ∀ b, XBof W.B (W.env.set i s1) σ b → W.XB b := fun b hb => by
    rcases hb with hb | ⟨j, s, e1, m1, e2⟩
    · exact .inl hb
    · by_cases hj : i = j
      · subst hj
        exact .inr ⟨i, _, he, hm, e2⟩
      · rw [List.getElem?_set_ne hj] at e1
        exact .inr ⟨j, s, e1, m1, e2⟩
  have kd : ∀ b o, ¬ W.XB b → H b = some o → L2.upd H a o1 b = some o := fun b o nb e => by rw [upd_ne (show b ≠ a from fun z => nb (by rw [z]; exact xa))]; exact e
  have dk : ∀ {d : D} {v : V}, Den G W.XB H d v → Den G (XBof W.B (W.env.set i s1) σ) (L2.upd H a o1) d v := fun {d v} h => (Den.keep kd (fun b hb => .inl hb) d v h).fewer xb
  have dkl : ∀ {ds : List D} {xs : List V}, DenL G W.XB H ds xs → DenL G (XBof W.B (W.env.set i s1) σ) (L2.upd H a o1) ds xs := fun {ds xs} h => (DenL.keep kd (fun b hb => .inl hb) ds xs h).fewer xb
  refine ⟨{ u := W.u, n := W.n, m := W.m, B := W.B, H0 := W.H0, env := W.env.set i s1, ex := W.ex, ug := W.ug, hu := W.hu, hB := W.hB, fr := fun b o e nu => ?_, good := ?_, len := by rw [List.length_set]; exact W.len, sl := fun j s e => ?_, nd := fun j l b s t e1 e2 m1 m2 e3 e4 => ?_, exc := W.exc }, ⟨rfl, rfl, rfl, rfl, rfl, by show W.n ≤ W.n + 0; omega, kd, fun b hb => .inl (xb b hb)⟩, rfl, rfl⟩
  · rw [upd_ne (fun z => by rw [z, h0] at e; cases e)]
    exact W.fr b o e nu
  · exact W.good.upd (fun r e => ⟨fun z => nB (by rw [z]; exact (W.hu r e).1), fun z => nB (by rw [z]; exact (W.hu r e).2)⟩) (W.mine_nc he hm hsi)
  · by_cases hj : i = j
    · subst hj
      rw [List.getElem?_set_self hil] at e
      cases e
      rw [hsi]
      exact ok.fewer xb
    · rw [List.getElem?_set_ne hj] at e
      have z := W.sl j s e
      have ne : ∀ b, s.mine = true → σ[j]? = some (some (.ref b)) → b ≠ a := fun b ms hb q => by
        subst q
        exact hj (W.nd i j b s0 s he e hm ms hsi hb)
      cases s with
      | emp => trivial
      | val d => obtain ⟨x, e1, e2⟩ := z; exact ⟨x, e1, dk e2⟩
      | own b ds => obtain ⟨xs, e1, e2, e3, e4, e5⟩ := z; exact ⟨xs, e1, e2, by rw [upd_ne (ne b rfl (join_some e1))]; exact e3, e4, dkl e5⟩
      | slf b dx c ds => obtain ⟨xs, e1, e2, e3, e4, e5⟩ := z; exact ⟨xs, e1, e2, by rw [upd_ne (ne b rfl (join_some e1))]; exact e3, e4, dkl e5⟩
      | obj b o => obtain ⟨e1, e2, e3, e4⟩ := z; exact ⟨e1, e2, by rw [upd_ne (ne b rfl (join_some e1))]; exact e3, e4⟩
      | dic b ks es => obtain ⟨L, e1, e2, e3, e4, e5, e6⟩ := z; exact ⟨L, e1, e2, (by rw [upd_ne (ne b rfl (join_some e1))]; exact e3), e4, e5.by dk, dkl e6⟩
  · have old : ∀ {j : Nat} {s : Sl}, (W.env.set i s1)[j]? = some s → s.mine = true → ∃ s', W.env[j]? = some s' ∧ s'.mine = true := fun {j s} e ms => by
      by_cases hj : i = j
      · subst hj; exact ⟨s0, he, hm⟩
      · rw [List.getElem?_set_ne hj] at e; exact ⟨s, e, ms⟩
    obtain ⟨s', f1, f2⟩ := old e1 m1
    obtain ⟨t', f3, f4⟩ := old e2 m2
    exact W.nd j l b s' t' f1 f3 f2 f4 e3 e4
/-- what is not the frame's own stays when the frame's own thing at a changes -/
theorem mut_keep (W : Wd G E σ H) {i : Nat} {a : Addr} {s0 : Sl} {o1 : HO} (he : W.env[i]? = some s0) (hm : s0.mine = true) (hsi : σ[i]? = some (some (.ref a))) : ∀ b o, ¬ W.XB b → H b = some o → L2.upd H a o1 b = some o :=
  fun b o nb e => by rw [upd_ne (show b ≠ a from fun z => nb (by rw [z]; exact .inr ⟨i, _, he, hm, hsi⟩))]; exact e
theorem lift_slf {i : Nat} {W : Wd G E σ H} {a dx : Addr} {c : Nat} {ds : List D} (he : W.env[i]? = some (.slf a dx c ds)) : ∃ xs, σ[i]? = some (some (.ref a)) ∧ H a = some (.ins (G.cl c) dx ((G.fl c).zip xs)) ∧ xs.length ≤ (G.fl c).length ∧ DenL G W.XB H ds xs := by
  obtain ⟨xs, e1, e2, e3, e4, e5⟩ := W.sl i _ he
  exact ⟨xs, join_some e1, e3, e4, e5⟩
theorem ds_fld {i : Nat} {x f : Str} {e : Expr} {pos pos' p : Pos} {c : Nat} {te : DT} (hK : X.K = G.K) (fo : FldOk G f) (nd : ∀ c, (G.fl c).Nodup) (sm : ∀ c, (G.fl c).length ≤ 100) (hN : X.N[i]? = some x) (he : DE G E X c e te) (hv : Vis X.env.scope x := by first | exact Or.inl rfl | exact Or.inr (Or.inl rfl) | exact Or.inr (Or.inr rfl))
    (hs : swapsWith e (some (.Attribute (.Name x p) f pos')) pos.line X.env = pure false := by rfl) (hd : (x == ("__debug__" : Str)) = false := by decide) (hcd : (x == ("__classdict__" : Str)) = false := by decide) : DSt G E X c (.Assign [.Attribute (.Name x p) f pos'] e pos) (sFld G i f te) :=
  impS (ps_fld (pe_var (i := i) hN hv hd hcd) he hs) fun Dn σ H h => by
    obtain ⟨W, hn, de, ht, k1, k2, k3, k4⟩ := h
    refine ⟨W, hn, _, ht, fun v H' d st hd' ⟨a, dx, cc, ds, hei, hf, hq⟩ => ?_⟩
    obtain ⟨xs, hsi, ha, hl, hxs⟩ := lift_slf (W := W.next st) hei
    have hfm : f ∈ G.fl cc := List.mem_of_getElem? hf
    obtain ⟨o1, o2⟩ := fo.ok cc hfm
    have el := hxs.length
    have hlt : xs.length < (G.fl cc).length := by rw [← el]; exact (List.getElem?_eq_some_iff.mp hf).1
    refine ⟨.ref a, hsi, a, G.cl cc, dx, _, rfl, ha, by rw [hK]; exact o1, by rw [hK]; exact o2, by rw [List.length_zip]; have := sm cc; omega, ?_⟩
    have hpz : putF f v ((G.fl cc).zip xs) = (G.fl cc).zip (xs ++ [v]) := put_zip (nd cc) (by rw [← el]; exact hf)
    rw [hpz]
    have kp := mut_keep (o1 := .ins (G.cl cc) dx ((G.fl cc).zip (xs ++ [v]))) (W.next st) hei rfl hsi
    obtain ⟨W', l1, l2, l3⟩ := wd_mut (o1 := .ins (G.cl cc) dx ((G.fl cc).zip (xs ++ [v]))) (s1 := .slf a dx cc (ds ++ [d])) (W.next st) hei rfl hsi rfl
      ⟨xs ++ [v], rfl, ((W.next st).mine_at hei rfl hsi).1, upd_same, by rw [List.length_append]; exact hlt, (DenL.keep kp (fun b hb => .inl hb) _ _ hxs).append ⟨v, [], rfl, Den.keep kp (fun b hb => .inl hb) _ _ hd', rfl⟩⟩
    exact k1 σ _ W' (((Later.next st).trans l1).more (by omega)) (by rw [l2]; exact hq)
end
end Kn
set_option Elab.async false
set_option linter.all false
set_option maxRecDepth 100000
set_option maxHeartbeats 2100000
namespace Kn
open PySem L2 RZ
open PyProof.Rows (envOfC)
section
variable {G : Gd} {E : XK} {X : Cx} {σ : List (Option V)} {H H' : Hp} {k : Nat}
/-- slot i holds a new list that nothing else holds -/
theorem wd_own (W : Wd G E σ H) {c : Nat} {H2 : Hp} (st : Step W c H2) {i : Nat} {p : Addr} {xs : List V} {ds : List D} (hp : H p = none) (h2 : H2 p = some (.lst xs)) (hl : xs.length ≤ sizeLine) (hd : DenL G (fun a => W.XB a ∨ a = p) H2 ds xs) :
    ∃ W' : Wd G E (σ.set i (some (.ref p))) H2, Later W c W' ∧ W'.env = W.env.set i (.own p ds) := by
  have fr0 : ¬ W.XB p := W.fresh hp
  have h0 : W.H0 p = none := by
    cases q : W.H0 p with
    | none => rfl
    | some o =>
      exfalso
      rw [W.fr p o q (W.nuX fr0)] at hp; cases hp
  let W1 := W.next st
  have npo : ∀ {j : Nat} {s : Sl} {b : Addr}, W.env[j]? = some s → s.mine = true → σ[j]? = some (some (.ref b)) → b ≠ p := fun {j s b} e hm es z => by
    obtain ⟨_, o, ho⟩ := W.mine_at e hm es
    rw [z, hp] at ho; cases ho
  have xb : ∀ b, XBof W.B (W.env.set i (.own p ds)) (σ.set i (some (.ref p))) b → W.XB b ∨ b = p := fun b hb => by
    rcases hb with hb | ⟨j, s, e1, m1, e2⟩
    · exact .inl (.inl hb)
    · by_cases hj : i = j
      · subst hj
        by_cases hi : i < σ.length
        · rw [List.getElem?_set_self hi] at e2; cases e2; exact .inr rfl
        · rw [List.getElem?_eq_none (by rw [List.length_set]; omega)] at e2; cases e2
      · rw [List.getElem?_set_ne hj] at e1 e2
        exact .inl (.inr ⟨j, s, e1, m1, e2⟩)
  have dk : ∀ {d : D} {v : V}, Den G W.XB H d v → Den G (XBof W.B (W.env.set i (.own p ds)) (σ.set i (some (.ref p)))) H2 d v := fun {d v} h =>
    Den.keep (fun b o nb e => st.keep nb e) (fun b hb => (xb b hb).imp id fun z => by rw [z]; exact hp) d v h
  have dkl : ∀ {es : List D} {ys : List V}, DenL G W.XB H es ys → DenL G (XBof W.B (W.env.set i (.own p ds)) (σ.set i (some (.ref p)))) H2 es ys := fun {es ys} h =>
    DenL.keep (fun b o nb e => st.keep nb e) (fun b hb => (xb b hb).imp id fun z => by rw [z]; exact hp) es ys h
  have own_st : ∀ {j : Nat} {s : Sl} {b : Addr} {o : HO}, W.env[j]? = some s → s.mine = true → σ[j]? = some (some (.ref b)) → H b = some o → H2 b = some o := fun {j s b o} e hm es ho => st.ext b o ho (W.nu (W.mine_at e hm es).1)
  refine ⟨{ u := W.u, n := W.n - c, m := W.m, B := W.B, H0 := W.H0, env := W.env.set i (.own p ds), ex := W.ex, ug := W.ug, hu := W.hu, hB := W.hB, fr := W.fr.trans st.ext, good := st.good, len := by rw [List.length_set, List.length_set]; exact W.len, sl := fun j s e => ?_, nd := fun j l b s t e1 e2 m1 m2 e3 e4 => ?_, exc := W.exc },
    ⟨rfl, rfl, rfl, rfl, rfl, by show W.n ≤ W.n - c + c; omega, fun b o nb e => st.keep nb e, fun b hb => (xb b hb).imp id fun z => by rw [z]; exact hp⟩, rfl⟩
  · by_cases hj : i = j
    · subst hj
      by_cases hi : i < W.env.length
      · rw [List.getElem?_set_self hi] at e
        cases e
        rw [getD_set, if_pos ⟨rfl, by rw [← W.len]; exact hi⟩]
        exact ⟨xs, rfl, h0, h2, hl, hd.fewer xb⟩
      · rw [List.getElem?_eq_none (by simpa using hi)] at e; cases e
    · rw [List.getElem?_set_ne hj] at e
      rw [getD_set, if_neg (fun z => hj z.1)]
      have z := W.sl j s e
      cases s with
      | emp => trivial
      | val d => obtain ⟨x, e1, e2⟩ := z; exact ⟨x, e1, dk e2⟩
      | own b es => obtain ⟨ys, e1, e2, e3, e4, e5⟩ := z; exact ⟨ys, e1, e2, own_st e rfl (join_some e1) e3, e4, dkl e5⟩
      | slf b dx cc es => obtain ⟨ys, e1, e2, e3, e4, e5⟩ := z; exact ⟨ys, e1, e2, own_st e rfl (join_some e1) e3, e4, dkl e5⟩
      | obj b o => obtain ⟨e1, e2, e3, e4⟩ := z; exact ⟨e1, e2, own_st e rfl (join_some e1) e3, e4⟩
      | dic b ks es => obtain ⟨L, e1, e2, e3, e4, e5, e6⟩ := z; exact ⟨L, e1, e2, own_st e rfl (join_some e1) e3, e4, e5.by dk, dkl e6⟩
  · by_cases hj : i = j
    · by_cases hlk : i = l
      · exact hj.symm.trans hlk
      · subst hj
        exfalso
        rw [List.getElem?_set_ne hlk] at e2 e4
        have hi : i < σ.length := by
          by_cases q : i < σ.length
          · exact q
          · rw [List.getElem?_eq_none (by rw [List.length_set]; omega)] at e3; cases e3
        rw [List.getElem?_set_self hi] at e3
        cases e3
        exact npo e2 m2 e4 rfl
    · rw [List.getElem?_set_ne hj] at e1 e3
      by_cases hlk : i = l
      · subst hlk
        exfalso
        have hi : i < σ.length := by
          by_cases q : i < σ.length
          · exact q
          · rw [List.getElem?_eq_none (by rw [List.length_set]; omega)] at e4; cases e4
        rw [List.getElem?_set_self hi] at e4
        cases e4
        exact npo e1 m1 e3 rfl
      · rw [List.getElem?_set_ne hlk] at e2 e4
        exact W.nd j l b s t e1 e2 m1 m2 e3 e4
/-- an expression that makes a new list -/
def liftFr (G : Gd) (E : XK) (c : Nat) (t : DA) : TE := fun σ H Q' => ∃ W : Wd G E σ H, W.m + c ≤ W.n ∧ ∃ Q, t W.ex W.env Q ∧
  ∀ p H' ds xs, Step W c H' → H p = none → H' p = some (.lst xs) → xs.length ≤ sizeLine → DenL G (fun a => W.XB a ∨ a = p) H' ds xs → Q ds → Q' (.ref p) H'
abbrev DF (G : Gd) (E : XK) (X : Cx) (c : Nat) (e : Expr) (t : DA) : Prop := PE X e (liftFr G E c t)
def fLst (u : DA) : DA := fun ex env Q => u ex env fun ds => ds.length ≤ sizeLine ∧ Q ds
theorem df_lst {es : List Expr} {pos : Pos} {c : Nat} {u : DA} (h : DEs G E X c es u) : DF G E X c (.List es pos) (fLst u) := imp (pe_lst h) fun σ H Q' h => by
  obtain ⟨W, hn, Q, ht, kk⟩ := h
  refine ⟨W, hn, _, ht, fun vs H1 ds st hd ⟨hl, hq⟩ => ⟨by rw [← hd.length]; exact hl, fun p hp => ?_⟩⟩
  have hp0 : H p = none := by
    cases q : H p with
    | none => rfl
    | some o =>
      exfalso
      rw [st.ext p o q (W.nuX ((W.next st).fresh hp))] at hp; cases hp
  refine kk p _ ds vs (st.new hp) hp0 upd_same (by rw [← hd.length]; exact hl) ?_ hq
  exact DenL.keep (fun b o nb e => by rw [upd_ne (ne_of_none e hp)]; exact e) (fun b hb => hb.imp id fun z => by rw [z]; exact hp) ds vs hd
def fList (te : DT) : DA := fun ex env Q => te ex env fun d => match d with
  | .lst ds => Q ds
  | .tup ds => Q ds
  | _ => False
def sOwn (i : Nat) (t : DA) : DS := fun ex de env => t ex env fun ds => ∀ a, de.nx (env.set i (.own a ds))
theorem ds_own {i : Nat} {x : Str} {e : Expr} {pos pos' : Pos} {c : Nat} {t : DA} (hN : X.N.Nodup) (hi : X.N[i]? = some x) (hx : Loc X.env.scope x) (he : DF G E X c e t) (hs : swapsWith e (some (.Name x pos')) pos.line X.env = pure false := by rfl)
    (hf : X.fn x = true ∨ X.env.scope.names.lookup x = some .local := by first | exact .inl rfl | exact .inr rfl) : DSt G E X c (.Assign [.Name x pos'] e pos) (sOwn i t) :=
  impS (ps_set hN hi hx he hs hf) fun Dn σ H h => by
    obtain ⟨W, hn, de, ht, k1, k2, k3, k4⟩ := h
    refine ⟨W, hn, _, ht, fun p H' ds xs st hp h2 hl hd hq => ?_⟩
    obtain ⟨W', l1, l2⟩ := wd_own W st (i := i) hp h2 hl hd
    exact k1 _ H' W' l1 (by rw [l2]; exact hq p)
/-- from here on the list in slot i stays as it is -/
def sFreeze (i : Nat) (t : DS) : DS := fun ex de env => ∃ a ds, env[i]? = some (.own a ds) ∧ t ex de (env.set i (.val (.lst ds)))
theorem ds_freeze {i : Nat} {sts : List Stmt} {c : Nat} {t : DS} (h : DSs G E X c sts t) : DSs G E X c sts (sFreeze i t) := impSs h fun Dn σ H h => by
  obtain ⟨W, hn, de, ⟨a, ds, he, ht⟩, k1, k2, k3, k4⟩ := h
  obtain ⟨xs, e1, h0, ha, hl, hd⟩ := W.sl i _ he
  have hsi := join_some e1
  have hil : i < W.env.length := (List.getElem?_eq_some_iff.mp he).1
  have xb : ∀ b, XBof W.B (W.env.set i (.val (.lst ds))) σ b → W.XB b ∧ b ≠ a := fun b hb => by
    rcases hb with hb | ⟨j, s, f1, m1, f2⟩
    · exact ⟨.inl hb, fun z => W.own_ne h0 (by rw [← z]; exact hb)⟩
    · by_cases hj : i = j
      · subst hj
        rw [List.getElem?_set_self hil] at f1; cases f1; cases m1
      · rw [List.getElem?_set_ne hj] at f1
        exact ⟨.inr ⟨j, s, f1, m1, f2⟩, fun z => hj (W.nd i j a _ s he f1 rfl m1 hsi (by rw [← z]; exact f2))⟩
  have key : ∃ W' : Wd G E σ H, Later W 0 W' ∧ W'.env = W.env.set i (.val (.lst ds)) ∧ W'.n = W.n := by
    refine ⟨{ u := W.u, n := W.n, m := W.m, B := W.B, H0 := W.H0, env := W.env.set i (.val (.lst ds)), ex := W.ex, ug := W.ug, hu := W.hu, hB := W.hB, fr := W.fr, good := W.good, len := by rw [List.length_set]; exact W.len, sl := fun j s e => ?_, nd := fun j l b s t f1 f2 m1 m2 f3 f4 => ?_, exc := W.exc },
      ⟨rfl, rfl, rfl, rfl, rfl, by show W.n ≤ W.n + 0; omega, fun _ _ _ h => h, fun b hb => .inl (xb b hb).1⟩, rfl, rfl⟩
    · by_cases hj : i = j
      · subst hj
        rw [List.getElem?_set_self hil] at e
        cases e
        exact ⟨.ref a, e1, a, xs, rfl, fun z => (xb a z).2 rfl, ha, hl, hd.fewer fun b hb => (xb b hb).1⟩
      · rw [List.getElem?_set_ne hj] at e
        exact (W.sl j s e).fewer fun b hb => (xb b hb).1
    · have old : ∀ {j : Nat} {s : Sl}, (W.env.set i (.val (.lst ds)))[j]? = some s → s.mine = true → W.env[j]? = some s := fun {j s} f m => by
        by_cases hj : i = j
        · subst hj; rw [List.getElem?_set_self hil] at f; cases f; cases m
        · rw [List.getElem?_set_ne hj] at f; exact f
      exact W.nd j l b s t (old f1 m1) (old f2 m2) m1 m2 f3 f4
  obtain ⟨W', lt, we, wn⟩ := key
  refine ⟨W', by rw [lt.m, wn]; exact hn, de, by rw [lt.ex, we]; exact ht, fun σ' H' W2 l2 q => k1 σ' H' W2 ((lt.trans l2).more (by omega)) q, fun v σ2 H' W2 d l2 hd hr => k2 v σ2 H' W2 d ((lt.trans l2).more (by omega)) (by rw [lt.B] at hd; exact hd) hr, fun σ' H' W2 l2 q => k3 σ' H' W2 ((lt.trans l2).more (by omega)) q, fun σ' H' W2 l2 q => k4 σ' H' W2 ((lt.trans l2).more (by omega)) q⟩
theorem lift_own {i : Nat} {W : Wd G E σ H} {ds : List D} {a : Addr} (he : W.env[i]? = some (.own a ds)) : ∃ xs, σ[i]? = some (some (.ref a)) ∧ W.H0 a = none ∧ H a = some (.lst xs) ∧ xs.length ≤ sizeLine ∧ DenL G W.XB H ds xs := by
  obtain ⟨xs, e1, e2, e3, e4, e5⟩ := W.sl i _ he
  exact ⟨xs, join_some e1, e2, e3, e4, e5⟩
theorem own_step {W : Wd G E σ H} {c : Nat} {H1 : Hp} (st : Step W c H1) {i : Nat} {a : Addr} {xs ys : List V} {ds es : List D} (he : W.env[i]? = some (.own a ds)) (hsi : σ[i]? = some (some (.ref a))) (h0 : W.H0 a = none) (hl : ys.length ≤ sizeLine) (hd : DenL G W.XB H1 es ys) :
    ∃ W' : Wd G E σ (L2.upd H1 a (.lst ys)), Later W c W' ∧ W'.env = W.env.set i (.own a es) := by
  have he' : (W.next st).env[i]? = some (.own a ds) := he
  have kp := mut_keep (o1 := .lst ys) (W.next st) he' rfl hsi
  obtain ⟨W', l1, l2, l3⟩ := wd_mut (o1 := .lst ys) (s1 := .own a es) (W.next st) he' rfl hsi rfl ⟨ys, rfl, h0, upd_same, hl, DenL.keep kp (fun b hb => .inl hb) es ys hd⟩
  exact ⟨W', ((Later.next st).trans l1).more (by omega), l2⟩
/-- x.append(e) -/
def sApp (i : Nat) (te : DT) : DS := fun ex de env => ∃ a ds, env[i]? = some (.own a ds) ∧ te ex env fun d => ds.length < sizeLine ∧ de.nx (env.set i (.own a (ds ++ [d])))
theorem ds_app {i : Nat} {x : Str} {e : Expr} {pos p apos cpos : Pos} {c : Nat} {te : DT} (hN : X.N[i]? = some x) (he : DE G E X c e te) (hv : Vis X.env.scope x := by first | exact Or.inl rfl | exact Or.inr (Or.inl rfl) | exact Or.inr (Or.inr rfl)) (hd : (x == ("__debug__" : Str)) = false := by decide) (hcd : (x == ("__classdict__" : Str)) = false := by decide)
    (hbase : attributeBase (.Name x p) "append" X.env (eval (.Name x p) X.env) = eval (.Name x p) X.env := by rfl)
    (hfew : ((backTo cpos (starEach [e] X.env)).all (fun x => !x.1) && (backToKw cpos (keywordEach [] X.env)).all (fun x => x.1.isSome) && decide (([e] : List Expr).length + ([] : List Keyword).length + (if ([] : List Keyword).isEmpty then 0 else 1) < 30)) = true := by rfl)
    (hline : (apos.endLine == cpos.line) = true := by rfl) (hs : starEach [e] X.env = (false, eval e X.env) :: starEach [] X.env := by rfl) (hplain : (backTo cpos (starEach [] X.env)).any (·.1) = false := by rfl)
    (hsw : swapsWith (.Call (.Attribute (.Name x p) "append" apos) [e] [] cpos) none pos.line X.env = pure false := by rfl) : DSt G E X c (.Expr (.Call (.Attribute (.Name x p) "append" apos) [e] [] cpos) pos) (sApp i te) :=
  impS (ps_expr (pe_bm PySem.F.plainAttrs_list PySem.F.slot_list_append PySem.F.type_list_append mt_append (pe_var (i := i) hN hv hd hcd) (pa_cons he pa_nil hs) hbase hfew hline hs hplain) hsw) fun Dn σ H h => by
    obtain ⟨W, hn, de, ⟨a, ds, hei, ht⟩, k1, k2, k3, k4⟩ := h
    obtain ⟨xs, hsi, h0, ha, hl, hds⟩ := lift_own hei
    refine ⟨.ref a, hsi, .inl ⟨rfl, xs, SqL.of ha⟩, W, hn, _, ht, fun v H1 d st hdv ⟨hlt, hq⟩ => ?_⟩
    have el := hds.length
    have ha1 : H1 a = some (.lst xs) := st.ext a _ ha (W.nu h0)
    have hds1 : DenL G W.XB H1 ds xs := hds.ext st.ext W.huX
    obtain ⟨W', l1, l2⟩ := own_step (xs := xs) (ys := xs ++ [v]) (es := ds ++ [d]) st hei hsi h0 (by rw [List.length_append]; show xs.length + 1 ≤ _; omega) (hds1.append ⟨v, [], rfl, hdv, rfl⟩)
    exact ⟨a, xs, v, rfl, rfl, ha1, by omega, k1 σ _ W' l1 (by rw [l2]; exact hq)⟩
end
end Kn
set_option Elab.async false
set_option linter.all false
set_option maxRecDepth 100000
set_option maxHeartbeats 2100000
namespace Kn
open PySem PySem.Spec L2 RZ
open PyProof.Rows (envOfC AllBare IntsAre)
section
variable {P : Program} {w : World} {K : PySem.W.Frag} {mg mb : Str → Option Value} {fa a : Addr} {s₁ : Shared} {vs : List Value} {ns : List Int}
theorem ns_hid {H : Hp} (hdict : ∀ {b : Addr} {o : Obj} {es : Array DictEntry} {ep : Nat}, s₁.heap.get? b = some o → o.data = .dict es ep → H b = none) {b : Addr} {m : Str → Option Value} (h : s₁.heap.Ns b m) : (hidT s₁.heap H).Ns b m := by
  obtain ⟨o, es, ep, e, d, r⟩ := h
  exact ⟨o, es, ep, hidT_get e (hdict e d), d, r⟩
end
end Kn
set_option Elab.async false
set_option linter.all false
set_option maxRecDepth 100000
set_option maxHeartbeats 2100000
namespace Kn
open PySem L2 RZ
open PyProof.Rows (envOfC)
section
variable {G : Gd} {E : XK} {X : Cx} {σ : List (Option V)} {H H' : Hp} {k : Nat}
def gMulW : G2 := gI CMulW fun i j => .int (i * j)
theorem o_mulW : OpR X (binaryOp .Mult) (rD G gMulW) := opr_imp op_mulW fun _ _ _ _ h => rD_I (fun _ _ _ _ => den_int _) h
def PowOk (i j : Int) : Prop := 0 ≤ j ∧ (Builtin.Int.intBits i : Int) * j ≤ 2 ^ 27
theorem op_powW : OpR X (binaryOp .Pow) (rI PowOk fun i j => .int (i ^ j.toNat)) := by
  intro pins s σ H x y v u Q I rx ry h; obtain ⟨i, j, rfl, rfl, hc, q⟩ := h
  obtain ⟨t, rfl⟩ := rx
  obtain ⟨t', rfl⟩ := ry
  exact PyProof.Rows.pow_int hc.1 hc.2 ⟨.int (i ^ j.toNat), H, I.tok _, ⟨_, rfl⟩, q⟩
def gPow : G2 := gI PowOk fun i j => .int (i ^ j.toNat)
theorem o_pow : OpR X (binaryOp .Pow) (rD G gPow) := opr_imp op_powW fun _ _ _ _ h => rD_I (fun _ _ _ _ => den_int _) h
theorem powOk_of {i : Int} {a : Nat} {j : Int} (h : i.natAbs < 2 ^ a) (hj : 0 ≤ j) (hz : (a : Int) * j ≤ 2 ^ 27) : PowOk i j := by
  refine ⟨hj, ?_⟩
  have h1 : Builtin.Int.intBits i ≤ a := PyProof.Rows.intBits_le h
  have h2 : (Builtin.Int.intBits i : Int) ≤ (a : Int) := by exact_mod_cast h1
  exact Int.le_trans (Int.mul_le_mul_of_nonneg_right h2 hj) hz
def gAbs : D → (D → Prop) → Prop := fun d Q => match d with
  | .int i => Q (.int (if i < 0 then -i else i))
  | _ => False
theorem c_abs : CallR X (.builtin "abs") (rDL G (g1 gAbs)) := callr_imp call_abs fun xs H Q' h => by
  obtain ⟨B, d, x, Q, rfl, hd, hf, hg, k⟩ := rDL1 h
  cases d <;> try exact hg.elim
  rename_i i
  cases hd
  exact ⟨i, rfl, k _ H (.int _) (Ext.refl _ _) (den_int _) hg⟩
/-- an item as it is read -/
def D.plain : D → D
  | .at_ _ ds => .lst ds
  | d => d
theorem Den.plain {B : Addr → Prop} {H : Hp} {d : D} {v : V} (h : Den G B H d v) : Den G B H d.plain v := by
  cases d <;> try exact h
  obtain ⟨xs, e, h⟩ := h
  exact ⟨_, xs, e, h⟩
def dOix (i : Nat) (te : DT) : DT := fun ex env Q => ∃ a ds, env[i]? = some (.own a ds) ∧ te ex env fun e => ∃ j d, e = .int j ∧ atI ds j = some d ∧ Q d.plain
theorem de_oix {i : Nat} {x : Str} {b : Expr} {pos p : Pos} {c : Nat} {te : DT} (hN : X.N[i]? = some x) (hb : DE G E X c b te) (hs : PlainIx b) (hv : Vis X.env.scope x := by first | exact Or.inl rfl | exact Or.inr (Or.inl rfl) | exact Or.inr (Or.inr rfl))
    (hd : (x == ("__debug__" : Str)) = false := by decide) (hcd : (x == ("__classdict__" : Str)) = false := by decide) : DE G E X c (.Subscript (.Name x p) b pos) (dOix i te) :=
  imp (pe_ix ix_list (pe_var (i := i) hN hv hd hcd) hb hs) fun σ H Q' h => by
    obtain ⟨W, hn, Q, ⟨a, ds, he, ht⟩, kk⟩ := h
    obtain ⟨xs, hsi, h0, ha, hl, hds⟩ := lift_own he
    refine ⟨.ref a, hsi, W, hn, _, ht, fun v H1 e st hv1 ⟨j, d, e1, hat, hq⟩ => ?_⟩
    subst e1
    have ha1 : H1 a = some (.lst xs) := st.ext a _ ha (W.nu h0)
    obtain ⟨y, hy, hdy⟩ := denL_at (hds.ext st.ext W.huX) hat
    exact ⟨a, xs, j, y, rfl, hv1, SqL.of ha1, hy, kk y H1 d.plain st hdy.plain hq⟩
/-- x[e] = v -/
def sSetIx (i : Nat) (ti te : DT) : DS := fun ex de env => te ex env fun d => ∃ a ds, env[i]? = some (.own a ds) ∧ ti ex env fun e => ∃ j n, e = .int j ∧ ixN ds.length j = some n ∧ de.nx (env.set i (.own a (ds.set n d)))
theorem ds_setIx {i : Nat} {x : Str} {e b : Expr} {pos p p2 : Pos} {c c2 : Nat} {te ti : DT} (hN : X.N[i]? = some x) (he : DE G E X c e te) (hi : DE G E X c2 b ti) (hv : Vis X.env.scope x := by first | exact Or.inl rfl | exact Or.inr (Or.inl rfl) | exact Or.inr (Or.inr rfl))
    (hd : (x == ("__debug__" : Str)) = false := by decide) (hcd
      : (x == ("__classdict__" : Str)) = false := by decide)
    (ha : ∀ v, assign (.Subscript (.Name x p) b p2) X.env v = (do
      let ov ← holding [v] (eval (.Name x p) X.env)
      let iv ← holding [v, ov] (eval b X.env)
      standAt p2
      holding [v, ov, iv]
        (setItem ov iv v)
      release [v, ov, iv] []) := by intro _; rfl)
    (hs : swapsWithSole [.Subscript (.Name x p) b p2] e pos.line X.env = pure false := by rfl) (hw : swappedStores [.Subscript (.Name x p) b p2] e X.env = pure none := by rfl)
    (h1 : (assignEach [.Subscript (.Name x p) b p2] X.env).map (·.2) = [assign (.Subscript (.Name x p) b p2) X.env] := by rfl) : DSt G E X (c + c2) (.Assign [.Subscript (.Name x p) b p2] e pos) (sSetIx i ti te) :=
  impS (ps_asg he (pg_sub (pe_var (i := i) hN hv hd hcd) hi set_list ha) hs hw h1) fun Dn σ H h => by
    obtain ⟨W, hn, de, ht, k1, k2, k3, k4⟩ := h
    refine ⟨W, by omega, _, ht, fun v H1 d st hdv ⟨a, ds, hei, hq⟩ => ?_⟩
    obtain ⟨xs, hsi, h0, ha, hl, hds⟩ := lift_own (W := W.next st) hei
    refine ⟨.ref a, hsi, W.next st, by show W.m + c2 ≤ W.n - c; omega, _, hq, fun v2 H2 e2 st2 hv2 ⟨j, n, e1, hj, hnx⟩ => ?_⟩
    subst e1
    have ha2 : H2 a = some (.lst xs) := st2.ext a _ ha (W.nu h0)
    have el := hds.length
    obtain ⟨W', l1, l2⟩ := own_step (xs := xs) (ys := xs.set n v) (es := ds.set n d) (st.trans st2) (W := W) hei hsi h0 (by rw [List.length_set]; exact hl) ((hds.ext st2.ext (W.next st).huX).set n ((W.next st).den st2 hdv))
    exact ⟨a, xs, j, n, rfl, hv2, ha2, by rw [← el]; exact hj, k1 σ _ W' l1 (by rw [l2]; exact hnx)⟩
/-- what every law's def that draws promises: a number from 0 below many -/
def sDraw : FSpec := fun ds R _ => ∃ many : Int, ds = [.urn, .int many] ∧ 1 ≤ many ∧ many < 1073741824 ∧ ∀ r : Int, 0 ≤ r → r < many → R (.int r)
/-- what the urn's list is to be behind a draw -/
def drawEnds (cells : List Int) (at_ many : Int) (a b : Addr) : DEnds := { nx := fun _ => False, rt := fun d env => ∃ i at2 r2 : Int, d = .int i ∧ 0 ≤ i ∧ i < many ∧ env[0]? = some (.own a [.at_ b (cells.map D.int), .int at2, .int r2]) ∧ 0 ≤ r2 ∧ 0 ≤ at2 ∧ at2 ≤ at_ + 1 }
/-- a def over the urn, by its body over the urn's list as a list of its own -/
theorem draw_of {P : Program} {w : World} {mg : Str → Option Value} {base : Heap} {f : Addr} {x qual : Str} {st : Stmt} {fd : FuncData} {N ps : List Str} {ts : DS} (F : Fun G.K x qual st f fd) (Sc : FnScope N ps (defScope st)) (h2 : ps.length = 2)
    (hder : ∀ (cdv : Value) (A : Around) (outer : List Env) (s : Shared) (H : Hp) (E : XK), Room k (A.deeper (envOfC qual (defScope st) s.heap.objs.size f cdv)) → A.guards = some [] →
      DSs { G with u := none } E (cxOf (L2.CX P w) P w G.K mg base N qual (defScope st) f cdv A outer s H E) 0 (defBody st) ts)
    (hS : ∀ (cells : List Int) (at_ r many : Int) (a b : Addr), cells.length ≤ 63 → 0 ≤ at_ → at_ < atLine → 0 ≤ r → 1 ≤ many → many < 1073741824 →
      ts noX (drawEnds cells at_ many a b)
        (Sl.own a [.at_ b (cells.map D.int), .int at_, .int r] :: Sl.val (.int many) :: List.replicate (N.length - 2) Sl.emp)) : FnD G P w mg base (k + 1) f fd ps 1 sDraw := by
  constructor
  intro A outer s H args us vs Q E hr hgd e0 hb rv hlen hsp
  obtain ⟨u, n, B, ds, R, ex, hug, hc, hu, hB, hg, hd, ⟨many, rfl, hm1, hm2, hR⟩, hq, hx⟩ := hsp
  obtain ⟨xv, yv, rfl, ⟨p, hp, rfl⟩, hy⟩ := denL2 hd
  cases hy
  rw [hug, hp] at hg
  rw [hp] at hug
  subst hug
  obtain ⟨⟨a, b⟩, T⟩ := p
  obtain ⟨⟨cells, at_, r, ha, hbl, hcl, nab, hr0, hat, hatn⟩, hT⟩ := hg
  have hN2 : 2 ≤ N.length := by
    have h1 := congrArg List.length Sc.pre
    rw [List.length_take] at h1
    omega
  obtain ⟨oc, od, kV, doc, pm, an, cdv, ct, osl, rfl, lk, hcd⟩ := F.ex; have KX : G.K.In s.heap := PySem.W.Frag.In.keeps e0.mod.kin (fun b o e => (e0.bs b o e).1)
  have nolim : s.heap.NoLimit := Heap.NoLimit.keeps e0.mod.nolimit (fun b o e => (e0.bs b o e).1)
  have kinds : ∀ y ∈ ps.zip us, (defScope st).names.lookup y.1 = some .local ∨
      ((defScope st).names.lookup y.1 = some .cell ∧ ((cellsFrom (s.heap.objs.size + 1) (defScope st).names []).lookup y.1).isSome = true) := by
    intro y hy
    obtain ⟨n1, v1⟩ := y
    rcases Sc.par n1 (List.of_mem_zip hy).1 with z | z
    · exact .inl z
    · exact .inr ⟨z, PySem.W.cellsFrom_some _ _ _ (.inl z)⟩
  refine codeAny_call_function hr.depth (KX _ _ lk) rfl Sc.co Sc.gen rfl (PySem.W.codeRec_of KX hcd) ?_
  refine hb _ _ _ _ (wpAny_newFunctionEnv_cells Sc.kind kinds ?_)
  intro env he s1 ic
  subst he
  refine ⟨nolim.keeps ic.toInCall.keep, codeAny_func ?_⟩
  have I : Inv (cxOf (L2.CX P w) P w G.K mg base N qual (defScope st) f cdv A outer s H E) [] (L2.start N [.ref a, .int many]) H s1 := inv_start Sc hr.hd e0 hlen rv ic
  let env1 : List Sl := Sl.own a [.at_ b (cells.map D.int), .int at_, .int r] :: Sl.val (.int many) :: List.replicate (N.length - 2) Sl.emp
  have hmine : ∀ {i : Nat} {s : Sl}, env1[i]? = some s → s.mine = true → i = 0 := fun {i s} e hm => by
    match i with
    | 0 => rfl
    | 1 => have e' : some (Sl.val (.int many)) = some s := e; cases e'; cases hm
    | i + 2 =>
      have e' : (List.replicate (N.length - 2) Sl.emp)[i]? = some s := e
      rw [List.getElem?_replicate] at e'
      split at e'
      · cases e'; cases hm
      · cases e'
  have st0 : (L2.start N [.ref a, .int many])[0]? = some (some (.ref a)) := start_get (i := 0) rfl
  have xb : ∀ c, XBof (fun x => B x ∧ x ≠ a ∧ x ≠ b) env1 (L2.start N [.ref a, .int many]) c → (B c ∧ c ≠ a ∧ c ≠ b) ∨ c = a := fun c hc => by
    rcases hc with hc | ⟨j, s, e1, m1, e2⟩
    · exact .inl hc
    · have z := hmine e1 m1
      subst z
      rw [st0] at e2
      cases e2
      exact .inr rfl
  have key : ∃ W : Wd { G with u := none } E (L2.start N [.ref a, .int many]) H, W.m + 0 ≤ W.n ∧ W.u = none ∧ W.B = (fun x => B x ∧ x ≠ a ∧ x ≠ b) ∧ W.H0 = (fun x => if x = a then none else H x) ∧ W.env = env1 ∧ W.ex = noX := by
    refine ⟨{ u := none, n := 0, m := 0, B := fun x => B x ∧ x ≠ a ∧ x ≠ b, H0 := fun x => if x = a then none else H x, env := env1, ex := noX, ug := rfl, hu := fun p e => e.none.elim, hB := fun x hx => ?_, fr := fun x o e _ => ?_, good := trivial, len := ?_, sl := fun i s e => ?_, nd := fun i j c s t e1 e2 m1 m2 _ _ => ?_, exc := fun _ _ _ _ _ _ _ z => z.elim }, Nat.le_refl _, rfl, rfl, rfl, rfl, rfl⟩
    · show (if x = a then none else H x) ≠ none
      rw [if_neg hx.2.1]
      exact hB x hx.1
    · have e : (if x = a then none else H x) = some o := e
      by_cases hxa : x = a
      · rw [if_pos hxa] at e; cases e
      · rw [if_neg hxa] at e; exact e
    · show (List.replicate (N.length - 2) Sl.emp).length + 1 + 1 = _
      unfold L2.start
      simp only [List.length_append, List.length_map, List.length_replicate, List.length_cons, List.length_nil]
      omega
    · match i with
      | 0 =>
        have e' : some (Sl.own a [.at_ b (cells.map D.int), .int at_, .int r]) = some s := e
        cases e'
        refine ⟨_, by rw [st0]; rfl, if_pos rfl, ha, by rw [sizeLine_eq]; show (3 : Nat) ≤ 16777216; omega, ?_⟩
        refine ⟨_, _, rfl, ⟨_, rfl, fun z => ?_, hbl, by rw [List.length_map, sizeLine_eq]; omega, DenL.of_ints⟩, _, _, rfl, rfl, _, _, rfl, rfl, rfl⟩
        rcases xb b z with z | z
        · exact z.2.2 rfl
        · exact nab z.symm
      | 1 =>
        have e' : some (Sl.val (.int many)) = some s := e
        cases e'
        exact ⟨.int many, by rw [start_get (i := 1) (v := .int many) rfl]; rfl, rfl⟩
      | i + 2 =>
        have e' : (List.replicate (N.length - 2) Sl.emp)[i]? = some s := e
        rw [List.getElem?_replicate] at e'
        split at e'
        · cases e'; trivial
        · cases e'
    · rw [hmine e1 m1, hmine e2 m2]
  obtain ⟨W, wn, wu, wB, wH, we, wx⟩ := key
  have body := (hder cdv A outer s H E (hr.deeper _) hgd).run [] s1 (L2.start N [.ref a, .int many]) H { nx := fun _ H' => Q .non H', rt := Q } I (by
    have hts := hS cells at_ r many a b hcl hat (by omega) hr0 hm1 hm2
    refine ⟨W, wn, drawEnds cells at_ many a b, by rw [we, wx]; exact hts, fun σ' H' W' lt z => z.elim, ?_, fun σ' H' W' lt z => z.elim, fun σ' H' W' lt z => z.elim⟩
    rintro v σ' H' W' d lt hd' ⟨i, at2, r2, rfl, hi0, hi1, h0, hr2, ha2, ha3⟩
    cases hd'
    obtain ⟨xs, e1, e2, e3, e4, ⟨x1, y1, rfl, ⟨zs, rfl, nb2, hb2, _, dz⟩, x2, y2, rfl, hx2, x3, y3, rfl, hx3, hy3⟩⟩ := W'.sl 0 _ h0
    cases hx2; cases hx3; cases hy3
    have ez := dz.ints
    subst ez
    have fr : ∀ c o, H c = some o → c ≠ a → H' c = some o := fun c o e nc => by
      have z := W'.fr c o (by rw [lt.H0, wH]; show (if c = a then none else H c) = some o; rw [if_neg nc]; exact e)
      rw [lt.u, wu] at z
      exact z NU.none
    have hb3 := fr b _ hbl (Ne.symm nab)
    refine hq (.int i) H' (.int i) (fun c o e nc => fr c o e (fun z => nc (a, b) ⟨_, rfl, .inl rfl⟩ z.symm)) ?_ rfl (hR i hi0 hi1)
    refine ⟨⟨cells, at2, r2, e3, hb2, hcl, nab, hr2, ha2, by omega⟩, fun t ht => ?_⟩
    obtain ⟨ps', t1, t2, t3⟩ := hT t ht
    refine ⟨ps', fr _ _ t1 (fun z => by rw [z, ha] at t1; cases t1), t2, fun pos cv hcv => ?_⟩
    obtain ⟨c, c1, c2⟩ := t3 pos cv hcv
    exact ⟨c, c1, fr c _ c2 (fun z => by rw [z, ha] at c2; cases c2)⟩)
  refine wpAny_mono body ?_ (fun e s' hs => hs)
  intro fl s' hfl
  cases fl with
  | next => obtain ⟨σ', H', J, q⟩ := hfl; exact ⟨.non, H', J.os, J.bare, J.base, J.hok, rfl, q⟩
  | ret v' => obtain ⟨v, σ', H', J, r1, q⟩ := hfl; exact ⟨v, H', J.os, J.bare, J.base, J.hok, r1, q⟩
  | brk => obtain ⟨σ', H', J, q⟩ := hfl; exact q.elim
  | cont => obtain ⟨σ', H', J, q⟩ := hfl; exact q.elim
end
end Kn
set_option Elab.async false
set_option linter.all false
set_option maxRecDepth 100000
set_option maxHeartbeats 2100000
namespace Kn
open PySem L2 RZ
open PyProof.Rows (envOfC)
section
variable {G : Gd} {E : XK} {X : Cx} {σ : List (Option V)} {H H' : Hp} {j k : Nat}
variable {P : Program} {w : World} {mg : Str → Option Value} {base : Heap}
/-- within a def's own body -/
theorem xk_def {N : List Str} {qual : Str} {scope : Scope} {f : Addr} {cd : Value} {A : Around} {outer : List Env} {s : Shared} {H : Hp} (hr : Room k (A.deeper (envOfC qual scope s.heap.objs.size f cd))) (hg : A.guards = some []) :
    Xk G E k (cxOf (L2.CX P w) P w G.K mg base N qual scope f cd A outer s H E) where
  K := rfl
  room := hr
  gd := hg
  pass := passes_call (W := fun cls d _ H => E cls d H) (takes_of rfl rfl rfl rfl) fun _ _ _ _ h => h
  calm := rfl
  tk := takes_of rfl rfl rfl rfl
/-- within a comprehension -/
theorem Xk.blk (xk : Xk G E k X) (s : Shared) (H : Hp) (scope : Scope) (cenv : Env) (fp : List Addr) : Xk G E0 k (X.blk s H scope cenv fp) where
  K := xk.K
  room := xk.room
  gd := xk.gd
  pass := passL
  calm := xk.calm
  tk := fun _ _ ⟨_, _, _, _, _, _, _, _, _, _, _, _, _, _, _, _, z⟩ => z.elim
theorem po_def {N : List Str} {qual : Str} {scope : Scope} {f : Addr} {cd : Value} {A : Around} {outer : List Env} {s : Shared} {H : Hp} :
    PassesOwn (model (cxOf (L2.CX P w) P w G.K mg base N qual scope f cd A outer s H E).prog (cxOf (L2.CX P w) P w G.K mg base N qual scope f cd A outer s H E).w) (cxOf (L2.CX P w) P w G.K mg base N qual scope f cd A outer s H E).A
      (cxOf (L2.CX P w) P w G.K mg base N qual scope f cd A outer s H E).env (cxOf (L2.CX P w) P w G.K mg base N qual scope f cd A outer s H E).xe := passes_of rfl
theorem FnD.more {f : Addr} {fd : FuncData} {ps : List Str} {c c' : Nat} {S : FSpec} (F : FnD G P w mg base k f fd ps c S) (h : c ≤ c') : FnD G P w mg base k f fd ps c' S := by
  constructor
  intro A outer s H args us vs Q E hr hg e0 hb rv hl hs
  obtain ⟨u, n, B, ds, R, ex, hug, hc, hu, hB, hgd, hd, hs, hq, hx⟩ := hs
  exact F.run A outer s H args us vs Q E hr hg e0 hb rv hl ⟨u, n, B, ds, R, ex, hug, by omega, hu, hB, hgd, hd, hs, fun v H' d e g => hq v H' d e (g.less (by omega)), fun x C d H' e g => hx x C d H' e (g.less (by omega))⟩
theorem InitD.more {f : Addr} {fd : FuncData} {ps : List Str} {c c' cid : Nat} {S : FSpec} (F : InitD G P w mg base k f fd ps c cid S) (h : c ≤ c') : InitD G P w mg base k f fd ps c' cid S := by
  constructor
  intro A outer s H args us vs Q E hr hg e0 hb rv hl hs
  obtain ⟨u, n, B, ds, R, ex, x, dx, vs', hug, h1, h2, h3, h4, h5, h6, hc, hu, hB, hgd, hd, hs, hq, hx⟩ := hs
  exact F.run A outer s H args us vs Q E hr hg e0 hb rv hl ⟨u, n, B, ds, R, ex, x, dx, vs', hug, h1, h2, h3, h4, h5, h6, by omega, hu, hB, hgd, hd, hs, fun H' xs ds' e g => hq H' xs ds' e (g.less (by omega)), fun y C d H' e g => hx y C d H' e (g.less (by omega))⟩
/-- a weaker promise -/
theorem FnD.imp {f : Addr} {fd : FuncData} {ps : List Str} {c : Nat} {S S' : FSpec} (F : FnD G P w mg base k f fd ps c S) (h : ∀ ds R ex, S' ds R ex → S ds R ex) : FnD G P w mg base k f fd ps c S' := by
  constructor
  intro A outer s H args us vs Q E hr hg e0 hb rv hl hs
  obtain ⟨u, n, B, ds, R, ex, hug, hc, hu, hB, hgd, hd, hs, hq, hx⟩ := hs
  exact F.run A outer s H args us vs Q E hr hg e0 hb rv hl ⟨u, n, B, ds, R, ex, hug, hc, hu, hB, hgd, hd, h _ _ _ hs, hq, hx⟩
/-- a def as its callers know it -/
theorem Fk.of {f : Addr} {fd : FuncData} {x : Str} {ps : List Str} {c : Nat} {S : FSpec} (F : FnD G P w mg base k f fd ps c S) (hm : mg x = some (.ref f)) (hk : PySem.W.keepIn G.K (.ref f) = true) (hb : Binds G.K fd ps []) : Fk G P w mg base k x ps c S := ⟨f, fd, F, hm, hk, hb⟩
end
end Kn
set_option Elab.async false
set_option linter.all false
set_option maxRecDepth 100000
set_option maxHeartbeats 2100000
namespace Kn
open PySem L2 RZ
open PyProof.Rows (envOfC)
section
variable {G : Gd} {E : XK} {X : Cx} {σ : List (Option V)} {H H' : Hp} {k : Nat}
theorem de_one {op : BoolOp} {a : Expr} {pos : Pos} {c : Nat} {t : DT} (h : DE G E X c a t) : DE G E X c (.BoolOp op [a] pos) t := pe_one h
def dNeg (ta : DT) : DT := fun ex env Q => ta ex env fun d => ∃ i : Int, d = .int i ∧ Q (.int (-i))
theorem de_neg {a : Expr} {pos : Pos} {c : Nat} {ta : DT} (ha : DE G E X c a ta) : DE G E X c (.UnaryOp .USub a pos) (dNeg ta) := imp (pe_un un_neg ha) fun σ H Q' h => by
  obtain ⟨W, hn, Q, ht, kk⟩ := h
  refine ⟨W, hn, _, ht, fun v H1 d st hd ⟨i, e, hq⟩ => ?_⟩
  subst e
  cases hd
  exact ⟨i, rfl, kk _ H1 (.int (-i)) st (den_int _) hq⟩
/-- a built-in type by its name -/
theorem den_opq {B : Addr → Prop} {H : Hp} (v : V) : Den G B H (.opq v) v := rfl
theorem de_tyn {x : Str} {n : String} {pos : Pos} (hm : X.mg x = none) (hg : Gl X x := by rfl) (hv : bootBuiltins x = some (.type n) := by decide +kernel) (hn : x ≠ "__name__" := by decide) (hd : (x == ("__debug__" : Str)) = false := by decide) : DE G E X 0 (.Name x pos) (dC (.opq (.ty n))) :=
  imp (pe_bltn (v := .ty n) hg hm hv rfl hn hd) fun _ _ _ h => lift_c (fun _ _ => den_opq _) h
/-- a class, a def of the module by its name -/
theorem de_ref {x : Str} {a : Addr} {pos : Pos} (hm : X.mg x = some (.ref a)) (hg : Gl X x := by rfl) (hd : (x == ("__debug__" : Str)) = false := by decide) : DE G E X 0 (.Name x pos) (dC (.opq (.ref a))) :=
  imp (pe_glob (v := .ref a) hg hm rfl hd) fun _ _ _ h => lift_c (fun _ _ => den_opq _) h
/-- an int of the module -/
theorem de_gint {x : Str} {i : Int} {pos : Pos} (hm : ∃ t, X.mg x = some (.int i t)) (hg : Gl X x := by rfl) (hd : (x == ("__debug__" : Str)) = false := by decide) : DE G E X 0 (.Name x pos) (dC (.int i)) := by
  obtain ⟨t, hm⟩ := hm
  exact imp (pe_glob (v := .int i) hg hm ⟨t, rfl⟩ hd) fun _ _ _ h => lift_c (fun _ _ => den_int i) h
def kindS : D → Option String
  | .non => some "NoneType"
  | .bl _ => some "bool"
  | .int _ => some "int"
  | .str _ => some "str"
  | .lst _ => some "list"
  | .tup _ => some "tuple"
  | .dic _ _ => some "dict"
  | _ => none
def isB (d : D) (T : String) : Option Bool := (kindS d).bind fun s => kitB s T
theorem Den.tyx {B : Addr → Prop} {d : D} {v : V} {s : String} (h : Den G B H d v) (e : kindS d = some s) : TyX G.K H v (.type s) := by
  cases d with
  | non => cases e; cases h; exact .base .non
  | bl b => cases e; cases h; exact .base (.bl b)
  | int i => cases e; cases h; exact .base (.int i)
  | str x => cases e; cases h; exact .base (.str x)
  | lst ds => cases e; obtain ⟨a, xs, rfl, _, ha, _⟩ := h; exact .base (.lst ha)
  | tup ds =>
    cases e
    obtain ⟨a, xs, rfl, _, ha, _⟩ := h
    rcases ha with (ha | ⟨o, ha⟩) | ⟨o, _, _, hk, hc, _⟩
    · exact .base (.tup ha)
    · exact .fTuple ha
    · exact .kTuple hk hc
  | ins c ds => cases e
  | opq w => cases e
  | urn => cases e
  | at_ a ds => cases e
  | dct ks ds => cases e
  | tupn ds => cases e
  | exc c ds => cases e
  | dic ks ds => cases e; obtain ⟨a, kvs, rfl, _, ha, _⟩ := h; exact .base (.dK ha)
  | dcT ks ds => cases e
  | dcf _ _ => cases e
/-- isinstance(x, T), T a built-in type -/
def gIsi : G2 := fun d c Q => ∃ T b, c = .opq (.ty T) ∧ isB d T = some b ∧ Q (.bl b)
theorem c_isi (hK : X.K = G.K) : CallR X (.builtin "isinstance") (rDL G (g2 gIsi)) := callr_imp call_isi fun xs H Q' h => by
  obtain ⟨B, d, c, x, y, Q, rfl, hd, hc, hf, ⟨T, b, rfl, hb, hq⟩, kk⟩ := rDL2 h
  cases hc
  unfold isB at hb
  cases hk : kindS d with
  | none => rw [hk] at hb; cases hb
  | some s =>
    rw [hk] at hb
    exact ⟨x, .ty T, .type s, .type T, b, rfl, .ty T, by rw [hK]; exact hd.tyx hk, kit_ty hb, kk _ H (.bl b) (Ext.refl _ _) (den_bl b) hq⟩
/-- isinstance(x, (T1, T2, ..)) -/
def anyB (d : D) : List String → Option Bool
  | [] => some false
  | T :: Ts => match isB d T with
    | some true => some true
    | some false => anyB d Ts
    | none => none
theorem any_kit {d : D} {s : String} {K : PySem.W.Frag} (hs : kindS d = some s) : ∀ {Ts : List String} {b : Bool}, anyB d Ts = some b → PySem.W.kitAny K (.type s) (Ts.map Value.type) = some b
  | [], b, h => h
  | T :: Ts, b, h => by
    have e : isB d T = kitB s T := by unfold isB; rw [hs]; rfl
    unfold anyB at h
    rw [e] at h
    show (match PySem.W.kitOne K (.type s) (.type T) with | some true => some true | some false => PySem.W.kitAny K (.type s) (Ts.map Value.type) | none => none) = some b
    cases hk : kitB s T with
    | none =>
      rw [hk] at h; cases h
    | some r =>
      rw [hk] at h
      rw [kit_ty hk]
      cases r with
      | true => exact h
      | false => exact any_kit hs h
theorem any_kind {d : D} : ∀ {Ts : List String} {b : Bool}, Ts ≠ [] → anyB d Ts = some b → ∃ s, kindS d = some s
  | [], _, h, _ => absurd rfl h
  | T :: Ts, b, _, h => by
    unfold anyB isB at h
    cases hk : kindS d with
    | none =>
      rw [hk] at h; cases h
    | some s => exact ⟨s, rfl⟩
theorem paired_ty : ∀ (Ts : List String), Paired ClsV (Ts.map V.ty) (Ts.map Value.type)
  | [] => .nil
  | T :: Ts => .cons (.ty T) (paired_ty Ts)
/-- a tuple that was made in the call: tracked -/
theorem c_isiT (hK : X.K = G.K) : CallR X (.builtin "isinstance") (fun xs H Q' => ∃ (B : Addr → Prop) (d : D) (x : V) (p : Addr) (Ts : List String) (b : Bool) (Q : D → Prop), xs = [x, .ref p] ∧ Den G B H d x ∧ H p = some (.tup (Ts.map V.ty)) ∧ Ts ≠ [] ∧ anyB d Ts = some b ∧ Q (.bl b) ∧ ∀ r H' rd, Ext none H H' → Den G B H' rd r → Q rd → Q' r H') := callr_imp call_isiT fun xs H Q' h => by
  obtain ⟨B, d, x, p, Ts, b, Q, rfl, hd, hp, hne, hb, hq, kk⟩ := h
  obtain ⟨s, hs⟩ := any_kind hne hb
  exact ⟨x, p, _, .type s, _, b, rfl, hp, paired_ty Ts, by rw [hK]; exact hd.tyx hs, any_kit hs hb, kk _ H (.bl b) (Ext.refl _ _) (den_bl b) hq⟩
def dIsiT (Ts : List String) (te : DT) : DT := fun ex env Q => te ex env fun d => ∃ b, anyB d Ts = some b ∧ Q (.bl b)
/-- isinstance(e, (T, ..)): the tuple's names as es -/
theorem de_isiT {e : Expr} {es : List Expr} {p pos p2 : Pos} {x1 c : Nat} {te : DT} {Ts : List String} (hK : X.K = G.K) (hm : X.mg "isinstance" = none) (he : DE G E X c e te) (hes : PA X es (fun σ H Q => Q (Ts.map V.ty) H)) (hne : Ts ≠ []) (hl : Ts.length ≤ 1000) (hg : Gl X "isinstance" := by rfl) (hv : bootBuiltins "isinstance" = some (.builtin "isinstance") := by decide +kernel)
    (hs : starEach [e, .Tuple es x1 p2] X.env = (false, eval e X.env) :: starEach [.Tuple es x1 p2] X.env := by rfl) (hs2 : starEach [.Tuple es x1 p2] X.env = (false, eval (.Tuple es x1 p2) X.env) :: starEach [] X.env := by rfl) (hpl : (backTo pos (starEach [.Tuple es x1 p2] X.env)).any (·.1) = false := by rfl) :
    DE G E X c (.Call (.Name "isinstance" p) [e, .Tuple es x1 p2] [] pos) (dIsiT Ts te) :=
  imp (pe_callB (c_isiT (G := G) hK) hg hm hv (pa_cons he (pa_cons (pe_tup hes) pa_nil hs2) hs) (by decide) (by decide) hs hpl) fun σ H Q' h => by
    obtain ⟨W, hn, Q, ht, kk⟩ := h
    refine ⟨W, hn, _, ht, fun v H1 d st hd ⟨b, hb, hq⟩ => ⟨by rw [List.length_map, sizeLine_eq]; omega, fun q hq0 => ?_⟩⟩
    refine ⟨W.XB, d, v, q, Ts, b, Q, rfl, den_upd hq0 hd, upd_same, hne, hb, hq, fun r H' rd ex hr hq2 => kk r H' rd ((st.new hq0).pure ex) hr hq2⟩
theorem ps_tyn {x : Str} {n : String} {pos : Pos} (hm : X.mg x = none) (hg : Gl X x := by rfl) (hv : bootBuiltins x = some (.type n) := by decide +kernel) (hn : x ≠ "__name__" := by decide) (hd : (x == ("__debug__" : Str)) = false := by decide) : PE X (.Name x pos) (tC (.ty n)) := pe_bltn hg hm hv rfl hn hd
def cutD (xs : List D) (lo hi : Option Int) : List D := (xs.drop (HT.sIx xs.length 0 lo)).take (HT.sIx xs.length xs.length hi - HT.sIx xs.length 0 lo)
theorem denL_cut {B : Addr → Prop} {ds : List D} {xs : List V} {lo hi : Option Int} (h : DenL G B H ds xs) : DenL G B H (cutD ds lo hi) (cutV xs lo hi) := by
  unfold cutD cutV
  rw [h.length]
  exact (h.drop _).take _
def gSl (lo hi : Option Int) : D → (D → Prop) → Prop := fun d Q => match d with
  | .lst ds => Q (.lst (cutD ds lo hi))
  | .tup ds => Q (.tup (cutD ds lo hi))
  | _ => False
abbrev DO := (Exc → Prop) → List Sl → (Option Int → Prop) → Prop
def oNone : DO := fun _ _ Q => Q none
def oSome (te : DT) : DO := fun ex env Q => te ex env fun d => ∃ i : Int, d = .int i ∧ Q (some i)
def liftO (G : Gd) (E : XK) (c : Nat) (t : DO) : TO := fun σ H Q' => ∃ W : Wd G E σ H, W.m + c ≤ W.n ∧ ∃ Q, t W.ex W.env Q ∧ ∀ o H', Step W c H' → Q o → Q' o H'
theorem do_none : PO X none (liftO G E 0 oNone) := ⟨fun pins s σ H Q' I h => po_none.run pins s σ H Q' I (by
  obtain ⟨W, hn, Q, ht, kk⟩ := h
  exact kk none H (Step.refl W) ht)⟩
theorem do_some {e : Expr} {c : Nat} {te : DT} (he : DE G E X c e te) : PO X (some e) (liftO G E c (oSome te)) := ⟨fun pins s σ H Q' I h => (po_some he).run pins s σ H Q' I (by
  obtain ⟨W, hn, Q, ht, kk⟩ := h
  refine ⟨W, hn, _, ht, fun v H1 d st hd ⟨i, e, hq⟩ => ?_⟩
  subst e
  cases hd
  exact ⟨i, rfl, kk (some i) H1 st hq⟩)⟩
def dSl (te : DT) (lo hi : DO) : DT := fun ex env Q => te ex env fun d => lo ex env fun l => hi ex env fun u => gSl l u d Q
theorem sl_any : SlR X (fun x lo hi H Q => rSlL X.K x lo hi H Q ∨ rSlA X.K x lo hi H Q) := SlR.or sl_list sl_tupA
theorem cutD_all {ds : List D} {n : Nat} {lo hi : Option Int} (hn : ds.length = n) (h1 : HT.sIx n 0 lo = 0) (h2 : HT.sIx n n hi = n) : cutD ds lo hi = ds := by
  unfold cutD
  rw [hn, h1, h2, List.drop_zero, Nat.sub_zero, ← hn, List.take_length]
theorem de_sl {e : Expr} {lo hi : Option Expr} {pos p2 : Pos} {c cl ch : Nat} {te : DT} {tl th : DO} (hK : X.K = G.K) (he : DE G E X c e te) (hl : PO X lo (liftO G E cl tl)) (hh : PO X hi (liftO G E ch th)) : DE G E X (c + (cl + ch)) (.Subscript e (.Slice lo hi none p2) pos) (dSl te tl th) :=
  imp (pe_slice sl_any he hl hh) fun σ H Q' h => by
    obtain ⟨W, hn, Q, ht, kk⟩ := h
    refine ⟨W, by omega, _, ht, fun v H1 d st hd hq => ⟨W.next st, by show W.m + cl ≤ W.n - c; omega, _, hq, fun l H2 st2 hq2 => ⟨(W.next st).next st2, by show W.m + ch ≤ W.n - c - cl; omega, _, hq2, fun u H3 st3 hq3 => ?_⟩⟩⟩
    have st13 : Step W (c + (cl + ch)) H3 := st.trans (st2.trans st3)
    have hd3 : Den G W.XB H3 d v := ((W.next st).next st2).den st3 ((W.next st).den st2 hd)
    cases d <;> try exact hq3.elim
    · rename_i ds
      obtain ⟨a, xs, rfl, na, ha, la, da⟩ := hd3
      refine .inl ⟨a, xs, rfl, SqL.of ha, fun p hp => kk _ _ (.lst (cutD ds l u)) (st13.new hp) (den_lst hp ((W.next st13).fresh hp) (Nat.le_trans (cutV_length xs l u) la) (denL_cut da)) hq3⟩
    · rename_i ds
      obtain ⟨a, xs, rfl, na, ha, la, da⟩ := hd3
      have hq4 : Q (.tup (cutD ds l u)) := hq3
      refine .inr ⟨a, xs, rfl, by rw [hK]; exact ha, fun ⟨h1, h2⟩ => ?_, fun _ p hp => kk _ _ (.tup (cutD ds l u)) (st13.new hp) (den_tup hp ((W.next st13).fresh hp) (Nat.le_trans (cutV_length xs l u) la) (denL_cut da)) hq4⟩
      rw [cutD_all da.length h1 h2] at hq4
      exact kk _ H3 (.tup ds) st13 ⟨a, xs, rfl, na, ha, la, da⟩ hq4
end
end Kn
set_option Elab.async false
set_option linter.all false
set_option maxRecDepth 100000
set_option maxHeartbeats 2100000
namespace Kn
open PySem L2 RZ
/-- without a test -/
theorem compL_map {tg : DG} {te : DT} {Q : List D → Prop} {env : List Sl} (f : D → D) : ∀ {ds acc : List D}, (∀ d ∈ ds, ∀ K : D → Prop, K (f d) → tg d env fun env2 => te noX env2 K) → Q (acc ++ ds.map f) → compL tg bYes te Q env ds acc
  | [], acc, _, hq => by
    unfold compL
    simpa using hq
  | d :: ds, acc, h, hq => by
    unfold compL
    refine h d List.mem_cons_self _ ?_
    exact compL_map f (fun e he => h e (List.mem_cons_of_mem _ he)) (by simpa using hq)
/-- a for loop by what holds between two turns -/
theorem sForL_inv {ex : Exc → Prop} {tg : DG} {tb : DS} {de : DEnds} (I : Nat → List Sl → Prop) : ∀ {ds : List D} {env : List Sl} (n : Nat), I n env →
    (∀ (i : Nat) (d : D) (env : List Sl), ds[i]? = some d → I (n + i) env → ∀ nx : List Sl → Prop, (∀ env', I (n + i + 1) env' → nx env') → tg d env fun env2 => tb ex { de with nx := nx, ct := nx, bk := de.nx } env2) →
    (∀ env, I (n + ds.length) env → de.nx env) → sForL ex tg tb de ds env
  | [], env, n, h0, _, hd => by
    unfold sForL
    exact hd env (by simpa using h0)
  | d :: ds, env, n, h0, hs, hd => by
    unfold sForL
    refine hs 0 d env rfl h0 _ fun env' h' => ?_
    refine sForL_inv I (n + 1) h' (fun i d' env'' hi hI nx hn => ?_) (fun env'' hI => hd env'' (by rw [List.length_cons, show n + (ds.length + 1) = n + 1 + ds.length by omega]; exact hI))
    refine hs (i + 1) d' env'' (by simpa using hi) (by rw [show n + (i + 1) = n + 1 + i by omega]; exact hI) nx fun e he => hn e (by rw [show n + 1 + i + 1 = n + (i + 1) + 1 by omega]; exact he)
theorem atI_cons {α : Type} {x : α} {xs : List α} : atI (x :: xs) 0 = some x := by
  have := atI_nat (xs := x :: xs) (j := 0) (v := x) rfl
  simpa using this
end Kn
set_option Elab.async false
set_option linter.all false
set_option maxRecDepth 100000
set_option maxHeartbeats 2100000
namespace Kn
open PySem L2 RZ
def D.isI : D → Bool
  | .int _ => true
  | _ => false
theorem isB_int : ∀ {d : D}, (kindS d).isSome = true → isB d "int" = some (match d with | .int _ => true | .bl _ => true | _ => false)
  | .non, _ => by decide +kernel
  | .bl b, _ => by show kitB "bool" "int" = some true; decide +kernel
  | .int i, _ => by show kitB "int" "int" = some true; decide +kernel
  | .str x, _ => by show kitB "str" "int" = some false; decide +kernel
  | .lst ds, _ => by show kitB "list" "int" = some false; decide +kernel
  | .tup ds, _ => by show kitB "tuple" "int" = some false; decide +kernel
  | .dic ks ds, _ => by show kitB "dict" "int" = some false; decide +kernel
theorem isB_bool : ∀ {d : D}, (kindS d).isSome = true → isB d "bool" = some (match d with | .bl _ => true | _ => false)
  | .non, _ => by decide +kernel
  | .bl b, _ => by show kitB "bool" "bool" = some true; decide +kernel
  | .int i, _ => by show kitB "int" "bool" = some false; decide +kernel
  | .str x, _ => by show kitB "str" "bool" = some false; decide +kernel
  | .lst ds, _ => by show kitB "list" "bool" = some false; decide +kernel
  | .tup ds, _ => by show kitB "tuple" "bool" = some false; decide +kernel
  | .dic ks ds, _ => by show kitB "dict" "bool" = some false; decide +kernel
theorem isB_list : ∀ {d : D}, (kindS d).isSome = true → isB d "list" = some (match d with | .lst _ => true | _ => false)
  | .non, _ => by decide +kernel
  | .bl b, _ => by show kitB "bool" "list" = some false; decide +kernel
  | .int i, _ => by show kitB "int" "list" = some false; decide +kernel
  | .str x, _ => by show kitB "str" "list" = some false; decide +kernel
  | .lst ds, _ => by show kitB "list" "list" = some true; decide +kernel
  | .tup ds, _ => by show kitB "tuple" "list" = some false; decide +kernel
  | .dic ks ds, _ => by show kitB "dict" "list" = some false; decide +kernel
theorem isB_tuple : ∀ {d : D}, (kindS d).isSome = true → isB d "tuple" = some (match d with | .tup _ => true | _ => false)
  | .non, _ => by decide +kernel
  | .bl b, _ => by show kitB "bool" "tuple" = some false; decide +kernel
  | .int i, _ => by show kitB "int" "tuple" = some false; decide +kernel
  | .str x, _ => by show kitB "str" "tuple" = some false; decide +kernel
  | .lst ds, _ => by show kitB "list" "tuple" = some false; decide +kernel
  | .tup ds, _ => by show kitB "tuple" "tuple" = some true; decide +kernel
  | .dic ks ds, _ => by show kitB "dict" "tuple" = some false; decide +kernel
/-- the items of a list or tuple -/
def D.items? : D → Option (List D)
  | .lst ds => some ds
  | .tup ds => some ds
  | _ => none
theorem any_seq : ∀ {d : D}, (kindS d).isSome = true → anyB d ["list", "tuple"] = some d.items?.isSome := fun {d} h => by
  unfold anyB anyB anyB
  rw [isB_list h, isB_tuple h]
  cases d <;> first | rfl | cases h
end Kn
set_option Elab.async false
set_option linter.all false
set_option maxRecDepth 100000
set_option maxHeartbeats 2100000
namespace Kn
open PySem L2 RZ
open PyProof.Rows (envOfC)
section
variable {G : Gd} {E : XK} {X : Cx} {σ : List (Option V)} {H H' : Hp} {k : Nat}
def rInTu (K : PySem.W.Frag) (f : Bool → Bool) : R2 := fun x y H Q => ∃ d ds, Dp K H x d ∧ Dp K H y (.tuple ds) ∧ SeqAt.shaped d = true ∧ SeqAt.shaped (.tuple ds) = true ∧ Q (.bl (f (ds.any fun z => PyData.eqv z d))) H
theorem op_inTu (hu : X.A.units + 65 < cLine) : OpR X (compareOp .In) (rInTu X.K id) := by
  intro pins s σ H x y v u Q I rx ry h; obtain ⟨d, ds, hd, he, sd, se, q⟩ := h
  obtain ⟨as, r1⟩ := Dp.reads I d x v hd rx; obtain ⟨bs, r2⟩ := Dp.reads I (.tuple ds) y u he ry
  exact SeqAt.in_tuple_reads r2 r1 (SeqAt.canLay_of_shaped se) (SeqAt.canLay_of_shaped sd) (PyProof.Rows.room_in_shaped sd hu) ⟨.bl _, H, I, rfl, q⟩
theorem op_niTu (hu : X.A.units + 65 < cLine) : OpR X (compareOp .NotIn) (rInTu X.K not) := by
  intro pins s σ H x y v u Q I rx ry h; obtain ⟨d, ds, hd, he, sd, se, q⟩ := h
  obtain ⟨as, r1⟩ := Dp.reads I d x v hd rx; obtain ⟨bs, r2⟩ := Dp.reads I (.tuple ds) y u he ry
  exact SeqAt.notIn_tuple_reads r2 r1 (SeqAt.canLay_of_shaped se) (SeqAt.canLay_of_shaped sd) (PyProof.Rows.room_in_shaped sd hu) ⟨.bl _, H, I, rfl, q⟩
def gInT : G2 := fun d e Q => ∃ p qs es, e = .tup es ∧ pd d = some p ∧ pdL es = some qs ∧ SeqAt.shaped p = true ∧ SeqAt.shaped (.tuple qs) = true ∧ Q (.bl (qs.any fun z => PyData.eqv z p))
def gNiT : G2 := fun d e Q => ∃ p qs es, e = .tup es ∧ pd d = some p ∧ pdL es = some qs ∧ SeqAt.shaped p = true ∧ SeqAt.shaped (.tuple qs) = true ∧ Q (.bl (!qs.any fun z => PyData.eqv z p))
theorem o_inT (hK : X.K = G.K) (hu : X.A.units + 65 < cLine) : OpR X (compareOp .In) (rD G gInT) := opr_imp (op_inTu hu) fun x y H Q' h => by
  obtain ⟨B, d, e, Q, hd, he, _, ⟨p, qs, es, e0, e1, e2, s1, s2, hq⟩, k⟩ := h
  subst e0
  exact ⟨p, qs, by rw [hK]; exact hd.dp _ _ _ e1, by rw [hK]; exact he.dp _ _ _ (by simp [pd, e2]), s1, s2, k _ H (.bl _) (Ext.refl _ _) (den_bl _) hq⟩
theorem o_niT (hK : X.K = G.K) (hu : X.A.units + 65 < cLine) : OpR X (compareOp .NotIn) (rD G gNiT) := opr_imp (op_niTu hu) fun x y H Q' h => by
  obtain ⟨B, d, e, Q, hd, he, _, ⟨p, qs, es, e0, e1, e2, s1, s2, hq⟩, k⟩ := h
  subst e0
  exact ⟨p, qs, by rw [hK]; exact hd.dp _ _ _ e1, by rw [hK]; exact he.dp _ _ _ (by simp [pd, e2]), s1, s2, k _ H (.bl _) (Ext.refl _ _) (den_bl _) hq⟩
def dRev (te : DT) : DT := fun ex env Q => te ex env fun d => ∃ ds, d = .lst ds ∧ Q (.lst ds.reverse)
theorem DenL.reverse {B : Addr → Prop} {H : Hp} : ∀ {ds : List D} {xs : List V}, DenL G B H ds xs → DenL G B H ds.reverse xs.reverse
  | [], _, h => by cases h; rfl
  | d :: ds, _, ⟨x, r, e, h1, h2⟩ => by
    subst e
    rw [List.reverse_cons, List.reverse_cons]; exact (DenL.reverse h2).append ⟨x, [], rfl, h1, rfl⟩
theorem de_revL {e : Expr} {c : Nat} {te : DT} {kk : Nat} {p1 p2 p3 pos : Pos} (he : DE G E X c e te) : DE G E X c (.Subscript e (.Slice none none (some (.UnaryOp .USub (.Constant (.int 1) kk p1) p2)) p3) pos) (dRev te) :=
  imp (pe_revL he) fun σ H Q' h => by
    obtain ⟨W, hn, Q, ht, kk⟩ := h
    refine ⟨W, hn, _, ht, fun v H1 d st hd ⟨ds, e, hq⟩ => ?_⟩
    subst e
    obtain ⟨a, xs, rfl, na, ha, la, da⟩ := hd
    refine ⟨a, xs, rfl, SqL.of ha, fun p hp => ?_⟩
    exact kk _ _ (.lst ds.reverse) (st.new hp) (den_lst hp ((W.next st).fresh hp) (by rw [List.length_reverse]; exact la) da.reverse) hq
def sPar (i j : Nat) (u : DA) : DS := fun ex de env => u ex env fun ds => ∃ x y, ds = [x, y] ∧ de.nx ((env.set i (.val x)).set j (.val y))
theorem ds_par {i j : Nat} {x y : Str} {a b : Expr} {u : DA} {c : Nat} {px py pt pos : Pos} {kt k2 pt2} (hc : X.calm = true) (hN : X.N.Nodup) (hi : X.N[i]? = some x) (hj : X.N[j]? = some y) (hij : i ≠ j)
    (hx : X.env.scope.names.lookup x = some .local) (hy : X.env.scope.names.lookup y = some .local) (ha : DEs G E X c [a, b] u)
    (hw : swappedStores [.Tuple [.Name x px, .Name y py] kt
      pt] (.Tuple [a, b] k2 pt2) X.env = pure (some [x, y]))
    (hs : swapsWithSole [.Tuple [.Name x px, .Name y py] kt pt] (.Tuple [a, b] k2 pt2) pos.line X.env = pure false := by rfl) : DSt G E X c (.Assign [.Tuple [.Name x px, .Name y py] kt pt] (.Tuple [a, b] k2 pt2) pos) (sPar i j u) :=
  impS (ps_par hc hN hi hj hij hx hy ha hw hs) fun Dn σ H h => by
    obtain ⟨W, hn, de, ht, k1, k2, k3, k4⟩ := h
    refine ⟨W, hn, _, ht, fun vs H1 ds st hd ⟨x, y, e, hq⟩ => ?_⟩
    subst e
    obtain ⟨v, w, rfl, hv, hw⟩ := denL2 hd
    refine ⟨v, w, rfl, ?_⟩
    have hv' : Den G (W.next st).XB H1 x v := hv
    have hw' : Den G ((W.next st).put i hv').XB H1 y w := hw.fewer fun b hb => xb_val (W.next st).len hb
    exact k1 _ H1 (((W.next st).put i hv').put j hw') ((((Later.next st).trans (Later.put _ i hv')).trans (Later.put _ j hw')).more (by omega)) hq
end
end Kn
set_option Elab.async false
set_option linter.all false
set_option maxRecDepth 100000
set_option maxHeartbeats 2100000
namespace Kn
open PySem L2 RZ
open PyProof.Rows (envOfC)
section
variable {G : Gd} {E : XK} {X : Cx} {σ : List (Option V)} {H H' : Hp} {tg tg1 : Expr} {k : Nat}
def compI (tg : DG) (tt : DB) (te : DT) (Q : List D → Prop) (env : List Sl) : List D → List D → Prop
  | [], acc => Q acc
  | d :: ds, acc => tg d env fun env2 => tt noX env2 fun b => if b = true then te noX env2 fun y => acc.length < sizeLine ∧ compI tg tt te Q env ds (acc ++ [y]) else compI tg tt te Q env ds acc
def compL2 (vs1 : List Nat) (tg : DG) (tt : DB) (ti1 : DA) (tg1 : DG) (tt1 : DB) (te : DT) (Q : List D → Prop) (env : List Sl) : List D → List D → Prop
  | [], acc => Q acc
  | d :: ds, acc => tg d env fun env2 => tt noX env2 fun b => if b = true then ti1 noX env2 fun es => compI tg1 tt1 te (fun acc2 => compL2 vs1 tg tt ti1 tg1 tt1 te Q env ds acc2) (inEnv env2 vs1) es acc else compL2 vs1 tg tt ti1 tg1 tt1 te Q env ds acc
def dComp2 (vs vs1 : List Nat) (ti : DA) (tg : DG) (tt : DB) (ti1 : DA) (tg1 : DG) (tt1 : DB) (te : DT) : DT := fun ex env Q => ti ex env fun ds => compL2 vs1 tg tt ti1 tg1 tt1 te (fun rs => Q (.lst rs)) (inEnv env vs) ds []
theorem ext_nb {u : Option Ur} {B : Addr → Prop} {b : Addr} {o : HO} (e : Ext u H H') (hu : ∀ p, Pr u p → B p.1) (nb : ¬ B b) (h : H b = some o) : H' b = some o := e b o h (NU.of hu nb)
/-- the state in which one item of the second clause is made -/
def Wd.inner2 (W : Wd G E0 σ H) (vs : List Nat) (H2 : Hp) (k : ∀ b o, ¬ W.XB b → H b = some o → H2 b = some o) (hB : ∀ a, W.B a → H2 a ≠ none) (hg : Good W.u H2 W.n) : Wd G E0 (wipe σ vs) H2 where
  u := W.u
  n := W.n
  m := W.m
  B := W.B
  H0 := H2
  env := inEnv W.env vs
  ex := fun _ => False
  ug := W.ug
  hu := W.hu
  hB := hB
  fr := Ext.refl _ _
  good := hg
  len := by unfold inEnv; rw [wipeE_len, List.length_map, wipe_length]; exact W.len
  sl := fun i s e => by
    rcases inEnv_get e with z | ⟨hi, s', h1, z⟩
    · subst z; trivial
    · subst z
      have so := W.sl i s' h1
      have ew : (wipe σ vs)[i]? = σ[i]? := by rw [wipe_get, if_neg (fun z => hi z.1)]
      rw [ew]
      cases s' with
      | emp => trivial
      | own a ds => trivial
      | slf a dx c ds => trivial
      | obj a o => trivial
      | dic a ks ds => trivial
      | val d =>
        obtain ⟨x, e1, e2⟩ := so
        exact ⟨x, e1, Den.keep k (fun b hb => .inl (.inl (xb_in hb))) d x e2⟩
  nd := fun i j a s t h1 _ hm => (inEnv_noown h1 hm).elim
  exc := fun _ _ _ _ _ _ _ z => z.elim
/-- no address that counts is free -/
theorem AccAt.free {W : Wd G E σ H} {c : Nat} {H1 H2 : Hp} {D0 : Addr} {n : Nat} {acc : List D} (st : Step W c H1) (A : AccAt G W H1 D0 n H2 acc) {p : Addr} (hp : H2 p = none) : ¬ (W.XB p ∨ p = D0) := fun hb => by
  rcases hb with hb | rfl
  · cases q : H1 p with
    | none => exact (W.next st).fresh q hb
    | some o =>
      rcases NU.em (u := W.u) (b := p) with hu | ⟨r, hr, rfl⟩
      · rw [A.keep p o q hu] at hp; cases hp
      · obtain ⟨⟨_, h1⟩, _⟩ := A.good.there hr
        rw [h1] at hp; cases hp
  · obtain ⟨xs, hxs, _⟩ := A.at_
    rw [hxs] at hp; cases hp
/-- more done beside the list -/
theorem AccAt.step {W : Wd G E σ H} {H1 H2 H3 : Hp} {D0 : Addr} {n : Nat} {acc : List D} (A : AccAt G W H1 D0 n H2 acc) (nu0 : NU W.u D0) (e : Ext W.u H2 H3) (g : Good W.u H3 n) : AccAt G W H1 D0 n H3 acc := by
  obtain ⟨⟨xs, h1, h2, h3⟩, k, _⟩ := A
  exact ⟨⟨xs, e _ _ h1 nu0, h2, h3.ext e fun p z => .inl (W.huX p z)⟩, fun b o hb nu => e _ _ (k b o hb nu) nu, g⟩
/-- one more item -/
theorem AccAt.push {W : Wd G E σ H} {H1 H2 : Hp} {D0 : Addr} {n : Nat} {acc : List D} {d : D} {y : V} {xs : List V} (A : AccAt G W H1 D0 n H2 acc) (hD : H1 D0 = none) (fr0 : ¬ W.XB D0) (hx : H2 D0 = some (.lst xs)) (hy : Den G (fun a => W.XB a ∨ a = D0) H2 d y) (hl : acc.length < sizeLine) :
    xs.length < sizeLine ∧ AccAt G W H1 D0 n (upd H2 D0 (.lst (xs ++ [y]))) (acc ++ [d]) := by
  obtain ⟨⟨xs', h1, h2, h3⟩, k, g⟩ := A
  rw [hx] at h1
  cases h1
  have el := h3.length
  have kk : ∀ b o, ¬ (W.XB b ∨ b = D0) → H2 b = some o → upd H2 D0 (.lst (xs ++ [y])) b = some o := fun b o nb hb => by rw [upd_ne (fun z => nb (.inr z))]; exact hb
  refine ⟨by omega, ⟨xs ++ [y], upd_same, by rw [List.length_append]; show xs.length + 1 ≤ _; omega, (DenL.keep kk (fun b hb => .inl hb) _ _ h3).append ⟨y, [], rfl, Den.keep kk (fun b hb => .inl hb) _ _ hy, rfl⟩⟩, fun b o hb nu => ?_, ?_⟩
  · rw [upd_ne (ne_of_none hb hD)]
    exact k b o hb nu
  · exact g.upd (fun p e => ⟨fun z => fr0 (by rw [show D0 = p.1 from z]; exact W.huX p e), fun z => fr0 (by rw [show D0 = p.2 from z]; exact .inl (W.hu p e).2)⟩) (fun φ z => by rw [hx] at z; cases z)
theorem lift_comp2 {ci : Nat} {ti ti1 : DA} {t t1 : DG} {tt tt1 : DB} {te : DT} {vs sl vs1 sl1 : List Nat} (hsl : ∀ i ∈ sl, i ∈ vs) (hsl1 : ∀ i ∈ sl1, i ∈ vs1) {Q' : VK} (h : lift G E ci (dComp2 vs vs1 ti t tt ti1 t1 tt1 te) σ H Q') :
    tLc2 (liftI G E ci ti) (liftG G E0 sl t) (liftB G E0 0 tt) (liftI G E0 0 ti1) (liftG G E0 sl1 t1) (liftB G E0 0 tt1) (lift G E0 0 te) vs vs1 σ H Q' := by
  obtain ⟨W, hn, Q, ht, kQ⟩ := h
  refine ⟨W, hn, _, ht, fun J H1 ds st wk hq => ?_⟩
  intro D0 hD
  have fr0 : ¬ W.XB D0 := (W.next st).fresh hD
  have nu0 : NU W.u D0 := W.nuX fr0
  refine ⟨fun i m H2 => ∃ acc, AccAt G W H1 D0 (W.n - ci) H2 acc ∧ i ≤ ds.length ∧ m = ds.length - i ∧ compL2 vs1 t tt ti1 t1 tt1 te (fun rs => Q (.lst rs)) (inEnv W.env vs) (ds.drop i) acc,
    ⟨ds.length, [], ⟨⟨[], upd_same, by simp, rfl⟩, fun b o hb _ => by rw [upd_ne (ne_of_none hb hD)]; exact hb, st.good.ext (Ext.new hD)⟩, Nat.zero_le _, rfl, hq⟩, ?_⟩
  rintro i m H2 ⟨acc, A, hi, rfl, hq2⟩
  have keepX : ∀ b o, ¬ W.XB b → H1 b = some o → H2 b = some o := fun b o nb hb => A.keep b o hb (W.nuX nb)
  by_cases hlt : i < ds.length
  case neg =>
    have e : i = ds.length := by omega
    rw [e, List.drop_length] at hq2
    obtain ⟨xs, hxs, hxl, hxd⟩ := A.at_
    exact .inl ⟨wk.stop i H2 keepX (by omega), kQ _ H2 (.lst acc) ⟨fun b o hb nu => A.keep b o (st.ext b o hb nu) nu, A.good⟩ ⟨D0, xs, rfl, fr0, hxs, hxl, hxd.fewer fun b z => .inl z⟩ hq2⟩
  obtain ⟨go, yl⟩ := wk.go i H2 (fun a => W.XB a ∨ a = D0) keepX (fun b hb => by
    rcases hb with hb | rfl
    · exact .inl hb
    · exact .inr hD) (fun p hp => A.free st hp) hlt
  refine .inr ⟨go, fun H5 => ∃ acc2, AccAt G W H1 D0 (W.n - ci) H5 acc2 ∧ compL2 vs1 t tt ti1 t1 tt1 te (fun rs => Q (.lst rs)) (inEnv W.env vs) (ds.drop (i + 1)) acc2,
    fun H5 ⟨acc2, a2, q2⟩ => ⟨ds.length - (i + 1), by omega, acc2, a2, hlt, rfl, q2⟩, fun x H3 hy => ?_⟩
  obtain ⟨ex2, d, hd, hden⟩ := yl x H3 hy
  rw [drop_cons hd] at hq2
  have A3 : AccAt G W H1 D0 (W.n - ci) H3 acc := A.step nu0 ex2.weak (A.good.ext ex2)
  obtain ⟨xs3, hxs3, _, _⟩ := A3.at_
  let W3 : Wd G E0 (wipe σ vs) H3 := W.inner st vs D0 H3 (W.n - ci) hD (by rw [hxs3]; simp) A3.keep A3.good
  have hden3 : Den G W3.XB H3 d x := hden.fewer fun b hb => xb_in hb
  refine ⟨W3, d, _, hden3, hq2, fun σ4 W4 al hsl4 hq4 => ⟨wipe_same hsl hsl4.1 (by rw [hsl4.2, wipe_length]), ?_⟩⟩
  have l4 := al.later
  have n4 : W4.n = W.n - ci := al.n
  have m4 : W4.m = W.m := l4.m
  have u4 : W4.u = W.u := l4.u
  have b4 : ∀ a, (W.XB a ∨ a = D0) → W4.B a := fun a ha => by rw [l4.B]; exact ha
  have b4' : ∀ a, W4.B a → (W.XB a ∨ a = D0) := fun a ha => by rw [l4.B] at ha; exact ha
  refine ⟨W4, by rw [n4, m4]; omega, _, by rw [l4.ex]; exact hq4, fun b H5 st5 hb => ?_⟩
  have e5 : Ext W.u H3 H5 := by have z := st5.ext; rw [u4] at z; exact z
  have g5 : Good W.u H5 (W.n - ci) := by have z := st5.good; rw [u4, n4] at z; exact z
  have A5 := A3.step nu0 e5 g5
  cases b with
  | false => exact ⟨acc, A5, hb⟩
  | true =>
    refine ⟨W4.next st5, by show W4.m + 0 ≤ W4.n - 0; rw [n4, m4]; omega, _, by rw [show (W4.next st5).ex = noX from l4.ex]; exact hb, fun J1 H6 es st6 wk1 hq6 => ?_⟩
    let W6 := (W4.next st5).next st6
    have e6 : Ext W.u H5 H6 := by have z := st6.ext; rw [show (W4.next st5).u = W.u from u4] at z; exact z
    have n6 : W6.n = W.n - ci := by show W4.n - 0 - 0 = _; rw [n4]; rfl
    have u6 : W6.u = W.u := u4
    have g6 : Good W.u H6 (W.n - ci) := by have z := W6.good; rw [u6, n6] at z; exact z
    have A6 := A5.step nu0 e6 g6
    refine ⟨fun j kk H7 => ∃ acc2, AccAt G W H1 D0 (W.n - ci) H7 acc2 ∧ (∀ b o, ¬ W6.XB b → H6 b = some o → H7 b = some o) ∧ j ≤ es.length ∧ kk = es.length - j ∧ compI t1 tt1 te (fun acc2 => compL2 vs1 t tt ti1 t1 tt1 te (fun rs => Q (.lst rs)) (inEnv W.env vs) (ds.drop (i + 1)) acc2) (inEnv W4.env vs1) (es.drop j) acc2,
      ⟨es.length, acc, A6, fun _ _ _ h => h, Nat.zero_le _, rfl, hq6⟩, ?_⟩
    rintro j m7 H7 ⟨acc2, A7, k7, hj, rfl, hq7⟩
    by_cases hlt2 : j < es.length
    case neg =>
      have e : j = es.length := by omega
      rw [e, List.drop_length] at hq7
      exact .inl ⟨wk1.stop j H7 k7 (by omega), acc2, A7, hq7⟩
    obtain ⟨go1, yl1⟩ := wk1.go j H7 (fun a => W.XB a ∨ a = D0) k7 (fun b hb => .inl (.inl (b4 b hb))) (fun p hp => A7.free st hp) hlt2
    refine .inr ⟨go1, fun H5 => ∃ acc3, AccAt G W H1 D0 (W.n - ci) H5 acc3 ∧ (∀ b o, ¬ W6.XB b → H6 b = some o → H5 b = some o) ∧ compI t1 tt1 te (fun acc2 => compL2 vs1 t tt ti1 t1 tt1 te (fun rs => Q (.lst rs)) (inEnv W.env vs) (ds.drop (i + 1)) acc2) (inEnv W4.env vs1) (es.drop (j + 1)) acc3,
      fun H5 ⟨acc3, a3, k3, q3⟩ => ⟨es.length - (j + 1), by omega, acc3, a3, k3, hlt2, rfl, q3⟩, fun x1 H8 hy1 => ?_⟩
    obtain ⟨ex8, d1, hd1, hden1⟩ := yl1 x1 H8 hy1
    rw [drop_cons hd1] at hq7
    have A8 : AccAt G W H1 D0 (W.n - ci) H8 acc2 := A7.step nu0 ex8.weak (A7.good.ext ex8)
    have k8 : ∀ b o, ¬ W6.XB b → H6 b = some o → H8 b = some o := fun b o nb hb => ex8 _ _ (k7 b o nb hb) NU.none
    have W8h : ∃ W8 : Wd G E0 (wipe σ4 vs1) H8, W8.n = W.n - ci ∧ W8.m = W.m ∧ W8.u = W.u ∧ W8.B = W4.B ∧ W8.env = inEnv W4.env vs1 ∧ W8.ex = noX :=
      ⟨W6.inner2 vs1 H8 k8 (fun a ha z => A8.free st z (b4' a ha)) (by rw [u6, n6]; exact A8.good), n6, m4, u6, rfl, rfl, rfl⟩
    obtain ⟨W8, n8, m8, u8, b8, v8, x8⟩ := W8h
    have hden8 : Den G W8.XB H8 d1 x1 := hden1.fewer fun b hb => by
      have z : XBof W8.B (inEnv W4.env vs1) (wipe σ4 vs1) b := by rw [← v8]; exact hb
      exact b4' b (by rw [← b8]; exact xb_in z)
    refine ⟨W8, d1, _, hden8, by rw [v8]; exact hq7, fun σ9 W9 al9 hsl9 hq9 => ⟨wipe_same hsl1 hsl9.1 (by rw [hsl9.2, wipe_length]), ?_⟩⟩
    have l9 := al9.later
    have n9 : W9.n = W.n - ci := al9.n.trans n8
    have m9 : W9.m = W.m := l9.m.trans m8
    have u9 : W9.u = W.u := l9.u.trans u8
    have b9 : ∀ a, (W.XB a ∨ a = D0) → W9.B a := fun a ha => by rw [l9.B, b8]; exact b4 a ha
    have hu6 : ∀ p, Pr W.u p → W6.XB p.1 := fun p e => .inl (b4 _ (.inl (W.huX p e)))
    refine ⟨W9, by rw [n9, m9]; omega, _, by rw [l9.ex, x8]; exact hq9, fun b1 H10 st10 hb1 => ?_⟩
    have e10 : Ext W.u H8 H10 := by have z := st10.ext; rw [u9] at z; exact z
    have g10 : Good W.u H10 (W.n - ci) := by have z := st10.good; rw [u9, n9] at z; exact z
    have A10 := A8.step nu0 e10 g10
    have k10 : ∀ b o, ¬ W6.XB b → H6 b = some o → H10 b = some o := fun b o nb hb => ext_nb e10 hu6 nb (k8 b o nb hb)
    cases b1 with
    | false => exact ⟨acc2, A10, k10, hb1⟩
    | true =>
      refine ⟨W9.next st10, by show W9.m + 0 ≤ W9.n - 0; rw [n9, m9]; omega, _, by rw [show (W9.next st10).ex = noX from l9.ex.trans x8]; exact hb1, fun y H11 dy st11 hy11 hq11 => ?_⟩
      have e11 : Ext W.u H10 H11 := by have z := st11.ext; rw [show (W9.next st10).u = W.u from u9] at z; exact z
      have g11 : Good W.u H11 (W.n - ci) := by have z := st11.good; rw [show (W9.next st10).u = W.u from u9, show (W9.next st10).n = W9.n - 0 from rfl, n9] at z; exact z
      have A11 := A10.step nu0 e11 g11
      obtain ⟨xs, hxs, _, _⟩ := A11.at_
      obtain ⟨p1, p2⟩ := A11.push hD fr0 hxs (hy11.fewer fun b hb => .inl (b9 b hb)) hq11.1
      refine ⟨xs, hxs, p1, _, p2, fun b o nb hb => ?_, hq11.2⟩
      rw [upd_ne (fun z => nb (.inl (b4 b (.inr z))))]
      exact ext_nb e11 hu6 nb (k10 b o nb hb)
theorem ds_setComp2 {i : Nat} {y : Str} {py : Pos} {elt iter iter1 : Expr} {ifs ifs1 : List Expr} {scope : Scope} {own : List (Str × Nat)} {vs1 : List Nat} {pos spos : Pos} {ci : Nat} {ti ti1 : DA} {t t1 : DG} {tt tt1 : DB} {te : DT} {sl sl1 : List Nat} (xk : Xk G E k X) (hN : X.N.Nodup) (hy : X.N[i]? = some y) (hyl : X.env.scope.names.lookup y = some .local)
    (hsw : swapsWith (.ListComp elt [⟨tg, iter, ifs, 0⟩, ⟨tg1, iter1, ifs1, 0⟩] scope pos) (some (.Name y py)) spos.line X.env = pure true) (hi : DI G E X tg ci iter ti) (ok : BlkOk X.N X.env.scope scope own) (hv : ∀ i ∈ vs1, i ∈ own.map (·.2))
    (hg : ∀ (s : Shared) (H : Hp) (C : Addr) (cl : List (Str × Addr)) (fp : List Addr), DTg G E0 (X.blk s H scope (compEnvC scope cl C X.env) fp) tg sl t) (ht : ∀ (s : Shared) (H : Hp) (C : Addr) (cl : List (Str × Addr)) (fp : List Addr), DTs G (X.blk s H scope (compEnvC scope cl C X.env) fp) 0 ifs tt)
    (hi1 : ∀ (s : Shared) (H : Hp) (C : Addr) (cl : List (Str × Addr)) (fp : List Addr), DI G E0 (X.blk s H scope (compEnvC scope cl C X.env) fp) tg1 0 iter1 ti1)
    (hg1 : ∀ (s : Shared) (H : Hp) (C : Addr) (cl : List (Str × Addr)) (fp : List Addr), DTg G E0 (X.blk s H scope (compEnvC scope cl C X.env) fp) tg1 sl1 t1) (ht1 : ∀ (s : Shared) (H : Hp) (C : Addr) (cl : List (Str × Addr)) (fp : List Addr), DTs G (X.blk s H scope (compEnvC scope cl C X.env) fp) 0 ifs1 tt1)
    (he : ∀ (s : Shared) (H : Hp) (C : Addr) (cl : List (Str × Addr)) (fp : List Addr), DE G E0 (X.blk s H scope (compEnvC scope cl C X.env) fp) 0 elt te) (hsl : ∀ i ∈ sl, i ∈ own.map (·.2)) (hsl1 : ∀ i ∈ sl1, i ∈ vs1) (hs : ∀ x, foldedSetIterable iter X.env x = pure x := by intro _; rfl) (hs1 : ∀ env x, foldedSetIterable iter1 env x = pure x := by intro _ _; rfl) :
    DSt G E X ci (.Assign [.Name y py] (.ListComp elt [⟨tg, iter, ifs, 0⟩, ⟨tg1, iter1, ifs1, 0⟩] scope pos) spos) (sSet i (dComp2 (own.map (·.2)) vs1 ti t tt ti1 t1 tt1 te)) :=
  impS (ps_setLc2 xk.calm hN hy hyl hsw hi ok hv hg ht hi1 hg1 ht1 he hs hs1) fun Dn σ H h => by
    obtain ⟨W, hn, de, hq, k1, k2, k3, k4⟩ := h
    refine lift_comp2 (Q' := fun v H' => gName i v σ H' Dn.nx) hsl hsl1 ⟨W, hn, _, hq, fun v H' d st hd hr => ?_⟩
    have hd' : Den G (W.next st).XB H' d v := hd
    exact k1 _ H' ((W.next st).put i hd') (((Later.next st).trans (Later.put _ i hd')).more (by omega)) hr
/-- two clauses without tests: what comes of known items -/
theorem compI_map {tg : DG} {te : DT} {Q : List D → Prop} {env : List Sl} (f : D → D) : ∀ {ds acc : List D}, acc.length + ds.length ≤ sizeLine → (∀ d ∈ ds, ∀ K : D → Prop, K (f d) → tg d env fun env2 => te noX env2 K) → Q (acc ++ ds.map f) → compI tg bYes te Q env ds acc
  | [], acc, _, _, hq => by
    unfold compI
    simpa using hq
  | d :: ds, acc, hl, h, hq => by
    unfold compI
    simp only [List.length_cons] at hl
    refine h d List.mem_cons_self _ ⟨by omega, ?_⟩
    exact compI_map f (by rw [List.length_append]; show acc.length + 1 + _ ≤ _; omega) (fun e he => h e (List.mem_cons_of_mem _ he)) (by simpa using hq)
theorem compL2_map {tg tg1 : DG} {te : DT} {ti1 : DA} {vs1 : List Nat} {Q : List D → Prop} {env : List Sl} (es : D → List D) (f : D → D → D) : ∀ {ds acc : List D}, acc.length + (ds.flatMap es).length ≤ sizeLine →
    (∀ d ∈ ds, ∀ K : List D → Prop, ∀ acc2 : List D, K (acc2 ++ (es d).map (f d)) → acc2.length + (es d).length ≤ sizeLine → tg d env fun env2 => ti1 noX env2 fun es1 => compI tg1 bYes te K (inEnv env2 vs1) es1 acc2) →
    Q (acc ++ ds.flatMap fun d => (es d).map (f d)) → compL2 vs1 tg bYes ti1 tg1 bYes te Q env ds acc
  | [], acc, _, _, hq => by
    unfold compL2
    simpa using hq
  | d :: ds, acc, hl, h, hq => by
    unfold compL2
    simp only [List.flatMap_cons, List.length_append] at hl
    refine h d List.mem_cons_self _ acc ?_ (by omega)
    refine compL2_map es f ?_ (fun e he => h e (List.mem_cons_of_mem _ he)) ?_
    · rw [List.length_append, List.length_map]; omega
    · simpa [List.flatMap_cons] using hq
end
end Kn
set_option Elab.async false
set_option linter.all false
set_option maxRecDepth 100000
set_option maxHeartbeats 2100000
namespace Kn
open PySem
open PySem.Spec PyProof.Rows L2
section
variable {P : Program} {w : World} {A : Around} {E0 : Value → Shared → Prop} {s : Shared}
theorem gather_tup {t : Addr} {us : List Value} {R : List Value → Shared → Prop} (ht : IsTup s.heap t us.toArray) (hz : us.length ≤ sizeLine)
    (h : R us { s with heap := (s.heap.push (seqObj "list" #[] 0)).update s.heap.objs.size (Obj.mapSeq (· ++ us.toArray)) }) : wpAny (model P w) A (collect (.ref t)) R E0 s := by
  obtain ⟨ob, hob, hcl, n, hdt⟩ := id ht
  unfold collect
  have hob2 : (s.heap.push (seqObj "list" #[] 0)).get? t = some ob := Heap.get?_push_of_some _ hob
  have hty : (Value.type "tuple" == Value.type "tuple") = true := by rfl
  refine wpAny_bind (wpAny_runValue (codeAny_builtin entry_proto_collect' (?_ : wpAny _ _ (do again (.builtin "list.__iadd__" ⟨[← newList [], .ref t], []⟩)) _ _ s)))
  refine wpAny_bind (wpAny_newList (wpAny_pure ⟨Code.quiet_builtin _ (by decide +kernel), codeAny_builtin entry_list_iadd' (?_ : wpAny _ _ (Builtin.List.listExtendWith (.ref s.heap.objs.size) (.ref t) (.ref s.heap.objs.size)) _ _ { s with heap := s.heap.push (seqObj "list" #[] 0) })⟩))
  unfold Builtin.List.listExtendWith; refine wpAny_bind (wpAny_typeOf (T := "tuple") ⟨ob, hob2, hcl⟩ (?_))
  rw [if_pos (by rw [hty]; simp)]
  refine wpAny_bind (listItems_at hob2 hdt (wpAny_bind (listItems_at (xs := #[]) (n := 0) (Heap.get?_push_size _ rfl) rfl (?_))))
  rw [if_neg (by simp)]
  refine wpAny_bind (listUpdate_at (xs := #[]) (n := 0) (Heap.get?_push_size _ rfl) rfl (wpAny_pure (?_)) (Nat.zero_le _) (by show (#[] ++ us.toArray).size ≤ sizeLine + 1; simp only [Array.size_append, List.size_toArray, List.length_nil]; omega))
  show wpAny (model P w) A (do
      let ob ← load s.heap.objs.size
      match ob.data with
      | .seq vs _ => pure vs.toList
      | _ => unsupported "internal:collect") R E0 { s with heap := (s.heap.push (seqObj "list" #[] 0)).update s.heap.objs.size (Obj.mapSeq (· ++ us.toArray)) }
  refine wpAny_bind (wpAny_load (get?_update_seq (Heap.get?_push_size _ rfl) _) (?_))
  show wpAny _ _ (pure ((#[] : Array Value) ++ us.toArray).toList) R E0 _
  rw [show ((#[] : Array Value) ++ us.toArray).toList = us by simp]
  exact wpAny_pure h
theorem sorted_tup {t : Addr} {us : List Value} {ltv : Value → Value → Bool} {R : Value → Shared → Prop} (O : SrtO.Swo ltv) (ht : IsTup s.heap t us.toArray) (hz : us.length ≤ sizeLine)
    (hS : 2 ≤ us.length → ∀ (h₁ : Heap) (a : Addr), h₁.get? a = some (seqObj "list" us.toArray 0) → (∀ b o, s.heap.get? b = some o → b ≠ a ∧ h₁.get? b = some o) → SrtO.SortableO P w A.in1.in1 { s with heap := h₁ } a us ltv)
    (h : ∀ out : List Value, SrtO.Srtd ltv out → SrtO.Stb ltv out us → R (.ref (s.heap.objs.size + 1)) { s with heap := sortedAll s.heap us out.toArray }) : wpAny (model P w) A (call (.builtin "sorted") [.ref t]) R E0 s := by
  refine Calls.call_function_entry kind_sorted plain_sorted entry_sorted (args_sorted1 _) (?_ : wpAny _ _ (Builtin.«sorted» _) _ _ _)
  unfold Builtin.«sorted»
  refine wpAny_bind (m := checkCount "sorted" 1 1 _) (wpAny_pure (wpAny_bind (gather_tup ht hz (wpAny_bind (wpAny_newList (?_) hz)))))
  have e1 : ((s.heap.push (seqObj "list" #[] 0)).update s.heap.objs.size (Obj.mapSeq (· ++ us.toArray))).objs.size = s.heap.objs.size + 1 := by rw [Heap.size_update, size_push']
  have e2 : (((s.heap.push (seqObj "list" #[] 0)).update s.heap.objs.size (Obj.mapSeq (· ++ us.toArray))).push (seqObj "list" us.toArray 0)).get? (s.heap.objs.size + 1) = some (seqObj "list" us.toArray 0) := by rw [← e1]; exact Heap.get?_push_size _ rfl
  have kp : ∀ b o, s.heap.get? b = some o → b ≠ s.heap.objs.size + 1 ∧ (((s.heap.push (seqObj "list" #[] 0)).update s.heap.objs.size (Obj.mapSeq (· ++ us.toArray))).push (seqObj "list" us.toArray 0)).get? b = some o := fun b o q => by
    have lt : b < s.heap.objs.size := Heap.lt_size q
    refine ⟨Nat.ne_of_lt (Nat.lt_succ_of_lt lt), Heap.get?_push_of_some _ ?_⟩
    rw [Heap.get?_update_ne _ _ _ _ (Nat.ne_of_lt lt)]; exact Heap.get?_push_of_some _ q
  show wpAny _ _ _ _ _ { s with heap := ((s.heap.push (seqObj "list" #[] 0)).update s.heap.objs.size (Obj.mapSeq (· ++ us.toArray))).push (seqObj "list" us.toArray 0) }
  rw [e1]
  refine wpAny_bind (wpAny_holding (wpAny_call_entry slot_list_sort ⟨_, e2, rfl⟩ entry_list_sort (SrtO.list_sort_ord O e2 hz (fun h2 => hS h2 _ _ e2 kp) fun out hs hb => ⟨_, rfl, wpAny_pure ⟨_, rfl, h out hs hb⟩⟩) (args_list_sort _)))
end
def rSortTI (K : PySem.W.Frag) : List V → Hp → VK → Prop := fun vs H Q => ∃ (a : Addr) (ns : List Int), vs = [V.ref a] ∧ SqT K H a (ns.map V.int) ∧ ∀ (ns' : List Int) (p : Addr), ns'.Perm ns → ns'.Pairwise (· ≤ ·) → H p = none → Q (.ref p) (upd H p (.lst (ns'.map V.int)))
variable {X : Cx} {G : Gd}
theorem cr_sortTI : CallR X (.builtin "sorted") (rSortTI X.K) := by
  intro pins s σ H vs us Q I r h; obtain ⟨a, ns, rfl, hs, q⟩ := h
  obtain ⟨its, rv, hl, hz⟩ := I.tuple hs
  rw [Vals.ref1 r]
  have hi := rv.ints
  refine sorted_tup SrtO.swo_int hl (by rw [← rv.length]; exact hz) (fun h2 h₁ a' _ _ => SrtO.ints_sortable hi h2) fun out h1 h2 => ?_
  obtain ⟨k1, k2, k3⟩ := SrtO.ints_out hi h1 h2; obtain ⟨ep, he'⟩ := sortedAll_at s.heap its out.toArray
  have hlen : ((out.map SrtO.iv).map V.int).length ≤ sizeLine := by rw [List.length_map, k2.length_eq]; rw [List.length_map] at hz; exact hz
  refine ⟨V.ref (s.heap.objs.size + 1), _, I.laid (t' := s.toks) (o := .lst ((out.map SrtO.iv).map V.int)) (fun _ _ => sortedAll_old) (Nat.le_succ _) ⟨hlen, out, ep, vals_of_ints k1, he'⟩, rfl, q _ _ k2 k3 (I.hok.fresh (Nat.le_succ _))⟩
def gSortA : D → (D → Prop) → Prop := fun d Q => ∃ ns : List Int, (d = .lst (ns.map D.int) ∨ d = .tup (ns.map D.int)) ∧ ∀ ns' : List Int, ns'.Perm ns → ns'.Pairwise (· ≤ ·) → Q (.lst (ns'.map D.int))
theorem c_sortA (hK : X.K = G.K) : CallR X (.builtin "sorted") (rDL G (g1 gSortA)) := by
  intro pins s σ H vs us Q' I r h
  obtain ⟨B, d, x, Q, rfl, hd, hf, ⟨ns, hds, hq⟩, k⟩ := rDL1 h
  have fin : ∀ (ns' : List Int) (p : Addr), ns.length ≤ sizeLine → ns'.Perm ns → ns'.Pairwise (· ≤ ·) → H p = none → Q' (.ref p) (upd H p (.lst (ns'.map V.int))) := fun ns' p hl h1 h2 hp =>
    k _ _ (.lst (ns'.map D.int)) (Ext.new hp) (den_lst hp (hf p hp) (by rw [List.length_map, h1.length_eq]; exact hl) DenL.of_ints) (hq ns' h1 h2)
  rcases hds with rfl | rfl
  · obtain ⟨a, ys, rfl, na, ha, la, da⟩ := hd
    have := da.ints
    subst this
    exact cr_sortedI pins s σ H _ us Q' I r ⟨a, ns, rfl, SqL.of ha, fun ns' p h1 h2 hp => fin ns' p (by simpa using la) h1 h2 hp⟩
  · obtain ⟨a, ys, rfl, na, ha, la, da⟩ := hd
    have := da.ints
    subst this
    exact cr_sortTI pins s σ H _ us Q' I r ⟨a, ns, rfl, by rw [hK]; exact ha, fun ns' p h1 h2 hp => fin ns' p (by simpa using la) h1 h2 hp⟩
end Kn
set_option Elab.async false
set_option linter.all false
set_option maxRecDepth 100000
set_option maxHeartbeats 2100000
namespace Kn
open PySem
open PySem.Spec PyProof.Rows L2
section
variable {P : Program} {w : World} {A : Around} {E0 : Value → Shared → Prop} {s : Shared}
theorem places_rev (n : Nat) : Builtin.Slice.slicePlaces ((n : Int) - 1) (-1) (-1) = n := by
  unfold Builtin.Slice.slicePlaces; rw [if_neg (by decide)]; by_cases h : (n : Int) - 1 > -1
  · rw [if_pos h]
    have : ((n : Int) - 1 - -1 - 1) / (- -1) + 1 = n := by
      rw [show (- -1 : Int) = 1 by rfl, Int.ediv_one]; omega
    rw [this]; rfl
  · rw [if_neg h]
    have : n = 0 := by omega
    subst this; rfl
theorem fm_congr {α β : Type} {f g : α → Option β} : ∀ {l : List α}, (∀ x ∈ l, f x = g x) → l.filterMap f = l.filterMap g
  | [], _ => rfl
  | x :: l, h => by rw [List.filterMap_cons, List.filterMap_cons, h x List.mem_cons_self, fm_congr fun y hy => h y (List.mem_cons_of_mem _ hy)]
theorem pick_back (xs : Array Value) : ((List.range xs.size).filterMap fun (m : Nat) => xs[(((xs.size : Int) - 1) + (m : Int) * -1).toNat]?).toArray = xs.toList.reverse.toArray := by
  have h := HT.pick_gen xs.toList.reverse.toArray 0 xs.size
  rw [show ((xs.toList.reverse.toArray.toList.drop 0).take xs.size) = xs.toList.reverse by rw [List.drop_zero]; exact List.take_of_length_le (by simp)] at h
  rw [← h]
  congr 1
  refine fm_congr fun m hm => ?_
  have hm' := List.mem_range.mp hm
  rw [show (((0 : Nat) : Int) + (m : Int) * 1).toNat = m by omega, show (((xs.size : Int) - 1) + (m : Int) * -1).toNat = xs.size - 1 - m by omega]
  have e1 : xs.toList.reverse.toArray[m]? = xs.toList.reverse[m]? := by simp
  rw [e1, List.getElem?_reverse (by simpa using hm')]
  simp
theorem getItem_tup_rev {t sl : Addr} {its : Array Value} {vs : Value} {R : Value → Shared → Prop} (ht : IsTup s.heap t its) (hs : s.heap.IsSliceOf sl .none .none vs) (ps : IsPart vs (some (-1))) (hsz : its.size ≤ sizeLine)
    (h : R (.ref s.heap.objs.size) { s with heap := s.heap.push { cls := .type "tuple", data := .seq its.toList.reverse.toArray } }) : wpAny (model P w) A (getItem (.ref t) (.ref sl)) R E0 s := by
  have ok : sizeOk (.seq its.toList.reverse.toArray) := by show its.toList.reverse.toArray.size ≤ sizeLine; simpa using hsz
  obtain ⟨os, hos, hcs, hds⟩ := id hs; have isSl : s.TypeIs (.ref sl) "slice" := ⟨os, hos, hcs⟩
  unfold getItem
  try with_reducible refine wpAny_holding (?_)
  first | refine wpAny_bind (wpAny_pure (?_)) | skip
  refine wpAny_bind (wpAny_sequenceKey ht.typeIs (by decide) (?_))
  refine wpAny_bind (wpAny_callSpecial?_slot (name := Str.ofString "__getitem__") ht.typeIs slot_tuple_getitem (wpAny_call_entry slot_tuple_getitem ht.typeIs entry_tuple_getitem (?_) (args_tuple_getitem _ _)))
  refine (?_ : wpAny _ _ (Builtin.Tuple.tupleItemsOf (.ref t) >>= _) _ _ s)
  refine wpAny_bind (tupleItemsOf_ ht (?_))
  refine wpAny_bind (wpAny_typeOf isSl (?_))
  rw [if_pos (by decide)]
  have key : wpAny (model P w) A.in1 (Builtin.Slice.sliceApplied (.ref sl) (pure (its.size : Int))) (fun r s' => r = ((its.size : Int) - 1, -1, its.size) ∧ s' = s) E0 s := by
    unfold Builtin.Slice.sliceApplied Builtin.Slice.sliceFields; refine wpAny_bind (wpAny_bind (wpAny_field hos hds (x := .none) rfl (wpAny_bind (wpAny_field hos hds (x := .none) rfl (wpAny_bind (wpAny_field hos hds (x := vs) rfl (wpAny_pure (?_))))))))
    refine wpAny_bind (HT.slicePart_ ps (?_))
    refine (?_ : wpAny _ _ (if ((-1 : Int) == 0) = true then _ else _) _ _ s)
    rw [if_neg (by decide)]
    refine wpAny_bind (slicePart_none (wpAny_bind (slicePart_none (wpAny_bind (wpAny_pure (?_))))))
    refine (?_ : wpAny _ _ (match Builtin.Slice.sliceAdjust none none (-1) (its.size : Int) with | (lo, hi) => pure (lo, (-1 : Int), Builtin.Slice.slicePlaces lo hi (-1))) _ _ s)
    rw [show Builtin.Slice.sliceAdjust none none (-1) (its.size : Int) = ((its.size : Int) - 1, -1) from rfl]
    refine (?_ : wpAny _ _ (pure (((its.size : Int) - 1), (-1 : Int), Builtin.Slice.slicePlaces ((its.size : Int) - 1) (-1) (-1))) _ _ s)
    rw [places_rev]
    exact wpAny_pure ⟨rfl, rfl⟩
  refine wpAny_bind (wpAny_mono key (fun r s' e => ?_) (fun e s' z => z))
  obtain ⟨rfl, rfl⟩ := e
  refine (?_ : wpAny _ _ (if ((((its.size : Int) - 1) == 0 && (-1 : Int) == 1 && its.size == its.size) = true) then _ else _) _ _ _)
  rw [if_neg (by simp), pick_back]
  first
    | exact wpAny_bind (m := Builtin.Tuple.tupleExact _) (wpAny_newObj_type (wpAny_pure ⟨_, rfl, wpAny_pure h⟩) ok)
    | exact wpAny_bind (m := Builtin.Tuple.tupleExact _) (wpAny_newObj_type (wpAny_bind (wpAny_pure (wpAny_pure ⟨_, rfl, wpAny_pure h⟩))) ok)
    | exact wpAny_bind (wpAny_bind (m := Builtin.Tuple.tupleExact _) (wpAny_newObj_type (wpAny_pure (wpAny_pure ⟨_, rfl, wpAny_pure h⟩)) ok))
    | exact wpAny_bind (wpAny_bind (m := Builtin.Tuple.tupleExact _) (wpAny_newObj_type (wpAny_pure ⟨_, rfl, wpAny_pure h⟩) ok))
end
section
variable {G : Gd} {E : XK} {X : Cx} {σ : List (Option V)} {H H' : Hp} {k : Nat}
open RZ
def tRevT (K : PySem.W.Frag) (te : TE) : TE := fun σ H Q => te σ H fun x H1 => ∃ a xs, x = .ref a ∧ SqT K H1 a xs ∧ ∀ p, H1 p = none → Q (.ref p) (upd H1 p (.tup xs.reverse))
theorem pe_revT {e : Expr} {te : TE} {kk : Nat} {p1 p2 p3 pos : Pos} (he : PE X e te) : PE X (.Subscript e (.Slice none none (some (.UnaryOp .USub (.Constant (.int 1) kk p1) p2)) p3) pos) (tRevT X.K te) := by
  refine ⟨fun pins s σ H Q I h => Subscript_ (thn (he.run pins s σ H _ I h) fun v s1 ⟨x, H1, I1, r1, a, xs, ex, hx, q⟩ => ?_)⟩
  subst ex
  cases r1
  have hst : PO X (some (.UnaryOp .USub (.Constant (.int 1) kk p1) p2)) (tPart (tUn (rU fun i => .int (-i)) (tC (.int 1)))) := po_some (pe_un un_neg pe_int)
  refine wpAny_Slice (thn (po_none.run pins s1 σ H1 (fun o H2 => o = none ∧ H2 = H1) I1 ⟨rfl, rfl⟩) fun vl s2 ⟨l, H2, I2, pl, el, e2⟩ => ?_); subst el e2
  refine thn (po_none.run pins s2 σ H2 (fun o H3 => o = none ∧ H3 = H2) I2 ⟨rfl, rfl⟩) (fun vu s3 ⟨u, H3, I3, pu, eu, e3⟩ => ?_)
  subst eu e3
  refine thn (hst.run pins s3 σ H3 (fun o H4 => o = some (-1) ∧ H4 = H3) I3 ⟨1, rfl, -1, rfl, rfl, rfl⟩) (fun vs s4 ⟨o, H4, I4, ps, eo, e4⟩ => ?_)
  subst eo e4
  cases pl
  cases pu
  have I5 : Inv X pins σ H4 { s4 with heap := s4.heap.push { cls := .type "slice", data := .fields #[.none, .none, vs] } } := I4.kept (t' := s4.toks) (fun b ob q => Heap.get?_push_of_some _ q)
  obtain ⟨its, r, ht, hz⟩ := I5.tuple hx
  have hlen := r.length
  refine (?_ : wpAny (model X.prog X.w) X.A (subscriptTail e (.Slice none none (some (.UnaryOp .USub (.Constant (.int 1) kk p1) p2)) p3) (.ref a) (.ref s4.heap.objs.size)) (EP X pins σ Q) X.xe { s4 with heap := s4.heap.push { cls := .type "slice", data := .fields #[.none, .none, vs] } })
  refine tail_any (ops := [.ref a, .ref s4.heap.objs.size]) ht.typeIs slot_tuple_getitem.lookup (?_) (by with_unfolding_all rfl)
  refine getItem_tup_rev ht (Heap.IsSliceOf.new _ .none .none vs) ps (by rw [List.size_toArray]; omega) ⟨.ref _, _, I5.laid (t' := s4.toks) (o := .tup xs.reverse) (fun b ob q => Heap.get?_push_of_some _ q) (Nat.le_refl _) ?_, rfl, q _ (I5.hok.fresh (Nat.le_refl _))⟩
  exact ⟨by rw [List.length_reverse]; exact hz, its.reverse, r.reverse, IsTup.new _ _⟩
def dRevT (te : DT) : DT := fun ex env Q => te ex env fun d => ∃ ds, d = .tup ds ∧ Q (.tup ds.reverse)
theorem de_revT {e : Expr} {c : Nat} {te : DT} {kk : Nat} {p1 p2 p3 pos : Pos} (hK : X.K = G.K) (he : DE G E X c e te) : DE G E X c (.Subscript e (.Slice none none (some (.UnaryOp .USub (.Constant (.int 1) kk p1) p2)) p3) pos) (dRevT te) :=
  imp (pe_revT he) fun σ H Q' h => by
    obtain ⟨W, hn, Q, ht, kk⟩ := h
    refine ⟨W, hn, _, ht, fun v H1 d st hd ⟨ds, e, hq⟩ => ?_⟩
    subst e
    obtain ⟨a, xs, rfl, na, ha, la, da⟩ := hd
    refine ⟨a, xs, rfl, by rw [hK]; exact ha, fun p hp => ?_⟩
    exact kk _ _ (.tup ds.reverse) (st.new hp) (den_tup hp ((W.next st).fresh hp) (by rw [List.length_reverse]; exact la) da.reverse) hq
def gType : D → (D → Prop) → Prop := fun d Q => ∃ c ds, d = .ins c ds ∧ Q (.opq (.ref (G.cl c)))
theorem c_type : CallR X (.type "type") (rDL G (g1 (gType (G := G)))) := callr_imp cr_type fun xs H Q' h => by
  obtain ⟨B, d, x, Q, rfl, hd, hf, ⟨c, ds, rfl, hq⟩, kk⟩ := rDL1 h
  obtain ⟨a, dx, ys, rfl, na, ha, la, da⟩ := hd
  exact ⟨a, _, dx, _, rfl, ha, kk _ H (.opq (.ref (G.cl c))) (Ext.refl _ _) (den_opq _) hq⟩
def gIsC : G2 := fun d e Q => ∃ a, d = .opq (.ref a) ∧ e = .opq (.ref a) ∧ Q (.bl true)
def gIsnC : G2 := fun d e Q => ∃ a, d = .opq (.ref a) ∧ e = .opq (.ref a) ∧ Q (.bl false)
theorem o_isC : OpR X (compareOp .Is) (rD G gIsC) := opr_imp op_is_cls fun x y H Q' h => by
  obtain ⟨B, d, e, Q, hd, he, _, ⟨a, rfl, rfl, hq⟩, kk⟩ := h
  exact ⟨a, a, hd, he, .inl rfl, kk _ H (.bl true) (Ext.refl _ _) (by rw [decide_eq_true rfl]; exact den_bl _) hq⟩
theorem o_isnC : OpR X (compareOp .IsNot) (rD G gIsnC) := opr_imp op_isnot_cls fun x y H Q' h => by
  obtain ⟨B, d, e, Q, hd, he, _, ⟨a, rfl, rfl, hq⟩, kk⟩ := h
  exact ⟨a, a, hd, he, .inl rfl, kk _ H (.bl false) (Ext.refl _ _) (by rw [decide_eq_true rfl]; exact den_bl _) hq⟩
/-- the values in the parameters' order: ix tells for each parameter where its value stands -/
structure Kk (K : PySem.W.Frag) (fd : FuncData) (ps ks : List Str) (ix : List Nat) : Prop where
  to : ∀ (s : Shared) (us : List Value), K.In s.heap → us.length = ks.length → BindsTo s fd ⟨[], ks.zip us⟩ (ps.zip (ix.map fun i => us.getD i .none))
  ok : ∀ i ∈ ix, i < ks.length
  len : ix.length = ps.length
theorem Kk.all {K : PySem.W.Frag} {fd : FuncData} {ps ks : List Str} {ix : List Nat} (h : ∀ us : List Value, us.length = ks.length → bindArgs fd ⟨[], ks.zip us⟩ = pure (ps.zip (ix.map fun i => us.getD i .none))) (h2 : ∀ i ∈ ix, i < ks.length) (h3 : ix.length = ps.length) : Kk K fd ps ks ix :=
  ⟨fun s us _ hl => .of_eq (h us hl), h2, h3⟩
theorem vals_perm {xs : List V} {us : List Value} (r : Vals xs us) : ∀ {ix : List Nat}, (∀ i ∈ ix, i < xs.length) → Vals (ix.map fun i => xs.getD i .non) (ix.map fun i => us.getD i .none)
  | [], _ => .nil
  | i :: ix, h => by
    have hi := h i List.mem_cons_self
    have hl := r.length
    refine .cons ?_ (vals_perm r fun j hj => h j (List.mem_cons_of_mem _ hj))
    obtain ⟨u, hu, ru⟩ := r.get (List.getElem?_eq_getElem hi)
    show RelV (xs.getD i .non) (us.getD i .none)
    rw [List.getD_eq_getElem?_getD, List.getD_eq_getElem?_getD, List.getElem?_eq_getElem hi, hu]
    exact ru
theorem denL_perm {B : Addr → Prop} {ds : List D} {xs : List V} (h : DenL G B H ds xs) : ∀ {ix : List Nat}, (∀ i ∈ ix, i < ds.length) → DenL G B H (ix.map fun i => ds.getD i .non) (ix.map fun i => xs.getD i .non)
  | [], _ => rfl
  | i :: ix, hx => by
    have hi := hx i List.mem_cons_self
    obtain ⟨x, e1, e2⟩ := h.get (List.getElem?_eq_getElem hi)
    refine ⟨xs.getD i .non, _, rfl, ?_, denL_perm h fun j hj => hx j (List.mem_cons_of_mem _ hj)⟩
    show Den G B H (ds.getD i .non) (xs.getD i .non)
    rw [List.getD_eq_getElem?_getD, List.getD_eq_getElem?_getD, List.getElem?_eq_getElem hi, e1]
    exact e2
structure FkK (G : Gd) (P : Program) (w : World) (mg : Str → Option Value) (base : Heap) (k : Nat) (x : Str) (ps ks : List Str) (ix : List Nat) (cf : Nat) (S : FSpec) : Prop where
  ex : ∃ (f : Addr) (fd : FuncData), FnD G P w mg base k f fd ps cf S ∧ mg x = some (.ref f) ∧ PySem.W.keepIn G.K (.ref f) = true ∧ Kk G.K fd ps ks ix
def dCallK (n : Nat) (ix : List Nat) (S : FSpec) (u : DA) : DT := fun ex env Q => u ex env fun ds => ds.length = n ∧ S (ix.map fun i => ds.getD i .non) Q ex
theorem de_callk {j : Nat} {x : Str} {ps ks : List Str} {ix : List Nat} {c cf : Nat} {S : FSpec} {kws : List Keyword} {u : DA} {p pos : Pos} (F : FkK G X.prog X.w X.mg X.base j x ps ks ix cf S) (xk : Xk G E k X) (ha : DK G E X c kws u) (hj : j ≤ k := by decide) (hg : Gl X x := by rfl) (hdb : (x == ("__debug__" : Str)) = false := by decide)
    (hall : (backToKw pos (keywordEach kws X.env)).all (·.1.isSome) = true := by rfl) (hks : (backToKw pos (keywordEach kws X.env)).filterMap (·.1) = ks := by rfl)
    (hpl : ((backTo pos (starEach [] X.env)).any (·.1) || (backToKw pos (keywordEach kws X.env)).any (·.1.isNone)) = false := by rfl) : DE G E X (c + cf) (.Call (.Name x p) [] kws pos) (dCallK ks.length ix S u) := by
  obtain ⟨f, fd, hF0, hm, hk, hb⟩ := F.ex
  have hF := hF0.mono hj
  rw [← xk.K] at hk hb
  refine ⟨fun pins s σ H Q' I h => ?_⟩
  obtain ⟨W, hn, Q, ht, kk⟩ := h
  have args := ha.run pos pins s σ H (fun vs H1 => vs.length = ks.length ∧ liftF G cf S (ix.map fun i => vs.getD i .non) H1 Q' E) I ⟨W, by omega, _, ht, fun vs H1 ds st hd ⟨hl, hs⟩ => ⟨by rw [← hd.length]; exact hl, lift_callee st hn (denL_perm hd fun i hi => by rw [hl]; exact hb.ok i hi) hs kk⟩⟩
  refine wpAny_Call_Name_kw (ld_glob I hg hm ?_ hdb); refine PySem.W.callWith_KW0 (h₀ := X.base) I.ok.mod.kin hk hall (thn args fun us s1 ⟨vs, H1, I1, r1, hl, q1⟩ => ⟨I1.kIn, ?_⟩) hpl
  rw [hks]
  refine wpAny_call ?_
  exact run_fnd (hK := xk.K) hF xk.room xk.gd xk.pass I1 (vals_perm r1 fun i hi => by rw [hl]; exact hb.ok i hi) (by rw [List.length_map]; exact hb.len) _ (hb.to s1 us I1.kIn (by rw [← r1.length]; exact hl)) q1
end
end Kn
set_option Elab.async false
set_option linter.all false
set_option maxRecDepth 100000
set_option maxHeartbeats 2100000
namespace Kn
open PySem L2 RZ
open PyProof.Rows (envOfC)
section
variable {G : Gd} {E : XK} {X : Cx} {σ : List (Option V)} {H H' : Hp} {k : Nat}
def gRepr : D → (D → Prop) → Prop := fun d Q => (∃ i : Int, d = .int i ∧ i.natAbs.log2 < 1920 ∧ Q (.str (toString i))) ∨
  ((∃ ds, d = .lst ds ∨ d = .tup ds) ∧ ∃ p, pd d = some p ∧ SeqAt.shaped p = true ∧ p.showable = true ∧ p.hasDict = false ∧ p.shown.length ≤ sizeLine ∧ Q (.str p.shown))
theorem c_repr (xk : Xk G E k X) : CallR X (.builtin "repr") (rDL G (g1 gRepr)) := by
  intro pins s σ H vs us Q' I r h
  obtain ⟨B, d, x, Q, rfl, hd, hf, hg, kk⟩ := rDL1 h
  rcases hg with ⟨i, rfl, hi, hq⟩ | ⟨⟨ds, hds⟩, p, hp, hsh, hsw, hnd, hlen, hq⟩
  · cases hd
    exact SkE.call_repr_int pins s σ H _ us Q' I r ⟨i, rfl, hi, kk _ H (.str _) (Ext.refl _ _) (den_str _) hq⟩
  · have hdp : Dp X.K H x p := by rw [xk.K]; exact hd.dp _ _ _ hp
    have hx : ∃ a, x = .ref a := by
      rcases hds with rfl | rfl
      · obtain ⟨a, xs, e, _⟩ := hd; exact ⟨a, e⟩
      · obtain ⟨a, xs, e, _⟩ := hd; exact ⟨a, e⟩
    obtain ⟨a, rfl⟩ := hx
    rw [Vals.ref1 r]
    obtain ⟨as, rr⟩ := Dp.reads I p (.ref a) (.ref a) hdp rfl
    refine PySem.repr_of_reads' (h₀ := s.heap) rr hsw (fun z => by rw [hnd] at z; cases z) xk.gd ?_ (fun _ _ e => e) (fun h' u tk hk => ?_) hlen
    · have := SeqAt.depth_of_shaped hsh
      have := xk.u (n := 70)
      omega
    · exact ⟨.str p.shown, H, I.kept (t' := tk) hk, ⟨u, rfl⟩, kk _ H (.str _) (Ext.refl _ _) (den_str _) hq⟩
end
end Kn
set_option Elab.async false
set_option linter.all false
set_option maxRecDepth 100000
set_option maxHeartbeats 2100000
namespace Kn
open PySem L2 RZ
open PyProof.Rows (envOfC)
section
variable {G : Gd} {E : XK} {X : Cx} {σ : List (Option V)} {H H' : Hp} {k : Nat}
/-- x, y = [..], z -/
def sParOV (i j l : Nat) (u : DA) : DS := fun ex de env => ∃ d, env[l]? = some (.val d) ∧ u ex env fun ds => ds.length ≤ sizeLine ∧ ∀ a, de.nx ((env.set i (.own a ds)).set j (.val d))
theorem ds_parOV {i j l : Nat} {x y z : Str} {es : List Expr} {u : DA} {c2 : Nat} {px py pz pt pos lpos : Pos} {kt k2 pt2} (hc : X.calm = true) (hN : X.N.Nodup) (hi : X.N[i]? = some x) (hj : X.N[j]? = some y) (hij : i ≠ j)
    (hx : X.env.scope.names.lookup x = some .local) (hy : X.env.scope.names.lookup y = some .local) (hes : DEs G E X c2 es u) (hl : X.N[l]? = some z) (hv : Vis X.env.scope z := by first | exact Or.inl rfl | exact Or.inr (Or.inl rfl) | exact Or.inr (Or.inr rfl)) (hd : (z == ("__debug__" : Str)) = false := by decide) (hcd : (z == ("__classdict__" : Str)) = false := by decide)
    (hs1 : starEach [.List es lpos, .Name z pz] X.env = (false, eval (.List es lpos) X.env) :: starEach [.Name z pz] X.env := by rfl) (hs2 : starEach [.Name z pz] X.env = (false, eval (.Name z pz) X.env) :: starEach [] X.env := by rfl)
    (hw : swappedStores [.Tuple [.Name x px, .Name y py] kt pt] (.Tuple [.List es lpos, .Name z pz] k2 pt2) X.env = pure (some [x, y]))
    (hs : swapsWithSole [.Tuple [.Name x px, .Name y py] kt pt] (.Tuple [.List es lpos, .Name z pz] k2 pt2) pos.line X.env = pure false := by rfl) : DSt G E X c2 (.Assign [.Tuple [.Name x px, .Name y py] kt pt] (.Tuple [.List es lpos, .Name z pz] k2 pt2) pos) (sParOV i j l u) :=
  impS (ps_par hc hN hi hj hij hx hy (pa_cons (df_lst hes) (pa_cons (pe_var (i := l) hl hv hd hcd) pa_nil hs2) hs1) hw hs) fun Dn σ H h => by
    obtain ⟨W, hn, de, ⟨d, hed, ht⟩, k1, k2, k3, k4⟩ := h
    refine ⟨W, hn, fun ds => ∀ a, de.nx ((W.env.set i (.own a ds)).set j (.val d)), ht, fun p H2 ds xs st2 hp h2 hl hd2 hq2 => ?_⟩
    obtain ⟨v, hv, hdv⟩ := W.sl l _ hed
    refine ⟨v, join_some hv, .ref p, v, rfl, ?_⟩
    obtain ⟨W', l1, l2⟩ := wd_own W st2 (i := i) hp h2 hl hd2
    have hdv' : Den G W'.XB H2 d v := Den.keep (fun b o nb e => l1.keep b o nb e) (fun b hb => l1.xb b hb) d v hdv
    exact k1 _ H2 (W'.put j hdv') ((l1.trans (Later.put _ j hdv')).more (by omega)) (by show de.nx (W'.env.set j (.val d)); rw [l2]; exact hq2 p)
/-- a tuple of texts of the module -/
def strsD (ts : List Str) : List D := ts.map D.str
theorem denL_strs {B : Addr → Prop} {H : Hp} : ∀ (ts : List Str), DenL G B H (strsD ts) (ts.map V.str)
  | [] => rfl
  | t :: ts => ⟨_, _, rfl, rfl, denL_strs ts⟩
def GTup (G : Gd) (mg : Str → Option Value) (x : Str) (ts : List Str) : Prop := ∃ a, mg x = some (.ref a) ∧ KTup G.K a (ts.map V.str) ∧ ts.length ≤ sizeLine
theorem de_gtup {x : Str} {ts : List Str} {pos : Pos} (hm : GTup G X.mg x ts) (hg : Gl X x := by rfl) (hd : (x == ("__debug__" : Str)) = false := by decide) : DE G E X 0 (.Name x pos) (dC (.tup (strsD ts))) := by
  obtain ⟨a, h1, h2, h3⟩ := hm
  exact imp (pe_glob (v := .ref a) hg h1 rfl hd) fun _ _ _ h => lift_c (d := .tup (strsD ts)) (fun B H => (⟨a, ts.map V.str, rfl, .inr h2, .inr h2, by simpa using h3, denL_strs ts⟩ : Den G B H (.tup (strsD ts)) (.ref a))) h
end
end Kn
set_option Elab.async false
set_option linter.all false
set_option maxRecDepth 100000
set_option maxHeartbeats 2100000
namespace Kn
open PySem L2 RZ
theorem shaped_str {x : Str} (h : PyData.strOk x = true) : SeqAt.shaped (.str x) = true := by
  unfold SeqAt.shaped
  rw [show PyData.canLay0 (.str x) = PyData.strOk x from rfl, h]; rfl
theorem shaped_int (i : Int) : SeqAt.shaped (.int i) = true := by rfl
theorem eq_str {a b : Str} {Q : D → Prop} (ha : PyData.strOk a = true) (hb : PyData.strOk b = true) (h : Q (.bl (a == b))) : gEq (.str a) (.str b) Q := ⟨_, _, rfl, rfl, shaped_str ha, shaped_str hb, h⟩
theorem eq_int {a b : Int} {Q : D → Prop} (h : Q (.bl (a == b))) : gEq (.int a) (.int b) Q := ⟨_, _, rfl, rfl, shaped_int a, shaped_int b, h⟩
theorem ne_int {a b : Int} {Q : D → Prop} (h : Q (.bl (!(a == b)))) : gNe (.int a) (.int b) Q := ⟨_, _, rfl, rfl, shaped_int a, shaped_int b, h⟩
theorem pdL_int : ∀ is : List Int, pdL (is.map D.int) = some (is.map PyData.int)
  | [] => rfl
  | i :: is => by simp [pdL, pd, pdL_int is]
theorem pdL_str : ∀ ts : List Str, pdL (strsD ts) = some (ts.map PyData.str)
  | [] => rfl
  | t :: ts => by
    have := pdL_str ts
    simp only [strsD, List.map_cons, pdL, pd] at this ⊢
    rw [this]
theorem eqvAll_int : ∀ is js : List Int, PyData.eqvAll (is.map PyData.int) (js.map PyData.int) = (is == js)
  | [], [] => rfl
  | [], _ :: _ => rfl
  | _ :: _, [] => rfl
  | i :: is, j :: js => by
    show ((i == j) && PyData.eqvAll (is.map PyData.int) (js.map PyData.int)) = _
    rw [eqvAll_int is js]
    rfl
theorem lay_int : ∀ is : List Int, PyData.canLayAll0 (is.map PyData.int) = true
  | [] => rfl
  | i :: is => by
    show (true && PyData.canLayAll0 (is.map PyData.int)) = true
    rw [lay_int is]; rfl
theorem depth_int : ∀ is : List Int, PyData.depthAll (is.map PyData.int) ≤ 1
  | [] => by decide
  | i :: is => by
    show max _ (PyData.depthAll (is.map PyData.int)) ≤ 1
    exact Nat.max_le.mpr ⟨Nat.zero_le _, depth_int is⟩
theorem eq_row {is js : List Int} {Q : D → Prop} (hr : ∀ is : List Int, SeqAt.shaped (.tuple (is.map PyData.int)) = true) (h : Q (.bl (is == js))) : gEq (.tup (is.map D.int)) (.tup (js.map D.int)) Q :=
  ⟨_, _, by simp [pd, pdL_int], by simp [pd, pdL_int], hr is, hr js, by rw [show PyData.eqv (.tuple (is.map PyData.int)) (.tuple (js.map PyData.int)) = PyData.eqvAll (is.map PyData.int) (js.map PyData.int) from rfl, eqvAll_int]; exact h⟩
theorem shaped_row (is : List Int) : SeqAt.shaped (.tuple (is.map PyData.int)) = true := by
  unfold SeqAt.shaped
  rw [show PyData.canLay0 (.tuple (is.map PyData.int)) = PyData.canLayAll0 (is.map PyData.int) from rfl, lay_int, Bool.true_and]
  have := depth_int is
  exact decide_eq_true (by show PyData.depthAll (is.map PyData.int) + 1 ≤ 64; omega)
end Kn
set_option Elab.async false
set_option linter.all false
set_option maxRecDepth 100000
set_option maxHeartbeats 2100000
namespace Kn
open PySem L2 RZ
section
variable {G : Gd} {E : XK} {X : Cx} {σ : List (Option V)} {H H' : Hp} {k : Nat}
theorem denL_rg {B : Addr → Prop} {H : Hp} (a : Int) : ∀ n : Nat, DenL G B H ((List.range n).map fun (i : Nat) => D.int (a + (i : Int))) ((List.range n).map fun i => V.int (a + (i : Nat))) := fun n => by
  have h : ∀ l : List Nat, DenL G B H (l.map fun (i : Nat) => D.int (a + (i : Int))) (l.map fun i => V.int (a + (i : Nat))) := fun l => by
    induction l with
    | nil => rfl
    | cons x l ih => exact ⟨_, _, rfl, rfl, ih⟩
  exact h _
end
end Kn
set_option Elab.async false
set_option linter.all false
set_option maxRecDepth 100000
set_option maxHeartbeats 2100000
namespace Kn
open PySem L2 RZ
end Kn
set_option Elab.async false
set_option linter.all false
set_option maxRecDepth 100000
set_option maxHeartbeats 2100000
namespace Kn
open PySem L2 RZ
end Kn
set_option Elab.async false
set_option linter.all false
set_option maxRecDepth 100000
set_option maxHeartbeats 2100000
namespace Kn
open PySem L2 RZ
end Kn
set_option Elab.async false
set_option linter.all false
set_option maxRecDepth 100000
set_option maxHeartbeats 2100000
namespace Kn
open PySem L2 RZ
end Kn
set_option Elab.async false
set_option linter.all false
set_option maxRecDepth 100000
set_option maxHeartbeats 2100000
namespace Kn
open PySem L2
section
variable {G : Gd} {E : XK} {X : Cx}
def sAsg (te : DT) (t : DG) : DS := fun ex de env => te ex env fun d => t d env de.nx
theorem ds_asg {tg e : Expr} {c : Nat} {sl : List Nat} {te : DT} {t : DG} {pos : Pos} (he : DE G E X c e te) (hg : DTg G E X tg sl t) (hs : swapsWithSole [tg] e pos.line X.env = pure false := by rfl) (hw : swappedStores [tg] e X.env = pure none := by with_unfolding_all rfl)
    (h1 : (assignEach [tg] X.env).map (·.2) = [assign tg X.env] := by rfl) : DSt G E X c (.Assign [tg] e pos) (sAsg te t) :=
  impS (ps_asg he hg hs hw h1) fun Dn σ H h => by
    obtain ⟨W, hn, de, ht, k1, k2, k3, k4⟩ := h
    refine ⟨W, hn, _, ht, fun v H' d st hd hq => ?_⟩
    exact ⟨W.next st, d, de.nx, hd, hq, fun σ' W' al _ q => k1 σ' H' W' (((Later.next st).trans al.later).more (by omega)) q⟩
end
end Kn
set_option Elab.async false
set_option linter.all false
set_option maxRecDepth 100000
set_option maxHeartbeats 2100000
namespace Kn
open PySem L2
section
variable {G : Gd} {E : XK} {X : Cx} {σ : List (Option V)} {H H' : Hp}
mutual
def flatD : D → Bool
  | .non => true
  | .bl _ => true
  | .int _ => true
  | .str _ => true
  | .tup ds => flatL ds
  | _ => false
def flatL : List D → Bool
  | [] => true
  | d :: ds => flatD d && flatL ds
end
/-- no tuple stands at b -/
def NoTup (H : Hp) (b : Addr) : Prop := ∃ o, H b = some o ∧ (∀ xs, o ≠ .tup xs) ∧ ∀ q xs, o ≠ .frz q (.tup xs)
mutual
theorem Den.flat {B B' : Addr → Prop} (hb : ∀ b, B' b → B b ∨ NoTup H b) : ∀ (d : D) (v : V), flatD d = true → Den G B H d v → Den G B' H d v
  | .non, _, _, h => h
  | .bl _, _, _, h => h
  | .int _, _, _, h => h
  | .str _, _, _, h => h
  | .tup ds, v, f, ⟨a, xs, e, nb, hs, hl, hd⟩ => by
    rcases nb with nb | nb
    · rcases hs with h | h
      · refine ⟨a, xs, e, .inl fun z => ?_, .inl h, hl, DenL.flat hb ds xs f hd⟩
        rcases hb a z with q | ⟨o, ho, n1, n2⟩
        · exact nb q
        · rcases h with h | ⟨q, h⟩
          · rw [h] at ho; cases ho; exact n1 xs rfl
          · rw [h] at ho; cases ho; exact n2 q xs rfl
      · exact ⟨a, xs, e, .inr h, .inr h, hl, DenL.flat hb ds xs f hd⟩
    · exact ⟨a, xs, e, .inr nb, hs, hl, DenL.flat hb ds xs f hd⟩
  | .lst _, _, f, _ => by simp [flatD] at f
  | .ins _ _, _, f, _ => by simp [flatD] at f
  | .opq _, _, f, _ => by simp [flatD] at f
  | .urn, _, f, _ => by simp [flatD] at f
  | .at_ _ _, _, f, _ => by simp [flatD] at f
  | .dct _ _, _, f, _ => by simp [flatD] at f
  | .tupn _, _, f, _ => by simp [flatD] at f
  | .exc _ _, _, f, _ => by simp [flatD] at f
  | .dic _ _, _, f, _ => by simp [flatD] at f
  | .dcT _ _, _, f, _ => by simp [flatD] at f
  | .dcf _ _, _, f, _ => by simp [flatD] at f
theorem DenL.flat {B B' : Addr → Prop} (hb : ∀ b, B' b → B b ∨ NoTup H b) : ∀ (ds : List D) (xs : List V), flatL ds = true → DenL G B H ds xs → DenL G B' H ds xs
  | [], _, _, h => h
  | d :: ds, xs, f, ⟨x, r, e, h1, h2⟩ => by
    have f' : (flatD d && flatL ds) = true := f
    rw [Bool.and_eq_true] at f'
    exact ⟨x, r, e, Den.flat hb d x f'.1 h1, DenL.flat hb ds r f'.2 h2⟩
end
/-- a slot of the frame's own, taken for a value -/
def LendOk (G : Gd) (s : Sl) (v : D) : Prop := (∃ a ds, s = .own a ds ∧ v = .lst ds) ∨ (∃ a dx c ds, s = .slf a dx c ds ∧ v = .ins c ds ∧ ds.length = (G.fl c).length) ∨ ∃ a ks ds, s = .dic a ks ds ∧ v = .dcT ks ds
theorem LendOk.mine {s : Sl} {v : D} (h : LendOk G s v) : s.mine = true := by
  rcases h with ⟨a, ds, rfl, _⟩ | ⟨a, dx, c, ds, rfl, _⟩ | ⟨a, ks, ds, rfl, _⟩ <;> rfl
/-- the state in which a slot of the frame's own is taken for a value -/
theorem wd_lend (W : Wd G E σ H) {i : Nat} {s : Sl} {v : D} (he : W.env[i]? = some s) (ok : LendOk G s v) :
    ∃ (W' : Wd G E σ H) (a : Addr), W'.env = W.env.set i (.val v) ∧ W'.u = W.u ∧ W'.n = W.n ∧ W'.m = W.m ∧ W'.B = W.B ∧ W'.ex = W.ex ∧ W'.H0 = W.H0 ∧ σ[i]? = some (some (.ref a)) ∧ W.H0 a = none ∧ NoTup H a ∧ (∀ b, W.XB b → W'.XB b ∨ b = a) ∧ (∀ b, W'.XB b → W.XB b ∧ b ≠ a) := by
  have hil : i < W.env.length := (List.getElem?_eq_some_iff.mp he).1
  have hm := ok.mine
  have hsl := W.sl i _ he
  have hat : ∃ a o, σ[i]?.join = some (V.ref a) ∧ W.H0 a = none ∧ H a = some o ∧ (∀ xs, o ≠ .tup xs) ∧ (∀ q xs, o ≠ .frz q (.tup xs)) := by
    rcases ok with ⟨a, ds, rfl, _⟩ | ⟨a, dx, c, ds, rfl, _⟩ | ⟨a, ks, ds, rfl, _⟩
    · obtain ⟨xs, e1, h0, ha, _⟩ := hsl
      exact ⟨a, _, e1, h0, ha, fun _ z => (by cases z), fun _ _ z => (by cases z)⟩
    · obtain ⟨xs, e1, h0, ha, _⟩ := hsl
      exact ⟨a, _, e1, h0, ha, fun _ z => (by cases z), fun _ _ z => (by cases z)⟩
    · obtain ⟨L, e1, h0, ha, _⟩ := hsl
      exact ⟨a, _, e1, h0, ha, fun _ z => (by cases z), fun _ _ z => (by cases z)⟩
  obtain ⟨a, o, e1, h0, ha, n1, n2⟩ := hat
  have hsi := join_some e1
  have xb : ∀ b, XBof W.B (W.env.set i (.val v)) σ b → W.XB b ∧ b ≠ a := fun b hb => by
    rcases hb with hb | ⟨j, t, f1, m1, f2⟩
    · exact ⟨.inl hb, fun z => W.own_ne h0 (by rw [← z]; exact hb)⟩
    · by_cases hj : i = j
      · subst hj
        rw [List.getElem?_set_self hil] at f1; cases f1; cases m1
      · rw [List.getElem?_set_ne hj] at f1
        exact ⟨.inr ⟨j, t, f1, m1, f2⟩, fun z => hj (W.nd i j a _ t he f1 hm m1 hsi (by rw [← z]; exact f2))⟩
  have old : ∀ {j : Nat} {t : Sl}, (W.env.set i (.val v))[j]? = some t → t.mine = true → W.env[j]? = some t := fun {j t} f m => by
    by_cases hj : i = j
    · subst hj; rw [List.getElem?_set_self hil] at f; cases f; cases m
    · rw [List.getElem?_set_ne hj] at f; exact f
  refine ⟨{ u := W.u, n := W.n, m := W.m, B := W.B, H0 := W.H0, env := W.env.set i (.val v), ex := W.ex, ug := W.ug, hu := W.hu, hB := W.hB, fr := W.fr, good := W.good, len := by rw [List.length_set]; exact W.len, sl := fun j t e => ?_, nd := fun j l b t r f1 f2 m1 m2 f3 f4 => W.nd j l b t r (old f1 m1) (old f2 m2) m1 m2 f3 f4, exc := W.exc }, a, rfl, rfl, rfl, rfl, rfl, rfl, rfl, hsi, h0, ⟨o, ha, n1, n2⟩, fun b hb => ?_, xb⟩
  · by_cases hj : i = j
    · subst hj
      rw [List.getElem?_set_self hil] at e
      cases e
      rcases ok with ⟨a', ds, rfl, rfl⟩ | ⟨a', dx, c, ds, rfl, rfl, hcl⟩ | ⟨a', ks, ds, rfl, rfl⟩
      · obtain ⟨xs, e2, _, ha', hl, hd⟩ := hsl
        rw [e1] at e2; cases e2
        exact ⟨.ref a, e1, a, xs, rfl, fun z => (xb a z).2 rfl, ha', hl, hd.fewer fun b hb => (xb b hb).1⟩
      · obtain ⟨xs, e2, _, ha', hl, hd⟩ := hsl
        rw [e1] at e2; cases e2
        exact ⟨.ref a, e1, a, dx, xs, rfl, fun z => (xb a z).2 rfl, ha', by rw [← hd.length]; exact hcl, hd.fewer fun b hb => (xb b hb).1⟩
      · obtain ⟨L, e2, _, ha', hk, hx, hd⟩ := hsl
        rw [e1] at e2; cases e2
        exact ⟨.ref a, e1, a, L, rfl, fun z => (xb a z).2 rfl, ha', hk, hx.keep (fun _ _ _ h => h) (fun b hb => .inl (xb b hb).1), hd.fewer fun b hb => (xb b hb).1⟩
    · rw [List.getElem?_set_ne hj] at e
      exact (W.sl j t e).fewer fun b hb => (xb b hb).1
  · rcases hb with hb | ⟨j, t, f1, m1, f2⟩
    · exact .inl (.inl hb)
    · by_cases hj : i = j
      · subst hj
        rw [hsi] at f2; cases f2
        exact .inr rfl
      · exact .inl (.inr ⟨j, t, by show (W.env.set i (.val v))[j]? = some t; rw [List.getElem?_set_ne hj]; exact f1, m1, f2⟩)
theorem NoTup.ext {u : Option Ur} {b : Addr} (h : NoTup H b) (e : Ext u H H') (n : NU u b) : NoTup H' b := by
  obtain ⟨o, ho, h1⟩ := h
  exact ⟨o, e b o ho n, h1⟩
theorem lend_un (W : Wd G E σ H) {a : Addr} (h0 : W.H0 a = none) : NU W.u a := W.nu h0
end
end Kn
set_option Elab.async false
set_option linter.all false
set_option maxRecDepth 100000
set_option maxHeartbeats 2100000
namespace Kn
open PySem L2 RZ
open PyProof.Rows (envOfC)
section
variable {G : Gd} {E : XK} {X : Cx} {σ : List (Option V)} {H H' : Hp} {k : Nat}
/-- fields, arguments; what holds of the answer and the new fields -/
abbrev MSpec := List D → List D → (D → List D → Prop) → Prop
def liftM (G : Gd) (c cid : Nat) (S : MSpec) : Sp := fun vs H Q _ => ∃ (u : Option Ur) (n : Nat) (B : Addr → Prop) (fs ds : List D) (R : D → List D → Prop) (x dx : Addr) (vs' xs : List V),
  u = G.u ∧ vs = .ref x :: vs' ∧ H x = some (.ins (G.cl cid) dx ((G.fl cid).zip xs)) ∧ xs.length = (G.fl cid).length ∧ ¬ B x ∧ (∀ p, Pr u p → x ≠ p.1 ∧ x ≠ p.2) ∧ c ≤ n ∧ (∀ p, Pr u p → B p.1 ∧ B p.2) ∧ (∀ a, B a → H a ≠ none) ∧ Good u H n ∧
  DenL G (fun a => B a ∨ a = x) H ds vs' ∧ DenL G (fun a => B a ∨ a = x) H fs xs ∧ S fs ds R ∧
  (∀ H' v xs' d fs', (∀ b o, H b = some o → b ≠ x → NU u b → H' b = some o) → Good u H' (n - c) → H' x = some (.ins (G.cl cid) dx ((G.fl cid).zip xs')) → xs'.length = (G.fl cid).length → DenL G (fun a => B a ∨ a = x) H' fs' xs' → Den G (fun a => B a ∨ a = x) H' d v → R d fs' → Q v H')
structure MutD (G : Gd) (P : Program) (w : World) (mg : Str → Option Value) (base : Heap) (k : Nat) (f : Addr) (fd : FuncData) (ps : List Str) (c cid : Nat) (S : MSpec) : Prop where
  run : ∀ (A : Around) (outer : List Env) (s : Shared) (H : Hp) (args : Args) (us : List Value) (vs : List V) (Q : VK) (E : XK), Room k A → A.guards = some [] → Env0 P w G.K mg base A outer s H →
    BindsTo s fd args (ps.zip us) → Vals vs us → vs.length = ps.length → liftM G c cid S vs H Q E → codeAny (model P w) A (.call (.ref f) args) (CR (L2.CX P w) outer P w H s Q E) s
theorem MutD.mono {P : Program} {w : World} {mg : Str → Option Value} {base : Heap} {j k : Nat} {f : Addr} {fd : FuncData} {ps : List Str} {c cid : Nat} {S : MSpec} (F : MutD G P w mg base j f fd ps c cid S) (h : j ≤ k) : MutD G P w mg base k f fd ps c cid S :=
  ⟨fun A outer s H args us vs Q E hr => F.run A outer s H args us vs Q E (hr.mono h)⟩
/-- the slots at the entry -/
def envM (N : List Str) (x dx : Addr) (cid : Nat) (fs ds : List D) : List Sl := Sl.slf x dx cid fs :: (ds.map Sl.val ++ List.replicate (N.length - 1 - ds.length) Sl.emp)
theorem envM_get {N : List Str} {x dx : Addr} {cid : Nat} {fs ds : List D} {i : Nat} {s : Sl} (h : (envM N x dx cid fs ds)[i]? = some s) : (i = 0 ∧ s = .slf x dx cid fs) ∨ (∃ j d, i = j + 1 ∧ ds[j]? = some d ∧ s = .val d) ∨ s = .emp := by
  unfold envM at h
  cases i with
  | zero => exact .inl ⟨rfl, (Option.some.inj h).symm⟩
  | succ j =>
    rw [List.getElem?_cons_succ] at h
    by_cases hi : j < ds.length
    · rw [List.getElem?_append_left (by simpa using hi), List.getElem?_map, List.getElem?_eq_getElem hi] at h
      exact .inr (.inl ⟨j, ds[j], rfl, List.getElem?_eq_getElem hi, (Option.some.inj h).symm⟩)
    · rw [List.getElem?_append_right (by simpa using hi), List.getElem?_replicate] at h
      split at h
      · exact .inr (.inr (Option.some.inj h).symm)
      · cases h
abbrev DT2 := (Exc → Prop) → List Sl → (D → List Sl → Prop) → Prop
def lift2 (G : Gd) (E : XK) (c : Nat) (t : DT2) : TE := fun σ H Q' => ∃ W : Wd G E σ H, W.m + c ≤ W.n ∧ ∃ Q, t W.ex W.env Q ∧ ∀ v H' d (W' : Wd G E σ H'), Later W c W' → Den G W'.XB H' d v → Q d W'.env → Q' v H'
abbrev DE2 (G : Gd) (E : XK) (X : Cx) (c : Nat) (e : Expr) (t : DT2) : Prop := PE X e (lift2 G E c t)
end
end Kn
set_option Elab.async false
set_option linter.all false
set_option maxRecDepth 100000
set_option maxHeartbeats 2100000
namespace Kn
open PySem L2 RZ
open PyProof.Rows (envOfC)
section
variable {G : Gd} {E : XK} {X : Cx} {σ : List (Option V)} {H H' : Hp} {k : Nat}
def s2Expr (t : DT2) : DS := fun ex de env => t ex env fun _ env' => de.nx env'
theorem ds2_expr {e : Expr} {pos : Pos} {c : Nat} {t : DT2} (he : DE2 G E X c e t) (hs : swapsWith e none pos.line X.env = pure false := by rfl) : DSt G E X c (.Expr e pos) (s2Expr t) :=
  impS (ps_expr he hs) fun Dn σ H h => by
    obtain ⟨W, hn, de, ht, k1, k2, k3, k4⟩ := h
    exact ⟨W, hn, _, ht, fun v H' d W' lt hd hq => k1 _ H' W' lt hq⟩
end
end Kn
set_option Elab.async false
set_option linter.all false
set_option maxRecDepth 100000
set_option maxHeartbeats 2100000
namespace Kn
open PySem L2 RZ
end Kn
set_option Elab.async false
set_option linter.all false
set_option maxRecDepth 100000
set_option maxHeartbeats 2100000
namespace Kn
open PySem L2 RZ
open PyProof.Rows (envOfC)
end Kn
set_option Elab.async false
set_option linter.all false
set_option maxRecDepth 100000
set_option maxHeartbeats 2100000
namespace Kn
open PySem L2 RZ
open PyProof.Rows (envOfC)
section
variable {G : Gd} {E : XK} {X : Cx} {σ : List (Option V)} {H H' : Hp} {k : Nat}
structure KkM (K : PySem.W.Frag) (fd : FuncData) (ps ks : List Str) (ix : List Nat) : Prop where
  to : ∀ (s : Shared) (self : Value) (us : List Value), K.In s.heap → us.length = ks.length → BindsTo s fd ⟨[self], ks.zip us⟩ (ps.zip (self :: ix.map fun i => us.getD i .none))
  ok : ∀ i ∈ ix, i < ks.length
  len : ix.length + 1 = ps.length
theorem KkM.all {K : PySem.W.Frag} {fd : FuncData} {ps ks : List Str} {ix : List Nat} (h : ∀ (self : Value) (us : List Value), us.length = ks.length → bindArgs fd ⟨[self], ks.zip us⟩ = pure (ps.zip (self :: ix.map fun i => us.getD i .none))) (h2 : ∀ i ∈ ix, i < ks.length) (h3 : ix.length + 1 = ps.length) : KkM K fd ps ks ix :=
  ⟨fun s self us _ hl => .of_eq (h self us hl), h2, h3⟩
end
end Kn
set_option Elab.async false
set_option linter.all false
set_option maxRecDepth 100000
set_option maxHeartbeats 2100000
namespace NeX
open PySem
open PySem.W PyProof.Rows
section
variable {prog : Program} {w : World} {M : Model} {A : Around} {E : Value → Shared → Prop} {s : Shared} {K : Frag} {x C f L : Addr} {ox : Obj} {od : Option Obj} {b tb : Value} {h₀ : Heap} {m : Str → Option Value}
theorem bound_b {name : Str} {id : String} {args : List Value} {Q : Option Value → Shared → Prop} (X : K.In s.heap) (I : InstAt s.heap x ox C od) (hs : findIn K (.ref C) name = some (some (.builtin id))) (hb : ∀ self, bindSpecial (.builtin id) self = pure (.builtin id, [self]))
    (h : wpAny M A (call (.builtin id) (.ref x :: args)) (fun v => Q (some v)) E s) : wpAny M A (callSpecialIfBound? (.ref x) name args) Q E s := by
  simp only [callSpecialIfBound?, bindSpecialIfBound?]; refine wpAny_holding (wpAny_bind (wpAny_bind (wpAny_bind (I.type.here ((looks_findIn X hs).here ?_)))))
  refine wpAny_bind (wpAny_askSetting (wpAny_ite ?_)); have fin : wpAny M A (call (.builtin id) ([.ref x] ++ args) >>= fun v => pure (some v)) Q E s := wpAny_bind (wpAny_mono h (fun v s' h' => wpAny_pure h') fun _ _ h' => h')
  split
  · exact wpAny_bind ((Looks.of_pure (hb _)).here (wpAny_pure (by exact fin)))
  · exact wpAny_tryCatch (wpAny_bind ((Looks.of_pure (hb _)).here (wpAny_pure (by exact fin))))
theorem obj_ne {Q : Value → Shared → Prop} (hu : A.in1.units < cLine) (X : K.In s.heap) (I : InstAt s.heap x ox C od) (hm : mroIn K C (.type "object") = some true) (hs : findIn K (.ref C) "__eq__" = some (some (.ref f))) (hf : isFn K (.ref f) = true)
    (h : wpAny (model prog w) A.in1 (call (.ref f) [.ref x, b]) (fun v s' => ∃ c, v = .bool c ∧ Q (.bool (!c)) s') E s) : wpAny (model prog w) A (call (.builtin "object.__ne__") [.ref x, b]) Q E s := by
  refine wpAny_call (codeAny_call_builtin PySem.F.cmp_object.ne.plain PySem.F.cmpEntry_ne (check_slot (i := "object.__ne__") (owner := "object") (n := "__ne__") PySem.F.cmpKind_ne PySem.F.cmpSplit_ne (I.type.andThen (looks_mroIn X hm)) (PySem.F.cmpArgs_ne _ _) ?_))
  unfold Builtin.«object.__ne__»; refine wpAny_bind (m := slotArgs "__ne__" 1 _) (wpAny_pure ?_)
  refine wpAny_bind (m := cRoomFor _ _) (wpAny_cRoomFor hu ?_); refine wpAny_bind (m := callSpecialIfBound? (.ref x) (Str.ofString "__eq__") _) (ifBound_K X I hs hf (wpAny_mono h (fun r s' hq => ?_) fun _ _ y => y))
  obtain ⟨c, rfl, hq⟩ := hq
  exact wpAny_bind (m := truthy (.bool c)) (wpAny_truthy_bool (wpAny_pure hq))
theorem ne_K {Q : Value → Shared → Prop} (hu : A.in1.units < cLine) (hu0 : A.units < cLine) (F : Fr h₀ L s.heap m) (X₀ : K.In h₀) (I : InstAt s.heap x ox C od) (hb : Looks (model prog w) s.heap (typeOf b) tb) (hn : notFirst K C tb = true)
    (hm : mroIn K C (.type "object") = some true) (hne : findIn K (.ref C) "__ne__" = some (some (.builtin "object.__ne__"))) (hs : findIn K (.ref C) "__eq__" = some (some (.ref f))) (hf : isFn K (.ref f) = true)
    (h : wpAny (model prog w) A.in1 (call (.ref f) [.ref x, b]) (fun v s' => ∃ c, v = .bool c ∧ Q (.bool (!c)) s') E s) : wpAny (model prog w) A (richCompare .NotEq (.ref x) b) Q E s := by
  have X := X₀.keeps F.keep
  have one : wpAny (model prog w) A (tryCompare (.ref x) "__ne__" b) (fun r s' => ∃ v, r = some v ∧ Q v s') E s := by
    unfold tryCompare
    refine wpAny_bind (bound_b X I hne PySem.F.cmp_object.ne.bind (obj_ne hu X I hm hs hf (wpAny_mono h (fun v s' hv => ?_) fun _ _ e => e)))
    obtain ⟨c, rfl, hq⟩ := hv
    exact ⟨c, rfl, wpAny_pure ⟨_, rfl, hq⟩⟩
  unfold richCompare
  simp only [oneThing_ref]
  refine wpAny_holding (wpAny_bind (wpAny_cRoomFor hu0 ?_)); refine wpAny_bind (I.type.here (wpAny_bind (hb.here ?_)))
  split
  · rename_i q
    have e : subIn K tb (.ref
          C) = some false := by
      rcases Bool.or_eq_true_iff.mp
            hn with e | e
      · rw [beq_iff_eq.mp
            e] at q; simp at q
      · exact beq_iff_eq.mp e
    refine wpAny_bind ((looks_subIn X e).here ?_); simp only [Bool.false_eq_true, if_false]
    refine wpAny_bind (wpAny_mono one (fun r s' z => ?_) fun _ _ e => e); obtain ⟨v, rfl, hq⟩ := z
    exact wpAny_pure hq
  · refine wpAny_bind
        (wpAny_pure ?_)
    simp only [Bool.false_eq_true, if_false]; refine wpAny_bind (wpAny_mono one (fun r s' z => ?_) fun _ _ e => e)
    obtain ⟨v, rfl, hq⟩ := z
    exact wpAny_pure hq
end
end NeX
set_option Elab.async false
set_option linter.all false
set_option maxRecDepth 100000
set_option maxHeartbeats 2100000
namespace Kn
open PySem L2 RZ
open PyProof.Rows (envOfC)
section
variable {G : Gd} {E : XK} {X : Cx} {σ : List (Option V)} {H H' : Hp} {k : Nat}
/-- what may stand on the right of == and != -/
def tyOk (c : Nat) (e : D) : Prop := (∃ es, e = .ins c es) ∨ (∃ es, e = .tup es) ∨ ∃ x, e = .str x
theorem not_first_tup {K : PySem.W.Frag} {C : Addr} : PySem.W.notFirst K C (.type "tuple") = true := by
  unfold PySem.W.notFirst
  rw [show PySem.W.subIn K (.type "tuple") (.ref C) = some false by unfold PySem.W.subIn; rfl]
  simp
theorem not_first_str {K : PySem.W.Frag} {C : Addr} : PySem.W.notFirst K C (.type "str") = true := by
  unfold PySem.W.notFirst
  rw [show PySem.W.subIn K (.type "str") (.ref C) = some false by unfold PySem.W.subIn; rfl]
  simp
theorem den_type {pins : List (Addr × Obj)} {s : Shared} {B : Addr → Prop} {c : Nat} {e : D} {v : V} {u : Value} (ok : tyOk c e) (I : Inv X pins σ H s) (hK : X.K = G.K) (he : Den G B H e v) (r : L2.RelV v u) :
    ∃ tb, PySem.W.Looks (model X.prog X.w) s.heap (typeOf u) tb ∧ PySem.W.notFirst X.K (G.cl c) tb = true := by
  rcases ok with ⟨es, rfl⟩ | ⟨es, rfl⟩ | ⟨x, rfl⟩
  · obtain ⟨a, dx, xs, rfl, na, ha, la, da⟩ := he
    cases r
    obtain ⟨mA, J, _⟩ := ins_get I.hok ha; obtain ⟨od, J, _⟩ := J.look
    exact ⟨_, J.type, by simp [PySem.W.notFirst]⟩
  · obtain ⟨a, xs, rfl, na, ha, la, da⟩ := he
    cases r
    obtain ⟨its, _, ⟨o, ho, hc, _⟩, _⟩ := I.tuple (by rw [hK]; exact ha)
    exact ⟨.type "tuple", hc ▸ (PySem.W.Looks.ld ho).andThen .now, not_first_tup⟩
  · cases he
    obtain ⟨t, rfl⟩ := r
    exact ⟨.type "str", PySem.W.Looks.of_pure rfl, not_first_str⟩
structure Fqn (G : Gd) (P : Program) (w : World) (mg : Str → Option Value) (base : Heap) (k : Nat) (c : Nat) (cf : Nat) (S : FSpec) : Prop where
  ex : ∃ (f : Addr) (fd : FuncData) (ps : List Str), FnD G P w mg base k f fd ps cf S ∧ PySem.W.findIn G.K (.ref (G.cl c)) "__eq__" = some (some (.ref f)) ∧ PySem.W.isFn G.K (.ref f) = true ∧ Binds G.K fd ps [] ∧ ps.length = 2 ∧
    PySem.W.mroIn G.K (G.cl c) (.type "object") = some true ∧ PySem.W.findIn G.K (.ref (G.cl c)) "__ne__" = some (some (.builtin "object.__ne__"))
def rCmpI (neg : Bool) (G : Gd) (E : XK) (c cf : Nat) (S : FSpec) : R2 := fun x y H Q' => ∃ a dx fs B e, x = .ref a ∧ H a = some (.ins (G.cl c) dx fs) ∧ tyOk c e ∧ Den G B H e y ∧ liftF G cf S [.ref a, y] H (fun v H' => ∃ b, v = .bl b ∧ Q' (.bl (if neg then !b else b)) H') E
theorem run_own {j cf : Nat} {S : FSpec} {pins : List (Addr × Obj)} {s : Shared} {f a : Addr} {fd : FuncData} {ps : List Str} {y : V} {u : Value} {Q : Value → Shared → Prop} {Q' : VK} {A : Around} (hF : FnD G X.prog X.w X.mg X.base j f fd ps cf S) (xk : Xk G E k X) (rm : Room j A) (hfr : A.frames = X.A.frames) (hgd : A.guards = some []) (hbd : Binds X.K fd ps []) (hp2 : ps.length = 2)
    (I : Inv X pins σ H s) (ry : L2.RelV y u) (hl : liftF G cf S [.ref a, y] H Q' E) (hq : ∀ v s', EP X pins σ Q' v s' → Q v s') : wpAny (model X.prog X.w) A (call (.ref f) [.ref a, u]) Q X.xe s := by
  have e0 : Env0 X.prog X.w G.K X.mg X.base A X.stack s H := by
    have e := I.env0
    rw [← xk.K]
    exact ⟨by rw [hfr]; exact e.frames, e.mod, e.bs, e.bsz, e.funs, e.frf, e.hok, e.bare⟩
  have hb : BindsTo s fd ⟨[.ref a, u], []⟩ (ps.zip [.ref a, u]) := by
    have z := hbd s [.ref a, u] I.kIn (by rw [List.append_nil]; exact hp2.symm)
    rw [List.append_nil] at z
    exact z
  refine wpAny_call (codeAny_mono (hF.run A X.stack s H ⟨[.ref a, u], []⟩ [.ref a, u] [.ref a, y] _ E rm hgd e0 hb (.cons rfl (.cons ry .nil)) hp2.symm hl) fun r s' h => ?_)
  cases r with
  | error e => exact xk.pass pins σ H s e s' I h
  | ok fl =>
    cases fl with
    | ret u => exact hq u s' (I.after h)
    | next => exact h.elim
    | brk => exact h.elim
    | cont => exact h.elim
theorem op_eqO {j c cf : Nat} {S : FSpec} (F : Fqn G X.prog X.w X.mg X.base j c cf S) (xk : Xk G E k X) (hj : j ≤ k := by decide) : OpR X (compareOp .Eq) (rCmpI false G E c cf S) := by
  intro pins s σ H x y v u Q I rx ry h; obtain ⟨a, dx, fs, B, e, rfl, ha, ok, he, hl⟩ := h
  obtain ⟨f, fd, ps, hF0, hs, hf, hbd, hp2, hm, hne⟩ := F.ex
  obtain ⟨tb, ht, hnf⟩ := den_type ok I xk.K he ry
  rw [← xk.K] at hs hf hbd hm hne
  cases rx
  obtain ⟨mA, J, _⟩ := ins_get I.hok ha; obtain ⟨od, J, _⟩ := J.look; obtain ⟨m, hFr⟩ := I.fr
  refine (?_ : wpAny (model X.prog X.w) X.A (richCompare .Eq (.ref a) u) (EP X pins σ Q) X.xe s)
  refine PySem.W.cmp_K (op := .Eq) (tb := tb) xk.room.units0 hFr I.ok.mod.kin J ht hnf hs hf (run_own hF0 xk (xk.room.mono hj) rfl xk.gd hbd hp2 I ry hl fun w s' z => ?_)
  obtain ⟨z', H', I', rz, b, eb, qz⟩ := z
  subst eb
  exact SlX.cmpback rz ⟨.bl b, H', I', rz, qz⟩
theorem op_neO {j c cf : Nat} {S : FSpec} (F : Fqn G X.prog X.w X.mg X.base j c cf S) (xk : Xk G E k X) (hj : j + 1 ≤ k := by decide) : OpR X (compareOp .NotEq) (rCmpI true G E c cf S) := by
  intro pins s σ H x y v u Q I rx ry h; obtain ⟨a, dx, fs, B, e, rfl, ha, ok, he, hl⟩ := h
  obtain ⟨f, fd, ps, hF0, hs, hf, hbd, hp2, hm, hne⟩ := F.ex
  obtain ⟨tb, ht, hnf⟩ := den_type ok I xk.K he ry
  rw [← xk.K] at hs hf hbd hm hne
  cases rx
  obtain ⟨mA, J, _⟩ := ins_get I.hok ha; obtain ⟨od, J, _⟩ := J.look; obtain ⟨m, hFr⟩ := I.fr
  refine (?_ : wpAny (model X.prog X.w) X.A (richCompare .NotEq (.ref a) u) (EP X pins σ Q) X.xe s)
  refine NeX.ne_K (tb := tb) (by have := xk.room.un; show X.A.units + 1 < cLine; omega) (by have := xk.room.un; omega) hFr I.ok.mod.kin J ht hnf hm hne hs hf (run_own hF0 xk (Room.in1 (xk.room.mono hj)) rfl xk.gd hbd hp2 I ry hl fun w s' z => ?_)
  obtain ⟨z', H', I', rz, b, eb, qz⟩ := z
  subst eb
  cases rz
  exact ⟨b, rfl, .bl (!b), H', I', rfl, qz⟩
def dCmpI (neg : Bool) (c : Nat) (S : FSpec) (ta tb : DT) : DT := fun ex env Q => ta ex env fun d => tb ex env fun e => ∃ ds, d = .ins c ds ∧ tyOk c e ∧ S [d, e] (fun r => ∃ b, r = .bl b ∧ Q (.bl (if neg then !b else b))) ex
theorem lift_cmpI {neg : Bool} {ca cb cf c : Nat} {S : FSpec} {ta tb : DT} {Q' : VK} (h : lift G E (ca + cb + cf) (dCmpI neg c S ta tb) σ H Q') : tOp (rCmpI neg G E c cf S) (lift G E ca ta) (lift G E cb tb) σ H Q' := by
  obtain ⟨W, hn, Q, ht, kk⟩ := h
  refine ⟨W, by omega, _, ht, fun v H1 d st hd hq => ⟨W.next st, by show W.m + cb ≤ W.n - ca; omega, _, hq, fun v2 H2 e st2 he ⟨ds, e1, ok, hs⟩ => ?_⟩⟩
  subst e1
  have hd2 : Den G W.XB H2 (.ins c ds) v := (W.next st).den st2 hd
  have he2 : Den G W.XB H2 e v2 := he
  obtain ⟨a, dx, xs, rfl, na, ha, la, da⟩ := id hd2
  refine ⟨a, dx, _, W.XB, e, rfl, ha, ok, he2, lift_callee (st.trans st2) hn (ds := [.ins c ds, e]) ⟨_, _, rfl, hd2, _, _, rfl, he2, rfl⟩ hs fun v H' d st3 hd3 ⟨bb, eb, hq3⟩ => ?_⟩
  subst eb
  cases hd3
  exact ⟨bb, rfl, kk _ H' (.bl _) st3 (den_bl _) hq3⟩
theorem dt_eqO {a b : Expr} {pos : Pos} {j c ca cb cf : Nat} {S : FSpec} {ta tb : DT} (F : Fqn G X.prog X.w X.mg X.base j c cf S) (xk : Xk G E k X) (ha : DE G E X ca a ta) (hb : DE G E X cb b tb) (hm : behindInMarks .Eq b = false) (hj : j ≤ k := by decide) : DPt G E X (ca + cb + cf) (.Compare a [.Eq] [b] pos) (dTrue (dCmpI false c S ta tb)) :=
  impT (pt_cmpR (op_eqO F xk hj) ha hb hm) fun _ _ _ h => lift_cmpI (lift_true h)
theorem dt_neO {a b : Expr} {pos : Pos} {j c ca cb cf : Nat} {S : FSpec} {ta tb : DT} (F : Fqn G X.prog X.w X.mg X.base j c cf S) (xk : Xk G E k X) (ha : DE G E X ca a ta) (hb : DE G E X cb b tb) (hm : behindInMarks .NotEq b = false) (hj : j + 1 ≤ k := by decide) : DPt G E X (ca + cb + cf) (.Compare a [.NotEq] [b] pos) (dTrue (dCmpI true c S ta tb)) :=
  impT (pt_cmpR (op_neO F xk hj) ha hb hm) fun _ _ _ h => lift_cmpI (lift_true h)
end
end Kn
set_option Elab.async false
set_option linter.all false
set_option maxRecDepth 100000
set_option maxHeartbeats 2100000
namespace Kn
open PySem L2 RZ
open PyProof.Rows (envOfC)
section
variable {G : Gd} {E : XK} {X : Cx} {σ : List (Option V)} {H H' : Hp} {k : Nat}
def gTypeA : D → (D → Prop) → Prop := fun d Q => (∃ c ds, d = .ins c ds ∧ Q (.opq (.ref (G.cl c)))) ∨ (∃ ds, d = .tup ds ∧ Q (.opq (.ty "tuple"))) ∨ (∃ x, d = .str x ∧ Q (.opq (.ty "str")))
theorem c_typeA (hK : X.K = G.K) : CallR X (.type "type") (rDL G (g1 (gTypeA (G := G)))) := by
  intro pins s σ H vs us Q' I r h
  obtain ⟨B, d, x, Q, rfl, hd, hf, hg, kk⟩ := rDL1 h
  rcases hg with ⟨c, ds, rfl, hq⟩ | ⟨ds, rfl, hq⟩ | ⟨y, rfl, hq⟩
  · obtain ⟨a, dx, ys, rfl, na, ha, la, da⟩ := hd
    exact cr_type pins s σ H _ us Q' I r ⟨a, _, dx, _, rfl, ha, kk _ H (.opq (.ref (G.cl c))) (Ext.refl _ _) (den_opq _) hq⟩
  · obtain ⟨a, ys, rfl, na, ha, la, da⟩ := hd
    rw [Vals.ref1 r]
    obtain ⟨its, _, ⟨o, ho, hc, _⟩, _⟩ := I.tuple (by rw [hK]; exact ha)
    exact PySem.W.kto_cont (T := "tuple") ⟨o, ho, hc⟩ (by decide +kernel) ⟨.ty "tuple", H, I, rfl, kk _ H (.opq (.ty "tuple")) (Ext.refl _ _) (den_opq _) hq⟩
  · cases hd
    cases r with
    | cons r1 rs =>
      cases rs
      obtain ⟨t, rfl⟩ := r1
      exact call_type_of (typeIs_str _ _ _) (by decide +kernel) ⟨.ty "str", H, I, rfl, kk _ H (.opq (.ty "str")) (Ext.refl _ _) (den_opq _) hq⟩
def gIsA (f : Bool → Bool) : G2 := fun d e Q => (∃ a, d = .opq (.ref a) ∧ e = .opq (.ref a) ∧ Q (.bl (f true))) ∨ ∃ n a, d = .opq (.ty n) ∧ e = .opq (.ref a) ∧ Q (.bl (f false))
theorem o_isnA : OpR X (compareOp .IsNot) (rD G (gIsA not)) := by
  intro pins s σ H x y v u Q' I rx ry h
  obtain ⟨B, d, e, Q, hd, he, _, hg, kk⟩ := h
  rcases hg with ⟨a, rfl, rfl, hq⟩ | ⟨n, a, rfl, rfl, hq⟩
  · cases hd; cases he
    exact op_isnot_cls pins s σ H _ _ v u Q' I rx ry ⟨a, a, rfl, rfl, .inl rfl, kk _ H (.bl false) (Ext.refl _ _) (by rw [decide_eq_true rfl]; exact den_bl _) hq⟩
  · cases hd; cases he
    cases rx; cases ry
    exact wpAny_isNot_other rfl (fun z => by cases z) ⟨.bl true, H, I, rfl, kk _ H (.bl true) (Ext.refl _ _) (den_bl _) hq⟩
end
end Kn
set_option Elab.async false
set_option linter.all false
set_option maxRecDepth 100000
set_option maxHeartbeats 2100000
namespace Kn
open PySem L2 RZ
section
variable {G : Gd} {E : XK} {X : Cx} {σ : List (Option V)} {H H' : Hp} {k : Nat}
/-- list(e), a new list -/
theorem df_list {e : Expr} {p pos : Pos} {c : Nat} {te : DT} (hK : X.K = G.K) (hm : X.mg "list" = none) (he : DE G E X c e te) (hg : Gl X "list" := by rfl) (hst : starEach [e] X.env = (false, eval e X.env) :: starEach [] X.env := by rfl) (hpl : (backTo pos (starEach [] X.env)).any (·.1) = false := by rfl) :
    DF G E X c (.Call (.Name "list" p) [e] [] pos) (fList te) := imp (pe_callTy call_list_of hg hm (by decide +kernel) (pa_cons he pa_nil hst) (by decide) (by decide) hst hpl) fun σ H Q' h => by
  obtain ⟨W, hn, Q, ht, kk⟩ := h
  refine ⟨W, hn, _, ht, fun v H1 d st hd hq => ?_⟩
  have hp0 : ∀ p, H1 p = none → H p = none := fun p hp => by
    cases q : H p with
    | none => rfl
    | some o =>
      exfalso
      rw [st.ext p o q (W.nuX ((W.next st).fresh hp))] at hp; cases hp
  have fin : ∀ (p : Addr) (ds : List D) (xs : List V), H1 p = none → xs.length ≤ sizeLine → DenL G W.XB H1 ds xs → Q ds → Q' (.ref p) (L2.upd H1 p (.lst xs)) := fun p ds xs hp la da hq => by
    refine kk p _ ds xs (st.new hp) (hp0 p hp) upd_same la ?_ hq
    exact DenL.keep (fun b o nb e => by rw [upd_ne (ne_of_none e hp)]; exact e) (fun b hb => hb.imp id fun z => by rw [z]; exact hp) ds xs da
  cases d <;> try exact hq.elim
  · obtain ⟨a, ys, rfl, na, ha, la, da⟩ := hd
    exact ⟨_, ys, rfl, .inl (SqL.of ha), fun p hp => fin p _ ys hp la da hq⟩
  · obtain ⟨a, ys, rfl, na, ha, la, da⟩ := hd
    exact ⟨_, ys, rfl, .inr (by rw [hK]; exact ha), fun p hp => fin p _ ys hp la da hq⟩
def gNeS : G2 := fun d e Q => ∃ a b, d = .str a ∧ e = .str b ∧ Q (.bl (!decide (a = b)))
theorem o_neS : OpR X (compareOp .NotEq) (rD G gNeS) := opr_imp op_ne fun x y H Q' h => by
  obtain ⟨B, d, e, Q, hd, he, _, ⟨a, b, rfl, rfl, hq⟩, kk⟩ := h
  cases hd; cases he
  refine ⟨rfl, kk _ H (.bl (!decide (a = b))) (Ext.refl _ _) ?_ hq⟩
  show V.bl _ = V.bl _
  congr 1
  simp
end
end Kn
set_option Elab.async false
set_option linter.all false
set_option maxRecDepth 100000
set_option maxHeartbeats 2100000
namespace Kn
open PySem L2 RZ
open PyProof.Rows (envOfC)
end Kn
set_option Elab.async false
set_option linter.all false
set_option maxRecDepth 100000
set_option maxHeartbeats 2100000
namespace Kn
open PySem L2 RZ
section
variable {G : Gd} {E : XK} {X : Cx} {σ : List (Option V)} {H H' : Hp} {k : Nat}
def dTupRg (te : DT) : DT := fun ex env Q => te ex env fun d => ∃ n : Int, d = .int n ∧ n ≤ 16777216 ∧ -(2 ^ 62) ≤ n ∧ Q (.tup (rangeD 0 n.toNat))
theorem de_tupleRange {a : Expr} {c : Nat} {te : DT} {p p2 pos pos2 : Pos} (hc : X.calm = true) (hm : X.mg "tuple" = none) (hm2 : X.mg "range" = none) (ha : DE G E X c a te) (hg : Gl X "tuple" := by rfl) (hg2 : Gl X "range" := by rfl)
    (na : starEach [a] X.env = (false, eval a X.env) :: starEach [] X.env := by rfl) (nb : starEach [.Call (.Name "range" p2) [a] [] pos2] X.env = (false, eval (.Call (.Name "range" p2) [a] [] pos2) X.env) :: starEach [] X.env := by rfl) :
    DE G E X c (.Call (.Name "tuple" p) [.Call (.Name "range" p2) [a] [] pos2] [] pos) (dTupRg te) :=
  imp (pe_tupRg hc hg hm (prg_1 hg2 hm2 ha na) nb) fun σ H Q' h => by
    obtain ⟨W, hn, Q, ht, kk⟩ := h
    refine ⟨W, hn, _, ht, fun v H1 d st hd ⟨n, e, h1, h2, hq⟩ => ?_⟩
    subst e
    cases hd
    refine ⟨n, rfl, ⟨by omega, by omega, by omega, by omega, by omega⟩, fun q hq0 => ?_⟩
    have e2 : rgV 0 n = (List.range n.toNat).map fun i => V.int (0 + (i : Nat)) := by unfold rgV; rw [Int.sub_zero]
    refine kk _ _ (.tup (rangeD 0 n.toNat)) (st.new hq0) (den_tup hq0 ((W.next st).fresh hq0) (by rw [rgV_length, sizeLine_eq]; omega) ?_) hq
    rw [e2]
    exact denL_rg 0 n.toNat
end
end Kn
set_option Elab.async false
set_option linter.all false
set_option maxRecDepth 100000
set_option maxHeartbeats 2100000
namespace Kn
open PySem L2 RZ
section
variable {G : Gd} {E : XK} {X : Cx} {σ : List (Option V)} {H H' : Hp} {k : Nat}
/-- x.extend(e), a list -/
def sExt (i : Nat) (te : DT) : DS := fun ex de env => ∃ a ds, env[i]? = some (.own a ds) ∧ te ex env fun d => ∃ es, d = .lst es ∧ ds.length + es.length ≤ sizeLine ∧ de.nx (env.set i (.own a (ds ++ es)))
theorem ds_ext {i : Nat} {x : Str} {e : Expr} {pos p apos cpos : Pos} {c : Nat} {te : DT} (hN : X.N[i]? = some x) (he : DE G E X c e te) (hv : Vis X.env.scope x := by first | exact Or.inl rfl | exact Or.inr (Or.inl rfl) | exact Or.inr (Or.inr rfl)) (hd : (x == ("__debug__" : Str)) = false := by decide) (hcd : (x == ("__classdict__" : Str)) = false := by decide)
    (hbase : attributeBase (.Name x p) "extend" X.env (eval (.Name x p) X.env) = eval (.Name x p) X.env := by rfl)
    (hfew : ((backTo cpos (starEach [e] X.env)).all (fun x => !x.1) && (backToKw cpos (keywordEach [] X.env)).all (fun x => x.1.isSome) && decide (([e] : List Expr).length + ([] : List Keyword).length + (if ([] : List Keyword).isEmpty then 0 else 1) < 30)) = true := by rfl)
    (hline : (apos.endLine == cpos.line) = true := by rfl) (hs : starEach [e] X.env = (false, eval e X.env) :: starEach [] X.env := by rfl) (hplain : (backTo cpos (starEach [] X.env)).any (·.1) = false := by rfl)
    (hsw : swapsWith (.Call (.Attribute (.Name x p) "extend" apos) [e] [] cpos) none pos.line X.env = pure false := by rfl) : DSt G E X c (.Expr (.Call (.Attribute (.Name x p) "extend" apos) [e] [] cpos) pos) (sExt i te) :=
  impS (ps_expr (pe_bm PySem.F.plainAttrs_list PySem.F.slot_list_extend PySem.F.type_list_extend mt_extend (pe_var (i := i) hN hv hd hcd) (pa_cons he pa_nil hs) hbase hfew hline hs hplain) hsw) fun Dn σ H h => by
    obtain ⟨W, hn, de, ⟨a, ds, hei, ht⟩, k1, k2, k3, k4⟩ := h
    obtain ⟨xs, hsi, h0, ha, hl, hds⟩ := lift_own hei
    refine ⟨.ref a, hsi, .inl ⟨rfl, xs, SqL.of ha⟩, W, hn, _, ht, fun v H1 d st hdv ⟨es, ed, hlt, hq⟩ => ?_⟩
    subst ed
    obtain ⟨b, zs, rfl, nb, hb, lb, db⟩ := hdv
    have el := hds.length
    have eb := db.length
    have ha1 : H1 a = some (.lst xs) := st.ext a _ ha (lend_un W h0)
    have hds1 : DenL G W.XB H1 ds xs := hds.ext st.ext W.huX
    obtain ⟨W', l1, l2⟩ := own_step (xs := xs) (ys := xs ++ zs) (es := ds ++ es) st hei hsi h0 (by rw [List.length_append]; omega) (hds1.append db)
    exact ⟨a, b, xs, zs, rfl, rfl, ha1, hb, by omega, k1 σ _ W' l1 (by rw [l2]; exact hq)⟩
/-- o.index(e), o a list of plain data that holds it -/
def dIndex (te tv : DT) : DT := fun ex env Q => te ex env fun d => ∃ ds ps, d = .lst ds ∧ pdL ds = some ps ∧ SeqAt.shaped (.list ps) = true ∧ tv ex env fun e => ∃ (p : PyData) (j : Nat) (z : PyData), pd e = some p ∧ SeqAt.shaped p = true ∧ ps[j]? = some z ∧ PyData.eqv z p = true ∧ (∀ (m : Nat) (z' : PyData), m < j → ps[m]? = some z' → PyData.eqv z' p = false) ∧ Q (.int (j : Nat))
theorem de_index {o e : Expr} {apos cpos : Pos} {c c2 : Nat} {te tv : DT} (xk : Xk G E k X) (ho : DE G E X c o te) (he : DE G E X c2 e tv)
    (hbase : attributeBase o "index" X.env (eval o X.env) = eval o X.env := by rfl)
    (hfew : ((backTo cpos (starEach [e] X.env)).all (fun x => !x.1) && (backToKw cpos (keywordEach [] X.env)).all (fun x => x.1.isSome) && decide (([e] : List Expr).length + ([] : List Keyword).length + (if ([] : List Keyword).isEmpty then 0 else 1) < 30)) = true := by rfl)
    (hline : (apos.endLine == cpos.line) = true := by rfl) (hs : starEach [e] X.env = (false, eval e X.env) ::
          starEach [] X.env := by rfl) (hplain : (backTo cpos (starEach [] X.env)).any (·.1) = false := by rfl) :
    DE G E X (c + c2) (.Call (.Attribute o "index" apos) [e] [] cpos) (dIndex te tv) :=
  imp (pe_bm PySem.F.plainAttrs_list PySem.F.slot_list_index PySem.F.type_list_index (mt_indexD xk.u65) ho (pa_cons he pa_nil hs) hbase hfew hline hs hplain) fun σ H Q' h => by
    obtain ⟨W, hn, Q, ht, kk⟩ := h
    refine ⟨W, by omega, _, ht, fun v H1 d st hd ⟨ds, ps, ed, hp, hsh, hq⟩ => ?_⟩
    subst ed
    have hd' := hd
    obtain ⟨a, xs, rfl, na, ha, la, da⟩ := hd'
    refine ⟨.inl ⟨rfl, _, SqL.of ha⟩, W.next st, by show W.m + c2 ≤ W.n - c; omega, _, hq, fun v2 H2 e st2 he2 ⟨p, j, z, e2, h2, h3, h4, h5, hq2⟩ => ?_⟩
    have hd2 : Den G W.XB H2 (.lst ds) (.ref a) := (W.next st).den st2 hd
    exact ⟨a, v2, p, ps, j, z, rfl, rfl, by rw [xk.K]; exact Den.dp (.lst ds) _ (.list ps) hd2 (by show (pdL ds).map PyData.list = _; rw [hp]; rfl), by rw [xk.K]; exact Den.dp e v2 p he2 e2, hsh, h2, h3, h4, h5, kk _ H2 (.int (j : Nat)) (st.trans st2) (den_int _) hq2⟩
end
end Kn
set_option Elab.async false
set_option linter.all false
set_option maxRecDepth 100000
set_option maxHeartbeats 2100000
namespace Kn
open PySem L2 RZ
open PyProof.Rows (envOfC)
end Kn
set_option Elab.async false
set_option linter.all false
set_option maxRecDepth 100000
set_option maxHeartbeats 2100000
namespace Kn
open PySem L2 RZ
section
variable {G : Gd} {E : XK} {X : Cx} {σ : List (Option V)} {H H' : Hp} {k : Nat}
theorem wd_ownO (W : Wd G E σ H) {c : Nat} {H2 : Hp} (st : Step W c H2) {i : Nat} {p : Addr} {o : HO} (hp : H p = none) (h2 : H2 p = some o) (hc : ∀ q, o ≠ LamX.CodeO p q) :
    ∃ W' : Wd G E (σ.set i (some (.ref p))) H2, Later W c W' ∧ W'.env = W.env.set i (.obj p o) := by
  have fr0 : ¬ W.XB p := W.fresh hp
  have h0 : W.H0 p = none := by
    cases q : W.H0 p with
    | none => rfl
    | some o =>
      exfalso
      rw [W.fr p o q (W.nuX fr0)] at hp; cases hp
  have npo : ∀ {j : Nat} {s : Sl} {b : Addr}, W.env[j]? = some s → s.mine = true → σ[j]? = some (some (.ref b)) → b ≠ p := fun {j s b} e hm es z => by
    obtain ⟨_, o, ho⟩ := W.mine_at e hm es
    rw [z, hp] at ho; cases ho
  have xb : ∀ b, XBof W.B (W.env.set i (.obj p o)) (σ.set i (some (.ref p))) b → W.XB b ∨ b = p := fun b hb => by
    rcases hb with hb | ⟨j, s, e1, m1, e2⟩
    · exact .inl (.inl hb)
    · by_cases hj : i = j
      · subst hj
        by_cases hi : i < σ.length
        · rw [List.getElem?_set_self hi] at e2; cases e2; exact .inr rfl
        · rw [List.getElem?_eq_none (by rw [List.length_set]; omega)] at e2; cases e2
      · rw [List.getElem?_set_ne hj] at e1 e2
        exact .inl (.inr ⟨j, s, e1, m1, e2⟩)
  have sp : ∀ b, XBof W.B (W.env.set i (.obj p o)) (σ.set i (some (.ref p))) b → W.XB b ∨ H b = none := fun b hb => (xb b hb).imp id fun z => by rw [z]; exact hp
  have dk : ∀ {d : D} {v : V}, Den G W.XB H d v → Den G (XBof W.B (W.env.set i (.obj p o)) (σ.set i (some (.ref p)))) H2 d v := fun {d v} h => Den.keep (fun b o nb e => st.keep nb e) sp d v h
  have dkl : ∀ {es : List D} {ys : List V}, DenL G W.XB H es ys → DenL G (XBof W.B (W.env.set i (.obj p o)) (σ.set i (some (.ref p)))) H2 es ys := fun {es ys} h => DenL.keep (fun b o nb e => st.keep nb e) sp es ys h
  have own_st : ∀ {j : Nat} {s : Sl} {b : Addr} {o : HO}, W.env[j]? = some s → s.mine = true → σ[j]? = some (some (.ref b)) → H b = some o → H2 b = some o := fun {j s b o} e hm es ho => st.ext b o ho (lend_un W (W.mine_at e hm es).1)
  refine ⟨{ u := W.u, n := W.n - c, m := W.m, B := W.B, H0 := W.H0, env := W.env.set i (.obj p o), ex := W.ex, ug := W.ug, hu := W.hu, hB := W.hB, fr := W.fr.trans st.ext, good := st.good, len := by rw [List.length_set, List.length_set]; exact W.len, sl := fun j s e => ?_, nd := fun j l b s t e1 e2 m1 m2 e3 e4 => ?_, exc := W.exc },
    ⟨rfl, rfl, rfl, rfl, rfl, by show W.n ≤ W.n - c + c; omega, fun b o nb e => st.keep nb e, sp⟩, rfl⟩
  · by_cases hj : i = j
    · subst hj
      by_cases hi : i < W.env.length
      · rw [List.getElem?_set_self hi] at e
        cases e
        rw [getD_set, if_pos ⟨rfl, by rw [← W.len]; exact hi⟩]
        exact ⟨rfl, h0, h2, hc⟩
      · rw [List.getElem?_eq_none (by simpa using hi)] at e; cases e
    · rw [List.getElem?_set_ne hj] at e
      rw [getD_set, if_neg (fun z => hj z.1)]
      have z := W.sl j s e
      cases s with
      | emp => trivial
      | val d => obtain ⟨x, e1, e2⟩ := z; exact ⟨x, e1, dk e2⟩
      | own b es => obtain ⟨ys, e1, e2, e3, e4, e5⟩ := z; exact ⟨ys, e1, e2, own_st e rfl (join_some e1) e3, e4, dkl e5⟩
      | slf b dx cc es => obtain ⟨ys, e1, e2, e3, e4, e5⟩ := z; exact ⟨ys, e1, e2, own_st e rfl (join_some e1) e3, e4, dkl e5⟩
      | obj b o => obtain ⟨e1, e2, e3, e4⟩ := z; exact ⟨e1, e2, own_st e rfl (join_some e1) e3, e4⟩
      | dic b ks es => obtain ⟨L, e1, e2, e3, e4, e5, e6⟩ := z; exact ⟨L, e1, e2, own_st e rfl (join_some e1) e3, e4, e5.by dk, dkl e6⟩
  · by_cases hj : i = j
    · by_cases hlk : i = l
      · exact hj.symm.trans hlk
      · subst hj
        exfalso
        rw [List.getElem?_set_ne hlk] at e2 e4
        have hi : i < σ.length := by
          by_cases q : i < σ.length
          · exact q
          · rw [List.getElem?_eq_none (by rw [List.length_set]; omega)] at e3; cases e3
        rw [List.getElem?_set_self hi] at e3
        cases e3
        exact npo e2 m2 e4 rfl
    · rw [List.getElem?_set_ne hj] at e1 e3
      by_cases hlk : i = l
      · subst hlk
        exfalso
        have hi : i < σ.length := by
          by_cases q : i < σ.length
          · exact q
          · rw [List.getElem?_eq_none (by rw [List.length_set]; omega)] at e4; cases e4
        rw [List.getElem?_set_self hi] at e4
        cases e4
        exact npo e1 m1 e3 rfl
      · rw [List.getElem?_set_ne hlk] at e2 e4
        exact W.nd j l b s t e1 e2 m1 m2 e3 e4
theorem lift_obj {i : Nat} {W : Wd G E σ H} {o : HO} {a : Addr} (he : W.env[i]? = some (.obj a o)) : σ[i]? = some (some (.ref a)) ∧ W.H0 a = none ∧ H a = some o := by
  obtain ⟨e1, e2, e3, _⟩ := W.sl i _ he
  exact ⟨join_some e1, e2, e3⟩
end
end Kn
set_option Elab.async false
set_option linter.all false
set_option maxRecDepth 100000
set_option maxHeartbeats 2100000
namespace Kn
open PySem L2 RZ
end Kn
set_option Elab.async false
set_option linter.all false
set_option maxRecDepth 100000
set_option maxHeartbeats 2100000
namespace Kn
open PySem L2 RZ PyProof.Rows
section
variable {G : Gd} {E : XK} {X : Cx} {σ : List (Option V)} {H H' : Hp} {k : Nat}
theorem den_tupn {B : Addr → Prop} {H : Hp} {p : Addr} {o : Obj} {ds : List D} {xs : List V} (hp : H p = none) (nb : ¬ B p) (hc : o.cls = .type "tuple") (hd : o.dict = none) (hl : xs.length ≤ sizeLine) (h : DenL G B H ds xs) : Den G B (upd H p (.frz o (.tup xs))) (.tupn ds) (.ref p) :=
  ⟨p, xs, o, rfl, nb, upd_same, hc, hd, hl, denL_upd hp h⟩
/-- it is a tuple -/
theorem Den.ofN {B : Addr → Prop} {H : Hp} {ds : List D} {v : V} (h : Den G B H (.tupn ds) v) : Den G B H (.tup ds) v := by
  obtain ⟨a, xs, o, rfl, nb, hs, _, _, hl, hd⟩ := h
  exact ⟨a, xs, rfl, .inl nb, .inl (.inr ⟨o, hs⟩), hl, hd⟩
/-- a name read, a known tuple as a tuple -/
def D.asT : D → D
  | .tupn ds => .tup ds
  | d => d
def dVarN (i : Nat) : DT := fun _ env Q => ∃ d, env[i]? = some (.val d) ∧ Q d.asT
theorem Den.asT {B : Addr → Prop} {H : Hp} {d : D} {v : V} (h : Den G B H d v) : Den G B H d.asT v := by
  cases d <;> first | exact h | exact Den.ofN h
theorem dvn (i : Nat) {x : Str} {pos : Pos} (hN : X.N[i]? = some x := by rfl) (hv : Vis X.env.scope x := by first | exact Or.inl rfl | exact Or.inr (Or.inl rfl) | exact Or.inr (Or.inr rfl)) (hd : (x == ("__debug__" : Str)) = false := by decide) (hcd : (x == ("__classdict__" : Str)) = false := by decide) : DE G E X 0 (.Name x pos) (dVarN i) :=
  imp (dv i hN hv hd hcd) fun σ H Q' h => by
    obtain ⟨W, hn, Q, ⟨d, he, hq⟩, kk⟩ := h
    exact ⟨W, hn, fun e => e = d, ⟨d, he, rfl⟩, fun v H' e st hd he2 => kk v H' d.asT st (by rw [← he2]; exact hd.asT) hq⟩
end
end Kn
set_option Elab.async false
set_option linter.all false
set_option maxRecDepth 100000
set_option maxHeartbeats 2100000
namespace Kn
open PySem L2 RZ PyProof.Rows
end Kn
set_option Elab.async false
set_option linter.all false
set_option maxRecDepth 100000
set_option maxHeartbeats 2100000
namespace Kn
open PySem PySem.Spec L2 RZ
open PyProof.Rows
section
variable {X : Cx} {pins : List (Addr × Obj)} {σ : List (Option V)} {H : Hp} {s : Shared}
theorem exK_ok {P : Program} {w : World} {h : Heap} {a : Addr} {cls : Value} {d : Option Addr} {oe : Obj} {vs : Array Value} (e : h.get? a = some oe) (z : Zc cls d oe) (q : oe.data = .fields vs) : ObjOk P w H h a (ExK cls d a) := by
  refine ⟨⟨oe, vs, e, z, q⟩, ⟨oe, e⟩, ?_⟩
  rintro h1 h2 ⟨o, v, q1, r⟩ k
  exact ⟨o, v, k o q1, r⟩
/-- what was pinned is tracked from now on -/
theorem inv_track {a : Addr} {oe : Obj} {o : HO} (J : Inv X ((a, oe) :: pins) σ H s) (n0 : X.s_0.heap.get? a = none) (np : ∀ p ∈ X.pn ++ pins, p.1 ≠ a) (new : ObjOk X.prog X.w (upd H a o) s.heap a o) : Inv X pins σ (upd H a o) s := by
  have me : (a, oe) ∈ X.pn ++ (a, oe) :: pins := List.mem_append_right _ List.mem_cons_self
  obtain ⟨pa, pH, pL, pF, pC⟩ := J.pin _ me
  have pa : s.heap.get? a = some oe := pa
  have pH : H a = none := pH
  have ne : ∀ {b u}, H b = some u → b ≠ a := fun {b u} e z => by
    rw [z, pH] at e; cases e
  have B := J.base
  refine { ok := J.ok, os := J.os, bare := J.bare, base := ⟨B.keep, B.slot, fun b ob e n hx => ?_, B.there, fun b xs e => ?_, fun b ob u e => ?_, fun b ps e => ?_⟩, loc := J.loc, cell := J.cell, free := ?_, freeC := fun x c e => ?_, pin := fun p hp => ?_, hok := HOk.laidN J.hok (fun _ _ e => e) pH new, len := J.len }
  · have nb : b ≠ a := fun z => by
      rw [z, n0] at e; cases e
    rw [upd_ne nb]; exact B.free b ob e n hx
  · have q := B.tups b xs e
    rw [upd_ne (ne q)]; exact q
  · have q := B.frzs b ob u e
    rw [upd_ne (ne q)]; exact q
  · obtain ⟨m, q⟩ := B.tbls b ps e
    exact ⟨m, by rw [upd_ne (ne q)]; exact q⟩
  · rw [upd_ne (Ne.symm pL)]; exact J.free
  · have nc : c ≠ a := fun z => by
      obtain ⟨v, ob, h1, h2⟩ := J.cell x c e
      rw [z, pa] at h1
      cases h1
      exact pC _ h2
    rw [upd_ne nc]; exact J.freeC x c e
  · have hp' : p ∈ X.pn ++ (a, oe) :: pins := by
      rcases List.mem_append.mp
            hp with z | z
      · exact List.mem_append_left _ z
      · exact List.mem_append_right _ (List.mem_cons_of_mem _ z)
    obtain ⟨h1, h2, h3⟩ := J.pin p hp'
    exact ⟨h1, by rw [upd_ne (np p hp)]; exact h2, h3⟩
/-- out of the suite, what the suite holds still pinned -/
theorem inv_held {a : Addr} {q : Addr × Obj} {pn' : List (Addr × Obj)} (I : Inv (X.suite a (q :: (X.pn ++ pins))) pn' σ H s) (ok : X.Ok) : Inv X (q :: pins) σ H s :=
  { ok := ok, os := I.os, bare := I.bare, base := I.base, loc := I.loc, cell := I.cell, free := I.free, freeC := I.freeC, hok := I.hok, len := I.len,
    pin := fun p hp => I.pin p (List.mem_append_left _ (by
      rcases List.mem_append.mp
            hp with z | z
      · exact List.mem_cons_of_mem _ (List.mem_append_left _ z)
      · rcases List.mem_cons.mp
            z with z | z
        · rw [z]; exact List.mem_cons_self
        · exact List.mem_cons_of_mem _ (List.mem_append_right _ z))) }
end
/-- behind the suite the exception stands at a, and the clause's name is gone -/
def keptEnds (i : Nat) (a : Addr) (cls : Value) (d : Option Addr) (D : Ends) : Ends where
  nx := fun σ H => D.nx (σ.set i none) (upd H a (ExK cls d a))
  rt := fun v H => D.rt v (upd H a (ExK cls d a))
  bk := fun σ H => D.bk (σ.set i none) (upd H a (ExK cls d a))
  ct := fun σ H => D.ct (σ.set i none) (upd H a (ExK cls d a))
/-- what the clause wishes of an exception of the body -/
def wKeep (K : PySem.W.Frag) (c : Value) (i : Nat) (ts : Addr → Value → Option Addr → TS) (Wout : WX) (D : Ends) : WX := fun cls d σ H =>
  ∃ b, PySem.W.exmOne K cls c = some b ∧ (b = true → ∀ a, H a = none → ts a cls d (keptEnds i a cls d D) (σ.set i (some (.ref a))) H) ∧ (b = false → Wout cls d σ H)
section
variable {X : Cx} {x n : Str} {c : Value} {i : Nat} {body suite : List Stmt} {b₀ : Stmt}
      {np pos pos' : Pos} {tb : WX → TS} {ts : Addr → Value → Option Addr → TS} {Wout : WX}
/-- try: body / except x as n: suite, where the exception is read behind the suite, too -/
theorem ps_try_keep (hs : X.stack = X.env :: X.outer) (hf : X.env.frame = some X.env.locals) (hN : X.N.Nodup) (hi : X.N[i]? = some n) (hln : X.env.kindOf n = some .local) (hc : Names X x c) (tk : Takes X Wout) (hx : X.ex = [])
    (hb : ∀ (W : WX) (pn : List (Addr × Obj)) (xe : Value → Shared → Prop), Takes (X.tr
          pn xe) W → PassesOwn (model X.prog X.w) X.A X.env xe → PSs (X.tr pn xe) body (tb W))
    (hsu : ∀ (a : Addr) (oe : Obj) (cls : Value) (d : Option Addr) (pn : List (Addr × Obj)), Zc cls d
          oe → (∃ vs, oe.data = .fields vs) → PSs (X.suite a ((a, oe) :: pn)) (b₀ :: suite) (ts a cls d)) :
    PS X (.Try body [.ExceptHandler (some (.Name x np)) (some n) (b₀ :: suite) pos'] [] [] pos) (fun D σ H => tb (wKeep X.K c i ts Wout D) D σ H) := by
  constructor
  intro pins s σ H D I h
  have ok := I.ok
  have frames : X.A.frames = some (X.env :: X.outer) := by rw [ok.frames, hs]
  let hd : ExceptHandler := .ExceptHandler (some (.Name x np)) (some n) (b₀ :: suite) pos'
  let catch_ : Value → Shared → Prop := fun e s₁ => wpAny (model X.prog X.w) X.A (noteFrame e X.env) (fun _ s₂ => wpAny (model X.prog X.w) X.A (setFlight e none) (fun _ s₃ => wpAny (model X.prog X.w) X.A (handleBy e X.env [hd]) (SP X pins D) X.xe s₃) X.xe s₂) X.xe s₁
  have caught : ∀ u s', XE (X.tr (X.pn ++ pins) catch_) (wKeep X.K c i ts Wout D) u s' → catch_ u s' := by
    rintro u s' ⟨a, B, sI, pins', σ', H', cls, d, rfl, J0, nb, up, sky, na, os, ag, b, hb1, hyes, hno⟩
    have J : Inv X pins σ' H' sI := J0.ofTry ok
    rw [show (X.tr (X.pn ++ pins) catch_).stack = X.env :: X.outer from hs] at sky
    refine Sky.land Zc.steady frames hf sky fun h3 fl up3 => ?_
    have J3 : Inv X pins σ' H' { s' with heap := h3 } := J.landed nb fl.1 (up.trans up3) os ag
    have Ba : B.get? a = none := fl.2.1
    have off : a ∉ frs (X.env :: X.outer) := fun hm => by
      obtain ⟨o1, v1, e1, _, d1⟩ := fl.there
      obtain ⟨_, o2, e2, nf⟩ := fl.2.2.1.mem hm
      rw [e1] at e2
      cases e2
      exact nf _ d1
    have nL : a ≠ X.env.locals := fun z => off (List.mem_filterMap.mpr ⟨X.env, List.mem_cons_self, by rw [hf, z]⟩)
    have nF : a ∉ X.fs
          := fun hm => by
      obtain ⟨e, he, q⟩ := List.mem_filterMap.mp hm; exact off (List.mem_filterMap.mpr ⟨e, List.mem_cons_of_mem _ he, q⟩)
    have inB : ∀ b o, sI.heap.get? b = some o → b ≠ a := fun b o e z => by
      have q := nb b o e (by rw [show (X.tr (X.pn ++ pins) catch_).stack = X.env :: X.outer from hs, z]; exact off)
      rw [z, Ba] at q; cases q
    have n0 : X.s_0.heap.get?
          a = none := by
      cases q : X.s_0.heap.get? a with
      | none => rfl
      | some o =>
        obtain ⟨o', q'⟩ := J.base.there a o q (by rw [hx]; exact fun z => nomatch z)
        exact (inB a o' q' rfl).elim
    have npin : ∀ p ∈ X.pn ++ pins, p.1 ≠ a := fun p hp => inB p.1 p.2 (J.pin p hp).1
    obtain ⟨o3, v3, e3, z3, d3⟩ := fl.there
    have S3 := J3.suite e3 d3 na nL nF
    refine wpAny_handleBy_cons (codeAny_handlers_test ?_) (fun q => by cases q)
    have ty : PySem.W.Looks (model X.prog X.w) h3 (typeOf (.ref a)) cls := fun A Q E s k q => wpAny_typeOf_ref (k _ _ e3) (by rw [z3.1]; exact q)
    have fits := PySem.W.exm_one (M := model X.prog X.w) J3.kIn ty hb1
    have name : ∀ {Q : Value → Shared → Prop} {E : Value → Shared → Prop}, Q c { s' with heap := h3 } → wpAny (model X.prog X.w) (X.A.mark (some (.ref a))) (eval (.Name x np) X.env) Q E { s' with heap := h3 } := fun {Q E} q => by
      rcases hc with ⟨hg, hdb, hm | ⟨hm, hv, hnn⟩⟩
      · exact ld_glob S3 hg hm q hdb
      · exact ld_blt S3 hg hm hv q hnn hdb
    refine name (fits.here ?_)
    cases b with
    | true =>
      refine codeAny_handlers_suite_as (HandSPX.lands_againZ fl fun h4 fl4 up4 => ?_)
      have J4 : Inv X pins σ' H' { s' with heap := h4 } := J.landed nb fl4.1 ((up.trans up3).trans up4) os ag; obtain ⟨o4, v4, e4, z4, d4⟩ := fl4.there
      have S4 := J4.suite e4 d4 na nL nF
      refine store_ok (X := X.suite a ((a, o4) :: (X.pn ++ pins))) (v := .ref a) S4 hN hi (.inl hln) rfl (fun s5 S5 => ?_) (.inr hln)
      have inner := (hsu a o4 cls d (X.pn ++ pins) z4 ⟨_, d4⟩).run [] s5 _ H' _ S5 (hyes rfl a na)
      have leave : ∀ {σ6 : L2.St} {H6 : Hp} {s6 : Shared} {Q : Shared → Prop}, Inv (X.suite a ((a, o4) :: (X.pn ++ pins))) [] σ6 H6 s6 → (∀ s7, Inv X pins (σ6.set i none) (upd H6 a (ExK cls d a)) s7 → Q s7) →
          wpAny (model X.prog X.w) X.A (do bindName X.env n .none; unbindBehindTheSuite X.env n pos') (fun _ s7 => Q s7) X.xe s6 := fun {σ6 H6 s6 Q} S6 hq =>
        gone_ok (inv_held S6 ok) hN hi hln fun s7 J7 => hq s7 (inv_track J7 n0 npin (exK_ok (J7.pin (a, o4) (List.mem_append_right _ List.mem_cons_self)).1 z4 d4))
      refine wpAny_mono inner (fun f s6 hsp => ?_) (fun _ _ z => z.elim)
      cases f with
      | next => obtain ⟨σ6, H6, S6, q6⟩ := hsp; exact leave S6 fun s7 J7 => ⟨_, _, J7, q6⟩
      | brk => obtain ⟨σ6, H6, S6, q6⟩ := hsp; exact leave S6 fun s7 J7 => ⟨_, _, J7, q6⟩
      | cont => obtain ⟨σ6, H6, S6, q6⟩ := hsp; exact leave S6 fun s7 J7 => ⟨_, _, J7, q6⟩
      | ret u => obtain ⟨w6, σ6, H6, S6, r6, q6⟩ := hsp; exact leave S6 fun s7 J7 => ⟨w6, _, _, J7, r6, q6⟩
    | false =>
      show wpAny _ X.A (handleBy (.ref a) X.env []) _ _ _; refine wpAny_handleBy_nil ?_
      obtain ⟨_, _, _, oe, vs, T, oT, tv, g1, _, g2, g3, _⟩ := id fl
      have out : wpAny (model X.prog X.w) X.A (setFlight (.ref a) X.env.frame) (fun _ s4 => wpAny (model X.prog X.w) X.A (throw (.ref a) : Sem Flow) (SP X pins D) X.xe s4) X.xe { s' with heap := h3 } := by
        rw [hf]
        exact HandSPX.setFlight_upZ fl fun h4 hh up4 => wpAny_throw (tk _ _ ⟨a, B, sI, pins, σ', H', cls, d, rfl, J, nb, (up.trans up3).trans up4, .inr (.inr (by rw [hs]; exact hh)), na, os, ag, hno rfl⟩)
      unfold PySem.passOn
      refine wpAny_bind (wpAny_field g1 g2 g3 ?_); rw [if_neg (show ¬ ((Value.ref T == Value.none) = true) from by simp)]
      first
        | exact wpAny_bind (wpAny_pure (wpAny_bind out))
        | exact wpAny_bind out
  have hx2 := (hb (wKeep X.K c i ts Wout D) (X.pn ++ pins) catch_ caught PassesOwn.looking).run [] s σ H D (I.toTry _) h
  refine wpAny_Try_except (wpAny_mono hx2 (fun f s1 hsp => ?_) (fun e s1 he => he))
  cases f with
  | next => obtain ⟨σ', H', J, q⟩ := hsp; exact wpAny_execs_nil ⟨σ', H', J.ofTry ok, q⟩
  | brk => obtain ⟨σ', H', J, q⟩ := hsp; exact ⟨σ', H', J.ofTry ok, q⟩
  | cont => obtain ⟨σ', H', J, q⟩ := hsp; exact ⟨σ', H', J.ofTry ok, q⟩
  | ret u => obtain ⟨v, σ', H', J, r, q⟩ := hsp; exact ⟨v, σ', H', J.ofTry ok, r, q⟩
end
end Kn
set_option Elab.async false
set_option linter.all false
set_option maxRecDepth 100000
set_option maxHeartbeats 2100000
namespace Kn
open PySem L2 RZ
section
variable {G : Gd} {E : XK} {X : Cx} {σ : List (Option V)} {H H' : Hp} {k : Nat}
theorem DenL.snoc {B : Addr → Prop} : ∀ {ds : List D} {xs : List V}, DenL G B H ds xs → DenL G B H ds.reverse xs.reverse
  | [], _, h => by cases h; rfl
  | d :: ds, _, ⟨x, r, e, h1, h2⟩ => by
    subst e
    rw [List.reverse_cons, List.reverse_cons]; exact (DenL.snoc h2).append ⟨x, [], rfl, h1, rfl⟩
/-- the __init__ of an exception class: the arguments become its fields, the last one first -/
def spX (C : Addr) (fl : List Str) : Sp := fun vs H Q _ => ∃ (a : Addr) (ws : List V), vs = .ref a :: ws ∧ ws.length = fl.length ∧ H a = some (exo a C none) ∧
  ∀ (H' : Hp) (dx : Addr), (∀ b o, H b = some o → b ≠ a → H' b = some o) → H dx = none → dx ≠ a → H' a = some (exo a C (some dx)) → H' dx = some (exd dx (fl.zip ws.reverse)) → Q .non H'
/-- the exception class x of the module, of the number cid, with n arguments -/
structure Fx (G : Gd) (P : Program) (w : World) (mg : Str → Option Value) (base : Heap) (k : Nat) (x : Str) (cid n : Nat) : Prop where
  ex : ∃ (fI : Addr) (fd : FuncData) (ps : List Str), FnOk P w G.K mg base (L2.CX P w) k fI fd ps (spX (G.cl cid) (G.fl cid)) ∧ OexC G.K (G.cl cid) ∧ PySem.W.findIn G.K (.ref (G.cl cid)) "__init__" = some (some (.ref fI)) ∧ PySem.W.typeIn G.K (.ref fI) = some (.type "function") ∧
    Binds G.K fd ps [] ∧ mg x = some (.ref (G.cl cid)) ∧ (G.fl cid).length = n
def sRaise (cid n : Nat) (u : DA) : DS := fun ex de env => u ex env fun ds => ds.length = n ∧ ex ⟨cid, ds.reverse⟩
theorem ds_raise {j c cid n : Nat} {x : Str} {e : Expr} {es : List Expr} {u : DA} {p pos pos' : Pos} (F : Fx G X.prog X.w X.mg X.base j x cid n) (xk : Xk G E k X) (ha : DEs G E X c (e :: es) u) (hn : n ≤ 1000 := by decide) (hj : j + 1 ≤ k := by decide) (hg : Gl X x := by rfl) (hdb : (x == ("__debug__" : Str)) = false := by decide)
    (he : starEach (e :: es) X.env = (false, eval e X.env) :: starEach es X.env := by rfl) (hpl : (backTo pos (starEach es X.env)).any (·.1) = false := by rfl) : DSt G E X c (.Raise (some (.Call (.Name x p) (e :: es) [] pos)) none pos') (sRaise cid n u) := by
  obtain ⟨fI, fd, ps, F1, T, iC, tI, hb, hm, hfl⟩ := F.ex
  rw [← xk.K] at F1 T iC tI hb
  have mk : PMk X (.Call (.Name x p) (e :: es) [] pos) (tMkO (G.cl cid) (spX (G.cl cid) (G.fl cid)) [] (liftA G E c u)) :=
    pmk_oex (CX := L2.CX X.prog X.w) T iC tI F1 (xk.room.mono hj) hb .nil (fun _ _ _ _ _ _ _ ⟨_, _, _, _, _, _, _, _, _, _, _, _, z⟩ => z.elim) hg hm ha hdb he hpl
  refine impS (ps_raise xk.calm xk.tk mk) fun Dn σ H h => ?_
  obtain ⟨W, hW, de, ht, k1, k2, k3, k4⟩ := h
  refine ⟨W, hW, _, ht, fun vs H1 ds st hd ⟨hl, hx⟩ => ?_⟩
  have el := hd.length
  refine ⟨by omega, fun a ha => ?_⟩
  rw [List.append_nil]
  refine ⟨a, vs, rfl, by omega, upd_same, fun H2 dx kp hdx nda e1 e2 => ⟨rfl, dx, _, e1, e2, ?_, ?_⟩⟩
  · rw [upd_ne nda] at hdx; exact hdx
  · have hdx1 : H1 dx = none := by rw [upd_ne nda] at hdx; exact hdx
    have ext : Ext none H1 (upd (L2.del H2 a) dx (.xd ((G.fl cid).zip vs.reverse))) := fun b o hb _ => by
      have nb : b ≠ a := ne_of_none hb ha
      rw [upd_ne (ne_of_none hb hdx1), del_ne nb]
      exact kp b o (by rw [upd_ne nb]; exact hb) nb
    have st' := st.pure ext
    refine W.exc ⟨cid, ds.reverse⟩ _ _ _ (W.fr.trans st'.ext) (st'.good.less (by omega)) ⟨rfl, dx, vs.reverse, rfl, fun z => (W.next st).fresh hdx1 (.inl z), upd_same, (List.length_reverse).trans (show vs.length = (G.fl cid).length by omega), ?_⟩ hx
    exact ((hd.ext (u := none) ext (fun _ z => z.none.elim)).fewer fun b z => .inl z).snoc
end
end Kn
set_option Elab.async false
set_option linter.all false
set_option maxRecDepth 100000
set_option maxHeartbeats 2100000
namespace Kn
open PySem L2 RZ
section
variable {G : Gd} {E : XK} {X : Cx} {σ : List (Option V)} {H H' : Hp} {k : Nat}
/-- what isinstance asks of an own class of errors -/
structure XcC (K : PySem.W.Frag) (C : Addr) : Prop where
  cs : (PySem.W.clsIn K C).isSome = true
  ga : PySem.W.findIn K (.ref C) "__getattribute__" =
        some (some (.builtin "BaseException.__getattribute__"))
  gg : PySem.W.findIn K (.ref
        C) "__getattr__" = some none
  sb : PySem.W.subIn K (.ref C) (.type "BaseException") = some true
  ca : PySem.W.findIn K (.ref C) "__class__"
        = some (some (.builtin "object.__class__"))
  gn : PySem.W.specialIn K (.builtin "object.__class__") "__get__" = some (some (.builtin "getset_descriptor.__get__"))
  tk : PySem.W.takesIn K (.builtin "object.__class__") = some true
  mr : PySem.W.mroIn K C (.type "object") = some true
/-- .. of another own class -/
structure InC (K : PySem.W.Frag) (C : Addr) : Prop where
  cl : Cls K C
  ca : PySem.W.findIn K (.ref C) "__class__"
        = some (some (.builtin "object.__class__"))
  gn : PySem.W.specialIn K (.builtin "object.__class__") "__get__" = some (some (.builtin "getset_descriptor.__get__"))
  tk : PySem.W.takesIn K (.builtin "object.__class__") = some true
  mr : PySem.W.mroIn K C (.type "object") = some true
/-- the type of a value -/
def TyD (G : Gd) (d : D) (t : Value) : Prop :=
  (∃ s, kindS d = some s ∧ t = .type s) ∨ (∃ c ds, d = .exc c ds ∧ XcC G.K (G.cl c) ∧ t = .ref (G.cl c)) ∨ (∃ c ds, d = .ins c ds ∧ InC G.K (G.cl c) ∧ t = .ref (G.cl c))
theorem Den.kit {pins : List (Addr × Obj)} {s : Shared} {B : Addr → Prop} {d : D} {x : V} {u t : Value} (I : Inv X pins σ H s) (hK : X.K = G.K) (rx : RelV x u) (h : Den G B H d x) (ty : TyD G d t) :
    ∃ P : Heap → Prop, PySem.W.KitX X.K u t P ∧ P s.heap ∧ u ≠ .builtin "__main__.__loader__#opaque" := by
  rcases ty with ⟨n, hs, rfl⟩ | ⟨c, ds, rfl, T, rfl⟩ | ⟨c, ds, rfl, T, rfl⟩
  · exact kit_of I rx (by rw [hK]; exact h.tyx hs)
  · obtain ⟨a, dd, xs, rfl, _, _, ha, hd, _⟩ := h
    cases rx
    obtain ⟨⟨oe, vs, e1, e2, e3⟩, _, _⟩ := (show ObjOk X.prog X.w H s.heap a (ExK (.ref (G.cl c)) (some dd) a) from I.hok a _ ha)
    obtain ⟨mA, hns, _⟩ := (show ObjOk X.prog X.w H s.heap dd (.xd _) from I.hok dd _ hd)
    obtain ⟨od, ho, _⟩ := lookIn_ns hns
    have J : PySem.W.InstAt s.heap a oe (G.cl c) (some od) := ⟨e1, e2.1, by unfold PySem.W.notCls; rw [e3] <;> rfl, by rw [e2.2]; exact ho⟩
    rw [← hK] at T
    exact ⟨_, PySem.W.kitx_exc T.cs T.ga T.gg T.sb T.ca T.gn T.tk T.mr, J, fun z => nomatch z⟩
  · obtain ⟨a, dx, xs, rfl, _, ha, _⟩ := h
    rw [← hK] at T
    exact kit_of I rx (.base (.ins ha T.cl T.ca T.gn T.tk T.mr))
/-- isinstance(x, C), C an own class or a built-in one -/
def gIsiC (G : Gd) : G2 := fun d c Q => ∃ (v : V) (u t : Value) (b : Bool), c = .opq v ∧ ClsV v u ∧ TyD G d t ∧ PySem.W.kitOne G.K t u = some b ∧ Q (.bl b)
theorem c_isiC (hK : X.K = G.K) : CallR X (.builtin "isinstance") (rDL G (g2 (gIsiC G))) := by
  intro pins s σ H xs us Q' I r h
  obtain ⟨B, d, c, x, y, Q, rfl, hd, hc, hf, ⟨v, u, t, b, rfl, kv, ty, e, hq⟩, kk⟩ := rDL2 h
  cases hc
  obtain ⟨u1, u2, rfl, r1, r2⟩ := vals2 r; have e2 := kv.eq r2
  subst e2
  obtain ⟨P, Z, p, hx⟩ := hd.kit I hK r1 ty
  exact PySem.W.kia_one Z I.kIn p (by rw [hK]; exact e) hx fun tk => ⟨.bl b, H, I.tok tk, rfl, kk _ H (.bl b) (Ext.refl _ _) (den_bl b) hq⟩
/-- isinstance(x, (C1, C2, ..)) -/
def dIsiCs (G : Gd) (us : List Value) (te : DT) : DT := fun ex env Q => te ex env fun d => ∃ (t : Value) (b : Bool), TyD G d t ∧ PySem.W.kitAny G.K t us = some b ∧ Q (.bl b)
theorem c_isiCs (hK : X.K = G.K) : CallR X (.builtin "isinstance") (fun xs H Q' => ∃ (B : Addr → Prop) (d : D) (x : V) (p : Addr) (cs : List V) (us : List Value) (t : Value) (b : Bool) (Q : D → Prop), xs = [x, .ref p] ∧ Den G B H d x ∧ H p = some (.tup cs) ∧ Paired ClsV cs us ∧ TyD G d t ∧ PySem.W.kitAny G.K t us = some b ∧ Q (.bl b) ∧ ∀ r H' rd, Ext none H H' → Den G B H' rd r → Q rd → Q' r H') := by
  intro pins s σ H xs us Q' I r h
  obtain ⟨B, d, x, p, cs, ws, t, b, Q, rfl, hd, hp, pr, ty, e, hq, kk⟩ := h
  obtain ⟨u1, u2, rfl, r1, r2⟩ := vals2 r; cases (show u2 = Value.ref p from r2)
  obtain ⟨P, Z, pp, hx⟩ := hd.kit I hK r1 ty
  obtain ⟨_, its, rv, o, h1, h2, n, h3⟩ := (show ObjOk X.prog X.w H s.heap p (.tup cs) from I.hok p _ hp)
  have e3 := ClsV.all pr rv
  subst e3
  obtain ⟨oc, od, dt, sl⟩ := o
  simp only at h2 h3
  subst h2 h3
  exact PySem.W.kia_tup Z I.kIn pp h1 (by rw [hK]; exact e) hx fun tk => ⟨.bl b, H, I.tok tk, rfl, kk _ H (.bl b) (Ext.refl _ _) (den_bl b) hq⟩
theorem de_isiCs {e : Expr} {es : List Expr} {p pos p2 : Pos} {x1 c : Nat} {te : DT} {cs : List V} {us : List Value} (hK : X.K = G.K) (hm : X.mg "isinstance" = none) (he : DE G E X c e te) (hes : PA X es (fun σ H Q => Q cs H)) (pr : Paired ClsV cs us) (hl : cs.length ≤ 1000 := by decide) (hg : Gl X "isinstance" := by rfl) (hv : bootBuiltins "isinstance" = some (.builtin "isinstance") := by decide +kernel)
    (hs : starEach [e, .Tuple es x1 p2] X.env = (false, eval e X.env) :: starEach [.Tuple es x1 p2] X.env := by rfl) (hs2 : starEach [.Tuple es x1 p2] X.env = (false, eval (.Tuple es x1 p2) X.env) :: starEach [] X.env := by rfl) (hpl : (backTo pos (starEach [.Tuple es x1 p2] X.env)).any (·.1) = false := by rfl) :
    DE G E X c (.Call (.Name "isinstance" p) [e, .Tuple es x1 p2] [] pos) (dIsiCs G us te) :=
  imp (pe_callB (c_isiCs (G := G) hK) hg hm hv (pa_cons he (pa_cons (pe_tup hes) pa_nil hs2) hs) (by decide) (by decide) hs hpl) fun σ H Q' h => by
    obtain ⟨W, hn, Q, ht, kk⟩ := h
    refine ⟨W, hn, _, ht, fun v H1 d st hd ⟨t, b, ty, hb, hq⟩ => ⟨by rw [sizeLine_eq]; omega, fun q hq0 => ?_⟩⟩
    exact ⟨W.XB, d, v, q, cs, us, t, b, Q, rfl, den_upd hq0 hd, upd_same, pr, ty, hb, hq, fun r H' rd ex hr hq2 => kk r H' rd ((st.new hq0).pure ex) hr hq2⟩
/-- a class of the module among others -/
theorem ps_cls {x : Str} {C : Addr} {pos : Pos} (hm : X.mg x = some (.ref C)) (hg : Gl X x := by rfl) (hd : (x == ("__debug__" : Str)) = false := by decide) : PE X (.Name x pos) (tC (.ref C)) := pe_glob (v := .ref C) hg hm rfl hd
structure XfF (K : PySem.W.Frag) (C : Addr) (f : Str) : Prop where
  x : XcC K C
  hd : PySem.W.hasDictIn
        K C = true
  no : PySem.W.findIn K (.ref C) f = some none
/-- x.f, x an error -/
def dXfl (G : Gd) (f : Str) (te : DT) : DT := fun ex env Q => te ex env fun d => ∃ c ds x, d = .exc c ds ∧ XfF G.K (G.cl c) f ∧ f ∈ G.fl c ∧ ds[(G.fl c).idxOf f]? = some x ∧ Q x
theorem de_xfl {e : Expr} {f : Str} {pos : Pos} {c : Nat} {te : DT} (hK : X.K = G.K) (he : DE G E X c e te) (hb : attributeBase e f X.env (eval e X.env) = eval e X.env := by rfl) : DE G E X c (.Attribute e f pos) (dXfl G f te) := by
  constructor
  intro pins s σ H Q' I h
  obtain ⟨W, hn, Q, ht, kk⟩ := h
  refine attr_of hb (thn (he.run pins s σ H (fun v H1 => ∃ (c : Nat) (ds : List D) (x : D) (a dd : Addr) (xs : List V), v = .ref a ∧ XfF G.K (G.cl c) f ∧ f ∈ G.fl c ∧ ds[(G.fl c).idxOf f]? = some x ∧ H1 a = some (ExK (.ref (G.cl c)) (some dd) a) ∧ H1 dd = some (.xd ((G.fl c).zip xs)) ∧ DenL G W.XB H1 ds xs ∧ ∀ y, Den G W.XB H1 x y → Q' y H1) I ⟨W, hn, _, ht, ?_⟩) fun u s1 hh => ?_)
  · rintro v H1 d st hd ⟨c, ds, x, rfl, T, hf, hx, hq⟩
    obtain ⟨a, dd, xs, rfl, _, _, ha, hdd, hl, hds⟩ := hd
    exact ⟨c, ds, x, a, dd, xs, rfl, T, hf, hx, ha, hdd, hds, fun y hy => kk y H1 x st hy hq⟩
  · obtain ⟨v, H1, I1, rv, c, ds, x, a, dd, xs, rfl, T, hf, hx, ha, hdd, hds, q⟩ := hh
    obtain rfl : u = Value.ref a := rv
    rw [← hK] at T
    obtain ⟨y, hy, hdy⟩ := hds.get hx
    obtain ⟨⟨oe, vs, e1, e2, e3⟩, _, _⟩ := (show ObjOk X.prog X.w H1 s1.heap a (ExK (.ref (G.cl c)) (some dd) a) from I1.hok a _ ha)
    obtain ⟨mA, hns, hr⟩ := (show ObjOk X.prog X.w H1 s1.heap dd (.xd _) from I1.hok dd _ hdd)
    obtain ⟨od, ho, hlk⟩ := lookIn_ns hns
    have J : PySem.W.InstAt s1.heap a oe (G.cl c) (some od) := ⟨e1, e2.1, by unfold PySem.W.notCls; rw [e3] <;> rfl, by rw [e2.2]; exact ho⟩
    obtain ⟨w', hw, rw'⟩ := RelO.some_of (v := y) (o := mA f) (by rw [← zip_lookup hy hf]; exact hr f)
    exact PySem.HandSPX.exc_get I1.kIn J T.x.ga T.x.gg T.x.sb (PySem.W.findObj_own T.hd T.no rfl (by rw [hlk, hw])) (handed_of rw') ⟨y, H1, I1.tok _, rw', q y hdy⟩
end
end Kn
set_option Elab.async false
set_option linter.all false
set_option maxRecDepth 100000
set_option maxHeartbeats 2100000
namespace Kn
open PySem PySem.Spec L2 RZ LamX
open PyProof.Rows (envOfC)
/-- the call of what was handed, at slot i: W is what the context takes of errors -/
def tAct (i : Nat) (f c' : Addr) (q : Str) (W : WX) (tl : XK → Hp → VK → Prop) : TE := fun σZ HZ Q => σZ[i]? = some (some (.ref f)) ∧ HZ c' = some (CodeO c' q) ∧ ∃ E : XK, (∀ cls d H', E cls d H' → W cls d σZ H') ∧ tl E HZ Q
section
variable {X : Cx} {pins : List (Addr ×
      Obj)} {σ : L2.St} {H : Hp} {s : Shared}
theorem pe_actS {CXg : CXT} {Eg : XK} {Ng : List Str} {qg : Str} {sg : Scope} {g f c' : Addr} {cdg pm ctv : Value} {params : Arguments} {body : Expr} {scope : Scope} {k i : Nat} {a : Str} {pn : List (Addr × Obj)} {xe : Value → Shared → Prop} {W : WX} {tb : XK → TE} {p1 p2 : Pos}
    (I : Inv X pins σ H s) (L : LamS X.env.scope scope) (hf : s.heap.get? f = some (PySem.W.kla_obj "<lambda>" (X.env.qual ++
          "<lambda>") params body scope (cloFrom X.env.cells scope.names []) pm c' ctv)) (hfn : H f = none) (hfr : f ∉ frs X.stack)
    (hbind : bindArgs (PySem.W.kla_fn "<lambda>" (X.env.qual ++ "<lambda>") params body
          scope (cloFrom X.env.cells scope.names []) pm (.ref c') ctv) ⟨[], []⟩ = pure [])
    (tk : Takes ((cxOf CXg X.prog X.w X.K X.mg X.base Ng qg sg g cdg X.A X.stack s H Eg).tr pn xe) W) (hr : Room (k + 1) (X.A.deeper (envOfC qg sg s.heap.objs.size g cdg)))
    (hbody : ∀ (A : Around) (outer : List Env) (s : Shared) (H : Hp) (E : XK), Room k (A.deeper (lamEnv X scope s.heap.objs.size f c')) → A.guards = some [] → PE (lamCx X A outer s H E scope f c') body (tb E)) (hgd : X.A.guards = some [])
    (hN : Ng[i]? = some a) (hv : Vis sg a) (hd : (a == ("__debug__" : Str)) = false
          := by decide) (hcd : (a == ("__classdict__" : Str)) = false := by decide) :
    PE ((cxOf CXg X.prog X.w X.K X.mg X.base Ng qg sg g cdg X.A X.stack s H Eg).tr pn xe) (.Call (.Name a p1) [] [] p2) (tAct i f c' (X.env.qual ++ "<lambda>") W fun E HZ Q => tb E σ HZ Q) := by
  constructor
  intro pinsZ sZ σZ HZ Q IZ h
  obtain ⟨hs, hc, E, hW, ht⟩ := h
  have at0 := (pe_var (pos := p1) (i := i) hN hv hd hcd).run pinsZ sZ σZ HZ (fun v H1 => v = .ref f ∧ H1 = HZ) IZ ⟨.ref f, hs, rfl, rfl⟩
  refine wpAny_Call_Name_kw (thn at0 ?_)
  rintro u s1 ⟨v, H1, I1, r1, rfl, rfl⟩
  obtain rfl : u = Value.ref f := r1; have there : s1.heap.get? f = some (PySem.W.kla_obj "<lambda>" (X.env.qual ++ "<lambda>") params body scope (cloFrom X.env.cells scope.names []) pm c' ctv) := I1.base.keep f _ hf hfn hfr (fun z => nomatch (show f ∈ ([] : List Addr) from z))
  have since : Un (frs X.stack) [] H H1 s.heap s1.heap := I1.base
  obtain ⟨⟨oc, vs, t, hoc, hdc, hvc⟩, _, _⟩ := I1.hok c' _ hc; have inner : codeAny (model X.prog X.w) (X.A.deeper (envOfC qg sg s.heap.objs.size g cdg)) (.call (.ref f) ⟨[], []⟩) (CR (L2.CX X.prog X.w) (envOfC qg sg s.heap.objs.size g cdg :: X.stack) X.prog X.w H1 s1 Q E) s1 := by
    refine PySem.W.kla_callFunE hr.depth there rfl L.co L.gen rfl ⟨c', oc, vs, t, rfl, hoc, hdc, hvc⟩ ?_
    rw [hbind]
    refine wpAny_pure (wpAny_newFunctionEnv (fun y hy => (L.own y hy).2) (fun y hy => by cases hy) (fun h₁ hns hsb => ?_) L.kind)
    refine ⟨I1.nolimit.fresh _ hsb, ?_⟩
    show codeAny _ _ (.expr body (lamEnv X scope s1.heap.objs.size f c')) _ _; have kept : ∀ b o, s1.heap.get? b = some o → h₁.get? b = some o := fun b o e => hsb.extBut b o (Nat.ne_of_lt (Heap.lt_size e)) (Heap.get?_push_of_some _ e)
    have J := lam_start2 (E := E) (f := f) (c' := c') (tk := s1.toks + ([] : List (Str × Value)).length) I L I1.env0 hr.hd since hns kept
    have run := (hbody _ _ s1 H1 E (hr.deeper _) hgd).run [] _ _ H1 Q J ht
    refine PySem.W.kla_codeExpr (wpAny_mono run ?_ fun e s' hq => hq)
    rintro v s' ⟨w', H', J', rv, q⟩; exact ⟨w', H', J'.os, J'.bare, J'.base, J'.hok, rv, q⟩
  refine PySem.W.callWith_F0 ⟨_, _, _, _, there⟩ (wpAny_call (codeAny_mono inner ?_))
  intro r s' hq
  cases r with
  | error e => exact tk e s' (XE.of_call I1 hW hq)
  | ok fl =>
    cases fl with
    | ret u => exact I1.after hq
    | next => exact hq.elim
    | brk => exact hq.elim
    | cont => exact hq.elim
end
end Kn
set_option Elab.async false
set_option linter.all false
set_option maxRecDepth 100000
set_option maxHeartbeats 2100000
namespace Kn
open PySem PySem.Spec L2 RZ LamX
open PyProof.Rows (envOfC)
section
variable {X : Cx} {pins : List (Addr ×
      Obj)} {σ : L2.St} {H : Hp} {s : Shared}
/-- one code more in the table at P: what else is there stays, the tables are tables -/
theorem tabs_more {T : List (Addr × Str)} {P c' : Addr} {q : Str} {ps : Array Value} {pos : Pos} (hT : Tabs T H) (at_ : H P = some (.tbl ps)) (ok : TriplesOk ps.toList) (one : ∀ p ∈ T, p.1 = P → p.2 = q) (new : H c' = none) :
    (∀ b o, H b = some o → b ≠ P → upd (upd H P (.tbl (ps ++ #[rawInt pos.line, rawInt pos.col, .ref c']))) c' (CodeO c' q) b = some o) ∧ Tabs T (upd (upd H P (.tbl (ps ++ #[rawInt pos.line, rawInt pos.col, .ref c']))) c' (CodeO c' q)) := by
  have stay : ∀ b o, H b = some o → b ≠ P → upd (upd H P (.tbl (ps ++ #[rawInt pos.line, rawInt pos.col, .ref c']))) c' (CodeO c' q) b = some o := by
    intro b o e ne
    have ne2 : b ≠ c' := ne_of_none e new
    rw [upd_ne ne2, upd_ne ne, e]
  have code : ∀ {b : Addr} {r : Str}, H b = some (CodeO b r) → upd (upd H P (.tbl (ps ++ #[rawInt pos.line, rawInt pos.col, .ref c']))) c' (CodeO c' q) b = some (CodeO b r) := by
    intro b r e
    refine stay b _ e ?_
    rintro rfl
    rw [at_] at e
    exact codeO_ne ps (Option.some.inj e).symm
  refine ⟨stay, ?_⟩
  rintro ⟨a, r⟩ mem
  obtain ⟨qs, h1, h2, h3⟩ := hT _ mem
  by_cases e : a = P
  · obtain rfl : r = q := one _ mem e
    subst e
    obtain rfl : qs = ps := by
      rw [show H a = _ from h1] at at_
      injection at_ with z
      injection z
    have list : (qs ++ #[rawInt pos.line, rawInt pos.col, .ref c']).toList = qs.toList ++ [rawInt pos.line, rawInt pos.col, .ref c'] := Array.toList_append
    refine ⟨_, (upd_ne (ne_of_none at_ new)).trans upd_same, list ▸ PySem.TriplesOk_snoc _ _ _ _ ok, ?_⟩
    intro p cv among
    rw [list] at among
    rcases among_app _ ok among with old | rfl
    · obtain ⟨d, e1, e2⟩ := h3 p cv old
      exact ⟨d, e1, code e2⟩
    · exact ⟨c', rfl, upd_same⟩
  · refine ⟨qs, stay _ _ h1 e, h2, ?_⟩
    intro p cv among
    obtain ⟨d, e1, e2⟩ := h3 p cv among
    exact ⟨d, e1, code e2⟩
/-- no frame stands at an address that is not yet there -/
theorem frame_not (I : Inv X pins σ H s) {f : Addr} (big : s.heap.objs.size ≤ f) : f ∉ frs X.stack := by
  intro z
  have lt := I.lt
  rcases List.mem_cons.mp (I.stkSub _ z) with rfl | z
  · exact Nat.not_lt.mpr big lt
  · exact I.nofs big z
/-- a lambda is made: but the table at P all stays -/
theorem lam_laid {T : List (Addr × Str)} {c P : Addr} {params : Arguments} {body : Expr} {scope : Scope} {pos : Pos} {E : Value → Shared → Prop} {Q : Value → Shared → Prop} (I : Inv X pins σ H s) (TB : TabB X.base X.mg c P) (hcode : X.env.code = .ref c)
    (hm : (P, X.env.qual ++ "<lambda>") ∈ T) (hu : ∀ p ∈ T, p.1 = P → p.2 = X.env.qual ++ "<lambda>") (hT : Tabs T H) (hdef
          : defaultsOf params X.env = ([], [])) (hfree : ∀ y ∈ scope.names, y.2 = .free → ∃ c, X.env.cells.lookup y.1 = some c)
    (h : ∀ (f c' : Addr) (pm ctv : Value) (H1 : Hp) (s' : Shared), Inv X pins σ H1 s' → (∀ b o, H b = some o → b ≠ P → H1 b = some o) → Tabs T H1 →
      s'.heap.get? f = some (PySem.W.kla_obj "<lambda>" (X.env.qual ++ "<lambda>") params body scope (cloFrom X.env.cells scope.names
            []) pm c' ctv) → H1 f = none → f ∉ frs X.stack → H1 c' = some (CodeO c' (X.env.qual ++ "<lambda>")) → Q (.ref f) s') :
    wpAny (model X.prog X.w) X.A (eval (.Lambda
          params body scope pos) X.env) Q E s := by
  obtain ⟨ps, hP, ok, found⟩ := hT _ hm
  have raw : s.heap.get? P = some { cls := .none, data := .fields ps } := I.hok P _ hP
  have blt : s.heap.BuiltinsAt X.mg P := TB.bm.keeps I.bk
  have code := TB.code.keeps I.bk
  have glob := I.mod.glob.keeps I.bk
  refine PySem.W.kla_eval hdef ?_; rcases q : codeAmong pos ps.toList with _ | cv
  · refine PySem.W.kla_makeFunction (closure_ok hfree) I.ok.glob glob hcode code raw ok q TB.gP blt ?_
    rintro c' ctv h' tk keep ge lt ⟨_, oc, vs, t, ⟨⟩, there, hd, hv⟩ table
    have new : H c' = none := I.hok.fresh ge
    have big : s.heap.objs.size ≤ h'.objs.size := Nat.le_of_lt (Nat.lt_of_le_of_lt ge lt)
    obtain ⟨stay, tabs⟩ := tabs_more (pos := pos) hT hP ok hu new
    refine h h'.objs.size c' ((X.mg "__name__").getD .none) ctv _ _ (inv_table (t' := tk) (more := #[rawInt pos.line, rawInt pos.col, .ref c']) (h' := h'.push (PySem.W.kla_obj "<lambda>" (X.env.qual ++ "<lambda>") params body scope (cloFrom X.env.cells scope.names []) ((X.mg "__name__").getD .none) c' ctv)) I hP ?_ (Heap.get?_push_of_some _ table) ge ⟨oc, vs, t, Heap.get?_push_of_some _ there, hd, hv⟩) stay tabs (Heap.get?_push_size _ rfl) ?_ (frame_not I big) upd_same
    · exact fun b o ne e => Heap.get?_push_of_some _ (keep b o ne e)
    · have away : h'.objs.size ≠ P := Nat.ne_of_gt (Nat.lt_of_lt_of_le (Heap.lt_size raw) big)
      rw [upd_ne (Nat.ne_of_gt lt), upd_ne away]
      exact I.hok.fresh big
  · obtain ⟨c', rfl, there⟩ := found pos cv q
    refine PySem.W.kla_makeFunctionHit (closure_ok hfree) I.ok.glob glob hcode code raw ok q blt ?_
    intro ctv h' tk keep big
    exact h h'.objs.size c' ((X.mg "__name__").getD .none) ctv H _ (I.kept fun b o e => Heap.get?_push_of_some _ (keep b o e)) (fun _ _ e _ => e) hT (Heap.get?_push_size _ rfl) (I.hok.fresh big) (frame_not I big) there
end
/-- a def of the module whose code object stands at c -/
structure FunC (K : PySem.W.Frag) (x qual : Str) (st : Stmt) (f : Addr) (fd : FuncData) (c : Addr) : Prop where
  ex : ∃ (oc : Value) (od : Option Addr) (kV doc pm : Value) (an : Option Addr) (ct : Value) (osl : Array (Option Value)),
    fd = PySem.W.fnOf x qual (defArgs st) (defBody st) (defScope st) .none kV doc pm an (.ref c) ct ∧ K.lookup f = some ⟨oc, od, .func fd, osl⟩ ∧ PySem.W.codeIn K (.ref c) qual = true
  kp : PySem.W.keepIn
        K (.ref f) = true
/-- the reading of what is handed, what is wanted of the answer -/
abbrev LSpec := ((D → Prop) → (Exc → Prop) → Prop) → (D → Prop) → Prop
section
variable {G : Gd} {P : Program} {w : World} {mg : Str → Option Value} {base : Heap}
/-- what is handed at the heap H0, where B counts: read by T later, at most c draws -/
def Thunk (G : Gd) (c : Nat) (H0 : Hp) (B : Addr → Prop) (tl : XK → Hp → VK → Prop) (T : (D → Prop) → (Exc → Prop) → Prop) : Prop :=
  ∀ (E : XK) (HZ : Hp) (B' : Addr → Prop) (n : Nat) (Q0 : D → Prop) (ex0 : Exc → Prop) (Q' : VK), Ext G.u H0 HZ → Good G.u HZ n → c ≤ n → (∀ p, Pr G.u p → B' p.1 ∧ B' p.2) → (∀ b, B' b → B b ∨ H0 b = none) → (∀ b, B' b → HZ b ≠ none) → T Q0 ex0 →
    (∀ v H' d, Ext G.u HZ H' → Good G.u H' (n - c) → Den G B' H' d v → Q0 d → Q' v H') → (∀ x C d H', Ext G.u HZ H' → Good G.u H' (n - c) → ExcIs G B' H' x C d → ex0 x → E C d H') → tl E HZ Q'
/-- what a def that is handed a lambda asks -/
def liftL (G : Gd) (c : Nat) (S : LSpec) (tl : XK → Hp → VK → Prop) (H : Hp) (Q : VK) : Prop := ∃ (n : Nat) (B : Addr → Prop) (T : (D → Prop) → (Exc → Prop) → Prop) (R : D → Prop),
  c ≤ n ∧ (∀ p, Pr G.u p → B p.1 ∧ B p.2) ∧ (∀ a, B a → H a ≠ none) ∧ Good G.u H n ∧ Thunk G c H B tl T ∧ S T R ∧ ∀ v H' d, Ext G.u H H' → Good G.u H' (n - c) → Den G B H' d v → R d → Q v H'
/-- no error leaves -/
abbrev E1 : XK := fun _ _ _ => False
/-- what stands at slot 0 of the def at g can be called as tl -/
def ActOk (P : Program) (w : World) (K : PySem.W.Frag) (mg : Str → Option Value) (base : Heap) (N : List Str) (qg : Str) (sg : Scope) (g : Addr) (A : Around) (outer : List Env) (s : Shared) (H : Hp) (a : Str) (f c' : Addr) (q : Str) (tl : XK → Hp → VK → Prop) : Prop :=
  ∀ (cdv : Value) (W : WX) (pn : List (Addr × Obj)) (xe : Value → Shared → Prop) (p1 p2 : Pos), Takes ((cxOf (L2.CX P w) P w K mg base N qg sg g cdv A outer s H E1).tr pn xe) W →
    PE ((cxOf (L2.CX P w) P w K mg base N qg sg g cdv A outer s H E1).tr pn xe) (.Call (.Name a p1) [] [] p2) (tAct 0 f c' q W tl)
/-- the def x, that calls what it is handed -/
structure FnL (G : Gd) (P : Program) (w : World) (mg : Str → Option Value) (base : Heap) (k : Nat) (g : Addr) (fd : FuncData) (N : List Str) (qg : Str) (sg : Scope) (a : Str) (c : Nat) (S : LSpec) : Prop where
  hN : N[0]? = some a
  vis : Vis sg a
  run : ∀ (A : Around) (outer : List Env) (s : Shared) (H : Hp) (f c' : Addr) (q : Str) (tl : XK → Hp → VK → Prop) (Q : VK), Room k A → A.guards = some [] → Env0 P w G.K mg base A outer s H → BindsTo s fd ⟨[.ref f], []⟩ [(a, .ref f)] →
    ActOk P w G.K mg base N qg sg g A outer s H a f c' q tl → H c' = some (CodeO c' q) → liftL G c S tl H Q → codeAny (model P w) A (.call (.ref g) ⟨[.ref f], []⟩) (CR (L2.CX P w) outer P w H s Q E1) s
end
end Kn
set_option Elab.async false
set_option linter.all false
set_option maxRecDepth 100000
set_option maxHeartbeats 2100000
namespace Kn
open PySem PySem.Spec L2 RZ LamX
open PyProof.Rows (envOfC)
section
variable {G : Gd} {P : Program} {w : World} {mg : Str → Option Value} {base : Heap}
/-- what a def that makes lambdas knows of its code object and its table -/
structure LamT (G : Gd) (base : Heap) (mg : Str → Option Value) (c : Addr) (q : Str) : Prop where
  ex : ∃ (Pt : Addr) (r : Ur), TabB base mg c Pt ∧ G.u = some r ∧ (Pt, q) ∈ r.2 ∧ ∀ p ∈ r.2, p.1 = Pt → p.2 = q
/-- the def x of the module, that calls what it is handed -/
structure Fl (G : Gd) (P : Program) (w : World) (mg : Str → Option Value) (base : Heap) (k : Nat) (x : Str) (N : List Str) (sg : Scope) (a : Str) (c : Nat) (S : LSpec) : Prop where
  ex : ∃ (g : Addr) (fd : FuncData), FnL G P w mg base k g fd N x sg a c S ∧ mg x = some (.ref g) ∧ PySem.W.keepIn G.K (.ref g) = true ∧ Binds G.K fd [a] []
theorem FnL.mono {j k : Nat} {g : Addr} {fd : FuncData} {N : List Str} {qg : Str} {sg : Scope} {a : Str} {c : Nat} {S : LSpec} (F : FnL G P w mg base j g fd N qg sg a c S) (h : j ≤ k) : FnL G P w mg base k g fd N qg sg a c S :=
  ⟨F.hN, F.vis, fun A outer s H f c' q tl Q hr => F.run A outer s H f c' q tl Q (hr.mono h)⟩
/-- within a lambda's body -/
theorem xk_lam {X : Cx} {E : XK} {k : Nat} {A : Around} {outer : List Env} {s : Shared} {H : Hp} {scope : Scope} {f c' : Addr} (hK : X.K = G.K) (hr : Room k (A.deeper (lamEnv X scope s.heap.objs.size f c'))) (hg : A.guards = some []) : Xk G E k (lamCx X A outer s H E scope f c') where
  K := hK
  room := hr
  gd := hg
  pass := passes_call (W := fun cls d _ H => E cls d H) (takes_of rfl rfl rfl rfl) fun _ _ _ _ h => h
  calm := rfl
  tk := takes_of rfl rfl rfl rfl
/-- the state of the maker's slots at a later heap, where the lambda's body is read -/
theorem wd_lam {E E' : XK} {σ : List (Option V)} {H H1 HZ : Hp} (W : Wd G E σ H) (st : Step W 0 H1) {B' : Addr → Prop} {n m : Nat} {ex0 : Exc → Prop} (he : Ext G.u H1 HZ) (hg : Good G.u HZ n) (hu : ∀ p, Pr G.u p → B' p.1 ∧ B' p.2) (hB : ∀ b, B' b → W.XB b ∨ H1 b = none) (hZ : ∀ b, B' b → HZ b ≠ none)
    (kx : ∀ x C d H', Ext G.u HZ H' → Good G.u H' m → ExcIs G B' H' x C d → ex0 x → E' C d H') :
    ∃ W' : Wd G E' σ HZ, W'.u = G.u ∧ W'.n = n ∧ W'.m = m ∧ W'.env = inEnv W.env [] ∧ W'.ex = ex0 ∧ ∀ b, W'.XB b ↔ B' b := by
  have xb : ∀ b, XBof B' (inEnv W.env []) σ b → B' b := fun b h => xb_in h
  refine ⟨{ u := G.u, n := n, m := m, B := B', H0 := HZ, env := inEnv W.env [], ex := ex0, ug := rfl, hu := hu, hB := hZ, fr := Ext.refl _ _, good := hg, len := ?_, sl := fun i s e => ?_, nd := fun i j a s t h1 _ hm => (inEnv_noown h1 hm).elim, exc := kx }, rfl, rfl, rfl, rfl, rfl, fun b => ⟨xb b, .inl⟩⟩
  · unfold inEnv; rw [wipeE_len, List.length_map]; exact W.len
  · rcases inEnv_get e with z | ⟨_, s', h1, z⟩
    · subst z; trivial
    · subst z
      have so := (W.next st).sl i s' h1
      cases s' with
      | emp => trivial
      | own a ds => trivial
      | slf a dx c ds => trivial
      | obj a o => trivial
      | dic a ks ds => trivial
      | val d =>
        obtain ⟨x, e1, e2⟩ := so
        have e2' : Den G W.XB H1 d x := e2
        exact ⟨x, e1, Den.keep (fun b o nb hb => he b o hb (by rw [← W.ug]; exact W.nuX nb)) (fun b hb => hB b (xb b hb)) d x e2'⟩
def dLam (S : LSpec) (te : DT) : DT := fun ex env Q => S (fun Q0 ex0 => te ex0 (inEnv env []) Q0) Q
/-- x(lambda: body) -/
theorem de_lamcall {E : XK} {X : Cx} {j k kb cb cL : Nat} {x a : Str} {N : List Str} {sg : Scope} {S : LSpec} {c : Addr} {params : Arguments} {body : Expr} {scope : Scope} {te : DT} {p lpos pos : Pos} (F : Fl G X.prog X.w X.mg X.base j x N sg a cL S) (xk : Xk G E k X) (lt : LamT G X.base X.mg c (X.env.qual ++ "<lambda>")) (hcode : X.env.code = .ref c)
    (L : LamS X.env.scope scope) (hbody : ∀ (A : Around) (outer : List Env) (s : Shared) (H : Hp) (E' : XK) (f c' : Addr), Xk G E' kb (lamCx X A outer s H E' scope f c') → DE G E' (lamCx X A outer s H E' scope f c') cb body te) (hj : j ≤ k := by decide) (hkb : kb + 2 ≤ k := by decide) (hcb : cb ≤ cL := by decide)
    (hdef : defaultsOf params X.env = ([], []) := by rfl) (hbind : ∀ (q : Str) (cl : List (Str × Addr)) (pm cv ctv : Value), bindArgs (PySem.W.kla_fn "<lambda>" q params body scope cl pm cv ctv) ⟨[], []⟩ = pure [] := by (intros; rfl))
    (hg : Gl X x := by rfl) (hdb : (x == ("__debug__" : Str)) = false := by decide) (hd : (a == ("__debug__" : Str)) = false := by decide) (hcd : (a == ("__classdict__" : Str)) = false := by decide) :
    DE G E X cL (.Call (.Name x p) [.Lambda params body scope lpos] [] pos) (dLam S te) := by
  obtain ⟨g, fd, hF0, hm, hk, hb⟩ := F.ex
  obtain ⟨Pt, r, TB, hur, hmem, huq⟩ := lt.ex
  have hF := hF0.mono hj
  rw [← xk.K] at hk hb
  constructor
  intro pins s σ H Q' I h
  obtain ⟨W, hn, Q, hs, kk⟩ := h
  refine wpAny_Call_Name_kw (ld_glob I hg hm ?_ hdb); refine PySem.W.callWith_K (h₀ := X.base) I.ok.mod.kin hk ?_ (by rfl) (by rfl)
  show wpAny _ _ (spliced ((false, eval (.Lambda params body scope lpos) X.env) :: backTo pos (starEach [] X.env))) _ _ s; have hgood := W.good
  rw [W.ug, hur] at hgood
  obtain ⟨⟨ua, ub⟩, T⟩ := r
  obtain ⟨⟨cells, kI, rI, g1, g2, g3⟩, gT⟩ := hgood
  refine Calls.spliced_cons (lam_laid I TB hcode hmem huq gT hdef (L.has I.ok) fun f c' pm' ctv H1 s' I1 keep T1 hf hfn hfr hco => ?_)
  have atP : ∃ ps, H Pt = some (.tbl ps) := by
    obtain ⟨ps, e, _⟩ := gT _ hmem; exact ⟨ps, e⟩
  obtain ⟨ps, hP⟩ := atP
  have st : Step W 0 H1 := ⟨fun b o e nu => keep b o e (fun z => nu (Pt, Pt) ⟨_, by rw [W.ug, hur], .inr ⟨_, hmem, rfl⟩⟩ z.symm), by
    rw [W.ug, hur]
    exact ⟨⟨cells, kI, rI, keep _ _ g1 (fun z => by rw [z, hP] at g1; cases g1), keep _ _ g2 (fun z => by rw [z, hP] at g2; cases g2), g3⟩, T1⟩⟩
  have hug := W.ug
  have thunk : Thunk G cL H1 W.XB (fun E' H' Q' => lift G E' cb te σ H' Q') (fun Q0 ex0 => te ex0 (inEnv W.env []) Q0) := by
    intro E' HZ B' n' Q0 ex0 Q2 he hg' hc hu' hB' hZ ht kv kx
    obtain ⟨W', w1, w2, w3, w4, w5, w6⟩ := wd_lam (E' := E') (m := n' - cL) W st he hg' hu' hB' hZ kx
    refine ⟨W', by omega, Q0, by rw [w4, w5]; exact ht, fun v H' d st' hd hq => kv v H' d (by rw [← w1]; exact st'.ext) (by have z := st'.good; rw [w1, w2] at z; exact z.less (by omega)) (hd.fewer fun b z => (w6 b).2 z) hq⟩
  have lf : liftL G cL S (fun E' H' Q' => lift G E' cb te σ H' Q') H1 Q' := by
    refine ⟨W.n, W.XB, _, Q, by omega, fun p e => ⟨.inl (W.hu p (by rw [hug]; exact e)).1, .inl (W.hu p (by rw [hug]; exact e)).2⟩, fun a ha z => (W.next st).fresh z ha, by have z := st.good; rw [hug] at z; exact z, thunk, hs, fun v H' d e g' hd hq => kk v H' d ⟨st.ext.trans (by rw [hug]; exact e), by rw [hug]; exact g'⟩ hd hq⟩
  have act : ActOk X.prog X.w G.K X.mg X.base N x sg g X.A X.stack s' H1 a f c' (X.env.qual ++ "<lambda>") (fun E' H' Q' => lift G E' cb te σ H' Q') := by
    rw [← xk.K]
    intro cdv W0 pn xe p1 p2 tk
    exact pe_actS (k := kb) (tb := fun E' => lift G E' cb te) I1 L hf hfn hfr (hbind _ _ _ _ _) tk ((xk.room.mono (by omega : kb + 1 + 1 ≤ k)).deeper _) (fun A outer s H E' hr hgd => hbody A outer s H E' f c' (xk_lam xk.K hr hgd)) xk.gd hF.hN hF.vis hd hcd
  refine Calls.spliced_nil ⟨I1.kIn, ?_⟩; have rc : codeAny (model X.prog X.w) X.A (.call (.ref g) ⟨[.ref f], []⟩) (CR (L2.CX X.prog X.w) X.stack X.prog X.w H1 s' Q' E1) s' :=
    hF.run X.A X.stack s' H1 f c' _ _ Q' xk.room xk.gd (by rw [← xk.K]; exact I1.env0) (hb s' [.ref f] I1.kIn rfl) act hco lf
  refine wpAny_call (codeAny_mono rc fun r s2 hq => ?_); cases r with
  | error e => obtain ⟨_, _, _, _, _, _, _, _, _, _, _, _, z⟩ := hq; exact z.elim
  | ok fl =>
    cases fl with
    | ret u => exact I1.after hq
    | next => exact hq.elim
    | brk => exact hq.elim
    | cont => exact hq.elim
/-- a def that makes lambdas -/
theorem fnd_ofC {k : Nat} {f : Addr} {x qual : Str} {st : Stmt} {fd : FuncData} {N ps : List Str} {c : Nat} {S : FSpec} {ts : DS} {cd : Addr} (F : FunC G.K x qual st f fd cd) (Sc : FnScope N ps (defScope st))
    (hder : ∀ (A : Around) (outer : List Env) (s : Shared) (H : Hp) (E : XK), Room k (A.deeper (envOfC qual (defScope st) s.heap.objs.size f (.ref cd))) → A.guards = some [] →
      DSs G E (cxOf (L2.CX P w) P w G.K mg base N qual (defScope st) f (.ref cd) A outer s H E) c (defBody st) ts)
    (hS : ∀ ds R ex, ds.length = ps.length → S ds R ex → ts ex { nx := fun _ => R .non, rt := fun d _ => R d } (env0 N ds)) : FnD G P w mg base (k + 1) f fd ps c S := fnd_at F.ex Sc hder hS
end
end Kn
set_option Elab.async false
set_option linter.all false
set_option maxRecDepth 100000
set_option maxHeartbeats 2100000
namespace Kn
open PySem PySem.Spec L2 RZ LamX
open PyProof.Rows (envOfC)
theorem set_gone {α : Type} {l : List (Option α)} {i j : Nat} {x y : Option α} (h : i ≠ j) (hl : l[j]? = some none) : ((l.set j x).set i y).set j none = l.set i y := by
  rw [List.set_comm _ _ (Ne.symm h), List.set_set]
  rw [List.set_comm _ _ h]
  congr 1
  apply List.ext_getElem?
  intro m
  by_cases hm : j = m
  · subst hm
    rw [hl, List.getElem?_set_self]
    exact (List.getElem?_eq_some_iff.mp hl).1
  · rw [List.getElem?_set_ne hm]
section
variable {G : Gd} {P : Program} {w : World} {mg : Str → Option Value} {base : Heap}
/-- what the clause's class says of an error's class -/
def Fits (G : Gd) (CV : Value) (e : Exc) : Prop := PySem.W.exmOne G.K (.ref (G.cl e.c)) CV = some true
theorem fnl_of {k : Nat} {g : Addr} {x a : Str} {st : Stmt} {fd : FuncData} {N : List Str} {c : Nat} {S : LSpec} {ts : DS} {i j : Nat} {CN err : Str} {CV : Value} {s0 s1 : Stmt} {rest : List Stmt} {p1 p2 p3 p4 p5 np : Pos} (F : Fun G.K x x st g fd) (Sc : FnScope N [a] (defScope st))
    (hb : defBody st = s0 :: .Try [.Expr (.Call (.Name a p1) [] [] p2) p3] [.ExceptHandler (some (.Name CN np)) (some err) [s1] p4] [] [] p5 :: rest)
    (h0 : ∀ (cdv : Value) (A : Around) (outer : List Env) (s : Shared) (H : Hp), PS (cxOf (L2.CX P w) P w G.K mg base N x (defScope st) g cdv A outer s H E1) s0 (tAsg (tC .non) (gName i)))
    (h1 : ∀ (cdv : Value) (A : Around) (outer : List Env) (s : Shared) (H : Hp) (ea : Addr) (pn : List (Addr × Obj)), PS ((cxOf (L2.CX P w) P w G.K mg base N x (defScope st) g cdv A outer s H E1).suite ea pn) s1 (tAsg (tVar j) (gName i)))
    (hN : N[0]? = some a) (hj : N[j]? = some err) (hln : (defScope st).names.lookup err = some .local) (hij : i ≠ j) (hj0 : 0 < j) (hi0 : 0 < i) (hvis : Vis (defScope st) a) (hcl : (defScope st).names.lookup CN = some .globalImplicit) (hcm : mg CN = some CV) (hcd : (CN == ("__debug__" : Str)) = false)
    (hder : ∀ (cdv : Value) (A : Around) (outer : List Env) (s : Shared) (H : Hp), Room k (A.deeper (envOfC x (defScope st) s.heap.objs.size g cdv)) → A.guards = some [] → DSs G E1 (cxOf (L2.CX P w) P w G.K mg base N x (defScope st) g cdv A outer s H E1) 0 rest ts)
    (hS : ∀ (f : Addr) T R, S T R → T (fun _ => ts noX { nx := fun _ => R .non, rt := fun d _ => R d } ((env0 N [.opq (.ref f)]).set i (.val .non)))
      (fun e => Fits G CV e ∧ ts noX { nx := fun _ => R .non, rt := fun d _ => R d } ((env0 N [.opq (.ref f)]).set i (.val (.exc e.c e.ds))))) : FnL G P w mg base (k + 1) g fd N x (defScope st) a c S := by
  refine ⟨hN, hvis, ?_⟩
  intro A outer s H f c' q tl Q hr hgd e0 hbind act hco hl
  obtain ⟨n, B, T, R, hcn, hu, hB, hg, th, hST, hQ⟩ := hl
  obtain ⟨oc, od, kV, doc, pm, an, cdv, ct, osl, rfl, lk, hcd2⟩ := F.ex
  refine run_ofS (N := N) (ps := [a]) (us := [.ref f]) (vs := [.ref f]) lk hcd2 Sc hr e0 hbind (.cons rfl .nil) rfl fun hr' => ?_
  rw [hb]
  have X0ok := act cdv
  have tk : Takes (cxOf (L2.CX P w) P w G.K mg base N x (defScope st) g cdv A outer s H E1) (fun cls d _ H => E1 cls d H) := takes_of rfl rfl rfl rfl
  have tr := ps_try_keep (X := cxOf (L2.CX P w) P w G.K mg base N x (defScope st) g cdv A outer s H E1) (x := CN) (n := err) (c := CV) (i := j) (np := np) (pos := p5) (pos' := p4)
    (tb := fun W => tDrop (tAct 0 f c' q W tl)) (ts := fun _ _ _ => tAsg (tVar j) (gName i)) (Wout := fun cls d _ H => E1 cls d H) rfl rfl Sc.nd hj hln ⟨hcl, hcd, .inl hcm⟩ tk rfl
    (fun W pn xe tk' _ => pss_one (ps_expr (pos := p3) (X0ok W pn xe p1 p2 tk'))) (fun ea oe cls d pn _ _ => pss_one (h1 cdv A outer s H ea _))
  refine ⟨_, pss_cons (h0 cdv A outer s H) (pss_cons tr (hder cdv A outer s H hr' hgd)), ?_⟩
  -- the slots behind y = None
  have st0 : (L2.start N [V.ref f])[0]? = some (some (.ref f)) := start_get (i := 0) rfl
  have hlenN : 1 ≤ N.length := by
    have := (List.getElem?_eq_some_iff.mp hN).1; omega
  have hjl : j < N.length := (List.getElem?_eq_some_iff.mp hj).1
  have stj : ((L2.start N [V.ref f]).set i (some V.non))[j]? = some none := by
    rw [List.getElem?_set_ne hij]
    show (([V.ref f].map some) ++ List.replicate (N.length - 1) none)[j]? = some none
    rw [List.getElem?_append_right (by show 1 ≤ j; omega), List.getElem?_replicate, if_pos (by simp; omega)]
  have hd0 : DenL G B H [.opq (.ref f)] [V.ref f] := ⟨_, _, rfl, rfl, rfl⟩
  obtain ⟨W0, w1, w2, w3, w4, w5, w6, w7⟩ := wd_start (E := E1) (N := N) (u := G.u) (n := n) (c := c) (ex := noX) (by simpa using hlenN) rfl hcn hu hB hg hd0 (fun _ _ _ _ _ _ _ z => z.elim)
  let W1 : Wd G E1 ((L2.start N [V.ref f]).set i (some V.non)) H := W0.put i (d := .non) (v := .non) rfl
  let D : Ends := { nx := fun _ H' => Q .non H', rt := Q }
  let de : DEnds := { nx := fun _ => R .non, rt := fun d _ => R d }
  -- the end of the body
  have fin : ∀ {τ : List (Option V)} {HZ : Hp} (W : Wd G E1 τ HZ), W.u = G.u → W.B = B → W.H0 = H → n - c ≤ W.n → W.m ≤ W.n → ts W.ex de W.env → liftS G E1 0 ts D τ HZ := by
    intro τ HZ W u1 u2 u3 u4 u5 ht
    refine ⟨W, u5, de, ht, ?_, ?_, fun _ _ _ _ z => z.elim, fun _ _ _ _ z => z.elim⟩
    · intro σ' H' W' lt hr'
      exact hQ .non H' .non (by have z := W'.fr; rw [lt.u, lt.H0, u1, u3] at z; exact z) (by have z := W'.good; rw [lt.u, u1] at z; exact z.less (by have := lt.n; omega)) rfl hr'
    · intro v σ' H' W' d lt hd' hr'
      rw [u2] at hd'
      exact hQ v H' d (by have z := W'.fr; rw [lt.u, lt.H0, u1, u3] at z; exact z) (by have z := W'.good; rw [lt.u, u1] at z; exact z.less (by have := lt.n; omega)) hd' hr'
  show tSeq (tAsg (tC .non) (gName i)) _ D (L2.start N [V.ref f]) H
  show tDrop (tAct 0 f c' q (wKeep G.K CV j (fun _ _ _ => tAsg (tVar j) (gName i)) (fun cls d _ H => E1 cls d H) { D with nx := liftS G E1 0 ts D }) tl) { D with nx := liftS G E1 0 ts D } ((L2.start N [V.ref f]).set i (some V.non)) H
  refine ⟨by rw [List.getElem?_set_ne (by omega)]; exact st0, hco, fun cls d H' => wKeep G.K CV j (fun _ _ _ => tAsg (tVar j) (gName i)) (fun cls d _ H => E1 cls d H) { D with nx := liftS G E1 0 ts D } cls d ((L2.start N [V.ref f]).set i (some V.non)) H', fun _ _ _ z => z, ?_⟩
  refine th _ H B n _ _ _ (Ext.refl _ _) hg hcn hu (fun b z => .inl z) hB (hS f T R hST) ?_ ?_
  · intro v H' d he hg' hd' ht
    let W2 := W1.next (c := c) (H' := H') ⟨by show Ext W0.u H H'; rw [w1]; exact he, by show Good W0.u H' (W0.n - c); rw [w1, w2]; exact hg'⟩
    refine fin W2 (by show W0.u = _; exact w1) (by show W0.B = _; exact w4) (by show W0.H0 = _; exact w5) (by show n - c ≤ W0.n - c; omega) (by show W0.m ≤ W0.n - c; omega) ?_
    show ts W0.ex de (W0.env.set i (.val .non))
    rw [w6, w7]
    exact ht
  · rintro e C d H' he hg' ⟨rfl, dd, xs, rfl, nd, e3, e4, e5⟩ ⟨hfit, ht⟩
    refine ⟨true, hfit, fun _ a' ha' => ?_, fun z => by cases z⟩
    -- the suite stores it; behind it the name is gone
    refine ⟨.ref a', by rw [List.getElem?_set_self]; rw [List.length_set]; unfold L2.start; simp only [List.length_append, List.length_map, List.length_replicate, List.length_cons, List.length_nil]; omega, ?_⟩
    show liftS G E1 0 ts D (((((L2.start N [V.ref f]).set i (some V.non)).set j (some (.ref a'))).set i (some (.ref a'))).set j none) (upd H' a' (ExK (.ref (G.cl e.c)) (some dd) a'))
    rw [set_gone hij stj]
    let W2 := W1.next (c := c) (H' := H') ⟨by show Ext W0.u H H'; rw [w1]; exact he, by show Good W0.u H' (W0.n - c); rw [w1, w2]; exact hg'⟩
    have fr : ¬ W1.XB a' := W2.fresh ha'
    let W3 := W2.next (c := 0) (H' := upd H' a' (ExK (.ref (G.cl e.c)) (some dd) a')) ((Step.refl W2).new ha')
    have xb : ∀ b, W1.XB b → B b := fun b z => by
      have z' := xb_val W0.len z
      rcases z' with z' | ⟨i', s', q1, q2, _⟩
      · rw [← w4]; exact z'
      · rw [w6] at q1
        rcases env0_get q1 with ⟨_, _, y⟩ | y <;> (subst y; cases q2)
    have den : Den G W3.XB (upd H' a' (ExK (.ref (G.cl e.c)) (some dd) a')) (.exc e.c e.ds) (.ref a') := by
      refine ⟨a', dd, xs, rfl, fr, fun z => nd (xb dd z), upd_same, by rw [upd_ne (ne_of_none e3 ha')]; exact e3, e4, ?_⟩
      exact (e5.fewer (fun b z => xb b z)).ext (u := none) (Ext.new ha') (fun _ z => z.none.elim)
    let W4 := W3.put i den
    have e6 : W4.env = (env0 N [.opq (.ref f)]).set i (.val (.exc e.c e.ds)) := by
      show (W0.env.set i (.val .non)).set i (.val (.exc e.c e.ds)) = _
      rw [List.set_set, w6]
    have e7 : W4.ex = noX := w7
    refine fin W4 (by show W0.u = _; exact w1) (by show W0.B = _; exact w4) (by show W0.H0 = _; exact w5) (by show n - c ≤ W0.n - c - 0; omega) (by show W0.m ≤ W0.n - c - 0; omega) ?_
    rw [e6, e7]
    exact ht
end
end Kn
set_option Elab.async false
set_option linter.all false
set_option maxRecDepth 100000
set_option maxHeartbeats 2100000
namespace Kn
open PySem PySem.Spec L2 RZ LamX
open PyProof.Rows (envOfC AllBare IntsAre)
/-- the law's def answers True from the entry on, over the heap of which the script and the tables of cs may be known -/
def LawOkT (P : Program) (w : World) (K : PySem.W.Frag) (mg : Str → Option Value) (fa a : Addr) (ns : List Int) (s₁ : Shared) (cs : List (Addr × Addr)) : Prop :=
  ∀ (base : Heap) (H : Hp), K.In base → base.Ns mainGlobals mg → (∀ p ∈ cs, TabB base mg p.1 p.2) → (∀ p ∈ cs, H p.2 = some (.tbl #[])) → SqL K H a (ns.map V.int) → Env0 P w K mg base callerA [] s₁ H →
    codeAny (model P w) callerA (.call (.ref fa) ⟨[.ref a], []⟩) (CR (L2.CX P w) [] P w H s₁ (fun v _ => v = .bl true) (fun _ _ _ => False)) s₁
section
variable {P : Program} {w : World} {K : PySem.W.Frag} {mg mb : Str → Option Value} {fa a : Addr} {s₁ : Shared} {vs : List Value} {ns : List Int} {cs : List (Addr × Addr)}
theorem law_coreT (KX : K.In s₁.heap) (hns : s₁.heap.Ns mainGlobals mg) (hb : s₁.heap.Ns builtinsNs mb) (hbb : ∀ x : Str, x ≠ "__name__" → mb x = bootBuiltins x) (hlim : s₁.heap.NoLimit) (hg : s₁.gens = #[])
    (hbm : ∃ (bm : Addr) (ob : Obj), mg "__builtins__" = some (.ref bm) ∧ bm ≠ builtinsNs ∧
          s₁.heap.get? bm = some ob ∧ ob.cls = .type "module" ∧ ob.dict = some builtinsNs ∧ ob.data = .plain)
    (ha : s₁.heap.get? a = some { cls := .type "list", data := .seq vs.toArray }) (hT : ∀ p ∈ cs, s₁.heap.get? p.2 = some (PySem.W.tabObj #[])) (nT : ∀ p ∈ cs, K.lookup p.2 = none) (C : ∀ p ∈ cs, PySem.W.CodeHd s₁.heap p.1 p.2) (F : LawOkT P w K mg fa a ns s₁ cs)
    (H : Hp) (hH : ∀ p ∈ cs, H p.2 = some (.tbl #[])) (hO : ∀ b o, H b = some o → (b = a ∧ ∃ ob xs, o = .frz ob (.lst xs)) ∨ ∃ p ∈ cs, b = p.2) (hS : SqL K H a (ns.map V.int)) (ok : HOk P w H s₁.heap) (hK : H a ≠ none → K.lookup a = none) :
    codeAny (model P w) callerA (.call (.ref fa) ⟨[.ref a], []⟩) (fun r s' => r = .ok
      (.ret (.bool true)) ∧ OldK s₁.heap s'.heap ∧ s'.os = s₁.os ∧ AllBare s'.gens) s₁ := by
  -- what is neither a list nor an empty record is not tracked
  have off : ∀ {b : Addr} {o : Obj}, s₁.heap.get? b = some o → (∀ xs n, o.data ≠ .seq xs n) → o.data ≠ .fields #[] → H b = none := by
    intro b o e n1 n2
    cases q : H b with
    | none => rfl
    | some u =>
      exfalso
      rcases hO b u q with ⟨rfl, _⟩ | ⟨p, hp, rfl⟩
      · rw [ha] at e; cases e; exact n1 _ _ rfl
      · rw [hT p hp] at e; cases e; exact n2 rfl
  have dict_off : ∀ {b : Addr} {o : Obj} {es : Array DictEntry} {ep : Nat}, s₁.heap.get? b = some o → o.data = .dict es ep → H b = none := fun {b o es ep} e d =>
    off e (fun xs n z => by rw [d] at z; cases z) (fun z => by rw [d] at z; cases z)
  have kb : K.In (hidT s₁.heap H) := by
    intro b o e
    refine hidT_get (KX b o e) ?_
    cases q : H b with
    | none => rfl
    | some u =>
      exfalso
      rcases hO b u q with ⟨rfl, _⟩ | ⟨p, hp, rfl⟩
      · rw [hK (by rw [q]; simp)] at e; cases e
      · rw [nT p hp] at e; cases e
  have gl := ns_hid dict_off hns
  obtain ⟨mc, l1, l2⟩ := hlim
  have hM : Mod K mg (hidT s₁.heap H) := ⟨kb, gl, ⟨mb, ns_hid dict_off hb, hbb⟩, ⟨mc, ns_hid dict_off l1, l2⟩⟩
  have e0 : Env0 P w K mg (hidT s₁.heap H) callerA [] s₁ H := {
    frames := rfl, mod := hM, bs := fun b o e => of_hidT e, bsz := Nat.le_of_eq (hidT_size _ _), funs := trivial, frf := fun b hb => (List.not_mem_nil hb).elim, hok := ok, bare := .of_eq hg }
  have tb : ∀ p ∈ cs, TabB (hidT s₁.heap H) mg p.1 p.2 := by
    intro p hp
    have at_ := hT p hp
    refine ⟨?_, ?_, fun z => ?_⟩
    · obtain ⟨o, us, x1, x2, x3, x4, x5, x6, x7, e1, e2, e3, e4, r⟩ := C p hp
      refine ⟨o, us, x1, x2, x3, x4, x5, x6, x7, hidT_get e1 (off e1 (fun xs n z => by rw [e3] at z; cases z) fun z => ?_), e2, e3, e4, r⟩
      rw [e3] at z
      cases z
      cases e4
    · obtain ⟨bm, ob, b1, b2,
          b3, b4, b5, b6⟩ := hbm
      refine ⟨bm, ob, b1, b2, fun q => ?_, fun q => ?_, hidT_get b3 (off b3 (fun xs n z => by rw [b6] at z; cases z) fun z => by rw [b6] at z; cases z), b4, b5, b6⟩
      · obtain ⟨o, es, ep, e, d, _⟩ := hns
        rw [q, e] at b3
        cases b3
        rw [d] at b6; cases b6
      · rw [q, at_] at b3
        cases b3; cases b6
    · obtain ⟨o, es, ep, e, d, _⟩ := hns
      rw [z, at_] at e
      cases e; cases d
  refine codeAny_mono (F _ H kb gl tb hH hS e0) ?_
  intro r s' h
  cases r with
  | error e =>
    exfalso
    obtain ⟨_, _, _, _, _, _, _, _, _, _, _, _, z⟩ := h; exact z.elim
  | ok fl =>
    cases fl with
    | next => exact h.elim
    | brk => exact h.elim
    | cont => exact h.elim
    | ret u =>
      obtain ⟨v, H', os, bare, un, hok', r', q⟩ := h; rw [show v = .bl true from q] at r'
      cases r'
      have grown : ∀ p ∈ cs, ∃ more, s'.heap.get? p.2 = some (PySem.W.tabObj more) := fun p hp => by
        obtain ⟨more, z⟩ := un.tbls p.2 #[] (hH p hp); exact ⟨_, hok' p.2 _ z⟩
      have same : ∀ b o, (∀ p ∈ cs, b ≠ p.2) → s₁.heap.get? b = some o → s'.heap.get? b = some o := by
        intro b o nb e
        cases hq : H b with
        | none => exact un.keep b o e hq (by intro z; cases z) (by intro z; cases z)
        | some x =>
          rcases hO b x hq with ⟨_, ob, xs, rfl⟩ | ⟨p, hp, z⟩
          · have g1 := (ok b _ hq).1
            have g2 := (hok' b _ (un.frzs b ob _ hq)).1
            rw [e] at g1
            cases g1
            exact g2
          · exact (nb p hp z).elim
      refine ⟨rfl, ⟨fun b o e => ?_,
            fun b o e => ?_⟩, os, bare⟩
      · by_cases hb : ∃ p ∈ cs, b = p.2
        · obtain ⟨p, hp, rfl⟩ := hb
          obtain ⟨more, hm⟩ := grown p hp; rw [hT p hp] at e
          cases e; exact .inr (.inl ⟨((C p hp).tab (hT p hp)).isCodeTable, rfl, #[], more, rfl, by rw [Array.empty_append]; exact hm⟩)
        · exact .inl (same b o (fun p hp z => hb ⟨p, hp, z⟩) e)
      · by_cases hb : ∃ p ∈ cs, b = p.2
        · obtain ⟨p, hp, rfl⟩ := hb
          obtain ⟨more, hm⟩ := grown p hp; exact ⟨_, hm⟩
        · exact ⟨o, same b o (fun p hp z => hb ⟨p, hp, z⟩) e⟩
theorem law_topT (KX : K.In s₁.heap) (hns : s₁.heap.Ns mainGlobals mg) (hb : s₁.heap.Ns builtinsNs mb) (hbb : ∀ x : Str, x ≠ "__name__" → mb x = bootBuiltins x) (hlim : s₁.heap.NoLimit) (hg : s₁.gens = #[])
    (hbm : ∃ (bm : Addr) (ob : Obj), mg "__builtins__" = some (.ref bm) ∧ bm ≠ builtinsNs ∧
          s₁.heap.get? bm = some ob ∧ ob.cls = .type "module" ∧ ob.dict = some builtinsNs ∧ ob.data = .plain)
    (ha : s₁.heap.get? a = some { cls := .type "list", data := .seq vs.toArray }) (hi : IntsAre vs ns) (hl : ns.length ≤ sizeLine) (hT : ∀ p ∈ cs, s₁.heap.get? p.2 = some (PySem.W.tabObj #[])) (nT : ∀ p ∈ cs, K.lookup p.2 = none) (C : ∀ p ∈ cs, PySem.W.CodeHd s₁.heap p.1 p.2) (F : LawOkT P w K mg fa a ns s₁ cs) :
    codeAny (model P w) callerA (.call (.ref fa) ⟨[.ref a], []⟩) (fun r s' => r = .ok
      (.ret (.bool true)) ∧ OldK s₁.heap s'.heap ∧ s'.os = s₁.os ∧ AllBare s'.gens) s₁ := by
  have rv := vals_ints hi
  have nat : ∀ p ∈ cs, p.2 ≠ a := fun p hp z => by
    have e := hT p hp
    rw [z, ha] at e; cases e
  open Classical in
  let Tb : Addr → Option HO := fun b => if ∃ p ∈ cs, b = p.2 then some (.tbl #[]) else none
  have tb1 : ∀ p ∈ cs, Tb p.2 = some (.tbl #[]) := fun p hp => if_pos ⟨p, hp, rfl⟩
  have tb2 : ∀ b o, Tb b = some o → (∃ p ∈ cs, b = p.2) ∧ o = .tbl #[] := fun b o e => by
    by_cases h : ∃ p ∈ cs, b = p.2
    · rw [show Tb b = some (.tbl #[]) from if_pos h] at e
      exact ⟨h, (Option.some.inj e).symm⟩
    · rw [show Tb b = none from if_neg h] at e; cases e
  have okT : ∀ {H : Hp} b o, Tb b = some o → ObjOk P w H s₁.heap b o := fun {H} b o e => by
    obtain ⟨⟨p, hp, rfl⟩, rfl⟩ := tb2 b o e
    exact hT p hp
  cases hk : K.lookup a with
  | some o =>
    have e := KX a o hk
    rw [ha] at e
    cases e
    refine law_coreT KX hns hb hbb hlim hg hbm ha hT nT C F Tb tb1 (fun b u z => .inr (tb2 b u z).1) (.inr ⟨_, vs.toArray, _, hk, rfl, rfl, rfl, by rw [List.size_toArray, hi.length]; exact hl, by simpa using rv⟩) (fun b u z => okT b u z) (fun z => ?_)
    cases q : Tb a with
    | none => exact (z q).elim
    | some u =>
      obtain ⟨⟨p, hp, e⟩, _⟩ := tb2 a u q
      exact (nat p hp e.symm).elim
  | none =>
    let H : Hp := fun b => if b = a then some (.frz { cls := .type "list", data := .seq vs.toArray } (.lst (ns.map V.int))) else Tb b
    have Ha : H a = some (.frz { cls := .type "list", data := .seq vs.toArray } (.lst (ns.map V.int))) := if_pos rfl
    have Hn : ∀ {b}, b ≠ a → H b = Tb b := fun {b} hb => if_neg hb
    refine law_coreT KX hns hb hbb hlim hg hbm ha hT nT C F H (fun p hp => by rw [Hn (nat p hp)]; exact tb1 p hp) (fun b u z => ?_) (.inl (.inr ⟨_, Ha⟩)) (fun b u z => ?_) (fun _ => hk)
    · by_cases h : b = a
      · rw [h, Ha] at z
        cases z
        exact .inl ⟨h, _, _, rfl⟩
      · rw [Hn h] at z
        exact .inr (tb2 b u z).1
    · by_cases h : b = a
      · rw [h, Ha] at z
        cases z
        rw [h]; exact ⟨ha, by rw [List.length_map]; exact hl, vs, _, rv, ha⟩
      · rw [Hn h] at z
        exact okT b u z
end
end Kn
set_option Elab.async false
set_option linter.all false
set_option maxRecDepth 100000
set_option maxHeartbeats 4100000
namespace Kn
open PySem L2 RZ
open PyProof.Rows (envOfC)
/-- the law's pen: a new list of the cells and two numbers -/
def spPen (K : PySem.W.Frag) : Sp := fun vs H Q _ => ∃ (a : Addr) (ns : List Int), vs = [.ref a] ∧ SqL K H a (ns.map V.int) ∧ ns.length ≤ 63 ∧
  ∀ (H' : Hp) (p b : Addr) (cells : List Int), Ext none H H' → H p = none → H b = none → p ≠ b → cells.length ≤ 63 → H' p = some (.lst [.ref b, .int 0, .int 0]) → H' b = some (.lst (cells.map V.int)) → Q (.ref p) H'
theorem Ext.sl {H H' : Hp} {a : Addr} {xs : List V} (e : Ext none H H') (h : SqL K H a xs) : SqL K H' a xs := Kn.Ext.sqL e NU.none h
theorem cut_ints (ns : List Int) : cutV (ns.map V.int) none (some 60) = (ns.take 60).map V.int := by
  unfold cutV
  rw [HT.sIx_none, List.drop_zero, Nat.sub_zero, show HT.sIx (ns.map V.int).length (ns.map V.int).length (some 60) = min 60 (ns.map V.int).length from HT.sIx_nat _ _ 60, List.length_map, ← List.map_take]
  congr 1
  by_cases h : 60 ≤ ns.length
  · rw [Nat.min_eq_left h]
  · rw [Nat.min_eq_right (by omega), List.take_length, List.take_of_length_le (by omega)]
section
variable {P : Program} {w : World} {G : Gd} {mg : Str → Option Value} {fa a : Addr} {fd : FuncData} {s₁ : Shared} {ns : List Int} {k : Nat}
theorem line_4000 : ((2 ^ 4000 : Nat) : Int) ≤ atLine := by
  unfold atLine
  rw [show (4096 : Nat) = 96 + 4000 from rfl, Int.pow_add]
  have h : (0 : Int) < 2 ^ 4000 := by first | exact Int.pow_pos (by decide) | exact Int.pos_pow_of_pos 4000 (by decide)
  push_cast
  generalize (2 : Int) ^ 4000 = T at *
  omega
/-- nothing wanted of errors -/
abbrev EF : XK := fun _ _ _ => False
/-- the state behind the making of the urn at p, with its cells at b -/
theorem wd_urn {N : List Str} {x : V} {p b : Addr} {H' : Hp} {cells : List Int} {T : List (Addr × Str)} (hN : 2 ≤ N.length) (hpb : p ≠ b) (hcl : cells.length ≤ 63) (hp : H' p = some (.lst [.ref b, .int 0, .int 0])) (hb : H' b = some (.lst (cells.map V.int))) (h2 : (L2.start N [x]).length = N.length) (hT : LamX.Tabs T H') :
    ∃ W : Wd { G with u := some ((p, b), T) } EF ((L2.start N [x]).set 1 (some (.ref p))) H', W.n = 2 ^ 4000 ∧ W.m = 0 ∧ W.env = .emp :: .val .urn :: List.replicate (N.length - 2) .emp ∧ W.ex = noX := by
  have he : ∀ {i : Nat} {s : Sl}, (Sl.emp :: Sl.val .urn :: List.replicate (N.length - 2) Sl.emp)[i]? = some s → s = .emp ∨ (i = 1 ∧ s = .val .urn) := fun {i s} e => by
    match i with
    | 0 => exact .inl (Option.some.inj e).symm
    | 1 => exact .inr ⟨rfl, (Option.some.inj e).symm⟩
    | i + 2 =>
      have e' : (List.replicate (N.length - 2) Sl.emp)[i]? = some s := e
      rw [List.getElem?_replicate] at e'
      split at e'
      · exact .inl (Option.some.inj e').symm
      · cases e'
  have hno : ∀ {i : Nat} {s : Sl}, (Sl.emp :: Sl.val .urn :: List.replicate (N.length - 2) Sl.emp)[i]? = some s → s.mine = true → False := fun {i s} e hm => by
    rcases he e with z | ⟨_, z⟩
    · subst z; cases hm
    · subst z; cases hm
  refine ⟨{ u := some ((p, b), T), n := 2 ^ 4000, m := 0, B := fun c => c = p ∨ c = b ∨ ∃ t ∈ T, c = t.1, H0 := H', env := .emp :: .val .urn :: List.replicate (N.length - 2) .emp, ex := noX, ug := rfl, hu := fun q e => ?_, hB := fun c hc z => ?_, fr := Ext.refl _ _, good := ?_, len := ?_, sl := fun i s e => ?_, nd := fun i j c s t e1 e2 m1 => (hno e1 m1).elim, exc := fun _ _ _ _ _ _ _ z => z.elim }, rfl, rfl, rfl, rfl⟩
  · obtain ⟨r, er, q⟩ := e
    cases er
    rcases q with rfl | ⟨t, ht, rfl⟩
    · exact ⟨.inl rfl, .inr (.inl rfl)⟩
    · exact ⟨.inr (.inr ⟨t, ht, rfl⟩), .inr (.inr ⟨t, ht, rfl⟩)⟩
  · rcases hc with rfl | rfl | ⟨t, ht, rfl⟩
    · rw [hp] at z; cases z
    · rw [hb] at z; cases z
    · obtain ⟨ps, e, _⟩ := hT t ht
      rw [e] at z; cases z
  · refine ⟨⟨cells, 0, 0, hp, hb, hcl, hpb, by decide, by decide, ?_⟩, hT⟩
    rw [Int.zero_add]
    exact line_4000
  · rw [List.length_set, h2]
    simp only [List.length_cons, List.length_replicate]
    omega
  · rcases he e with z | ⟨rfl, z⟩
    · subst z; trivial
    · subst z
      refine ⟨.ref p, ?_, ((p, b), T), rfl, rfl⟩
      rw [List.getElem?_set_self (by omega)]
      rfl
/-- THE RULE for the law: its first statement makes the urn, the rest is read over it -/
theorem law_of {cs : List (Addr × Addr)} {T : List (Addr × Str)} {cd : Addr} (hcs : ∀ t ∈ T, ∃ p ∈ cs, p.2 = t.1) {st s0 : Stmt} {rest : List Stmt} {N : List Str} {c : Nat} {ts : DS} (hGu : G.u = none) (F : FunC G.K "law" "law" st fa fd cd) (Sc : FnScope N ["script"] (defScope st)) (hb : ∀ (s : Shared) (v : Value), BindsTo s fd ⟨[v], []⟩ [("script", v)])
    (hr : Room (k + 1) callerA) (hN : 2 ≤ N.length) (hbody : defBody st = s0 :: rest) (hc : c ≤ 2 ^ 4000) (hlen : ns.length ≤ 63)
    (h0 : ∀ (base : Heap) (H : Hp), Room k (callerA.deeper (envOfC "law" (defScope st) s₁.heap.objs.size fa (.ref cd))) → PS (cxOf (L2.CX P w) P w G.K mg base N "law" (defScope st) fa (.ref cd) callerA [] s₁ H EF) s0 (tAsg (tCall (spPen G.K) [] EF (tCons (tVar 0) tNil)) (gName 1)))
    (hder : ∀ (p b : Addr) (base : Heap) (H : Hp), (∀ p ∈ cs, LamX.TabB base mg p.1 p.2) → Room k (callerA.deeper (envOfC "law" (defScope st) s₁.heap.objs.size fa (.ref cd))) → DSs { G with u := some ((p, b), T) } EF (cxOf (L2.CX P w) P w G.K mg base N "law" (defScope st) fa (.ref cd) callerA [] s₁ H EF) c rest ts)
    (hS : ts noX { nx := fun _ => False, rt := fun d _ => d = .bl true } (.emp :: .val .urn :: List.replicate (N.length - 2) .emp)) : LawOkT P w G.K mg fa a ns s₁ cs := by
  intro base H KXb hmg hTB hTH hSq e0
  have hTabs : LamX.Tabs T H := fun t ht => by
    obtain ⟨p, hp, e⟩ := hcs t ht
    rw [← e]
    exact LamX.TabS.nil (hTH p hp)
  obtain ⟨oc, od, kV, doc, pm, an, ct, osl, rfl, lk, hcd⟩ := F.ex; have KX : G.K.In s₁.heap := PySem.W.Frag.In.keeps e0.mod.kin (fun b o e => (e0.bs b o e).1)
  have nolim : s₁.heap.NoLimit := Heap.NoLimit.keeps e0.mod.nolimit (fun b o e => (e0.bs b o e).1)
  have kinds : ∀ y ∈ (["script"] : List Str).zip [Value.ref a], (defScope st).names.lookup y.1 = some .local ∨
      ((defScope st).names.lookup y.1 = some .cell ∧ ((cellsFrom (s₁.heap.objs.size + 1) (defScope st).names []).lookup y.1).isSome = true) := by
    intro y hy
    obtain ⟨n1, v1⟩ := y
    rcases Sc.par n1 (List.of_mem_zip hy).1 with z | z
    · exact .inl z
    · exact .inr ⟨z, PySem.W.cellsFrom_some _ _ _ (.inl z)⟩
  refine codeAny_call_function hr.depth (KX _ _ lk) rfl Sc.co Sc.gen rfl (PySem.W.codeRec_of KX hcd) ?_
  refine hb _ _ _ _ _ _ (wpAny_newFunctionEnv_cells Sc.kind kinds ?_)
  intro env he s1 ic
  subst he
  refine ⟨nolim.keeps ic.toInCall.keep, codeAny_func ?_⟩
  have I : Inv (cxOf (L2.CX P w) P w G.K mg base N "law" (defScope st) fa (.ref cd) callerA [] s₁ H EF) [] (L2.start N [.ref a]) H s1 := inv_start Sc hr.hd e0 rfl (.cons rfl .nil) ic
  have rm := hr.deeper (envOfC "law" (defScope st) s₁.heap.objs.size fa (.ref cd))
  have hl2 : (L2.start N [V.ref a]).length = N.length := by
    unfold L2.start
    simp only [List.length_append, List.length_map, List.length_replicate, List.length_cons, List.length_nil]
    omega
  have body : PSs (cxOf (L2.CX P w) P w G.K mg base N "law" (defScope st) fa (.ref cd) callerA [] s₁ H EF) (defBody st) (tSeq (tAsg (tCall (spPen G.K) [] EF (tCons (tVar 0) tNil)) (gName 1)) fun Dn σ H' => ∃ p b, liftS { G with u := some ((p, b), T) } EF c ts Dn σ H') := by
    rw [hbody]
    exact pss_cons (h0 base H rm) ⟨fun pins s σ H' D I q => by
      obtain ⟨p, b, q⟩ := q
      exact (hder p b base H hTB rm).run pins s σ H' D I q⟩
  have run := body.run [] s1 (L2.start N [.ref a]) H { nx := fun _ _ => False, rt := fun v _ => v = .bl true } I (by
    refine ⟨.ref a, rfl, a, ns, rfl, hSq, hlen, fun H' p b cells hext hp0 hb0 hpb hcl hp hb' => ?_⟩
    obtain ⟨W, w1, w2, w3, w4⟩ := wd_urn (G := G) hN hpb hcl hp hb' hl2 (hTabs.ext fun b o e => hext b o e NU.none)
    refine ⟨p, b, W, by rw [w1, w2, Nat.zero_add]; exact hc, ({ nx := fun _ => False, rt := fun d _ => d = .bl true } : DEnds), by rw [w3, w4]; exact hS, fun _ _ _ _ z => z.elim, fun v σ' H' W' d lt hd hr' => ?_, fun _ _ _ _ z => z.elim, fun _ _ _ _ z => z.elim⟩
    subst hr'
    exact hd)
  refine wpAny_mono run ?_ (fun e s' hs => hs)
  intro fl s' hfl
  cases fl with
  | next => obtain ⟨σ', H', J, q⟩ := hfl; exact q.elim
  | ret v' => obtain ⟨v, σ', H', J, r1, q⟩ := hfl; exact ⟨v, H', J.os, J.bare, J.base, J.hok, r1, q⟩
  | brk => obtain ⟨σ', H', J, q⟩ := hfl; exact q.elim
  | cont => obtain ⟨σ', H', J, q⟩ := hfl; exact q.elim
end
end Kn
set_option Elab.async false
set_option linter.all false
set_option maxRecDepth 100000
set_option maxHeartbeats 2100000
namespace Kn
open PySem PySem.Spec L2 RZ
section
variable {G : Gd} {E : XK} {X : Cx} {σ : List (Option V)} {H H' : Hp} {k : Nat}
/-- {} -/
theorem de_dic0 {pos : Pos} : DE G E X 0 (.Dict [] [] pos) (dC (.dic [] [])) := imp pe_dnewK fun σ H Q' hh => by
  obtain ⟨W, hn, Q, hq, kk⟩ := hh
  intro p hp
  exact kk (.ref p) _ (.dic [] []) ((Step.refl W).new hp) ⟨p, [], rfl, W.fresh hp, upd_same, rfl, rfl⟩ hq
end
end Kn
set_option Elab.async false
set_option linter.all false
set_option maxRecDepth 100000
set_option maxHeartbeats 2100000
namespace Kn
open PySem L2 RZ
section
variable {α : Type} {tg : DG} {tt : DB} {te : DT} {Q : List D → Prop} {env : List Sl}
/-- [e for x in xs]: g says how an item lies, r what comes of it -/
theorem compL_of (g r : α → D) : ∀ {xs : List α} {acc : List D}, (∀ x ∈ xs, ∀ K : D → Prop, K (r x) → tg (g x) env fun env2 => te noX env2 K) → Q (acc ++ xs.map r) → compL tg bYes te Q env (xs.map g) acc
  | [], acc, _, hq => by
    unfold compL
    simpa using hq
  | x :: xs, acc, h, hq => by
    show compL tg bYes te Q env (g x :: xs.map g) acc
    unfold compL
    refine h x List.mem_cons_self _ ?_
    exact compL_of g r (fun y hy => h y (List.mem_cons_of_mem _ hy)) (by rw [List.append_assoc]; exact hq)
/-- .. with an if -/
theorem compL_ofF (g r : α → D) (p : α → Bool) : ∀ {xs : List α} {acc : List D}, (∀ x ∈ xs, ∀ (K : D → Prop) (K' : Prop), (p x = true → K (r x)) → (p x = false → K') → tg (g x) env fun env2 => tt noX env2 fun b => if b = true then te noX env2 K else K') → Q (acc ++ (xs.filter p).map r) → compL tg tt te Q env (xs.map g) acc
  | [], acc, _, hq => by
    unfold compL
    simpa using hq
  | x :: xs, acc, h, hq => by
    show compL tg tt te Q env (g x :: xs.map g) acc
    unfold compL
    refine h x List.mem_cons_self _ _ (fun hp => ?_) (fun hp => ?_)
    · refine compL_ofF g r p (fun y hy => h y (List.mem_cons_of_mem _ hy)) ?_
      rw [List.filter_cons, if_pos hp] at hq
      rw [List.append_assoc]; exact hq
    · refine compL_ofF g r p (fun y hy => h y (List.mem_cons_of_mem _ hy)) ?_
      rw [List.filter_cons, if_neg (by rw [hp]; decide)] at hq
      exact hq
/-- for x in xs -/
theorem sForL_of {ex : Exc → Prop} {tb : DS} {de : DEnds} (g : α → D) {xs : List α} (I : Nat → List Sl → Prop) (h0 : I 0 env)
    (hs : ∀ (i : Nat) (x : α) (env : List Sl), xs[i]? = some x → I i env → ∀ nx : List Sl → Prop, (∀ env', I (i + 1) env' → nx env') → tg (g x) env fun env2 => tb ex { de with nx := nx, ct := nx, bk := de.nx } env2)
    (hd : ∀ env, I xs.length env → de.nx env) : sForL ex tg tb de (xs.map g) env := by
  refine sForL_inv I 0 h0 (fun i x env hi hI nx hn => ?_) (fun env hI => hd env (by rw [Nat.zero_add, List.length_map] at hI; exact hI))
  rw [List.getElem?_map] at hi
  obtain ⟨y, hy, rfl⟩ := Option.map_eq_some_iff.mp hi
  rw [Nat.zero_add] at hI hn
  exact hs i y env hy hI nx hn
/-- for i in range(n) -/
theorem sForL_rng {ex : Exc → Prop} {tb : DS} {de : DEnds} {n : Nat} (I : Nat → List Sl → Prop) (h0 : I 0 env)
    (hs : ∀ (i : Nat) (env : List Sl), i < n → I i env → ∀ nx : List Sl → Prop, (∀ env', I (i + 1) env' → nx env') → tg (.int i) env fun env2 => tb ex { de with nx := nx, ct := nx, bk := de.nx } env2)
    (hd : ∀ env, I n env → de.nx env) : sForL ex tg tb de (rangeD 0 n) env := by
  have e : rangeD 0 n = (List.range n).map fun (i : Nat) => D.int i := by
    unfold rangeD
    refine List.map_congr_left fun i _ => ?_; rw [Int.zero_add]
  rw [e]
  refine sForL_of (fun (i : Nat) => D.int i) I h0 (fun i x env hi hI nx hn => ?_) (fun env hI => hd env (by rw [List.length_range] at hI; exact hI))
  obtain ⟨hlt, hx⟩ := List.getElem?_eq_some_iff.mp hi
  rw [List.getElem_range] at hx
  rw [← hx]
  exact hs i env (by rw [List.length_range] at hlt; exact hlt) hI nx hn
theorem rangeD_eq (n : Nat) : rangeD 0 n = (List.range n).map fun (i : Nat) => D.int i := by
  unfold rangeD
  exact List.map_congr_left fun i _ => by rw [Int.zero_add]
end
/-- a statement in a row: what stands behind it -/
theorem seq_to {t u : DS} {ex : Exc → Prop} {de : DEnds} {env : List Sl} (I : List Sl → Prop) (h1 : ∀ de' : DEnds, (∀ env', I env' → de'.nx env') → de'.rt = de.rt → t ex de' env) (h2 : ∀ env', I env' → u ex de env') : sSeq t u ex de env :=
  h1 { de with nx := fun env' => u ex de env' } (fun env' h => h2 env' h) rfl
theorem ite_of {b : Bool} {X Y : Prop} (h1 : b = true → X) (h2 : b = false → Y) : if b = true then X else Y := by
  cases b with
  | true => exact h1 rfl
  | false => exact h2 rfl
theorem small {n : Nat} (h : n ≤ 100000) : n ≤ sizeLine := by rw [sizeLine_eq]; omega
end Kn
set_option Elab.async false
set_option linter.all false
set_option maxRecDepth 100000
set_option maxHeartbeats 2100000
namespace Kn
open PySem L2 RZ
open PyProof.Rows (envOfC)
section
variable {G : Gd} {E : XK} {X : Cx} {σ : List (Option V)} {H H' : Hp} {k : Nat} {tg : Expr}
def fListRg (te : DT) : DA := fun ex env Q => te ex env fun d => ∃ n : Nat, d = .int n ∧ n ≤ 100000 ∧ Q (rangeD 0 n)
theorem df_listRange {a : Expr} {c : Nat} {te : DT} {p p2 pos pos2 : Pos} (hc : X.calm = true) (hm : X.mg "list" = none) (hm2 : X.mg "range" = none) (ha : DE G E X c a te) (hg : Gl X "list" := by rfl) (hg2 : Gl X "range" := by rfl)
    (na : starEach [a] X.env = (false, eval a X.env) :: starEach [] X.env := by rfl) (nb : starEach [.Call (.Name "range" p2) [a] [] pos2] X.env = (false, eval (.Call (.Name "range" p2) [a] [] pos2) X.env) :: starEach [] X.env := by rfl) :
    DF G E X c (.Call (.Name "list" p) [.Call (.Name "range" p2) [a] [] pos2] [] pos) (fListRg te) :=
  imp (pe_listRg hc hg hm (prg_1 hg2 hm2 ha na) nb) fun σ H Q' h => by
    obtain ⟨W, hn, Q, ht, kk⟩ := h
    refine ⟨W, hn, _, ht, fun v H1 d st hd ⟨n, e, h1, hq⟩ => ?_⟩
    subst e
    cases hd
    refine ⟨(n : Int), rfl, ⟨by omega, by omega, by omega, by omega, by omega⟩, fun q hq0 => ?_⟩
    have e2 : rgV 0 (n : Int) = (List.range n).map fun i => V.int (0 + (i : Nat)) := by unfold rgV; rw [Int.sub_zero, Int.toNat_natCast]
    have hp0 : H q = none := by
      cases z : H q with
      | none => rfl
      | some o =>
        exfalso
        rw [st.ext q o z (W.nuX ((W.next st).fresh hq0))] at hq0; cases hq0
    refine kk q _ (rangeD 0 n) _ (st.new hq0) hp0 upd_same (by rw [rgV_length, sizeLine_eq]; omega) ?_ hq
    rw [e2]
    exact denL_rg 0 n
def enumD (ds : List D) : List D := ds.zipIdx.map fun p => .tup [.int (p.2 : Nat), p.1]
theorem enum_len (ds : List D) : (enumD ds).length = ds.length := by simp [enumD]
theorem enum_get {ds : List D} {i : Nat} {d : D} (h : ds[i]? = some d) : (enumD ds)[i]? = some (.tup [.int (i : Nat), d]) := by
  unfold enumD
  rw [List.getElem?_map, List.getElem?_zipIdx, h]
  simp
theorem enum_map {α : Type} (g : α → D) (xs : List α) : enumD (xs.map g) = xs.zipIdx.map fun p => .tup [.int (p.2 : Nat), g p.1] := by
  refine List.ext_getElem? fun i => ?_
  unfold enumD
  rw [List.getElem?_map, List.getElem?_zipIdx, List.getElem?_map, List.getElem?_map, List.getElem?_zipIdx]
  cases xs[i]? <;> rfl
theorem walks_enum {B : Addr → Prop} {H1 : Hp} {a : Addr} {xs : List V} {ds : List D} (na : ¬ B a) (ha : H1 a = some (.lst xs)) (hl : xs.length ≤ sizeLine) (da : DenL G B H1 ds xs) : Walks G B H1 (Ite G.K a) (enumD ds) := by
  have e1 := da.length
  have e3 := enum_len ds
  refine ⟨by omega, fun i H' B' k s hf hi => ?_, fun i H' k hi => ⟨xs, SqL.of (k _ _ na ha), by omega⟩⟩
  have ha' := k _ _ na ha
  refine ⟨⟨xs, xs[i], SqL.of ha', List.getElem?_eq_getElem (by omega)⟩, fun x H'' yl => ?_⟩
  obtain ⟨T, x1, rfl, hT, rfl, f1⟩ := yl
  obtain ⟨d, g1, g2⟩ := da.getV (f1 xs (SqL.of ha'))
  exact ⟨Ext.new hT, _, enum_get g1, den_pair hT (hf T hT) (den_int _) (Den.keep k s d x1 g2)⟩
def iEnumD (te : DT) : DA := fun ex env Q => te ex env fun d => ∃ ds, d = .lst ds ∧ Q (enumD ds)
theorem di_enum {e : Expr} {c : Nat} {te : DT} {p pos tpos : Pos} {elts : List Expr} {kk : Nat} (hK : X.K = G.K) (hm : X.mg "enumerate" = none) (he : DE G E X c e te) (hg : Gl X "enumerate" := by rfl) (hs : starEach [e] X.env = (false, eval e X.env) :: starEach [] X.env := by rfl) : DI G E X (.Tuple elts kk tpos) c (.Call (.Name "enumerate" p) [e] [] pos) (iEnumD te) :=
  impI (pi_enum hg hm (pa_cons he pa_nil hs) hs) fun σ H R h => by
    obtain ⟨W, hn, Q, ht, k⟩ := h
    refine ⟨W, hn, _, ht, fun v H1 d st hd ⟨ds, e, hq⟩ => ?_⟩
    subst e
    obtain ⟨a, xs, rfl, na, ha, la, da⟩ := hd
    exact ⟨a, xs, rfl, SqL.of ha, by rw [hK]; exact k _ H1 _ st (walks_enum na ha la da) hq⟩
end
end Kn
set_option Elab.async false
set_option linter.all false
set_option maxRecDepth 100000
set_option maxHeartbeats 2100000
namespace Kn
open PySem L2 RZ PyProof.Rows
section
theorem five {c z TI TO i1 i2 : Addr} (h : c ∈ [z, TI, TO, i1, i2]) : c = z ∨ c = TI ∨ c = TO ∨ c = i1 ∨ c = i2 := by simpa using h
end
end Kn
set_option Elab.async false
set_option linter.all false
set_option maxRecDepth 100000
set_option maxHeartbeats 2100000
namespace Kn
open PySem L2 RZ PyProof.Rows
end Kn
set_option Elab.async false
set_option linter.all false
set_option maxRecDepth 100000
set_option maxHeartbeats 2100000
namespace Kn
open PySem L2 RZ PyProof.Rows
/-- how far the zip has come -/
structure ZS (z TI TO i1 i2 a b : Addr) (k : Nat) (h : Heap) : Prop where
  z : (k = 0 ∧ IsZip h z TI TO .none) ∨ ∃ T fl oT, IsZipHeld h z TI TO T fl ∧ h.get? T = some oT ∧ T ≠ z ∧ T ≠ i1 ∧ T ≠ i2
  ti : IsPair h TI (.ref i1) (.ref i2)
  to : ∃ x y, IsPair h TO x y
  g1 : h.IsTupleIter i1 a k
  g2 : h.IsTupleIter i2 b k
end Kn
set_option Elab.async false
set_option linter.all false
set_option maxRecDepth 100000
set_option maxHeartbeats 2100000
namespace Kn
open PySem L2 RZ PyProof.Rows
theorem ZS.keep {z TI TO i1 i2 a b : Addr} {k : Nat} {h h' : Heap} (S : ZS z TI TO i1 i2 a b k h) (k1 : ∀ c ∈ [z, TI, TO, i1, i2], ∀ o, h.get? c = some o → h'.get? c = some o)
    (k2 : ∀ c o, h.get? c = some o → ∃ o', h'.get? c = some o') : ZS z TI TO i1 i2 a b k h' := by
  obtain ⟨x, y, hTO⟩ := S.to
  refine ⟨?_, k1 TI (by simp) _ S.ti, ⟨x, y, k1 TO (by simp) _ hTO⟩, S.g1.at fun o => k1 i1 (by simp) o, S.g2.at fun o => k1 i2 (by simp) o⟩
  rcases S.z with ⟨e, hz⟩ | ⟨T, fl, oT, hz, hT, t1, t2, t3⟩
  · exact .inl ⟨e, k1 z (by simp) _ hz⟩
  · obtain ⟨o', e'⟩ := k2 T oT hT
    exact .inr ⟨T, fl, o', k1 z (by simp) _ hz, e', t1, t2, t3⟩
theorem ZS.lt {z TI TO i1 i2 a b : Addr} {k : Nat} {h : Heap} (S : ZS z TI TO i1 i2 a b k h) {c : Addr} (hc : c ∈ [z, TI, TO, i1, i2]) : c < h.objs.size := by
  obtain ⟨x, y, hTO⟩ := S.to
  obtain ⟨o1, e1, _⟩ := S.g1
  obtain ⟨o2, e2, _⟩ := S.g2
  rcases five hc with rfl | rfl | rfl | rfl | rfl
  · rcases S.z with ⟨_, hz⟩ | ⟨T, fl, oT, hz, _⟩
    · exact Heap.lt_size hz
    · exact Heap.lt_size hz
  · exact Heap.lt_size S.ti
  · exact Heap.lt_size hTO
  · exact Heap.lt_size e1
  · exact Heap.lt_size e2
end Kn
set_option Elab.async false
set_option linter.all false
set_option maxRecDepth 100000
set_option maxHeartbeats 2100000
namespace Kn
open PySem L2 RZ PyProof.Rows
end Kn
set_option Elab.async false
set_option linter.all false
set_option maxRecDepth 100000
set_option maxHeartbeats 2100000
namespace Kn
open PySem L2 RZ PyProof.Rows
end Kn
set_option Elab.async false
set_option linter.all false
set_option maxRecDepth 100000
set_option maxHeartbeats 2100000
namespace Kn
open PySem L2 RZ PyProof.Rows
end Kn
set_option Elab.async false
set_option linter.all false
set_option maxRecDepth 100000
set_option maxHeartbeats 4100000
namespace Kn
open PySem L2 RZ
section
variable {G : Gd} {P : Program} {w : World} {mg : Str → Option Value} {base : Heap} {f : Addr} {fd : FuncData}
def rowD (r : List Int) : D := .tup (r.map D.int)
def atR (r : List Int) (i : Int) : Int := r.getD i.toNat 0
theorem atR_in {r : List Int} {i n : Int} (h0 : 0 ≤ i) (h1 : i < r.length) (hv : ∀ x ∈ r, 0 ≤ x ∧ x < n) : atI (r.map D.int) i = some (.int (atR r i)) ∧ 0 ≤ atR r i ∧ atR r i < n := by
  obtain ⟨k, rfl⟩ := Int.eq_ofNat_of_zero_le h0
  have hk : k < r.length := by omega
  have e : atR r (k : Int) = r[k] := by
    unfold atR
    rw [Int.toNat_natCast, List.getD_eq_getElem?_getD, List.getElem?_eq_getElem hk]; rfl
  rw [e]
  exact ⟨atI_nat (by rw [List.getElem?_map, List.getElem?_eq_getElem hk]; rfl), hv _ (List.getElem_mem hk)⟩
/-- a bound: None or an int -/
def bndD : Option Int → D
  | none => .non
  | some i => .int i
def inB (i : Int) (lo hi : Option Int) : Bool := (lo.all fun l => decide (l ≤ i)) && hi.all fun h => decide (i ≤ h)
def withinB (d : D) (lo hi : Option Int) : Bool := match d with
  | .int i => inB i lo hi
  | _ => false
theorem bnd_no (o : Option Int) : ∀ v, bndD o ≠ .opq v := by intro v h; cases o <;> cases h
theorem isI_of {d : D} (h : D.isI d = true) : ∃ i, d = .int i := by cases d <;> first | exact ⟨_, rfl⟩ | cases h
theorem kind_items {d : D} {xs : List D} (h : d.items? = some xs) : (kindS d).isSome = true := by cases d <;> first | rfl | cases h
theorem kinds_isI {xs : List D} (h : xs.all D.isI = true) : ∀ x ∈ xs, (kindS x).isSome = true := fun x hx => by
  obtain ⟨i, e⟩ := isI_of (List.all_eq_true.mp h x hx)
  rw [e]; rfl
theorem all_isI (is : List Int) : (is.map D.int).all D.isI = true := by simp [List.all_map, D.isI]
theorem pdL_none {is : List Int} : pd (.lst (is.map D.int)) = some (.list (is.map PyData.int)) := by simp [pd, pdL_int]
theorem shaped_lst (is : List Int) : SeqAt.shaped (.list (is.map PyData.int)) = true := shaped_row is
theorem ne_nil {is : List Int} {Q : D → Prop} (h : Q (.bl (!is.isEmpty))) : gNe (.lst (is.map D.int)) (.lst []) Q := by
  refine ⟨_, .list [], pdL_none, rfl, shaped_lst is, shaped_lst [], ?_⟩
  cases is with
  | nil => exact h
  | cons a l => exact h
theorem pow18 : PowOk 10 18 := powOk_of (a := 4) (by decide) (by decide) (by decide)
theorem abs_lt_pow {x : Int} {n : Nat} (h0 : 0 ≤ x) (h : x < 2 ^ n) : x.natAbs < 2 ^ n := by
  have h1 : ((x.natAbs : Nat) : Int) = x := Int.natAbs_of_nonneg h0
  have h2 : ((x.natAbs : Nat) : Int) < ((2 ^ n : Nat) : Int) := by rw [h1]; push_cast; exact h
  exact_mod_cast h2
theorem pos_of {j : Int} (h : decide (0 < j) = true) : 0 < j := of_decide_eq_true h
theorem line_pos : (1 : Int) ≤ atLine := by
  unfold atLine
  first | exact Int.pow_pos (by decide) | exact Int.pos_pow_of_pos 4096 (by decide) | exact pow_pos (by decide) 4096
theorem pow_split (n : Nat) : (2 : Int) ^ (n + 4096) = 2 ^ n * atLine := by unfold atLine; rw [Int.pow_add]
theorem draw_pow1 {m k k2 t : Int} (hm : 0 ≤ m) (hm2 : m < 2 ^ 62) (hk : 0 ≤ k) (hk2 : k < 2 ^ 62) (hj : 0 ≤ k2) (hj2 : k2 < 2 ^ 62) (h0 : 0 ≤ t) (h1 : t < atLine) : PowOk (m + k * t + k2) 5 := by
  have hT := line_pos
  have hkt : k * t ≤ 2 ^ 62 * atLine := Int.mul_le_mul (by omega) (by omega) h0 (by decide)
  have hkt0 : 0 ≤ k * t := Int.mul_nonneg hk h0
  refine powOk_of (a := 104 + 4096) (abs_lt_pow (by omega) ?_) (by decide) (by decide)
  rw [pow_split]
  generalize k * t = u at *
  generalize atLine = T at *
  omega
theorem draw_wide {k t : Int} (hk : 0 ≤ k) (hk2 : k < 2 ^ 62) (h0 : 0 ≤ t) (h1 : t < atLine) : CMulW (k * t) t := by
  have hT := line_pos
  have hkt : k * t ≤ 2 ^ 62 * atLine := Int.mul_le_mul (by omega) (by omega) h0 (by decide)
  have hkt0 : 0 ≤ k * t := Int.mul_nonneg hk h0
  refine wide_mul (a := 104 + 4096) (b := 4096) (abs_lt_pow hkt0 ?_) (abs_lt_pow h0 h1) (by decide) (by decide) (by decide)
  rw [pow_split]
  generalize k * t = u at *
  generalize atLine = T at *
  omega
theorem draw_pow2 {m c2 c1 k k2 t : Int} (hm : 0 ≤ m) (hm2 : m < 2 ^ 62) (a0 : 0 ≤ c2) (a1 : c2 < 2 ^ 62) (b0 : 0 ≤ c1) (b1 : c1 < 2 ^ 62) (hk : 0 ≤ k) (hk2 : k < 2 ^ 62) (hj : 0 ≤ k2) (hj2 : k2 < 2 ^ 62) (h0 : 0 ≤ t) (h1 : t < atLine) : PowOk (m * (c2 * t + c1) + k * t * t + k2) 3 := by
  have hT := line_pos
  have e1 : c2 * t ≤ 2 ^ 62 * atLine := Int.mul_le_mul (by omega) (by omega) h0 (by decide)
  have e1' : 0 ≤ c2 * t := Int.mul_nonneg a0 h0
  have e2 : m * (c2 * t + c1) ≤ 2 ^ 62 * (2 ^ 62 * atLine + 2 ^ 62) := Int.mul_le_mul (by omega) (by omega) (by omega) (by decide)
  have e2' : 0 ≤ m * (c2 * t + c1) := Int.mul_nonneg hm (by omega)
  have e3 : k * t ≤ 2 ^ 62 * atLine := Int.mul_le_mul (by omega) (by omega) h0 (by decide)
  have e3' : 0 ≤ k * t := Int.mul_nonneg hk h0
  have e4 : k * t * t ≤ 2 ^ 62 * atLine * atLine := Int.mul_le_mul e3 (by omega) h0 (by omega)
  have e4' : 0 ≤ k * t * t := Int.mul_nonneg e3' h0
  have e5 : atLine ≤ atLine * atLine := by
    have := Int.mul_le_mul_of_nonneg_left hT (show (0 : Int) ≤ atLine by omega)
    rw [Int.mul_one] at this
    exact this
  refine powOk_of (a := (200 + 4096) + 4096) (abs_lt_pow (by omega) ?_) (by decide) (by decide)
  rw [pow_split, pow_split]
  have e6 : (2 : Int) ^ 200 * atLine * atLine = 2 ^ 200 * (atLine * atLine) := Int.mul_assoc _ _ _
  have e7 : (2 : Int) ^ 62 * atLine * atLine = 2 ^ 62 * (atLine * atLine) := Int.mul_assoc _ _ _
  rw [e6]
  rw [e7] at e4
  generalize m * (c2 * t + c1) = u at *
  generalize k * t * t = v at *
  generalize atLine * atLine = S at *
  generalize atLine = T at *
  omega
theorem in_strs {m : Str} {ts : List Str} {Q : D → Prop} (hm : PyData.strOk m = true) (hts : SeqAt.shaped (.tuple (ts.map PyData.str)) = true) (h : Q (.bl (ts.any (· == m)))) : gInT (.str m) (.tup (strsD ts)) Q :=
  ⟨.str m, ts.map PyData.str, strsD ts, rfl, rfl, pdL_str ts, shaped_str hm, hts, by rw [List.any_map]; exact h⟩
theorem ne_lst {is js : List Int} {Q : D → Prop} (h : Q (.bl (!(is == js)))) : gNe (.lst (is.map D.int)) (.lst (js.map D.int)) Q :=
  ⟨_, _, pdL_none, pdL_none, shaped_lst is, shaped_lst js, by rw [show PyData.eqv (.list (is.map PyData.int)) (.list (js.map PyData.int)) = PyData.eqvAll (is.map PyData.int) (js.map PyData.int) from rfl, eqvAll_int]; exact h⟩
theorem eq_lst {is js : List Int} {Q : D → Prop} (h : Q (.bl (is == js))) : gEq (.lst (is.map D.int)) (.lst (js.map D.int)) Q :=
  ⟨_, _, pdL_none, pdL_none, shaped_lst is, shaped_lst js, by rw [show PyData.eqv (.list (is.map PyData.int)) (.list (js.map PyData.int)) = PyData.eqvAll (is.map PyData.int) (js.map PyData.int) from rfl, eqvAll_int]; exact h⟩
theorem neC {x c : D} {ex : Exc → Prop} {env : List Sl} {Q : D → Prop} (h : gNe x c Q) : dC c ex env fun y => gNe x y Q := h
/-- a test whose answer is known -/
def Tst (t : DB) (ex : Exc → Prop) (env : List Sl) (x : Bool) : Prop := ∀ K : Bool → Prop, K x → t ex env K
section
variable {t u : DB} {ex : Exc → Prop} {env : List Sl} {x y : Bool}
theorem tst_or (h1 : Tst t ex env x) (h2 : x = false → Tst u ex env y) : Tst (bOr t u) ex env (x || y) := fun K hK => h1 _ (by
  cases x with
  | true => exact hK
  | false => exact h2 rfl K hK)
theorem tst_and (h1 : Tst t ex env x) (h2 : x = true → Tst u ex env y) : Tst (bAnd t u) ex env (x && y) := fun K hK => h1 _ (by
  cases x with
  | true => exact h2 rfl K hK
  | false => exact hK)
theorem sif_of {a b : DS} {de : DEnds} (h : Tst t ex env x) (h1 : x = true → a ex de env) (h2 : x = false → b ex de env) : sIf t a b ex de env := h _ (by
  cases x with
  | true => exact h1 rfl
  | false => exact h2 rfl)
end
def rowP (r : List Int) : PyData := .tuple (r.map PyData.int)
def Small (r : List Int) : Prop := r.length ≤ 5 ∧ ∀ i ∈ r, 0 ≤ i ∧ i < 8
theorem pd_rows : ∀ rows : List (List Int), pdL (rows.map rowD) = some (rows.map rowP)
  | [] => rfl
  | r :: rows => by
    have h := pd_rows rows
    simp only [List.map_cons, pdL, h]
    rw [show pd (rowD r) = some (rowP r) by simp [rowD, rowP, pd, pdL_int]]
theorem small_cases {i : Int} (h : 0 ≤ i ∧ i < 8) : i = 0 ∨ i = 1 ∨ i = 2 ∨ i = 3 ∨ i = 4 ∨ i = 5 ∨ i = 6 ∨ i = 7 := by omega
theorem int_facts {i : Int} (h : 0 ≤ i ∧ i < 8) : PyData.weight (.int i) ≤ 3 ∧ PyData.showable (.int i) = true ∧ PyData.intsShort 13 (.int i) = true := by
  rcases small_cases h with rfl | rfl | rfl | rfl | rfl | rfl | rfl | rfl <;> decide +kernel
theorem ints_facts : ∀ {r : List Int}, (∀ i ∈ r, 0 ≤ i ∧ i < 8) → PyData.weightAll (r.map PyData.int) ≤ 4 * r.length ∧ PyData.showableAll (r.map PyData.int) = true ∧ PyData.intsShortAll 13 (r.map PyData.int) = true ∧ PyData.hasDictAll (r.map PyData.int) = false
  | [], _ => by decide
  | i :: r, h => by
    obtain ⟨h1, h2, h3⟩ := int_facts (h i List.mem_cons_self)
    obtain ⟨k1, k2, k3, k4⟩ := ints_facts (r := r) fun j hj => h j (List.mem_cons_of_mem _ hj)
    refine ⟨?_, ?_, ?_, ?_⟩
    · show PyData.weight (.int i) + 1 + PyData.weightAll (r.map PyData.int) ≤ _
      rw [List.length_cons]; omega
    · show (PyData.showable (.int i) && PyData.showableAll (r.map PyData.int)) = true
      rw [h2, k2]; rfl
    · show (PyData.intsShort 13 (.int i) && PyData.intsShortAll 13 (r.map PyData.int)) = true
      rw [h3, k3]; rfl
    · show (PyData.hasDict (.int i) || PyData.hasDictAll (r.map PyData.int)) = false
      rw [k4]; rfl
theorem rows_facts : ∀ {rows : List (List Int)}, (∀ r ∈ rows, Small r) → PyData.weightAll (rows.map rowP) ≤ 21 * rows.length ∧ PyData.showableAll (rows.map rowP) = true ∧ PyData.intsShortAll 13 (rows.map rowP) = true ∧ PyData.hasDictAll (rows.map rowP) = false ∧ PyData.canLayAll0 (rows.map rowP) = true ∧ PyData.depthAll (rows.map rowP) ≤ 2
  | [], _ => by decide
  | r :: rows, h => by
    obtain ⟨hl, hv⟩ := h r List.mem_cons_self
    obtain ⟨h1, h2, h3, h4⟩ := ints_facts hv
    obtain ⟨k1, k2, k3, k4, k5, k6⟩ := rows_facts (rows := rows) fun j hj => h j (List.mem_cons_of_mem _ hj)
    have hd := depth_int r
    refine ⟨?_, ?_, ?_, ?_, ?_, ?_⟩
    · show PyData.weightAll (r.map PyData.int) + 1 + PyData.weightAll (rows.map rowP) ≤ _
      rw [List.length_cons]; omega
    · show (PyData.showableAll (r.map PyData.int) && PyData.showableAll (rows.map rowP)) = true
      rw [h2, k2]; rfl
    · show (PyData.intsShortAll 13 (r.map PyData.int) && PyData.intsShortAll 13 (rows.map rowP)) = true
      rw [h3, k3]; rfl
    · show (PyData.hasDictAll (r.map PyData.int) || PyData.hasDictAll (rows.map rowP)) = false
      rw [h4, k4]; rfl
    · show (PyData.canLayAll0 (r.map PyData.int) && PyData.canLayAll0 (rows.map rowP)) = true
      rw [lay_int, k5]; rfl
    · show max (PyData.depthAll (r.map PyData.int) + 1) (PyData.depthAll (rows.map rowP)) ≤ 2
      omega
theorem nilLen {ex : Exc → Prop} {env : List Sl} {ds : List D} {Q : D → Prop} (h : Q (.int ds.length)) : aNil ex env fun xs => g1 gLen (.lst ds :: xs) Q := h
theorem nilR {ex : Exc → Prop} {env : List Sl} {d : D} {Q : D → Prop} (h : gRepr d Q) : aNil ex env fun xs => g1 gRepr (d :: xs) Q := h
/-- a row of b things below n -/
def RowIn (b n : Nat) (r : List Int) : Prop := r.length = b ∧ ∀ i ∈ r, 0 ≤ i ∧ i < (n : Int)
theorem atR_at {r : List Int} {i : Int} (h0 : 0 ≤ i) (h1 : i < r.length) : atI (r.map D.int) i = some (.int (atR r i)) := by
  obtain ⟨j, rfl⟩ := Int.eq_ofNat_of_zero_le h0; have hj : j < r.length := by omega
  refine atI_nat ?_
  rw [List.getElem?_map, List.getElem?_eq_getElem hj]
  simp [atR, List.getD_eq_getElem?_getD, List.getElem?_eq_getElem hj]
theorem ne_bl {a b : Bool} {Q : D → Prop} (h : Q (.bl (!(a == b)))) : gNe (.bl a) (.bl b) Q := ⟨_, _, rfl, rfl, by cases a <;> rfl, by cases b <;> rfl, by cases a <;> cases b <;> exact h⟩
theorem d_and {ta tb : DT} {ex : Exc → Prop} {env : List Sl} {Q : D → Prop} {x y : Bool} (h1 : ∀ K : D → Prop, K (.bl x) → ta ex env K) (h2 : x = true → ∀ K : D → Prop, K (.bl y) → tb ex env K) (hq : Q (.bl (x && y))) : dAnd ta tb ex env Q := h1 _ ⟨x, rfl, by
  cases x with
  | true => exact h2 rfl _ hq
  | false => exact hq⟩
theorem tg_two {i j : Nat} {a b : D} {env : List Sl} {Q : List Sl → Prop} (h : Q ((env.set i (.val a)).set j (.val b))) : tgTwo i j (.tup [a, b]) env Q := h
theorem nilT {ex : Exc → Prop} {env : List Sl} {ds : List D} {Q : D → Prop} (h : Q (.tup ds)) : aNil ex env fun xs => g1 gTuple (.lst ds :: xs) Q := h
def idx (n : Nat) : List Int := (List.range n).map fun (i : Nat) => (i : Int)
theorem idx_at (r : List Int) : (idx r.length).map (atR r) = r := by
  apply List.ext_getElem
  · simp [idx]
  · intro k h1 h2
    simp only [idx, List.getElem_map, List.getElem_range]
    unfold atR
    rw [Int.toNat_natCast, List.getD_eq_getElem?_getD, List.getElem?_eq_getElem h2]; rfl
theorem idx_len (n : Nat) : (idx n).length = n := by simp [idx]
theorem flat_len {α β : Type} {k : Nat} {g : α → List β} : ∀ {l : List α}, (∀ x ∈ l, (g x).length = k) → (l.flatMap g).length = l.length * k
  | [], _ => by simp
  | x :: l, h => by
    rw [List.flatMap_cons, List.length_append, h x List.mem_cons_self, flat_len (fun y hy => h y (List.mem_cons_of_mem _ hy)), List.length_cons, Nat.add_mul]
    omega
theorem atR_get {l : List Int} {j : Nat} {x : Int} (h : l[j]? = some x) : atR l (j : Int) = x := by
  unfold atR
  rw [Int.toNat_natCast, List.getD_eq_getElem?_getD, h]
  rfl
theorem flat_at {α β : Type} {k : Nat} {g : α → List β} : ∀ {l : List α}, (∀ x ∈ l, (g x).length = k) → ∀ {i t : Nat} {x : α}, l[i]? = some x → t < k → (l.flatMap g)[i * k + t]? = (g x)[t]?
  | [], _, _, _, _, e, _ => by simp at e
  | y :: l, h, 0, t, x, e, ht => by
    have e' : y = x := by simpa using e
    subst e'
    rw [List.flatMap_cons, Nat.zero_mul, Nat.zero_add, List.getElem?_append_left (by rw [h y List.mem_cons_self]; exact ht)]
  | y :: l, h, i + 1, t, x, e, ht => by
    have e' : l[i]? = some x := by simpa using e
    have hk := h y List.mem_cons_self
    have hm : (i + 1) * k = i * k + k := by rw [Nat.add_mul, Nat.one_mul]
    rw [List.flatMap_cons, List.getElem?_append_right (by rw [hk]; omega), hk, show (i + 1) * k + t - k = i * k + t by omega]
    exact flat_at (fun z hz => h z (List.mem_cons_of_mem _ hz)) e' ht
theorem eqv_row (a b : List Int) : PyData.eqv (rowP a) (rowP b) = (a == b) := eqvAll_int a b
theorem shaped_rows {rows : List (List Int)} (h : ∀ r ∈ rows, Small r) : SeqAt.shaped (.list (rows.map rowP)) = true := by
  obtain ⟨_, _, _, _, h5, h6⟩ := rows_facts h
  unfold SeqAt.shaped
  rw [show PyData.canLay0 (.list (rows.map rowP)) = PyData.canLayAll0 (rows.map rowP) from rfl, h5, Bool.true_and]
  exact decide_eq_true (by show PyData.depthAll (rows.map rowP) + 1 ≤ 64; omega)
theorem zip_map {α β : Type} (f : α → D) (g : β → D) : ∀ (as : List α) (bs : List β), zipD (as.map f) (bs.map g) = (as.zip bs).map fun p => .tup [f p.1, g p.2]
  | [], _ => by simp [zipD]
  | _ :: _, [] => by simp [zipD]
  | a :: as, b :: bs => by
    show D.tup [f a, g b] :: zipD (as.map f) (bs.map g) = _
    rw [zip_map f g as bs]; rfl
theorem eqC {x c : D} {ex : Exc → Prop} {env : List Sl} {Q : D → Prop} (h : gEq x c Q) : dC c ex env fun y => gEq x y Q := h
theorem nilLt {ex : Exc → Prop} {env : List Sl} {ds : List D} {Q : D → Prop} (h : Q (.lst ds)) : aNil ex env fun xs => g1 gList (.tup ds :: xs) Q := h
theorem ixN_nat {k n : Nat} (h : k < n) : ixN n (k : Int) = some k := by
  unfold ixN
  rw [if_pos (by omega), if_pos (by omega), Int.toNat_natCast]
end
end Kn
set_option Elab.async false
set_option linter.all false
set_option maxRecDepth 100000
set_option maxHeartbeats 2100000
namespace Kn
open PySem PySem.Spec PyProof.Rows L2 RZ
end Kn
set_option Elab.async false
set_option linter.all false
set_option maxRecDepth 100000
set_option maxHeartbeats 2100000
namespace Kn
open PySem L2 RZ PyProof.Rows
section
variable {G : Gd} {E : XK} {X : Cx} {σ : List (Option V)}
theorem DenL.asT {B : Addr → Prop} {H : Hp} : ∀ {ds : List D} {xs : List V}, DenL G B H ds xs → DenL G B H (ds.map D.asT) xs
  | [], _, h => h
  | d :: ds, xs, h => by
    obtain ⟨x, r, e, h1, h2⟩ := h
    exact ⟨x, r, e, h1.asT, DenL.asT h2⟩
end
end Kn
set_option Elab.async false
set_option linter.all false
set_option maxRecDepth 100000
set_option maxHeartbeats 2100000
namespace Kn
open PySem L2 RZ
section
variable {G : Gd} {E : XK} {X : Cx} {σ : List (Option V)} {H H' : Hp} {k : Nat}
def PrsD (p : D → D → Prop) (ds es : List D) : Prop := ds.length = es.length ∧ ∀ (i : Nat) (d e : D), ds[i]? = some d → es[i]? = some e → p d e
/-- the own == of these says True -/
structure EqF (G : Gd) (P : Program) (w : World) (mg : Str → Option Value) (base : Heap) (j : Nat) (ok : Nat → List D → List D → Prop) : Prop where
  own : ∀ c ds es, ok c ds es → ∃ S, Fqn G P w mg base j c 0 S ∧ ∀ R ex, R (.bl true) → S [.ins c ds, .ins c es] R ex
/-- where a builtin stands that calls back -/
structure Fr (G : Gd) (E : XK) (B : Addr → Prop) (n : Nat) (ex : Exc → Prop) (H : Hp) : Prop where
  hu : ∀ p, Pr G.u p → B p.1 ∧ B p.2
  hB : ∀ a, B a → H a ≠ none
  good : Good G.u H n
  exc : ∀ x C d H', Ext G.u H H' → Good G.u H' n → ExcIs G B H' x C d → ex x → E C d H'
theorem Fr.next {B : Addr → Prop} {n : Nat} {ex : Exc → Prop} (F : Fr G E B n ex H) (e : Ext G.u H H') (g : Good G.u H' n) : Fr G E B n ex H' := by
  refine ⟨F.hu, fun a ha z => ?_, g, fun x C d H2 e2 => F.exc x C d H2 (e.trans e2)⟩
  rcases NU.em (u := G.u) (b := a) with nu | ⟨r, hr, rfl⟩
  · cases q : H a with
    | none => exact F.hB a ha q
    | some o => rw [e a o q nu] at z; cases z
  · obtain ⟨⟨o, h1⟩, _⟩ := g.there hr
    rw [h1] at z; cases z
theorem Fr.den {B : Addr → Prop} {n : Nat} {ex : Exc → Prop} (F : Fr G E B n ex H) (e : Ext G.u H H') {d : D} {v : V} (h : Den G B H d v) : Den G B H' d v := h.ext e fun p hp => (F.hu p hp).1
theorem EqF.or {P : Program} {w : World} {mg : Str → Option Value} {base : Heap} {j : Nat} {ok ok' : Nat → List D → List D → Prop} (a : EqF G P w mg base j ok) (b : EqF G P w mg base j ok') : EqF G P w mg base j (fun c ds es => ok c ds es ∨ ok' c ds es) :=
  ⟨fun c ds es o => o.elim (a.own c ds es) (b.own c ds es)⟩
theorem PrsD.nil {p : D → D → Prop} : PrsD p [] [] := ⟨rfl, fun i d e h => by simp at h⟩
theorem PrsD.cons {p : D → D → Prop} {d e : D} {ds es : List D} (h : p d e) (t : PrsD p ds es) : PrsD p (d :: ds) (e :: es) := by
  refine ⟨by rw [List.length_cons, List.length_cons, t.1], fun i a b h1 h2 => ?_⟩
  cases i with
  | zero => simp at h1 h2; subst h1; subst h2; exact h
  | succ i => simp at h1 h2; exact t.2 i a b h1 h2
end
end Kn
set_option Elab.async false
set_option linter.all false
set_option maxRecDepth 100000
set_option maxHeartbeats 2100000
namespace Kn
open PySem L2 RZ
section
variable {G : Gd} {E : XK} {X : Cx} {σ : List (Option V)} {H H' : Hp} {k : Nat}
def gTypeK : D → (D → Prop) → Prop := fun d Q => (∃ c ds, d = .ins c ds ∧ Q (.opq (.ref (G.cl c)))) ∨ ∃ s, kindS d = some s ∧ Q (.opq (.ty s))
theorem den_typeIs {pins : List (Addr × Obj)} {s : Shared} {B : Addr → Prop} {d : D} {x : V} {u : Value} {t : String} (hK : X.K = G.K) (I : Inv X pins σ H s) (hd : Den G B H d x) (e : kindS d = some t) (r : RelV x u) : s.TypeIs u t ∧ (Value.type t == Value.type "builtin_function_or_method") = false := by
  cases d with
  | non => cases e; cases hd; cases r; exact ⟨rfl, by decide +kernel⟩
  | bl b => cases e; cases hd; cases r; exact ⟨rfl, by decide +kernel⟩
  | int i => cases e; cases hd; obtain ⟨t, rfl⟩ := r; exact ⟨rfl, by decide +kernel⟩
  | str z => cases e; cases hd; obtain ⟨t, rfl⟩ := r; exact ⟨rfl, by decide +kernel⟩
  | lst ds =>
    cases e
    obtain ⟨a, xs, rfl, _, ha, _⟩ := hd
    cases r
    obtain ⟨its, _, px, _⟩ := I.list (SqL.of ha)
    obtain ⟨o, ho, hc, _⟩ := px.isList
    exact ⟨⟨o, ho, hc⟩, by decide +kernel⟩
  | tup ds =>
    cases e
    obtain ⟨a, xs, rfl, _, ha, _⟩ := hd
    cases r
    obtain ⟨its, _, ⟨o, ho, hc, _⟩, _⟩ := I.tuple (by rw [hK]; exact ha)
    exact ⟨⟨o, ho, hc⟩, by decide +kernel⟩
  | dic ks ds =>
    cases e
    obtain ⟨a, kvs, rfl, _, ha, _⟩ := hd
    cases r
    obtain ⟨_, _, vs, _, o, es, ep, ho, hc, _⟩ := I.hok a _ ha
    exact ⟨⟨o, ho, hc.1⟩, by decide +kernel⟩
  | ins c ds => cases e
  | opq w => cases e
  | urn => cases e
  | at_ a ds => cases e
  | dct ks ds => cases e
  | tupn ds => cases e
  | exc c ds => cases e
  | dcT ks ds => cases e
  | dcf _ _ => cases e
theorem c_typeK (hK : X.K = G.K) : CallR X (.type "type") (rDL G (g1 (gTypeK (G := G)))) := by
  intro pins s σ H vs us Q' I r h
  obtain ⟨B, d, x, Q, rfl, hd, hf, hg, kk⟩ := rDL1 h
  rcases hg with ⟨c, ds, rfl, hq⟩ | ⟨t, e, hq⟩
  · obtain ⟨a, dx, ys, rfl, na, ha, la, da⟩ := hd
    exact cr_type pins s σ H _ us Q' I r ⟨a, _, dx, _, rfl, ha, kk _ H (.opq (.ref (G.cl c))) (Ext.refl _ _) (den_opq _) hq⟩
  · cases r with
    | cons r1 rs =>
      cases rs
      obtain ⟨h1, h2⟩ := den_typeIs hK I hd e r1
      exact call_type_of h1 h2 ⟨.ty t, H, I, rfl, kk _ H (.opq (.ty t)) (Ext.refl _ _) (den_opq _) hq⟩
def gIsK (G : Gd) (f : Bool → Bool) : G2 := fun d e Q => (∃ a b, d = .opq (.ref a) ∧ e = .opq (.ref b) ∧ (a = b ∨ (PySem.W.makesIn G.K a = true ∧ PySem.W.makesIn G.K b = true)) ∧ Q (.bl (f (decide (a = b))))) ∨ ∃ n a, d = .opq (.ty n) ∧ e = .opq (.ref a) ∧ Q (.bl (f false))
theorem o_isnK (hK : X.K = G.K) : OpR X (compareOp .IsNot) (rD G (gIsK G not)) := by
  intro pins s σ H x y v u Q' I rx ry h
  obtain ⟨B, d, e, Q, hd, he, _, hg, kk⟩ := h
  rcases hg with ⟨a, b, rfl, rfl, ok, hq⟩ | ⟨n, a, rfl, rfl, hq⟩
  · cases hd; cases he
    exact op_isnot_cls pins s σ H _ _ v u Q' I rx ry ⟨a, b, rfl, rfl, by rw [hK]; exact ok, kk _ H (.bl _) (Ext.refl _ _) (den_bl _) hq⟩
  · cases hd; cases he
    cases rx; cases ry
    exact wpAny_isNot_other rfl (fun z => by cases z) ⟨.bl true, H, I, rfl, kk _ H (.bl true) (Ext.refl _ _) (den_bl _) hq⟩
end
end Kn
set_option Elab.async false
set_option linter.all false
set_option maxRecDepth 100000
set_option maxHeartbeats 3200000
namespace Kn
open PySem PySem.Spec PyProof.Rows L2 RZ
end Kn
set_option Elab.async false
set_option linter.all false
set_option maxRecDepth 100000
set_option maxHeartbeats 2100000
namespace Kn
open PySem PySem.Spec PyProof.Rows L2 RZ
end Kn
set_option Elab.async false
set_option linter.all false
set_option maxRecDepth 100000
set_option maxHeartbeats 2100000
namespace Kn
open PySem L2 RZ
open PyProof.Rows (envOfC)
end Kn
set_option Elab.async false
set_option linter.all false
set_option maxRecDepth 100000
set_option maxHeartbeats 2100000
namespace Kn
open PySem PySem.Spec PyProof.Rows L2 RZ
/-- the order of tuples of ints -/
def lexL : List Int → List Int → Bool
  | [], [] => false
  | [], _ :: _ => true
  | _ :: _, [] => false
  | x :: xs, y :: ys => if x = y then lexL xs ys else decide (x < y)
theorem lexL_asym : ∀ x y : List Int, lexL x y = true → lexL y x = false
  | [], [], h => by cases h
  | [], _ :: _, _ => rfl
  | _ :: _, [], h => by cases h
  | x :: xs, y :: ys, h => by
    unfold lexL at h ⊢
    by_cases e : x = y
    · subst e
      rw [if_pos rfl] at h ⊢
      exact lexL_asym xs ys h
    · rw [if_neg e] at h
      rw [if_neg fun z => e z.symm]
      have := of_decide_eq_true h; exact decide_eq_false (by omega)
theorem lexL_tr : ∀ x y z : List Int, lexL y x = false → lexL z y = false → lexL z x = false
  | [], [], [], _, _ => rfl
  | [], [], _ :: _, _, _ => rfl
  | [], _ :: _, [], _, h => by cases h
  | [], _ :: _, _ :: _, _, _ =>
        rfl
  | _ :: _, [], _, h, _ =>
        by cases h
  | _ :: _, _ :: _, [], _, h => by cases h
  | x :: xs, y :: ys, z :: zs, h1, h2 =>
        by
    unfold lexL at h1 h2 ⊢
    by_cases a : y = x
    · subst a
      rw [if_pos rfl] at h1
      by_cases b : z = y
      · subst b
        rw [if_pos rfl] at h2 ⊢
        exact lexL_tr xs ys zs h1 h2
      · rw [if_neg b] at h2 ⊢
        exact h2
    · rw [if_neg a] at h1
      have a1 := of_decide_eq_false h1
      by_cases b : z = y
      · subst b
        rw [if_neg a]
        exact h1
      · rw [if_neg b] at h2
        have b1 := of_decide_eq_false h2
        rw [if_neg (show ¬ z = x by omega)]
        exact decide_eq_false
              (by omega)
theorem swo_lexL (k : Value → List Int) : SrtO.Swo fun v u => lexL (k v) (k u) := ⟨fun x y => lexL_asym _ _, fun x y z => lexL_tr _ _ _⟩
/-- a tuple of these ints stands at v -/
def TupV (h : Heap) (v : Value) (ns : List Int) : Prop := ∃ a o its n, v = .ref a ∧ h.get? a = some o ∧ o.cls = .type "tuple" ∧ o.data = .seq (List.toArray its) n ∧ IntsAre its ns
theorem TupV.keeps {h h' : Heap} {v : Value} {ns : List Int} (x : TupV h v ns) (k : ∀ b o, h.get? b = some o → o.cls = .type "tuple" → h'.get? b = some o) : TupV h' v ns := by
  obtain ⟨a, o, its, n, e, ho, hc, r⟩ := x
  exact ⟨a, o, its, n, e, k _ _ ho hc, hc, r⟩
section
variable {prog : Program} {w : World} {A :
      Around} {E : Value → Shared → Prop} {s : Shared}
theorem lex_ints {b : Bool} {Q : Bool → Shared → Prop} : ∀ {xs ys : List Int} {us vs : List Value} {i : Nat}, IntsAre us xs → IntsAre vs ys → xs.length = ys.length → Q (lexL xs ys) s → PySem.W.KatLex prog w A b false Q (us.zip vs) i s := by
  intro xs ys us vs i hu hv
  induction hu generalizing ys vs i with
  | nil =>
    intro hl hq
    cases hv with
    | nil => exact PySem.W.kat_nil hq
    | cons n t r => cases hl
  | cons x t ru ih =>
    intro hl hq
    cases hv with
    | nil => cases hl
    | cons y t' rv =>
      refine PySem.W.kat_cons (SeqAt.EqAt.int_int x t y t' prog w _ _ ?_); refine PySem.W.kat_go (fun e1 => ?_) (fun e1 => ?_)
      · have ex : x = y := by simpa using e1
        subst ex
        refine PySem.W.kat_yes (ih rv (by simpa using hl) ?_)
        unfold lexL at hq
        rw [if_pos rfl] at hq
        exact hq
      · have ex : ¬ x = y := by simpa using e1
        unfold lexL at hq
        rw [if_neg ex] at hq
        exact PySem.W.kat_no (TS.oneLt_ints _ hq)
theorem tups_cmp {vs : List Value} {k : Value → List Int} {d : Nat} (hp : ∀ v ∈ vs, TupV s.heap v (k v) ∧ (k v).length = d) : SrtO.Cmp prog w A s (tuples' true) (fun p => p.1 ∈ vs) (SrtO.lt2 fun v u => lexL (k v) (k u)) := by
  intro p q hm hm'
  obtain ⟨h1, l1⟩ := hp _ hm
  obtain ⟨h2, l2⟩ := hp _ hm'
  show wpAny (model prog w) A (keyLt' (tuples' true) p.1 q.1) (fun r s' => s' = s ∧ r = lexL (k p.1) (k q.1)) (fun _ _ => False) s
  generalize k p.1 = x at h1 l1 ⊢
  generalize k q.1 = y at h2 l2 ⊢
  obtain ⟨a, o, its, n, e, ho, hc, hd, hi⟩ := h1
  obtain ⟨a', o', its', n', e', ho', hc', hd', hi'⟩ := h2
  rw [e, e']
  refine PySem.W.kat_lt ho hd ho' hd' ?_; have s1 : its.toArray.size = d := by rw [List.size_toArray, hi.length, l1]
  have s2 : its'.toArray.size = d := by rw [List.size_toArray, hi'.length, l2]
  rw [s1, s2, decide_eq_false (Nat.lt_irrefl d)]
  exact lex_ints hi hi' (by rw [l1, l2]) ⟨rfl, rfl⟩
theorem tup_firsts {h : Heap} {k : Value → List Int} {d : Nat} (hd : 1 ≤ d) : ∀ {vs : List Value}, (∀ v ∈ vs, TupV h v (k v) ∧ (k v).length = d) → ∃ fs : List Value, PySem.W.KatTups h vs fs ∧ fs.length = vs.length ∧ ∀ f ∈ fs, ∃ x t, f = Value.int x t
  | [], _ => ⟨[], PySem.W.KatTups.nil, rfl, nofun⟩
  | v :: vs, x => by
    obtain ⟨fs, f1, f2, f3⟩ := tup_firsts hd fun u hu => x u (List.mem_cons_of_mem _ hu)
    obtain ⟨⟨a, o, its, n, rfl, ho, hc, hdt, hi⟩, hl⟩ := x v List.mem_cons_self
    rw [← hl] at hd
    generalize k (.ref a) = ns at hi hd
    cases hi with
    | nil => simp at hd
    | cons i t r =>
      refine ⟨.int i t :: fs, PySem.W.KatTups.cons ho hc hdt (by simp) f1, by rw [List.length_cons, List.length_cons, f2], fun f hf => ?_⟩
      rcases List.mem_cons.mp
            hf with rfl | hf
      · exact ⟨i, t, rfl⟩
      · exact f3 f hf
theorem tups_sortable {a : Addr} {vs : List Value} {k : Value → List Int} {d : Nat} (hd : 1 ≤ d) (h0 : 0 < vs.length) (hp : ∀ v ∈ vs, TupV s.heap v (k v) ∧ (k v).length = d) (ha : ∀ o, s.heap.get? a = some o → o.cls ≠ .type "tuple") : SrtO.SortableO prog w A s a vs fun v u => lexL (k v) (k u) := by
  intro h' keep
  have hp' : ∀ v ∈ vs, TupV h' v (k v) ∧ (k v).length = d := fun v hm => ⟨(hp v hm).1.keeps fun b o e c => keep b o (fun z => by subst z; exact ha o e c) e, (hp v hm).2⟩
  obtain ⟨fs, h1, h2, h3⟩ := tup_firsts hd hp'
  refine ⟨tuples' true, fun Q E hq => ?_, tups_cmp hp'⟩
  refine PySem.W.kat_kind (T := .type "int")
        h1 (by omega) (fun f hm => ?_) (by rfl) ?_
  · obtain ⟨x, t,
        rfl⟩ := h3 f hm
    exact PySem.W.Looks.now
  · have e : (Value.type "int" != Value.type "tuple") = true := by decide
    rw [e]
    exact hq
theorem sorted_tups {l : Addr} {vs : List Value} {k : Value → List Int} {d : Nat} {Q : Value → Shared → Prop} (hd : 1 ≤ d) (hl : s.heap.IsList l vs.toArray) (hz : vs.length ≤ sizeLine) (hp : ∀ v ∈ vs, TupV s.heap v (k v) ∧ (k v).length = d)
    (h : ∀ (h' : Heap) (r : Addr) (out : List Value), SrtO.Srtd (fun v u => lexL (k v) (k u)) out → SrtO.Stb (fun v u => lexL (k v) (k u)) out vs → (∀ b o, s.heap.get? b = some o → h'.get? b = some o) → s.heap.objs.size ≤ r → (∃ n, h'.get? r = some (seqObj "list" out.toArray n)) → Q (.ref r) { s with heap := h' }) :
    wpAny (model prog w) A (call (.builtin
          "sorted") [.ref l]) Q E s := by
  refine SrtO.sorted_ord (swo_lexL k) hl hz (fun h2 h₁ a ha kk => ?_) fun out hs hb => ?_
  · refine tups_sortable (s := { s with heap := h₁ }) hd (by omega) (fun v hm => ⟨(hp v hm).1.keeps fun b o e _ => (kk b o e).2, (hp v hm).2⟩) fun o e c => ?_
    obtain rfl : seqObj "list" vs.toArray 0 = o := Option.some.inj (ha.symm.trans e); exact absurd (Value.type.inj c) (by decide)
  · exact h _ _ out hs hb (fun b o e => sortedAll_old e)
        (Nat.le_succ _) (sortedAll_at s.heap vs out.toArray)
end
end Kn
set_option Elab.async false
set_option linter.all false
set_option maxRecDepth 100000
set_option maxHeartbeats 2100000
namespace Kn
open PySem PySem.Spec PyProof.Rows L2 RZ
section
variable {X : Cx}
def addrV : V → Addr | .ref a => a | _ => 0
def rSortTL (K : PySem.W.Frag) : List V → Hp → VK → Prop := fun vs H Q => ∃ (a : Addr) (ks : List (Addr × List Int)) (d : Nat), vs = [V.ref a] ∧ SqL K H a (ks.map fun p => V.ref p.1) ∧ 1 ≤ d ∧ (∀ p ∈ ks, SqT K H p.1 (p.2.map V.int) ∧ p.2.length = d) ∧
  ∀ (ls : List (Addr × List Int)) (p : Addr), ls.Perm ks → ls.Pairwise (fun x y => lexL y.2 x.2 = false) → H p = none → Q (.ref p) (upd H p (.lst (ls.map fun p => V.ref p.1)))
theorem ints_eq {a b : List Int} (h : a.map V.int = b.map V.int) : a = b := by
  have := congrArg (List.map fun v => match v with | V.int i => i | _ => 0) h
  rw [List.map_map, List.map_map] at this
  have e : ∀ l : List Int, l.map ((fun v => match v with | V.int i => i | _ => 0) ∘ V.int) = l := fun l => (List.map_congr_left fun i _ => rfl).trans (List.map_id l)
  rwa [e, e] at this
theorem cr_sortTL : CallR X (.builtin "sorted") (rSortTL X.K) := by
  classical
  intro pins s σ H vs us Q I r h; obtain ⟨a, ks, d, rfl, hs, hd, hx, q⟩ := h
  obtain ⟨its, rv, hl, hz⟩ := I.list hs; obtain ⟨u, rfl, ru⟩ := vals1 r
  obtain rfl : u = Value.ref a := ru; obtain ⟨e1, e2⟩ := refs_back rv fun x m => by
    obtain ⟨p, _, e⟩ := List.mem_map.mp m
    exact ⟨p.1, e.symm⟩
  let k : V → List Int := fun x => if h : ∃ ns : List Int, SqT X.K H (addrV x) (ns.map V.int) then h.choose else []
  have kEq : ∀ p ∈ ks, k (.ref p.1) = p.2 := fun p hp => by
    have ex : ∃ ns : List Int, SqT X.K H (addrV (.ref p.1)) (ns.map V.int) := ⟨p.2, (hx p hp).1⟩
    show (if h : ∃ ns : List Int, SqT X.K H (addrV (.ref p.1)) (ns.map V.int) then h.choose else []) = p.2
    rw [dif_pos ex]
    exact ints_eq (I.tuple_inj ex.choose_spec (hx p hp).1)
  have zOf : (ks.map fun p => V.ref p.1).map (fun x => (addrV x, k x)) = ks := by
    rw [List.map_map]
    refine Eq.trans (List.map_congr_left fun p hp => ?_) (List.map_id ks)
    show (p.1, k (.ref p.1)) = p
    rw [kEq p hp]
  refine sorted_tups (k := fun u => k (backV u)) hd hl.isList (by rw [← rv.length]; exact hz) (fun v hv => ?_) fun h' r out h1 h2 kp hr hn => ?_
  · obtain ⟨t, rfl⟩ := e2 v hv
    have hm : V.ref t ∈ ks.map fun p => V.ref p.1 := by rw [e1]; exact List.mem_map.mpr ⟨_, hv, rfl⟩
    obtain ⟨p, hp, e⟩ := List.mem_map.mp hm; have et : p.1 = t := by cases e; rfl
    obtain ⟨ht, hlen⟩ := hx p hp
    have ek : k (backV (.ref t)) = p.2 := by rw [← et]; exact kEq p hp
    rw [et] at ht
    obtain ⟨its2, r2, ⟨o, ho, hc, n, hdt⟩, _⟩ := I.tuple ht
    show TupV s.heap (.ref t) (k (backV (.ref t))) ∧ (k (backV (.ref t))).length = d
    rw [ek]
    exact ⟨⟨t, o, its2, n, rfl, ho, hc, hdt, r2.ints⟩, hlen⟩
  · have h3 : ∀ u ∈ out, ∃ a, u = Value.ref a
        := fun u hu => e2 u (h2.perm.mem_iff.mp hu)
    obtain ⟨n, hn⟩ := hn
    have pm : (out.map backV).Perm (ks.map fun p => V.ref p.1) := by rw [e1]; exact h2.perm.map _
    have back : ((out.map backV).map (fun x => (addrV x, k x))).map (fun p => V.ref p.1) = out.map backV := by
      rw [List.map_map]
      refine Eq.trans (List.map_congr_left fun x hx' => ?_) (List.map_id _)
      obtain ⟨v, hv, rfl⟩ := List.mem_map.mp hx'
      obtain ⟨t, rfl⟩ := h3 v hv
      rfl
    have lenO : (out.map backV).length = ks.length := by rw [pm.length_eq, List.length_map]
    have z := q ((out.map backV).map (fun x => (addrV x, k x))) r (by have := pm.map (fun x => (addrV x, k x)); rwa [zOf] at this) ?_ (I.hok.fresh hr)
    · rw [back] at z
      refine ⟨.ref r, upd H r (.lst (out.map backV)), I.laid (t' := s.toks) kp hr ⟨?_, out, n, vals_back h3, hn⟩, rfl, z⟩
      rw [lenO, ← List.length_map (f := fun p : Addr × List Int => V.ref p.1)]
      exact hz
    · rw [List.map_map]
      refine List.pairwise_map.mpr (h1.imp fun {x y} hxy => ?_)
      exact hxy
end
end Kn
set_option Elab.async false
set_option linter.all false
set_option maxRecDepth 100000
set_option maxHeartbeats 2100000
namespace Kn
open PySem L2 RZ
section
variable {G : Gd} {X : Cx} {B : Addr → Prop} {H : Hp}
theorem rows_ks : ∀ {rs : List (List Int)} {ys : List V}, DenL G B H (rs.map rowD) ys → ∃ ks : List (Addr × List Int), ys = ks.map (fun p => V.ref p.1) ∧ ks.map (·.2) = rs ∧ ∀ p ∈ ks, SqT G.K H p.1 (p.2.map V.int) ∧ Den G B H (rowD p.2) (.ref p.1)
  | [], ys, h => by
    cases (show ys = [] from h)
    exact ⟨[], rfl, rfl, nofun⟩
  | r :: rs, ys, ⟨x, zs, e, h1, h2⟩ => by
    obtain ⟨ks, e1, e2, e3⟩ := rows_ks h2
    have h0 := h1
    obtain ⟨a, xs, rfl, na, ha, la, da⟩ := h1
    rw [DenL.ints da] at ha
    refine ⟨(a, r) :: ks, by rw [e, e1]; rfl, by rw [List.map_cons, e2], fun p hp => ?_⟩
    rcases List.mem_cons.mp
          hp with rfl | hp
    · exact ⟨ha, h0⟩
    · exact e3 p hp
theorem denL_ks {H' : Hp} : ∀ {ls : List (Addr × List Int)}, (∀ p ∈ ls, Den G B H' (rowD p.2) (.ref p.1)) → DenL G B H' ((ls.map (·.2)).map rowD) (ls.map fun p => V.ref p.1)
  | [], _ => rfl
  | p :: ls, h => ⟨_, _, rfl, h p List.mem_cons_self, denL_ks fun q hq => h q (List.mem_cons_of_mem _ hq)⟩
/-- sorted of a list of rows of one length -/
def gSortR : D → (D → Prop) → Prop := fun d Q => ∃ (rs : List (List Int)) (n : Nat), d = .lst (rs.map rowD) ∧ 1 ≤ n ∧ (∀ r ∈ rs, r.length = n) ∧ ∀ out : List (List Int), out.Perm rs → out.Pairwise (fun x y => lexL y x = false) → Q (.lst (out.map rowD))
theorem c_sortR (hK : X.K = G.K) : CallR X (.builtin "sorted") (rDL G (g1 gSortR)) := callr_imp cr_sortTL fun xs H Q' h => by
  obtain ⟨B, d, x, Q, rfl, hd, hf, ⟨rs, n, rfl, hn, hl, hq⟩, kk⟩ := rDL1 h
  obtain ⟨a, ys, rfl, na, ha, la, da⟩ := hd
  obtain ⟨ks, rfl, e2, e3⟩ := rows_ks da
  refine ⟨a, ks, n, rfl, SqL.of ha, hn, fun p hp => ⟨by rw [hK]; exact (e3 p hp).1, hl _ (by rw [← e2]; exact List.mem_map.mpr ⟨p, hp, rfl⟩)⟩, fun ls p hperm hs hp => ?_⟩
  have hlen : (ls.map fun p => V.ref p.1).length ≤ sizeLine := by
    rw [List.length_map, hperm.length_eq]
    rw [List.length_map] at la
    exact la
  refine kk _ _ (.lst ((ls.map (·.2)).map rowD)) (Ext.new hp) (den_lst hp (hf p hp) hlen (denL_ks fun q hq => (e3 q (hperm.mem_iff.mp hq)).2)) (hq _ ?_ ?_)
  · rw [← e2]
    exact hperm.map _
  · exact List.pairwise_map.mpr hs
end
end Kn
set_option Elab.async false
set_option linter.all false
set_option maxRecDepth 100000
set_option maxHeartbeats 2100000
namespace Kn
open PySem PySem.Spec PyProof.Rows L2 RZ
abbrev tkd (P : Program) (w : World) : HeapKind P w (List Int) := tupleKind (intKind P w)
/-- what a dict of rows holds at a row -/
def atL (L : List (List Int × Addr × V)) (r : List Int) : Option V := (L.find? fun x => decide (x.1 = r)).map (·.2.2)
def putIn (r : List Int) (v : V) (x : List Int × Addr × V) : List Int × Addr × V := if x.1 = r then (x.1, x.2.1, v) else x
def putL (L : List (List Int × Addr × V)) (r : List Int) (b : Addr) (v : V) : List (List Int × Addr × V) := if (atL L r).isSome then L.map (putIn r v) else L ++ [(r, b, v)]
abbrev LX : List (List Int × Addr × V) → List (List Int × Addr × Value) → Prop := Paired fun p q => p.1 = q.1 ∧ p.2.1 = q.2.1 ∧ RelV p.2.2 q.2.2
theorem lx_keys : ∀ {L : List (List Int × Addr × V)} {xs : List (List Int × Addr × Value)}, LX L xs → xs.map (·.1) = L.map (·.1)
  | [], _, .nil => rfl
  | _ :: _, _, .cons h t => by rw [List.map_cons, List.map_cons, lx_keys t, h.1]
theorem lx_at : ∀ {L : List (List Int × Addr × V)} {xs : List (List Int × Addr × Value)}, LX L xs → ∀ r, RelO (atL L r) ((atKey xs r).map (·.2))
  | [], _, .nil, r => trivial
  | p :: L, _, @Paired.cons _ _ _ _ q _ xs h t, r => by
    unfold atL atKey
    rw [List.find?_cons, List.find?_cons, h.1]
    by_cases e : q.1 = r
    · rw [decide_eq_true e]
      exact h.2.2
    · rw [decide_eq_false e]
      exact lx_at t r
theorem relO_some {o : Option V} {u : Option Value} (h : RelO o u) : o.isSome = u.isSome := by
  cases o <;> cases u <;> first | rfl | cases h
theorem lx_mem : ∀ {L : List (List Int × Addr × V)} {xs : List (List Int × Addr × Value)}, LX L xs → ∀ x ∈ xs, ∃ p ∈ L, p.1 = x.1 ∧ p.2.1 = x.2.1
  | [], _, .nil, _, hx => nomatch hx
  | p :: L, _, .cons h t, x, hx => by
    rcases List.mem_cons.mp
          hx with rfl | hx
    · exact ⟨p, List.mem_cons_self, h.1, h.2.1⟩
    · obtain ⟨p', hp, e⟩ := lx_mem t x hx
      exact ⟨p', List.mem_cons_of_mem _ hp, e⟩
theorem lx_repl (r : List Int) {v : V} {u : Value} (hv : RelV v u) : ∀ {L : List (List Int × Addr × V)} {xs : List (List Int × Addr × Value)}, LX L xs → LX (L.map (putIn r v)) (xs.map (putAt r u))
  | [], _, .nil => .nil
  | p :: L, _, @Paired.cons _ _ _ _ q _ xs h t => by
    rw [List.map_cons, List.map_cons]; refine .cons ?_ (lx_repl r hv t)
    unfold putIn putAt
    by_cases e : p.1 = r
    · rw [if_pos e, if_pos (h.1 ▸ e)]; exact ⟨h.1, h.2.1, hv⟩
    · rw [if_neg e, if_neg (h.1 ▸ e)]; exact h
theorem lx_put {L : List (List Int × Addr × V)} {xs : List (List Int × Addr × Value)} (h : LX L xs) (r : List Int) (b : Addr) {v : V} {u : Value} (hv : RelV v u) : LX (putL L r b v) (storedH xs r b u) := by
  have e : (atL L r).isSome = (atKey xs r).isSome := by rw [relO_some (lx_at h r), Option.isSome_map]
  unfold putL storedH
  rw [e]
  split
  · exact lx_repl r hv h
  · exact Paired.snoc h ⟨rfl, rfl, hv⟩
theorem putIn_keys (L : List (List Int × Addr × V)) (r : List Int) (v : V) : (L.map (putIn r v)).map (·.1) = L.map (·.1) := by
  rw [List.map_map]
  refine List.map_congr_left fun x _ => ?_; show (putIn r v x).1 = x.1
  unfold putIn
  split <;> rfl
theorem putL_len (L : List (List Int × Addr × V)) (r : List Int) (b : Addr) (v : V) : (putL L r b v).length ≤ L.length + 1 := by
  unfold putL
  split
  · rw [List.length_map]; omega
  · rw [List.length_append];
        simp
/-- the keys stand as tuples of ints -/
def KeysS (K : PySem.W.Frag) (H : Hp) (L : List (List Int × Addr × V)) : Prop := ∀ p ∈ L, SqT K H p.2.1 (p.1.map V.int)
section
variable {X : Cx} {pins : List (Addr × Obj)} {σ : List (Option V)} {H : Hp} {s : Shared} {a b : Addr} {L : List (List Int × Addr × V)} {r : List Int} {A : Around} {E : Value → Shared → Prop}
theorem dic_rd (I : Inv X pins σ H s) (e : H a = some (DicO a L)) (hk : KeysS X.K H L) : (a == sysModules) = false ∧ L.length ≤ sizeLine ∧ (L.map (·.1)).Nodup ∧ ∃ xs, LX L xs ∧ s.heap.DictOfH (tkd X.prog X.w) a xs := by
  have c : DicAt s.heap a L := (I.hok a _ e).1
  obtain ⟨xs, o, es, ep, hx, ho, hd, hdat, he⟩ := c.ex
  refine ⟨c.low, c.few, c.nd, xs, hx, o, es, ep, ho, hd, hdat, he, fun x hxm => ?_, by rw [lx_keys hx]; exact c.nd⟩
  obtain ⟨p, hp, e1, e2⟩ := lx_mem hx x hxm
  rw [← e1, ← e2]
  exact I.isT (hk p hp)
theorem dicO_new {P : Program} {w : World} {H : Hp} {h : Heap} (c : DicAt h a L) : ObjOk P w H h a (DicO a L) := by
  obtain ⟨xs, o, es, ep, hx, ho, r⟩ := c.ex
  refine ⟨c, ⟨o, ho⟩, fun h1 h2 p k => ?_⟩
  have p' : DicAt h1 a L := p
  obtain ⟨xs', o', es', ep', hx', ho', r'⟩ := p'.ex
  exact ⟨p'.low, p'.few, p'.nd, xs', o', es', ep', hx', k o' ho', r'⟩
theorem dicAt_of {P : Program} {w : World} {h : Heap} {xs : List (List Int × Addr × Value)} (lo : (a == sysModules) = false) (few : L.length ≤ sizeLine) (hx : LX L xs) (hd : h.DictOfH (tkd P w) a xs) : DicAt h a L := by
  obtain ⟨o, es, ep, ho, h1, h2, h3, _, h5⟩ := hd
  exact ⟨lo, few, by rw [← lx_keys hx]; exact h5, xs, o, es, ep, hx, ho, h1, h2, h3⟩
/-- d[r], there -/
theorem dic_get {v : V} {Q : Value → Shared → Prop} (hu : A.units + 1 < cLine) (I : Inv X pins σ H s) (e : H a = some (DicO a L)) (hk : KeysS X.K H L) (hb : SqT X.K H b (r.map V.int)) (l : atL L r = some v) (h : ∀ w' s', Inv X pins σ H s' → RelV v w' → Q w' s') :
    wpAny (model X.prog X.w) A (getItem (.ref a) (.ref b)) Q E s := by
  obtain ⟨z, _, _, xs, hx, dd⟩ := dic_rd I e hk
  obtain ⟨w', hw, rw'⟩ := RelO.some_of (v := v) (o := (atKey xs r).map (·.2)) (by rw [← l]; exact lx_at hx r)
  obtain ⟨p, hp, hp2⟩ := Option.map_eq_some_iff.mp hw; refine wpAny_getItem_heap (tupleKind_room_in1 hu) (I.isT hb) dd hp ?_
  rw [hp2]
  exact h w' _ (I.tok _) rw'
/-- d[r] = v -/
theorem dic_put {v : V} {u : Value} {Q : Unit → Shared → Prop} (hu : A.units + 1 < cLine) (I : Inv X pins σ H s) (e : H a = some (DicO a L)) (hk : KeysS X.K H L) (hb : SqT X.K H b (r.map V.int)) (hl : L.length < sizeLine) (rv : RelV v u)
    (h : ∀ s', Inv X pins σ (upd H a (DicO a (putL L r b v))) s' → Q () s') : wpAny (model X.prog X.w) A (setItem (.ref a) (.ref b) u) Q E s := by
  obtain ⟨z, few, _, xs, hx, dd⟩ := dic_rd I e hk
  have hz : xs.length ≤ sizeLine := by rw [← Paired.length hx]; exact few
  refine wpAny_setItem_heap (hsz := hz) (tupleKind_room_in1 hu) (I.isT hb) dd fun h' dd' hs => h _ ?_
  have c : DicAt h' a (putL L r b v) := dicAt_of z (by have := putL_len L r b v; omega) (lx_put hx r b rv) dd'
  obtain ⟨q, _, _, hq, _⟩ := dd'
  exact d_write I (by rw [e]; exact True.intro) hs ⟨q, hq⟩ (dicO_new c)
/-- {} -/
theorem dic_empty (h : Heap) (hb : sysModules < h.objs.size) : DicAt (h.push { cls := .type "dict", data := .dict #[] }) h.objs.size [] :=
  ⟨beq_eq_false_iff_ne.mpr (Ne.symm (Nat.ne_of_lt hb)), Nat.zero_le _, List.nodup_nil, [], _, #[], 0, .nil, Heap.get?_push_size _ rfl, ⟨rfl, rfl, rfl⟩, rfl, rfl⟩
theorem dic_typeIs (I : Inv X pins σ H s) (e : H a = some (DicO a L)) : s.TypeIs (.ref a) "dict" := by
  have c : DicAt s.heap a L := (I.hok a _ e).1
  obtain ⟨xs, o, es, ep, hx, ho, hd, _⟩ := c.ex
  exact ⟨o, ho, hd.1⟩
end
section
variable {X : Cx} {o i e value : Expr}
      {pos pos' tpos : Pos} {td ty tv : TE}
def tLNew : TE := fun _ H Q => ∀ p, H p = none → Q (.ref p) (upd H p (DicO p []))
theorem pe_lnew : PE X (.Dict [] [] pos) tLNew := ⟨fun pins s σ H Q I h =>
  wpAny_Dict_empty ⟨.ref s.heap.objs.size, _, I.laid (a := s.heap.objs.size) (o := DicO s.heap.objs.size []) (t' := s.toks) (fun _ _ q => Heap.get?_push_of_some _ q) (Nat.le_refl _) (dicO_new (dic_empty s.heap I.big)), rfl, h _ (I.hok.fresh (Nat.le_refl _))⟩⟩
/-- d[y] -/
def tLGet (K : PySem.W.Frag) (td ty : TE) : TE := fun σ H Q => td σ H fun x H1 => ty σ H1 fun y H2 => ∃ a L b r v, x = .ref a ∧ y = .ref b ∧ H2 a = some (DicO a L) ∧ KeysS K H2 L ∧ SqT K H2 b (r.map V.int) ∧ atL L r = some v ∧ Q v H2
theorem pe_lget (hu : X.A.units + 1 < cLine) (ho : PE X o td) (hi : PE X i ty) (hs : NoSl i) : PE X (.Subscript o i pos) (tLGet X.K td ty) := by
  refine ⟨fun pins s σ H Q I h => ?_⟩; refine subD_of PySem.F.slot_dict_getitem.lookup hs (thn (ho.run pins s σ H _ I h) fun u s1 ⟨x, H1, I1, rx, q1⟩ => thn (hi.run pins s1 σ H1 _ I1 q1) fun iv s2 ⟨y, H2, I2, ry, a, L, b, r, v, ex, ey, hd, hk, hb, hl, q2⟩ => ?_)
  subst ex ey
  obtain rfl : u = Value.ref a := rx; obtain rfl : iv = Value.ref b := ry
  exact ⟨dic_typeIs I2 hd, dic_get hu I2 hd hk hb hl fun w' s3 I3 rw' => ⟨v, H2, I3, rw', q2⟩⟩
/-- d[y] = v -/
def sLPut (K : PySem.W.Frag) (td ty tv : TE) : TS := fun D σ H => tv σ H fun v H1 => td σ H1 fun x H2 => ty σ H2 fun y H3 => ∃ a L b r, x = .ref a ∧ y = .ref b ∧ H3 a = some (DicO a L) ∧ KeysS K H3 L ∧ SqT K H3 b (r.map V.int) ∧ L.length < sizeLine ∧ D.nx σ (upd H3 a (DicO a (putL L r b v)))
theorem ps_lput (hu : X.A.units + 1 < cLine) (ho : PE X o td) (hi : PE X i ty) (hv : PE X value tv) (hs : swapsWith value (some (.Subscript o i pos')) pos.line X.env = pure false) :
    PS X (.Assign [.Subscript o i pos'] value pos) (sLPut X.K td ty tv) := by
  refine ⟨fun pins s σ H D I h => ?_⟩; refine wpAny_Assign_Subscript (thn (hv.run pins s σ H _ I h) fun r s1 ⟨v, H1, I1, rv, q1⟩ => thn (ho.run pins s1 σ H1 _ I1 q1) fun u s2 ⟨x, H2, I2, rx, q2⟩ => thn (hi.run pins s2 σ H2 _ I2 q2) fun iv s3 ⟨y, H3, I3, ry, a, L, b, k, ex, ey, hd, hk, hb, hl, q3⟩ => ?_) hs
  subst ex ey
  obtain rfl : u = Value.ref a := rx; obtain rfl : iv = Value.ref b := ry
  exact dic_put hu I3 hd hk hb hl rv fun s4 I4 => ⟨σ, _, I4, q3⟩
end
end Kn
set_option Elab.async false
set_option linter.all false
set_option maxRecDepth 100000
set_option maxHeartbeats 2100000
namespace Kn
open PySem L2 RZ
open PyProof.Rows (envOfC)
section
variable {G : Gd} {E : XK} {X : Cx} {σ : List (Option V)} {H H' : Hp} {k : Nat}
/-- the value is the row r -/
def rowK (d : D) (r : List Int) : Prop := d = .tup (r.map D.int) ∨ d = .tupn (r.map D.int)
theorem rowK_t {r : List Int} : rowK (.tup (r.map D.int)) r := .inl rfl
theorem Den.key {B : Addr → Prop} {d : D} {v : V} {r : List Int} (hk : rowK d r) (h : Den G B H d v) : ∃ b, v = .ref b ∧ (¬ B b ∨ KTup G.K b (r.map V.int)) ∧ SqT G.K H b (r.map V.int) ∧ r.length ≤ sizeLine := by
  have h' : Den G B H (.tup (r.map D.int)) v := by
    rcases hk with rfl | rfl
    · exact h
    · obtain ⟨a, xs, o, rfl, nb, hs, _, _, hl, hd⟩ := h
      exact ⟨a, xs, rfl, .inl nb, .inl (.inr ⟨o, hs⟩), hl, hd⟩
  obtain ⟨a, xs, rfl, nb, hs, hl, hd⟩ := h'
  have e := hd.ints
  subst e
  rw [List.length_map] at hl
  exact ⟨a, rfl, nb, hs, hl⟩
/-- what a dict holds at a row -/
def lookT (ks : List (List Int)) (ds : List D) (r : List Int) : Option D := ((ks.zip ds).find? fun x => decide (x.1 = r)).map (·.2)
def putKs (ks : List (List Int)) (r : List Int) : List (List Int) := if r ∈ ks then ks else ks ++ [r]
def putDs (ks : List (List Int)) (ds : List D) (r : List Int) (d : D) : List D := if r ∈ ks then (ks.zip ds).map (fun x => if x.1 = r then d else x.2) else ds ++ [d]
theorem KeysOk.s {B : Addr → Prop} {L : List (List Int × Addr × V)} (h : KeysOk G.K B H L) : KeysS G.K H L := fun p hp => (h p hp).2.1
theorem atL_mem (L : List (List Int × Addr × V)) (r : List Int) : (atL L r).isSome = decide (r ∈ L.map (·.1)) := by
  unfold atL
  rw [Option.isSome_map]
  by_cases h : r ∈ L.map (·.1)
  · rw [decide_eq_true h]
    obtain ⟨x, hx, e⟩ := List.mem_map.mp h
    exact List.find?_isSome.mpr ⟨x, hx, decide_eq_true e⟩
  · rw [decide_eq_false h]
    cases z : (L.find? fun x => decide (x.1 = r)) with
    | none => rfl
    | some x =>
      exfalso
      have hx := List.mem_of_find?_eq_some z
      have he := List.find?_some z
      exact h (List.mem_map.mpr ⟨x, hx, of_decide_eq_true he⟩)
theorem lookT_at {B : Addr → Prop} : ∀ {L : List (List Int × Addr × V)} {ds : List D} {r : List Int} {d : D}, DenL G B H ds (L.map (·.2.2)) → lookT (L.map (·.1)) ds r = some d → ∃ v, atL L r = some v ∧ Den G B H d v
  | [], _, _, _, _, e => by simp [lookT] at e
  | p :: L, [], _, _, h, e => by simp [lookT] at e
  | p :: L, d0 :: ds, r, d, ⟨x, q, e1, h1, h2⟩, e => by
    cases e1
    unfold lookT at e
    rw [List.map_cons, List.zip_cons_cons, List.find?_cons] at e
    unfold atL
    rw [List.find?_cons]
    by_cases c : p.1 = r
    · rw [decide_eq_true c] at e ⊢
      cases e
      exact ⟨_, rfl, h1⟩
    · rw [decide_eq_false c] at e ⊢
      exact lookT_at (L := L) h2 e
theorem put_map : ∀ {L : List (List Int × Addr × V)} {ds : List D} {r : List Int} {d : D} {v : V} {B : Addr → Prop}, DenL G B H ds (L.map (·.2.2)) → Den G B H d v →
    DenL G B H (((L.map (·.1)).zip ds).map fun x => if x.1 = r then d else x.2) ((L.map (putIn r v)).map (·.2.2))
  | [], [], _, _, _, _, _, _ => rfl
  | [], _ :: _, _, _, _, _, h, _ => by obtain ⟨_, _, e, _⟩ := h; cases e
  | p :: L, [], _, _, _, _, h, _ => by cases h
  | p :: L, d0 :: ds, r, d, v, B, ⟨x, q, e1, h1, h2⟩, hv => by
    cases e1
    refine ⟨(putIn r v p).2.2, (L.map (putIn r v)).map (·.2.2), rfl, ?_, put_map (L := L) h2 hv⟩
    unfold putIn
    by_cases c : p.1 = r
    · show Den G B H (if p.1 = r then d else d0) _
      rw [if_pos c, if_pos c]; exact hv
    · show Den G B H (if p.1 = r then d else d0) _
      rw [if_neg c, if_neg c]; exact h1
theorem putL_keys (L : List (List Int × Addr × V)) (r : List Int) (b : Addr) (v : V) : (putL L r b v).map (·.1) = putKs (L.map (·.1)) r := by
  unfold putL putKs
  rw [atL_mem]
  by_cases h : r ∈ L.map (·.1)
  · rw [if_pos (decide_eq_true h), if_pos h, putIn_keys]
  · rw [if_neg (by rw [decide_eq_false h]; simp), if_neg h, List.map_append]; rfl
theorem putL_vals {B : Addr → Prop} {L : List (List Int × Addr × V)} {ds : List D} {r : List Int} {b : Addr} {d : D} {v : V} (h : DenL G B H ds (L.map (·.2.2))) (hv : Den G B H d v) : DenL G B H (putDs (L.map (·.1)) ds r d) ((putL L r b v).map (·.2.2)) := by
  by_cases c : r ∈ L.map (·.1)
  · have e1 : putL L r b v = L.map (putIn r v) := by unfold putL; rw [atL_mem, if_pos (decide_eq_true c)]
    have e2 : putDs (L.map (·.1)) ds r d = ((L.map (·.1)).zip ds).map (fun x => if x.1 = r then d else x.2) := by unfold putDs; rw [if_pos c]
    rw [e1, e2]; exact put_map h hv
  · have e1 : putL L r b v = L ++ [(r, b, v)] := by unfold putL; rw [atL_mem, decide_eq_false c]; rfl
    have e2 : putDs (L.map (·.1)) ds r d = ds ++ [d] := by unfold putDs; rw [if_neg c]
    rw [e1, e2, List.map_append]
    exact h.append ⟨v, [], rfl, hv, rfl⟩
theorem putL_ok {K : PySem.W.Frag} {B : Addr → Prop} {L : List (List Int × Addr × V)} {r : List Int} {b : Addr} {v : V} (h : KeysOk K B H L) (hb : (¬ B b ∨ KTup K b (r.map V.int)) ∧ SqT K H b (r.map V.int) ∧ r.length ≤ sizeLine) : KeysOk K B H (putL L r b v) := fun p hp => by
  unfold putL at hp
  split at hp
  · obtain ⟨q, hq, e⟩ := List.mem_map.mp hp
    have z := h q hq
    have e2 : p.1 = q.1 ∧ p.2.1 = q.2.1 := by
      rw [← e]; unfold putIn; split <;> exact ⟨rfl, rfl⟩
    rw [e2.1, e2.2]; exact z
  · rcases List.mem_append.mp
        hp with hp | hp
    · exact h p hp
    · rw [List.mem_singleton.mp hp]; exact hb
def gGetT : G2 := fun d k Q => ∃ ks ds r v, d = .dcT ks ds ∧ rowK k r ∧ lookT ks ds r = some v ∧ Q v
theorem de_tget {a b : Expr} {pos : Pos} {ca cb : Nat} {ta tb : DT} (hK : X.K = G.K) (hu : X.A.units + 1 < cLine) (ha : DE G E X ca a ta) (hb : DE G E X cb b tb) (hs : NoSl b := by intro _ _; rfl) : DE G E X (ca + cb) (.Subscript a b pos) (dOp gGetT ta tb) :=
  imp (pe_lget hu ha hb hs) fun σ H Q' h => by
    obtain ⟨W, hn, Q, ht, kk⟩ := h
    refine ⟨W, by omega, _, ht, fun v H1 d st hd hq => ⟨W.next st, by show W.m + cb ≤ W.n - ca; omega, _, hq, fun v2 H2 e st2 he ⟨ks, ds, r, w, e1, hk, hl, hq2⟩ => ?_⟩⟩
    subst e1
    obtain ⟨a, L, rfl, na, hat, hks, hkk, hds⟩ := (W.next st).den st2 hd
    obtain ⟨b, rfl, nb, hb, _⟩ := he.key hk
    rw [hK]
    subst hks
    obtain ⟨z, hz, dz⟩ := lookT_at hds hl
    exact ⟨a, L, b, r, z, rfl, rfl, hat, hkk.s, hb, hz, kk z H2 w (st.trans st2) dz hq2⟩
abbrev DKt := (Exc → Prop) → List Sl → (List (List Int) → List D → Prop) → Prop
def liftK (G : Gd) (E : XK) (c : Nat) (t : DKt) : TE := fun σ H Q' => ∃ W : Wd G E σ H, W.m + c ≤ W.n ∧ ∃ Q, t W.ex W.env Q ∧
  ∀ p H' ks ds L, Step W c H' → H p = none → H' p = some (DicO p L) → L.map (·.1) = ks → KeysOk G.K (fun a => W.XB a ∨ a = p) H' L → DenL G (fun a => W.XB a ∨ a = p) H' ds (L.map (·.2.2)) → Q ks ds → Q' (.ref p) H'
abbrev DNd (G : Gd) (E : XK) (X : Cx) (c : Nat) (e : Expr) (t : DKt) : Prop := PE X e (liftK G E c t)
/-- {} -/
def kNew : DKt := fun _ _ Q => Q [] []
theorem dk_new {pos : Pos} : DNd G E X 0 (.Dict [] [] pos) kNew := imp pe_lnew fun σ H Q' h => by
  obtain ⟨W, hn, Q, ht, kk⟩ := h
  intro p hp
  exact kk p _ [] [] [] ((Step.refl W).new hp) hp upd_same rfl (fun _ z => nomatch z) rfl ht
theorem wd_dic (W : Wd G E σ H) {c : Nat} {H2 : Hp} (st : Step W c H2) {i : Nat} {p : Addr} {ks : List (List Int)} {ds : List D} {L : List (List Int × Addr × V)} (hp : H p = none) (h2 : H2 p = some (DicO p L)) (hk : L.map (·.1) = ks) (hx : KeysOk G.K (fun a => W.XB a ∨ a = p) H2 L) (hd : DenL G (fun a => W.XB a ∨ a = p) H2 ds (L.map (·.2.2))) :
    ∃ W' : Wd G E (σ.set i (some (.ref p))) H2, Later W c W' ∧ W'.env = W.env.set i (.dic p ks ds) ∧ W'.n = W.n - c := by
  have fr0 : ¬ W.XB p := W.fresh hp
  have h0 : W.H0 p = none := by
    cases q : W.H0 p with
    | none => rfl
    | some o =>
      exfalso
      rw [W.fr p o q (W.nuX fr0)] at hp; cases hp
  have npo : ∀ {j : Nat} {s : Sl} {b : Addr}, W.env[j]? = some s → s.mine = true → σ[j]? = some (some (.ref b)) → b ≠ p := fun {j s b} e hm es z => by
    obtain ⟨_, o, ho⟩ := W.mine_at e hm es
    rw [z, hp] at ho; cases ho
  have xb : ∀ b, XBof W.B (W.env.set i (.dic p ks ds)) (σ.set i (some (.ref p))) b → W.XB b ∨ b = p := fun b hb => by
    rcases hb with hb | ⟨j, s, e1, m1, e2⟩
    · exact .inl (.inl hb)
    · by_cases hj : i = j
      · subst hj
        by_cases hi : i < σ.length
        · rw [List.getElem?_set_self hi] at e2; cases e2; exact .inr rfl
        · rw [List.getElem?_eq_none (by rw [List.length_set]; omega)] at e2; cases e2
      · rw [List.getElem?_set_ne hj] at e1 e2
        exact .inl (.inr ⟨j, s, e1, m1, e2⟩)
  have sp : ∀ b, XBof W.B (W.env.set i (.dic p ks ds)) (σ.set i (some (.ref p))) b → W.XB b ∨ H b = none := fun b hb => (xb b hb).imp id fun z => by rw [z]; exact hp
  have dk : ∀ {d : D} {v : V}, Den G W.XB H d v → Den G (XBof W.B (W.env.set i (.dic p ks ds)) (σ.set i (some (.ref p)))) H2 d v := fun {d v} h => Den.keep (fun b o nb e => st.keep nb e) sp d v h
  have dkl : ∀ {es : List D} {ys : List V}, DenL G W.XB H es ys → DenL G (XBof W.B (W.env.set i (.dic p ks ds)) (σ.set i (some (.ref p)))) H2 es ys := fun {es ys} h => DenL.keep (fun b o nb e => st.keep nb e) sp es ys h
  have own_st : ∀ {j : Nat} {s : Sl} {b : Addr} {o : HO}, W.env[j]? = some s → s.mine = true → σ[j]? = some (some (.ref b)) → H b = some o → H2 b = some o := fun {j s b o} e hm es ho => st.ext b o ho (lend_un W (W.mine_at e hm es).1)
  refine ⟨{ u := W.u, n := W.n - c, m := W.m, B := W.B, H0 := W.H0, env := W.env.set i (.dic p ks ds), ex := W.ex, ug := W.ug, hu := W.hu, hB := W.hB, fr := W.fr.trans st.ext, good := st.good, len := by rw [List.length_set, List.length_set]; exact W.len, sl := fun j s e => ?_, nd := fun j l b s t e1 e2 m1 m2 e3 e4 => ?_, exc := W.exc },
    ⟨rfl, rfl, rfl, rfl, rfl, by show W.n ≤ W.n - c + c; omega, fun b o nb e => st.keep nb e, sp⟩, rfl, rfl⟩
  · by_cases hj : i = j
    · subst hj
      by_cases hi : i < W.env.length
      · rw [List.getElem?_set_self hi] at e
        cases e
        rw [getD_set, if_pos ⟨rfl, by rw [← W.len]; exact hi⟩]
        exact ⟨L, rfl, h0, h2, hk, hx.keep (fun _ _ _ h => h) (fun b hb => .inl (xb b hb)), hd.fewer xb⟩
      · rw [List.getElem?_eq_none (by simpa using hi)] at e; cases e
    · rw [List.getElem?_set_ne hj] at e
      rw [getD_set, if_neg (fun z => hj z.1)]
      have z := W.sl j s e
      cases s with
      | emp => trivial
      | val d => obtain ⟨x, e1, e2⟩ := z; exact ⟨x, e1, dk e2⟩
      | own b es => obtain ⟨ys, e1, e2, e3, e4, e5⟩ := z; exact ⟨ys, e1, e2, own_st e rfl (join_some e1) e3, e4, dkl e5⟩
      | slf b dx cc es => obtain ⟨ys, e1, e2, e3, e4, e5⟩ := z; exact ⟨ys, e1, e2, own_st e rfl (join_some e1) e3, e4, dkl e5⟩
      | obj b o => obtain ⟨e1, e2, e3, e4⟩ := z; exact ⟨e1, e2, own_st e rfl (join_some e1) e3, e4⟩
      | dic b ks es => obtain ⟨L, e1, e2, e3, e4, e5, e6⟩ := z; exact ⟨L, e1, e2, own_st e rfl (join_some e1) e3, e4, e5.by dk, dkl e6⟩
  · by_cases hj : i = j
    · by_cases hlk : i = l
      · exact hj.symm.trans hlk
      · subst hj
        exfalso
        rw [List.getElem?_set_ne hlk] at e2 e4
        have hi : i < σ.length := by
          by_cases q : i < σ.length
          · exact q
          · rw [List.getElem?_eq_none (by rw [List.length_set]; omega)] at e3; cases e3
        rw [List.getElem?_set_self hi] at e3
        cases e3
        exact npo e2 m2 e4 rfl
    · rw [List.getElem?_set_ne hj] at e1 e3
      by_cases hlk : i = l
      · subst hlk
        exfalso
        have hi : i < σ.length := by
          by_cases q : i < σ.length
          · exact q
          · rw [List.getElem?_eq_none (by rw [List.length_set]; omega)] at e4; cases e4
        rw [List.getElem?_set_self hi] at e4
        cases e4
        exact npo e1 m1 e3 rfl
      · rw [List.getElem?_set_ne hlk] at e2 e4
        exact W.nd j l b s t e1 e2 m1 m2 e3 e4
theorem lift_dic {i : Nat} {W : Wd G E σ H} {ks : List (List Int)} {ds : List D} {a : Addr} (he : W.env[i]? = some (.dic a ks ds)) : ∃ L, σ[i]? = some (some (.ref a)) ∧ W.H0 a = none ∧ H a = some (DicO a L) ∧ L.map (·.1) = ks ∧ KeysOk G.K W.XB H L ∧ DenL G W.XB H ds (L.map (·.2.2)) := by
  obtain ⟨L, e1, e2, e3, e4, e5, e6⟩ := W.sl i _ he
  exact ⟨L, join_some e1, e2, e3, e4, e5, e6⟩
/-- x[y] = v -/
def sDput (i : Nat) (te tk : DT) : DS := fun ex de env => te ex env fun d => tk ex env fun y => ∃ a ks ds r, env[i]? = some (.dic a ks ds) ∧ rowK y r ∧ ks.length < sizeLine ∧ de.nx (env.set i (.dic a (putKs ks r) (putDs ks ds r d)))
theorem ds_dput {i : Nat} {x : Str} {e b : Expr} {pos p p2 : Pos} {c c2 : Nat} {te ti : DT} (hK : X.K = G.K) (hu : X.A.units + 1 < cLine) (hN : X.N[i]? = some x) (he : DE G E X c e te) (hi : DE G E X c2 b ti) (hv : Vis X.env.scope x := by first | exact Or.inl rfl | exact Or.inr (Or.inl rfl) | exact Or.inr (Or.inr rfl))
    (hd : (x == ("__debug__" : Str)) = false := by decide) (hcd : (x == ("__classdict__" : Str)) = false := by decide) (hs : swapsWith e (some (.Subscript (.Name x p) b p2)) pos.line X.env = pure false := by rfl)
    (h0 : ∀ (W : List Sl), True := by intro _; trivial) : DSt G E X (c + c2) (.Assign [.Subscript (.Name x p) b p2] e pos) (fun ex de env => (∃ a ks ds, env[i]? = some (.dic a ks ds)) ∧ sDput i te ti ex de env) :=
  impS (ps_lput hu (pe_var (i := i) hN hv hd hcd) hi he hs) fun Dn σ H h => by
    obtain ⟨W, hn, de, ⟨⟨a, ks, ds, hei⟩, ht⟩, k1, k2, k3, k4⟩ := h
    refine ⟨W, by omega, _, ht, fun v H1 d st hdv hq => ?_⟩
    obtain ⟨L, hsi, h0, ha, hk, hx, hds⟩ := lift_dic (W := W) hei
    refine ⟨.ref a, hsi, W.next st, by show W.m + c2 ≤ W.n - c; omega, _, hq, fun v2 H2 e2 st2 hv2 ⟨a', ks', ds', r, hei', hkd, hl, hnx⟩ => ?_⟩
    have z : some (Sl.dic a ks ds) = some (Sl.dic a' ks' ds') := hei.symm.trans hei'
    cases z
    obtain ⟨b', rfl, nb, hb, hl2⟩ := hv2.key hkd
    have st3 := st.trans st2
    have hei3 : (W.next st3).env[i]? = some (.dic a ks ds) := hei
    have ha2 : H2 a = some (DicO a L) := st3.ext a _ ha (lend_un W h0)
    have hx2 : KeysOk G.K W.XB H2 L := hx.ext st3.ext W.huX
    have hds2 : DenL G W.XB H2 ds (L.map (·.2.2)) := hds.ext st3.ext W.huX
    have hv1 : Den G W.XB H2 d v := (W.next st).den st2 hdv
    refine ⟨a, L, b', r, rfl, rfl, ha2, by rw [hK]; exact hx2.s, by rw [hK]; exact hb, by rw [← hk, List.length_map] at hl; exact hl, ?_⟩
    have kp := mut_keep (o1 := DicO a (putL L r b' v)) (W.next st3) hei3 rfl hsi
    have hx3 : KeysOk G.K W.XB (upd H2 a (DicO a (putL L r b' v))) (putL L r b' v) := (putL_ok hx2 ⟨nb, hb, hl2⟩).keep kp fun b hb => .inl hb
    have hd3 : DenL G W.XB (upd H2 a (DicO a (putL L r b' v))) (putDs ks ds r d) ((putL L r b' v).map (·.2.2)) := by
      rw [← hk]
      exact DenL.keep kp (fun b hb => .inl hb) _ _ (putL_vals hds2 hv1)
    have hk3 : (putL L r b' v).map (·.1) = putKs ks r := by rw [← hk]; exact putL_keys L r b' v
    obtain ⟨W', l1, l2, l3⟩ := wd_mut (o1 := DicO a (putL L r b' v)) (s1 := .dic a (putKs ks r) (putDs ks ds r d)) (W.next st3) hei3 rfl hsi rfl ⟨putL L r b' v, rfl, h0, upd_same, hk3, hx3, hd3⟩
    exact k1 σ _ W' (((Later.next st3).trans l1).more (by omega)) (by rw [l2]; exact hnx)
/-- from here on the dict in slot i stays as it is -/
def sFreezeD (i : Nat) (t : DS) : DS := fun ex de env => ∃ a ks ds, env[i]? = some (.dic a ks ds) ∧ t ex de (env.set i (.val (.dcT ks ds)))
theorem ds_freezeD {i : Nat} {sts : List Stmt} {c : Nat} {t : DS} (h : DSs G E X c sts t) : DSs G E X c sts (sFreezeD i t) := impSs h fun Dn σ H h => by
  obtain ⟨W, hn, de, ⟨a0, ks, ds, he, ht⟩, k1, k2, k3, k4⟩ := h
  obtain ⟨W1, a, w1, w2, w3, w4, w5, w6, w7, hsi, h0, nt, x1, x2⟩ := wd_lend (v := .dcT ks ds) W he (.inr (.inr ⟨a0, ks, ds, rfl, rfl⟩))
  have lt : Later W 0 W1 := ⟨w2, w5, w7, w6, w4, by rw [w3]; omega, fun _ _ _ h => h, fun b hb => .inl (x2 b hb).1⟩
  exact ⟨W1, by rw [w3, w4]; exact hn, de, by rw [w1, w6]; exact ht, fun σ' H' W2 l2 q => k1 σ' H' W2 ((lt.trans l2).more (by omega)) q, fun v σ2 H' W2 d l2 hd hr => k2 v σ2 H' W2 d ((lt.trans l2).more (by omega)) (by rw [lt.B] at hd; exact hd) hr, fun σ' H' W2 l2 q => k3 σ' H' W2 ((lt.trans l2).more (by omega)) q, fun σ' H' W2 l2 q => k4 σ' H' W2 ((lt.trans l2).more (by omega)) q⟩
abbrev TSpec := List D → (List (List Int) → List D → Prop) → (Exc → Prop) → Prop
def liftT (G : Gd) (c : Nat) (S : TSpec) : Sp := fun vs H Q E => ∃ (u : Option Ur) (n : Nat) (B : Addr → Prop) (ds : List D) (R : List (List Int) → List D → Prop) (ex : Exc → Prop),
  u = G.u ∧ c ≤ n ∧ (∀ p, Pr u p → B p.1 ∧ B p.2) ∧ (∀ a, B a → H a ≠ none) ∧ Good u H n ∧ DenL G B H ds vs ∧ S ds R ex ∧
  (∀ a H' ks es L, Ext u H H' → Good u H' (n - c) → H a = none → H' a = some (DicO a L) → L.map (·.1) = ks → KeysOk G.K (fun b => B b ∨ b = a) H' L → DenL G (fun b => B b ∨ b = a) H' es (L.map (·.2.2)) → R ks es → Q (.ref a) H') ∧
  (∀ x C d H', Ext u H H' → Good u H' (n - c) → ExcIs G B H' x C d → ex x → E C d H')
/-- the def at f keeps S, returns a new dict -/
structure FnT (G : Gd) (P : Program) (w : World) (mg : Str → Option Value) (base : Heap) (k : Nat) (f : Addr) (fd : FuncData) (ps : List Str) (c : Nat) (S : TSpec) : Prop where
  run : ∀ (A : Around) (outer : List Env) (s : Shared) (H : Hp) (args : Args) (us : List Value) (vs : List V) (Q : VK) (E : XK), Room k A → A.guards = some [] → Env0 P w G.K mg base A outer s H →
    BindsTo s fd args (ps.zip us) → Vals vs us → vs.length = ps.length → liftT G c S vs H Q E → codeAny (model P w) A (.call (.ref f) args) (CR (L2.CX P w) outer P w H s Q E) s
theorem FnT.more {P : Program} {w : World} {mg : Str → Option Value} {base : Heap} {j k : Nat} {f : Addr} {fd : FuncData} {ps : List Str} {c d : Nat} {S : TSpec} (F : FnT G P w mg base j f fd ps c S) (h : j ≤ k) (hc : c ≤ d) : FnT G P w mg base k f fd ps d S :=
  ⟨fun A outer s H args us vs Q E hr hg e0 hb rv hl hs => F.run A outer s H args us vs Q E (hr.mono h) hg e0 hb rv hl (by
    obtain ⟨u, n, B, ds, R, ex, h1, h2, h3, h4, h5, h6, h7, h8, h9⟩ := hs
    exact ⟨u, n, B, ds, R, ex, h1, by omega, h3, h4, h5, h6, h7, fun a H' ks es L e g => h8 a H' ks es L e (g.less (by omega)), fun x C d' H' e g => h9 x C d' H' e (g.less (by omega))⟩)⟩
end
end Kn
set_option Elab.async false
set_option linter.all false
set_option maxRecDepth 100000
set_option maxHeartbeats 2100000
namespace Kn
open PySem PySem.Spec PyProof.Rows L2 RZ
section
variable {G : Gd} {E : XK} {X : Cx} {σ : List (Option V)} {H H' : Hp} {k : Nat}
/-- (a, b, ..), known -/
def tTupN (t : TA) : TE := fun σ H Q => t σ H fun xs H1 => xs.length ≤ sizeLine ∧ ∀ p o, H1 p = none → o.cls = .type "tuple" → o.dict = none → Q (.ref p) (upd H1 p (.frz o (.tup xs)))
theorem pe_tupN {es : List Expr} {pos : Pos} {t : TA} {x1} (h : PA X es t) : PE X (.Tuple es x1 pos) (tTupN t) := by
  refine ⟨fun pins s σ H Q I hq => ?_⟩; refine wpAny_Tuple_spliced (thn (h.run pos pins s σ H _ I hq) fun us s1 ⟨xs, H1, I1, r, z, q⟩ => ⟨by rw [← r.length]; exact z, ?_⟩)
  have hf : H1 s1.heap.objs.size = none := I1.hok.fresh (Nat.le_refl _); have ho : (s1.heap.push { cls := .type "tuple", data := .seq us.toArray }).get? s1.heap.objs.size = some { cls := .type "tuple", data := .seq us.toArray } := Heap.get?_push_size _ rfl
  refine ⟨.ref s1.heap.objs.size, upd H1 s1.heap.objs.size (.frz { cls := .type "tuple", data := .seq us.toArray } (.tup xs)), I1.laid (t' := s1.toks) (fun b u e => Heap.get?_push_of_some _ e) (Nat.le_refl _) ?_, rfl, q _ _ hf rfl rfl⟩
  exact ⟨ho, z, us, r, ⟨_, ho, rfl, _, rfl⟩⟩
def dTupN (u : DA) : DT := fun ex env Q => u ex env fun ds => ds.length ≤ sizeLine ∧ Q (.tupn ds)
theorem de_tupN {es : List Expr} {x1 : Nat} {pos : Pos} {c : Nat} {u : DA} (h : DEs G E X c es u) : DE G E X c (.Tuple es x1 pos) (dTupN u) := imp (pe_tupN h) fun σ H Q' h => by
  obtain ⟨W, hn, Q, ht, kk⟩ := h
  refine ⟨W, hn, _, ht, fun vs H1 ds st hd ⟨hl, hq⟩ => ⟨by rw [← hd.length]; exact hl, fun p o hp hc hdn => ?_⟩⟩
  exact kk _ _ (.tupn ds) (st.new hp) (den_tupn hp ((W.next st).fresh hp) hc hdn (by rw [← hd.length]; exact hl) hd) hq
/-- t + u, u known -/
def rCatN (K : PySem.W.Frag) : R2 := fun x y H Q => ∃ a b xs ys, x = .ref a ∧ y = .ref b ∧ SqT K H a xs ∧ SqT K H b ys ∧ xs.length + ys.length ≤ sizeLine ∧ ys ≠ [] ∧
  (xs = [] → Q (.ref b) H) ∧ (xs ≠ [] → ∀ p o, H p = none → o.cls = .type "tuple" → o.dict = none → Q (.ref p) (upd H p (.frz o (.tup (xs ++ ys)))))
theorem op_catN : OpR X (binaryOp .Add) (rCatN X.K) := by
  intro pins s σ H x y v u Q I rx ry h; obtain ⟨a, b, xs, ys, rfl, rfl, ha, hb, hz, hy, q0, q2⟩ := h
  by_cases hx : xs = []
  · subst hx
    cases rx
    cases ry
    obtain ⟨its, r1, p1, _⟩ := I.tuple ha; obtain ⟨its2, r2, p2, _⟩ := I.tuple hb
    cases r1; exact cat_tup0 p1 p2 ⟨.ref b, H, I, rfl, q0 rfl⟩
  · cases rx
    cases ry
    obtain ⟨its, r1, p1, _⟩ := I.tuple ha; obtain ⟨its2, r2, p2, _⟩ := I.tuple hb
    refine HT.cat_tup p1 p2 (fun z => hx (r1.nil_iff.mp z)) (fun z => absurd (r2.nil_iff.mp z) hy) (fun z => ?_) (by rw [← r1.length, ← r2.length]; exact hz)
    have ho : (s.heap.push { cls := .type "tuple", data := .seq (its ++ its2).toArray }).get? s.heap.objs.size = some { cls := .type "tuple", data := .seq (its ++ its2).toArray } := Heap.get?_push_size _ rfl
    refine ⟨.ref s.heap.objs.size, _, I.laid (t' := s.toks) (o := .frz { cls := .type "tuple", data := .seq (its ++ its2).toArray } (.tup (xs ++ ys))) (fun b ob q => Heap.get?_push_of_some _ q) (Nat.le_refl _) ?_, rfl, q2 hx _ _ (I.hok.fresh (Nat.le_refl _)) rfl rfl⟩
    exact ⟨ho, by rw [List.length_append]; exact hz, _, r1.append r2, ⟨_, ho, rfl, _, rfl⟩⟩
def gAddN : G2 := fun d e Q => ∃ ds es, (d = .tup ds ∨ d = .tupn ds) ∧ e = .tupn es ∧ es ≠ [] ∧ ds.length + es.length ≤ sizeLine ∧ Q (.tupn (ds ++ es))
theorem o_addN (hK : X.K = G.K) : OpR X (binaryOp .Add) (rD G gAddN) := opr_imp op_catN fun x y H Q' h => by
  obtain ⟨B, d, e, Q, hd, he, hf, ⟨ds, es, hdd, rfl, hne, hz, hq⟩, kk⟩ := h
  have hd' : Den G B H (.tup ds) x := by
    rcases hdd with rfl | rfl
    · exact hd
    · exact hd.ofN
  obtain ⟨a, xs, rfl, na, ha, la, da⟩ := hd'
  obtain ⟨b, ys, o, rfl, nb, hb, hc, hdn, lb, db⟩ := id he
  have l1 := da.length
  have l2 := db.length
  have hy : ys ≠ [] := fun z => hne (by rw [z] at l2; exact List.eq_nil_of_length_eq_zero l2)
  refine ⟨a, b, xs, ys, rfl, rfl, by rw [hK]; exact ha, .inl (.inr ⟨o, hb⟩), by omega, hy, fun z => ?_, fun z p o' hp hc' hd' => ?_⟩
  · have e0 : ds = [] := by rw [z] at l1; exact List.eq_nil_of_length_eq_zero l1
    rw [e0, List.nil_append] at hq
    exact kk _ H _ (Ext.refl _ _) he hq
  · exact kk _ _ _ (Ext.new hp) (den_tupn hp (hf p hp) hc' hd' (by rw [List.length_append]; omega) (da.append db)) hq
end
end Kn
set_option Elab.async false
set_option linter.all false
set_option maxRecDepth 100000
set_option maxHeartbeats 2100000
namespace Kn
open PySem PySem.Spec L2 RZ
end Kn
set_option Elab.async false
set_option linter.all false
set_option maxRecDepth 100000
set_option maxHeartbeats 2100000
namespace Kn
open PySem PySem.Spec PyProof.Rows L2 RZ
end Kn
set_option Elab.async false
set_option linter.all false
set_option maxRecDepth 100000
set_option maxHeartbeats 2100000
namespace Kn
open PySem L2 RZ StX
open PyProof.Rows (envOfC)
section
variable {G : Gd} {E : XK} {X : Cx} {σ : List (Option V)} {H H' : Hp} {k : Nat}
/-- fields so far, arguments; what holds of the answer and the fields then; what errors may come -/
abbrev XSpec := List D → List D → (D → List D → Prop) → (Exc → Prop) → Prop
def liftX (G : Gd) (c cid : Nat) (S : XSpec) : Sp := fun vs H Q E => ∃ (u : Option Ur) (n : Nat) (B : Addr → Prop) (fs ds : List D) (R : D → List D → Prop) (ex : Exc → Prop) (x dx : Addr) (vs' xs : List V),
  u = G.u ∧ vs = .ref x :: vs' ∧ H x = some (.ins (G.cl cid) dx ((G.fl cid).zip xs)) ∧ xs.length ≤ (G.fl cid).length ∧ ¬ B x ∧ (∀ p, Pr u p → x ≠ p.1 ∧ x ≠ p.2) ∧ c ≤ n ∧ (∀ p, Pr u p → B p.1 ∧ B p.2) ∧ (∀ a, B a → H a ≠ none) ∧ Good u H n ∧
  DenL G (fun a => B a ∨ a = x) H ds vs' ∧ DenL G (fun a => B a ∨ a = x) H fs xs ∧ S fs ds R ex ∧
  (∀ H' v xs' d fs', (∀ b o, H b = some o → b ≠ x → NU u b → H' b = some o) → Good u H' (n - c) → H' x = some (.ins (G.cl cid) dx ((G.fl cid).zip xs')) → xs'.length ≤ (G.fl cid).length → DenL G (fun a => B a ∨ a = x) H' fs' xs' → Den G (fun a => B a ∨ a = x) H' d v → R d fs' → Q v H') ∧
  (∀ y C d H', (∀ b o, H b = some o → b ≠ x → NU u b → H' b = some o) → Good u H' (n - c) → ExcIs G B H' y C d → ex y → E C d H')
structure MutX (G : Gd) (P : Program) (w : World) (mg : Str → Option Value) (base : Heap) (k : Nat) (f : Addr) (c cid : Nat) (S : XSpec) : Prop where
  run : ∀ (A : Around) (outer : List Env) (s : Shared) (H : Hp) (us : List Value) (vs : List V) (Q : VK) (E : XK), Room k A → A.guards = some [] → Env0 P w G.K mg base A outer s H → Vals vs us →
    liftX G c cid S vs H Q E → codeAny (model P w) A (.call (.ref f) ⟨us, []⟩) (CR (L2.CX P w) outer P w H s Q E) s
theorem MutX.mono {P : Program} {w : World} {mg : Str → Option Value} {base : Heap} {j k : Nat} {f : Addr} {c cid : Nat} {S : XSpec} (F : MutX G P w mg base j f c cid S) (h : j ≤ k) : MutX G P w mg base k f c cid S :=
  ⟨fun A outer s H us vs Q E hr => F.run A outer s H us vs Q E (hr.mono h)⟩
theorem wd_selfX {N : List Str} {vs : List V} {E : XK} {u : Option Ur} {n c cid : Nat} {B : Addr → Prop} {fs ds : List D} {ex : Exc → Prop} {x dx : Addr} {xs : List V} (hN : vs.length + 1 ≤ N.length) (hug : u = G.u) (hx : H x = some (.ins (G.cl cid) dx ((G.fl cid).zip xs))) (hxl : xs.length ≤ (G.fl cid).length) (bx : ¬ B x)
    (hu : ∀ p, Pr u p → B p.1 ∧ B p.2) (hB : ∀ a, B a → H a ≠ none) (hg : Good u H n) (hd : DenL G (fun a => B a ∨ a = x) H ds vs) (hf : DenL G (fun a => B a ∨ a = x) H fs xs)
    (hex : ∀ y C d H', (∀ b o, H b = some o → b ≠ x → NU u b → H' b = some o) → Good u H' (n - c) → ExcIs G B H' y C d → ex y → E C d H') :
    ∃ W : Wd G E (L2.start N (.ref x :: vs)) H, W.u = u ∧ W.n = n ∧ W.m = n - c ∧ W.B = B ∧ W.H0 = (fun b => if b = x then none else H b) ∧ W.env = envM N x dx cid fs ds ∧ W.ex = ex := by
  have hl := hd.length
  have h0 : ∀ b o, (if b = x then (none : Option HO) else H b) = some o → H b = some o ∧ b ≠ x := fun b o e => by
    by_cases hb : b = x
    · rw [if_pos hb] at e; cases e
    · rw [if_neg hb] at e; exact ⟨e, hb⟩
  have hmine : ∀ {i : Nat} {s : Sl}, (envM N x dx cid fs ds)[i]? = some s → s.mine = true → i = 0 := fun {i s} e hm => by
    rcases envM_get e with ⟨z, _⟩ | ⟨_, _, _, _, rfl⟩ | rfl
    · exact z
    · cases hm
    · cases hm
  refine ⟨{ u := u, n := n, m := n - c, B := B, H0 := fun b => if b = x then none else H b, env := envM N x dx cid fs ds, ex := ex, ug := hug, hu := hu, hB := fun a ha z => ?_, fr := fun b o e _ => (h0 b o e).1, good := hg, len := ?_, sl := ?_, nd := ?_, exc := fun y C d H' e g hy hq => hex y C d H' (fun b o eb nb nu => e b o (by show (if b = x then none else H b) = some o; rw [if_neg nb]; exact eb) nu) g hy hq }, rfl, rfl, rfl, rfl, rfl, rfl, rfl⟩
  · rw [if_neg (fun q : a = x => bx (by rw [← q]; exact ha))] at z
    exact hB a ha z
  · unfold envM L2.start
    simp only [List.length_append, List.length_map, List.length_replicate, List.length_cons]
    omega
  · intro i s e
    have sub : ∀ b, XBof B (envM N x dx cid fs ds) (L2.start N (.ref x :: vs)) b → B b ∨ b = x := fun b hb => by
      rcases hb with hb | ⟨j, t, e1, hm, e2⟩
      · exact .inl hb
      · have := hmine e1 hm
        subst this
        rw [start_get (i := 0) (v := .ref x) rfl] at e2
        cases e2
        exact .inr rfl
    rcases envM_get e with ⟨rfl, rfl⟩ | ⟨j, d, rfl, hdj, rfl⟩ | rfl
    · exact ⟨xs, by rw [start_get (i := 0) (v := .ref x) rfl]; rfl, if_pos rfl, hx, hxl, hf.fewer sub⟩
    · obtain ⟨y, hy, hdy⟩ := hd.get hdj
      exact ⟨y, by rw [start_get (i := j + 1) (v := y) (by simpa using hy)]; rfl, hdy.fewer sub⟩
    · trivial
  · intro i j a s t e1 e2 m1 m2 _ _
    rw [hmine e1 m1, hmine e2 m2]
/-- what is wanted at the body's ends -/
def endX (a dx : Addr) (cid : Nat) (R : D → List D → Prop) : DEnds := { nx := fun env => ∃ fs', env[0]? = some (.slf a dx cid fs') ∧ R .non fs', rt := fun d env => flatD d = true ∧ ∃ fs', env[0]? = some (.slf a dx cid fs') ∧ R d fs' }
/-- the body, once the arguments are bound -/
theorem body_x {N : List Str} {u : Option Ur} {n c cid : Nat} {B : Addr → Prop} {fs ds : List D} {R : D → List D → Prop} {ex : Exc → Prop} {a dx : Addr} {vs xs : List V} {Q : VK} {ts : DS}
    (hN : vs.length + 1 ≤ N.length) (hug : u = G.u) (hx : H a = some (.ins (G.cl cid) dx ((G.fl cid).zip xs))) (hxl : xs.length ≤ (G.fl cid).length) (bx : ¬ B a) (hc : c ≤ n)
    (hu : ∀ p, Pr u p → B p.1 ∧ B p.2) (hB : ∀ b, B b → H b ≠ none) (hg : Good u H n) (hd : DenL G (fun b => B b ∨ b = a) H ds vs) (hf : DenL G (fun b => B b ∨ b = a) H fs xs)
    (hq : ∀ H' v xs' d fs', (∀ b o, H b = some o → b ≠ a → NU u b → H' b = some o) → Good u H' (n - c) → H' a = some (.ins (G.cl cid) dx ((G.fl cid).zip xs')) → xs'.length ≤ (G.fl cid).length → DenL G (fun b => B b ∨ b = a) H' fs' xs' → Den G (fun b => B b ∨ b = a) H' d v → R d fs' → Q v H')
    (hex : ∀ y C d H', (∀ b o, H b = some o → b ≠ a → NU u b → H' b = some o) → Good u H' (n - c) → ExcIs G B H' y C d → ex y → E C d H')
    (hS : ts ex (endX a dx cid R) (envM N a dx cid fs ds)) : liftS G E c ts { nx := fun _ H' => Q .non H', rt := Q } (L2.start N (.ref a :: vs)) H := by
  obtain ⟨W, w1, w2, w3, w4, w5, w6, w7⟩ := wd_selfX (N := N) (E := E) (c := c) hN hug hx hxl bx hu hB hg hd hf hex
  have fin : ∀ {σ' : List (Option V)} {H' : Hp} (W' : Wd G E σ' H') {v : V} {d : D} {fs' : List D}, Later W c W' → W'.env[0]? = some (.slf a dx cid fs') → Den G (fun b => B b ∨ b = a) H' d v → R d fs' → Q v H' := fun {σ' H'} W' {v d fs'} lt h1 hdv h3 => by
    obtain ⟨ys, ea, h0, ha, hlx, hdx⟩ := W'.sl 0 _ h1
    have hG : Good u H' (n - c) := by have z := W'.good; rw [lt.u, w1] at z; exact z.less (by have := lt.n; rw [w2] at this; omega)
    refine hq H' v ys d fs' (fun b o e n1 nu => ?_) hG ha hlx (hdx.fewer fun b hb => ?_) hdv h3
    · have z := W'.fr b o (by rw [lt.H0, w5]; show (if b = a then none else H b) = some o; rw [if_neg n1]; exact e)
      rw [lt.u, w1] at z
      exact z nu
    · rcases hb with hb | rfl
      · exact .inl (by rw [lt.B, w4]; exact hb)
      · exact .inr ⟨0, _, h1, rfl, join_some ea⟩
  refine ⟨W, by rw [w2, w3]; omega, _, by rw [w6, w7]; exact hS, ?_, ?_, ?_, ?_⟩
  · intro σ' H' W' lt ⟨fs', h1, h3⟩
    exact fin W' lt h1 (d := .non) (v := .non) rfl h3
  · intro v σ' H' W' d lt hd' ⟨fl, fs', h1, h3⟩
    obtain ⟨ys, ea, h0, ha, _⟩ := W'.sl 0 _ h1
    refine fin W' lt h1 (Den.flat (fun b hb => ?_) d v fl hd') h3
    rcases hb with hb | rfl
    · exact .inl (by rw [w4]; exact hb)
    · exact .inr ⟨_, ha, fun _ z => (by cases z), fun _ _ z => (by cases z)⟩
  · intro σ' H' W' lt z; exact z.elim
  · intro σ' H' W' lt z; exact z.elim
theorem denL_split {B : Addr → Prop} : ∀ {d1 d2 : List D} {vs : List V}, DenL G B H (d1 ++ d2) vs → ∃ v1 v2, vs = v1 ++ v2 ∧ DenL G B H d1 v1 ∧ DenL G B H d2 v2
  | [], d2, vs, h => ⟨[], vs, rfl, rfl, h⟩
  | d :: d1, d2, vs, h => by
    obtain ⟨v, ws, rfl, h1, h2⟩ := h
    obtain ⟨v1, v2, rfl, h3, h4⟩ := denL_split h2
    exact ⟨v :: v1, v2, rfl, ⟨v, v1, rfl, h1, h3⟩, h4⟩
theorem pre_len {N ps : List Str} {sc : Scope} (Sc : FnScope N ps sc) : ps.length ≤ N.length := by
  have h1 := congrArg List.length Sc.pre
  rw [List.length_take] at h1
  omega
/-- THE RULE: a method that changes self and may raise; an __init__ of a base class, too -/
theorem mutx_of {P : Program} {w : World} {mg : Str → Option Value} {base : Heap} {f : Addr} {x qual : Str} {st : Stmt} {fd : FuncData} {N ps : List Str} {c cid : Nat} {S : XSpec} {ts : DS} (F : Fun G.K x qual st f fd) (Sc : FnScope N ps (defScope st)) (hbn : Binds G.K fd ps [])
    (hder : ∀ (cdv : Value) (A : Around) (outer : List Env) (s : Shared) (H : Hp) (E : XK), Room k (A.deeper (envOfC qual (defScope st) s.heap.objs.size f cdv)) → A.guards = some [] →
      DSs G E (cxOf (L2.CX P w) P w G.K mg base N qual (defScope st) f cdv A outer s H E) c (defBody st) ts)
    (hS : ∀ a dx fs ds R ex, fs.length ≤ (G.fl cid).length → S fs ds R ex → ds.length + 1 = ps.length ∧ ts ex (endX a dx cid R) (envM N a dx cid fs ds)) : MutX G P w mg base (k + 1) f c cid S := by
  constructor
  intro A outer s H us vs Q E hr hgd e0 rv hsp
  obtain ⟨u, n, B, fs, ds, R, ex, a, dx, vs', xs, hug, rfl, hx, hxl, bx, hux, hc, hu, hB, hg, hd, hf, hs, hq, hex⟩ := hsp
  obtain ⟨oc, od, kV, doc, pm, an, cdv, ct, osl, rfl, lk, hcd⟩ := F.ex; obtain ⟨hl, ht⟩ := hS a dx fs ds R ex (by rw [hf.length]; exact hxl) hs
  have hvl : (V.ref a :: vs').length = ps.length := by rw [List.length_cons, ← hd.length]; exact hl
  have KX : G.K.In s.heap := PySem.W.Frag.In.keeps e0.mod.kin (fun b o e => (e0.bs b o e).1)
  refine run_bnd lk hcd Sc hr e0 (G := fun xs H2 => xs = V.ref a :: vs' ∧ H2 = H) (fun A' Ex Q' h => ?_) fun s2 H2 xs2 ⟨e1, e2⟩ hr' => ?_
  · have z := hbn s us KX (by rw [List.append_nil, ← rv.length]; exact hvl)
    rw [List.append_nil] at z
    exact z _ _ _ _ (h s H _ us e0 Un.refl rfl (fun _ _ q => q) rv hvl ⟨rfl, rfl⟩)
  · subst e1; subst e2
    exact ⟨_, hder cdv A outer s2 H2 E hr' hgd, body_x (by have := pre_len Sc; rw [List.length_cons] at hvl; omega) hug hx hxl bx hc hu hB hg hd hf hq hex ht⟩
/-- .. with a star parameter: what is left over comes as a tuple -/
theorem mutx_star {P : Program} {w : World} {mg : Str → Option Value} {base : Heap} {f : Addr} {x qual : Str} {st : Stmt} {fd : FuncData} {N ps : List Str} {pv : Str} {c cid : Nat} {S : XSpec} {ts : DS} (F : Fun G.K x qual st f fd) (Sc : FnScope N (ps ++ [pv]) (defScope st))
    (hbn : ∀ us rest : List Value, us.length = ps.length → bindArgs fd ⟨us ++ rest, []⟩ = (newTuple rest >>= fun t => pure (ps.zip us ++ [(pv, t)])))
    (hder : ∀ (cdv : Value) (A : Around) (outer : List Env) (s : Shared) (H : Hp) (E : XK), Room k (A.deeper (envOfC qual (defScope st) s.heap.objs.size f cdv)) → A.guards = some [] →
      DSs G E (cxOf (L2.CX P w) P w G.K mg base N qual (defScope st) f cdv A outer s H E) c (defBody st) ts)
    (hS : ∀ a dx fs ds R ex, fs.length ≤ (G.fl cid).length → S fs ds R ex → ∃ d1 d2, ds = d1 ++ d2 ∧ d1.length + 1 = ps.length ∧ d2.length ≤ sizeLine ∧ ts ex (endX a dx cid R) (envM N a dx cid fs (d1 ++ [.tup d2]))) : MutX G P w mg base (k + 1) f c cid S := by
  constructor
  intro A outer s H us vs Q E hr hgd e0 rv hsp
  obtain ⟨u, n, B, fs, ds, R, ex, a, dx, vs', xs, hug, rfl, hx, hxl, bx, hux, hc, hu, hB, hg, hd, hf, hs, hq, hex⟩ := hsp
  obtain ⟨oc, od, kV, doc, pm, an, cdv, ct, osl, rfl, lk, hcd⟩ := F.ex; obtain ⟨d1, d2, rfl, hl, hz, ht⟩ := hS a dx fs ds R ex (by rw [hf.length]; exact hxl) hs
  obtain ⟨v1, v2, rfl, hd1, hd2⟩ : ∃ v1 v2, vs' = v1 ++ v2 ∧ DenL G (fun b => B b ∨ b = a) H d1 v1 ∧ DenL G (fun b => B b ∨ b = a) H d2 v2 := denL_split hd
  obtain ⟨u1, u2, eu, r1, r2⟩ := vals_split (ws := V.ref a :: v1) (rest := v2) rv
  subst eu
  have hn : H s.heap.objs.size = Option.none := e0.hok.fresh (Nat.le_refl _); have hvl : (V.ref a :: v1).length = ps.length := by rw [List.length_cons, ← hd1.length]; exact hl
  have hl1 : u1.length = ps.length := by rw [← r1.length]; exact hvl
  have hl2 : u2.length ≤ sizeLine := by rw [← r2.length, ← hd2.length]; exact hz
  have hz2 : v2.length ≤ sizeLine := by rw [← hd2.length]; exact hz
  refine run_bnd lk hcd Sc hr e0 (G := fun xs H2 => ∃ p, H p = Option.none ∧ xs = (V.ref a :: v1) ++ [V.ref p] ∧ H2 = upd H p (.tup v2)) (fun A' Ex Q' h => ?_) fun s2 H2 xs2 ⟨p, hp, e1, e2⟩ hr' => ?_
  · rw [hbn u1 u2 hl1]
    refine wpAny_bind (wpAny_newTuple (wpAny_pure ?_) hl2); have new : ObjOk P w (upd H s.heap.objs.size (.tup v2)) (s.heap.push ({ cls := .type "tuple", data := .seq u2.toArray } : Obj)) s.heap.objs.size (.tup v2) := ⟨hz2, u2, r2, ⟨_, Heap.get?_push_size _ rfl, rfl, _, rfl⟩⟩
    have un := un_laid (fs := frs outer) (s := s) (o := ({ cls := .type "tuple", data := .seq u2.toArray } : Obj)) (u := .tup v2) hn
    have z := h _ _ ((V.ref a :: v1) ++ [V.ref s.heap.objs.size]) (u1 ++ [Value.ref s.heap.objs.size]) (env0_laid e0 new) un rfl (fun e s' => cxUp outer s H _ _ E e s' un (fun b o q => Heap.get?_push_of_some _ q) rfl) (r1.append (.cons rfl .nil))
      (by rw [List.length_append, List.length_append, hvl]; rfl) ⟨_, hn, rfl, rfl⟩
    rw [List.zip_append hl1.symm] at z; exact z
  · subst e1; subst e2
    have nb : ¬ B p := fun z => hB p z hp
    have na : p ≠ a := fun z => by rw [z, hx] at hp; cases hp
    have nba : ¬ (B p ∨ p = a) := fun z => z.elim nb na
    have kp : ∀ b o, H b = some o → upd H p (.tup v2) b = some o := fun b o e => by rw [upd_ne (ne_of_none e hp)]; exact e
    refine ⟨_, hder cdv A outer s2 _ E hr' hgd, ?_⟩
    refine body_x (vs := v1 ++ [V.ref p]) (ds := d1 ++ [.tup d2]) (fs := fs) (xs := xs) (R := R) (ex := ex) (n := n) (B := B) (dx := dx) ?_ hug (kp _ _ hx) hxl bx hc hu (fun b hb z => hB b hb (by cases q : H b with
      | none => rfl
      | some o => rw [kp b o q] at z; cases z)) (hg.ext fun b o e _ => kp b o e) (DenL.append (denL_upd hp hd1) ⟨_, [], rfl, den_tup hp nba hz2 hd2, rfl⟩) (denL_upd hp hf) (fun H' v xs' d fs' fr g h1 h2 h3 h4 h5 => hq H' v xs' d fs' (fun b o e => fr b o (kp b o e)) g h1 h2 h3 h4 h5) (fun y C d H' fr => hex y C d H' (fun b o e => fr b o (kp b o e))) ht
    have z := pre_len Sc
    rw [List.length_append] at z
    rw [List.length_append]
    rw [List.length_cons] at hvl
    simp only [List.length_cons, List.length_nil] at z ⊢
    omega
/-- the frame's own thing in slot i is changed, others stay -/
theorem wd_afterX (W : Wd G E σ H) {c : Nat} {i : Nat} {a dx : Addr} {cid : Nat} {fs fs' : List D} {xs' : List V} (he : W.env[i]? = some (.slf a dx cid fs)) (hsi : σ[i]? = some (some (.ref a))) (hc : c ≤ W.n) (kp : ∀ b o, H b = some o → b ≠ a → NU W.u b → H' b = some o) (hg : Good W.u H' (W.n - c))
    (ha : H' a = some (.ins (G.cl cid) dx ((G.fl cid).zip xs'))) (hl : xs'.length ≤ (G.fl cid).length) (hd : DenL G W.XB H' fs' xs') : ∃ W' : Wd G E σ H', Later W c W' ∧ W'.env = W.env.set i (.slf a dx cid fs') ∧ ∀ b, W'.XB b → W.XB b := by
  have hil : i < W.env.length := (List.getElem?_eq_some_iff.mp he).1
  have xa : W.XB a := .inr ⟨i, _, he, rfl, hsi⟩
  obtain ⟨h0, oa, hoa⟩ := W.mine_at he rfl hsi
  have nB : ¬ W.B a := W.own_ne h0
  have xb : ∀ b, XBof W.B (W.env.set i (.slf a dx cid fs')) σ b → W.XB b := fun b hb => by
    rcases hb with hb | ⟨j, s, e1, m1, e2⟩
    · exact .inl hb
    · by_cases hj : i = j
      · subst hj
        exact .inr ⟨i, _, he, rfl, e2⟩
      · rw [List.getElem?_set_ne hj] at e1
        exact .inr ⟨j, s, e1, m1, e2⟩
  have kd : ∀ b o, ¬ W.XB b → H b = some o → H' b = some o := fun b o nb e => kp b o e (fun z => nb (by rw [z]; exact xa)) (W.nuX nb)
  have dk : ∀ {d : D} {v : V}, Den G W.XB H d v → Den G (XBof W.B (W.env.set i (.slf a dx cid fs')) σ) H' d v := fun {d v} h => (Den.keep kd (fun b hb => .inl hb) d v h).fewer xb
  have dkl : ∀ {ds : List D} {xs : List V}, DenL G W.XB H ds xs → DenL G (XBof W.B (W.env.set i (.slf a dx cid fs')) σ) H' ds xs := fun {ds xs} h => (DenL.keep kd (fun b hb => .inl hb) ds xs h).fewer xb
  refine ⟨{ u := W.u, n := W.n - c, m := W.m, B := W.B, H0 := W.H0, env := W.env.set i (.slf a dx cid fs'), ex := W.ex, ug := W.ug, hu := W.hu, hB := W.hB, fr := fun b o e nu => ?_, good := hg, len := by rw [List.length_set]; exact W.len, sl := fun j s e => ?_, nd := fun j l b s t e1 e2 m1 m2 e3 e4 => ?_, exc := W.exc }, ⟨rfl, rfl, rfl, rfl, rfl, by show W.n ≤ W.n - c + c; omega, kd, fun b hb => .inl (xb b hb)⟩, rfl, xb⟩
  · exact kp b o (W.fr b o e nu) (fun z => by rw [z, h0] at e; cases e) nu
  · by_cases hj : i = j
    · subst hj
      rw [List.getElem?_set_self hil] at e
      cases e
      rw [hsi]
      exact ⟨xs', rfl, h0, ha, hl, hd.fewer xb⟩
    · rw [List.getElem?_set_ne hj] at e
      have z := W.sl j s e
      have ow : ∀ b o, s.mine = true → σ[j]? = some (some (.ref b)) → H b = some o → H' b = some o := fun b o ms hb q => by
        refine kp b o q (fun z => ?_) (lend_un W (W.mine_at e ms hb).1)
        subst z
        exact hj (W.nd i j b _ s he e rfl ms hsi hb)
      cases s with
      | emp => trivial
      | val d => obtain ⟨x, e1, e2⟩ := z; exact ⟨x, e1, dk e2⟩
      | own b ds => obtain ⟨xs, e1, e2, e3, e4, e5⟩ := z; exact ⟨xs, e1, e2, ow b _ rfl (join_some e1) e3, e4, dkl e5⟩
      | slf b dx c ds => obtain ⟨xs, e1, e2, e3, e4, e5⟩ := z; exact ⟨xs, e1, e2, ow b _ rfl (join_some e1) e3, e4, dkl e5⟩
      | obj b o => obtain ⟨e1, e2, e3, e4⟩ := z; exact ⟨e1, e2, ow b _ rfl (join_some e1) e3, e4⟩
      | dic b ks es => obtain ⟨L, e1, e2, e3, e4, e5, e6⟩ := z; exact ⟨L, e1, e2, ow b _ rfl (join_some e1) e3, e4, e5.by dk, dkl e6⟩
  · have old : ∀ {j : Nat} {s : Sl}, (W.env.set i (.slf a dx cid fs'))[j]? = some s → s.mine = true → ∃ s', W.env[j]? = some s' ∧ s'.mine = true := fun {j s} e ms => by
      by_cases hj : i = j
      · subst hj; exact ⟨_, he, rfl⟩
      · rw [List.getElem?_set_ne hj] at e; exact ⟨s, e, ms⟩
    obtain ⟨s', f1, f2⟩ := old e1 m1
    obtain ⟨t', f3, f4⟩ := old e2 m2
    exact W.nd j l b s' t' f1 f3 f2 f4 e3 e4
theorem run_x {k : Nat} {f : Addr} {cf cid : Nat} {S : XSpec} {pins : List (Addr × Obj)} {s : Shared} {Q' : VK} {us : List Value} {vs : List V} {hK : X.K = G.K}
    (F : MutX G X.prog X.w X.mg X.base k f cf cid S) (hr : Room k X.A) (hgd : X.A.guards = some []) (hx : Passes (L2.CX X.prog X.w) X E) (I : Inv X pins σ H s) (r : Vals vs us)
    (h : liftX G cf cid S vs H Q' E) : codeAny (model X.prog X.w) X.A (.call (.ref f) ⟨us, []⟩) (fun r s' => match r with
      | .ok (.ret v) => EP X pins σ Q' v s'
      | .ok _ => False
      | .error e => X.xe e s') s := by
  have e0 : Env0 X.prog X.w G.K X.mg X.base X.A X.stack s H := by rw [← hK]; exact I.env0
  refine codeAny_mono (F.run X.A X.stack s H us vs Q' E hr hgd e0 r h) fun r s' hq => ?_
  cases r with
  | error e =>
        exact hx pins σ H s e s' I hq
  | ok fl =>
    cases fl with
    | ret u => exact I.after hq
    | next => exact hq.elim
    | brk => exact hq.elim
    | cont => exact hq.elim
theorem lift_x {W : Wd G E σ H} {c cf i cid : Nat} {H2 : Hp} {S : XSpec} {a dx : Addr} {fs as : List D} {xs vs : List V} {Q : D → List Sl → Prop} {Q' : VK} (st : Step W c H2) (hn : W.m + (c + cf) ≤ W.n) (he : W.env[i]? = some (.slf a dx cid fs)) (hsi : σ[i]? = some (some (.ref a)))
    (hat : H a = some (.ins (G.cl cid) dx ((G.fl cid).zip xs))) (hxs : DenL G W.XB H fs xs) (hfl : fs.length ≤ (G.fl cid).length) (has : DenL G W.XB H2 as vs) (hs : S fs as (fun d fs' => fs'.length ≤ (G.fl cid).length → Q d (W.env.set i (.slf a dx cid fs'))) W.ex)
    (kk : ∀ v H' d (W' : Wd G E σ H'), Later W (c + cf) W' → Den G W'.XB H' d v → Q d W'.env → Q' v H') : liftX G cf cid S (.ref a :: vs) H2 Q' E := by
  obtain ⟨h0, _⟩ := W.mine_at he rfl hsi
  have nB : ¬ W.B a := W.own_ne h0
  have xa : W.XB a := .inr ⟨i, _, he, rfl, hsi⟩
  have both : ∀ b, ((W.XB b ∧ b ≠ a) ∨ b = a) → W.XB b := fun b hb => hb.elim (fun z => z.1) fun z => by rw [z]; exact xa
  have both' : ∀ b, W.XB b → ((W.XB b ∧ b ≠ a) ∨ b = a) := fun b hb => by
    by_cases q : b = a
    · exact .inr q
    · exact .inl ⟨hb, q⟩
  have hxl : xs.length ≤ (G.fl cid).length := by rw [← hxs.length]; exact hfl
  refine ⟨W.u, W.n - c, fun b => W.XB b ∧ b ≠ a, fs, as, _, W.ex, a, dx, vs, xs, W.ug, rfl, st.ext a _ hat (lend_un W h0), hxl, fun z => z.2 rfl, fun p e => ⟨fun z => nB (by rw [z]; exact (W.hu p e).1), fun z => nB (by rw [z]; exact (W.hu p e).2)⟩, by omega, fun p e => ⟨⟨.inl (W.hu p e).1, fun z => nB (by rw [← z]; exact (W.hu p e).1)⟩, ⟨.inl (W.hu p e).2, fun z => nB (by rw [← z]; exact (W.hu p e).2)⟩⟩, fun b hb z => ?_, st.good, has.fewer both, (hxs.ext st.ext W.huX).fewer both, hs, fun H' v xs' d fs' kp g hx hl2 hd2 hdv hr => ?_, fun y C d H' kp g hx hy => ?_⟩
  · exact (W.next st).fresh z hb.1
  · have hd2' : DenL G W.XB H' fs' xs' := hd2.fewer fun b hb => both' b hb
    obtain ⟨W', l1, l2, l3⟩ := wd_afterX (c := cf) (W.next st) (i := i) (a := a) (dx := dx) (cid := cid) (fs := fs) (fs' := fs') he hsi (by show cf ≤ W.n - c; omega) kp g hx hl2 hd2'
    refine kk v H' d W' ((Later.next st).trans l1) (hdv.fewer fun b hb => both' b (l3 b hb)) ?_
    rw [l2]
    exact hr (by rw [hd2'.length]; exact hl2)
  · refine W.exc y C d H' (fun b o e nu => ?_) (g.less (by omega)) ?_ hy
    · exact kp b o (st.ext b o (W.fr b o e nu) nu) (fun z => by rw [z, h0] at e; cases e) nu
    · obtain ⟨e1, dd, xs2, e2, nd, e3, e4, e5⟩ := hx
      have low : ∀ b, W.B b → W.XB b ∧ b ≠ a := fun b hb => ⟨.inl hb, fun z => nB (by rw [← z]; exact hb)⟩
      exact ⟨e1, dd, xs2, e2, fun z => nd (low _ z), e3, e4, e5.fewer low⟩
/-- the __init__ of the class x, number c, run on a thing of the class number cid -/
structure Fbi (G : Gd) (P : Program) (w : World) (mg : Str → Option Value) (base : Heap) (k : Nat) (x : Str) (c cid : Nat) (cf : Nat) (S : XSpec) : Prop where
  ex : ∃ (f : Addr) (mc : Value), MutX G P w mg base k f cf cid S ∧ mg x = some (.ref (G.cl c)) ∧ ClX.CRead G.K (G.cl c) mc ∧ PySem.W.findCls G.K (.ref (G.cl c)) mc "__init__" = some (.val (.ref f)) ∧ PySem.W.keepIn G.K (.ref f) = true
def d2Base (G : Gd) (i cid : Nat) (S : XSpec) (u : DA) : DT2 := fun ex env Q => ∃ a dx fs, env[i]? = some (.slf a dx cid fs) ∧ fs.length ≤ (G.fl cid).length ∧ u ex env fun as => S fs as (fun d fs' => fs'.length ≤ (G.fl cid).length → Q d (env.set i (.slf a dx cid fs'))) ex
theorem d2_base {j i c cid ca cf : Nat} {x y : Str} {S : XSpec} {es : List Expr} {u : DA} {pos apos p p2 : Pos} {pl : Sem Bool} (F : Fbi G X.prog X.w X.mg X.base j x c cid cf S) (xk : Xk G E k X) (hN : X.N[i]? = some y) (ha : DEs G E X ca es u) (hj : j ≤ k := by decide)
    (hg : Gl X x := by rfl) (hdb : (x == ("__debug__" : Str)) = false := by decide)
    (hv : Vis X.env.scope y := by first | exact Or.inl rfl | exact Or.inr (Or.inl rfl) | exact Or.inr (Or.inr rfl)) (hd : (y == ("__debug__" : Str)) = false := by decide) (hcd : (y == ("__classdict__" : Str)) = false := by decide)
    (hst : starEach (.Name y p2 :: es) X.env = (false, eval (.Name y p2) X.env) :: starEach es X.env :=
          by rfl) (hpl : (backTo pos (starEach es X.env)).any (·.1) = false := by rfl)
    (ht : eval (.Call (.Attribute (.Name x p) "__init__"
      apos) (.Name y p2 :: es) [] pos) X.env = (do
        let ov ← eval (.Name x p) X.env
        standAt apos.atName
        let (f, first) ← holding
          [ov] (getMethod ov "__init__" pl)
        callWith pos f first (backTo pos (starEach (.Name y p2 :: es) X.env)) (backToKw pos (keywordEach [] X.env))) := by rfl) : DE2 G E X (ca + cf) (.Call (.Attribute (.Name x p) "__init__" apos) (.Name y p2 :: es) [] pos) (d2Base G i cid S u) := by
  obtain ⟨f, mc, hF0, hm, hr, hat0, hk⟩ := F.ex
  have hF := hF0.mono hj
  rw [← xk.K] at hr hat0 hk
  constructor
  intro pins s σ H Q' I h
  obtain ⟨W, hn, Q, ⟨a, dx, fs, he, hfl, hu⟩, kk⟩ := h
  obtain ⟨xs, hsi, hat, hl, hxs⟩ := lift_slf he
  refine PySem.W.methodCall_KW (pl := pl) (ld_glob I hg hm ?_ hdb) ht
  refine PySem.W.method_cls I.kIn hr.ga (ClX.getcval_ok (v := .ref f) (u := .ref f) I hr ⟨hat0, rfl⟩ fun s' I' => ?_)
  have args := (pa_cons (pe_var (X := X) (pos := p2) (i := i) hN hv hd hcd) ha hst).run pos pins s' σ H (fun vs H2 => liftX G cf cid S vs H2 Q' E) I' ⟨.ref a, hsi, W, by omega, _, hu, fun vs H2 as st2 has hs => lift_x st2 hn he hsi hat hxs hfl has hs kk⟩
  refine PySem.W.callWith_K (h₀ := X.base) I.ok.mod.kin hk (thn args fun us s1 ⟨vs, H1, I1, r1, q1⟩ => ⟨I1.kIn, wpAny_call ?_⟩) hst hpl
  exact run_x (hK := xk.K) hF xk.room xk.gd xk.pass I1 r1 q1
end
end Kn
set_option Elab.async false
set_option linter.all false
set_option maxRecDepth 100000
set_option maxHeartbeats 2100000
namespace Kn
open PySem L2 RZ
open PyProof.Rows (envOfC)
section
variable {G : Gd} {E : XK} {X : Cx} {σ : List (Option V)} {H H' : Hp} {k : Nat}
/-- a __bool__ that says b of each thing -/
def sSays (b : Bool) : FSpec := fun ds R _ => ∃ d, ds = [d] ∧ R (.bl b)
/-- the classes (numbers) with a __bool__ of their own, and what it says -/
structure Fbs (G : Gd) (P : Program) (w : World) (mg : Str → Option Value) (base : Heap) (k : Nat) (cs : List (Nat × Bool)) : Prop where
  ex : ∀ p ∈ cs, ∃ (f : Addr) (fd : FuncData) (ps : List Str), FnD G P w mg base k f fd ps 0 (sSays p.2) ∧ PySem.W.findIn G.K (.ref (G.cl p.1)) "__bool__" = some (some (.ref f)) ∧ PySem.W.isFn G.K (.ref f) = true ∧ Binds G.K fd ps [] ∧ ps.length = 1
/-- the truth itself, at any place that stands within the def -/
theorem truth_run {j c : Nat} {b : Bool} {cs : List (Nat × Bool)} {pins : List (Addr × Obj)} {s : Shared} {A' : Around} {a dx : Addr} {fs : List (Str × V)} {Q' : Bool → Hp → Prop} {Q : Bool → Shared → Prop} (F : Fbs G X.prog X.w X.mg X.base j cs) (xk : Xk G E k X) (hm : (c, b) ∈ cs) (rm : Room j A') (hgd : A'.guards = some [])
    (I : Inv X pins σ H s) (ha : H a = some (.ins (G.cl c) dx fs)) (e0 : Env0 X.prog X.w G.K X.mg X.base A' X.stack s H)
    (hl : liftF G 0 (sSays b) [.ref a] H (fun v H' => ∃ d, v = .bl d ∧ Q' d H') E)
    (h : ∀ d H' s', Q' d H' → Inv X pins σ H' s' → Q d s') : wpAny (model X.prog X.w) A' (truthy (.ref a)) Q X.xe s := by
  obtain ⟨f, fd, ps, hF, hs, hf, hbd, hp1⟩ := F.ex _ hm
  rw [← xk.K] at hs hf hbd
  obtain ⟨mA, J, _⟩ := ins_get I.hok ha; obtain ⟨od, J, _⟩ := J.look
  have hb : BindsTo s fd ⟨[.ref a], []⟩ (ps.zip [.ref a]) := by
    have z := hbd s [.ref a] I.kIn (by rw [List.append_nil]; exact hp1.symm)
    rw [List.append_nil] at z
    exact z
  unfold truthy
  refine wpAny_bind (m := callSpecial? (.ref a) (Str.ofString "__bool__")) (PySem.W.special_fn I.kIn J hs (beq_iff_eq.mp hf) (wpAny_call (codeAny_mono (hF.run A' X.stack s H ⟨[.ref a], []⟩ [.ref a] [.ref a] _ E rm hgd e0 hb (.cons rfl .nil) hp1.symm hl) fun r s' hq => ?_)))
  cases r with
  | error e => exact xk.pass pins σ H s e s' I hq
  | ok fl =>
    cases fl with
    | ret u =>
      obtain ⟨v, H', I', rv, ⟨d, ey, q⟩⟩ := I.after hq
      subst ey
      cases rv
      exact wpAny_pure (h d H' s' q I')
    | next => exact hq.elim
    | brk => exact hq.elim
    | cont => exact hq.elim
theorem bool_own {prog : Program} {w : World} {x : Value} : MeetsIn prog w (Builtin.«bool.__new__» ⟨[.type "bool", x], []⟩) (fun A R s => wpAny (model prog w) A.in1 (truthy x) (fun b s' => R (.ok (.ret (.bool b))) s') (fun e s' => R (.error e) s') s) :=
  .of_wp fun A R s hs => by
    have f1 := F.conv_sub_bool
    unfold Builtin.«bool.__new__»
    repeat (any_goals (first | assumption | (with_reducible refine wpAny_mono hs (fun b s' hb => ?_) fun _ _ z => z) | wp_step))
    all_goals first | exact ⟨_, rfl, hb⟩ | skip
def rBoolI (G : Gd) (E : XK) (cs : List (Nat × Bool)) : List V → Hp → VK → Prop := fun xs H Q' => ∃ a dx fs c b, xs = [.ref a] ∧ H a = some (.ins (G.cl c) dx fs) ∧ (c, b) ∈ cs ∧ liftF G 0 (sSays b) [.ref a] H (fun v H' => ∃ d, v = .bl d ∧ Q' (.bl d) H') E
theorem cr_boolI {j : Nat} {cs : List (Nat × Bool)} (F : Fbs G X.prog X.w X.mg X.base j cs) (xk : Xk G E k X) (hj : j + 2 ≤ k := by decide) : CallR X (.type "bool") (rBoolI G E cs) := by
  intro pins s σ H xs us Q I r h; obtain ⟨a, dx, fs, c, b, rfl, ha, hm, hl⟩ := h
  rw [Vals.ref1 r]
  have rm : Room j X.A.in1.in1 := (Room.in1 (Room.in1 (xk.room.mono hj)))
  have e0 : Env0 X.prog X.w G.K X.mg X.base X.A.in1.in1 X.stack s H := by
    have e := I.env0
    rw [← xk.K]
    exact ⟨e.frames, e.mod, e.bs, e.bsz, e.funs, e.frf, e.hok, e.bare⟩
  refine callType_newIn PySem.F.called_bool PySem.F.newNe_bool (PySem.F.typeCall_bool_1 _) (PySem.F.newCall_bool_1 _) (fun obj => PySem.F.args_object_init_2 obj _) PySem.F.entry_bool_new bool_own ?_
  exact truth_run F xk hm rm xk.gd I ha e0 (Q' := fun d H' => Q (.bl d) H') hl fun d H' s' q I' => ⟨rfl, .bl d, H', I', rfl, q⟩
def dBoolI (cs : List (Nat × Bool)) (te : DT) : DT := fun ex env Q => te ex env fun d => ∃ c ds b, d = .ins c ds ∧ (c, b) ∈ cs ∧ Q (.bl b)
theorem says_lift {W : Wd G E σ H} {c0 : Nat} {H1 : Hp} (st : Step W c0 H1) (hn : W.m + c0 ≤ W.n) {c : Nat} {ds : List D} {v : V} {b : Bool} {Q' : VK} (hd : Den G W.XB H1 (.ins c ds) v) (kk : ∀ H', Step W c0 H' → Q' (.bl b) H') : liftF G 0 (sSays b) [v] H1 Q' E :=
  lift_callee (c := c0) (cf := 0) st (by omega) (ds := [.ins c ds]) ⟨_, _, rfl, hd, rfl⟩ (Q := fun d => d = .bl b) ⟨_, rfl, rfl⟩ fun v H' d st3 hd3 e => by
    subst e
    cases hd3
    exact kk H' st3
theorem de_boolI {j ce : Nat} {cs : List (Nat × Bool)} {e : Expr} {te : DT} {p pos : Pos} (F : Fbs G X.prog X.w X.mg X.base j cs) (xk : Xk G E k X) (hm : X.mg "bool" = none) (he : DE G E X ce e te) (hj : j + 2 ≤ k := by decide) (hg : Gl X "bool" := by rfl)
    (hst : starEach [e] X.env = (false, eval e X.env) :: starEach [] X.env := by rfl) (hpl : (backTo pos (starEach [] X.env)).any (·.1) = false := by rfl) : DE G E X ce (.Call (.Name "bool" p) [e] [] pos) (dBoolI cs te) :=
  imp (pe_callTy (cr_boolI F xk hj) hg hm (by decide +kernel) (pa_cons he pa_nil hst) (by decide) (by decide) hst hpl) fun σ H Q' h => by
    obtain ⟨W, hn, Q, ht, kk⟩ := h
    refine ⟨W, by omega, _, ht, fun v H1 d st hd ⟨c, ds, b, e1, hb, hq⟩ => ?_⟩
    subst e1
    have hd0 := hd
    obtain ⟨a, dx, xs, rfl, na, ha, la, da⟩ := hd
    exact ⟨a, dx, _, c, b, rfl, ha, hb, says_lift st hn hd0 fun H' st3 => ⟨b, rfl, kk _ H' (.bl b) st3 (den_bl _) hq⟩⟩
end
end Kn
set_option Elab.async false
set_option linter.all false
set_option maxRecDepth 100000
set_option maxHeartbeats 2100000
namespace Kn
open PySem L2 RZ
section
variable {G : Gd} {E : XK} {X : Cx} {σ : List (Option V)} {H H' : Hp} {k : Nat}
def sSwap (i : Nat) (ta tb : DT) (u : DA) : DS := fun ex de env => u ex env fun ds => ∃ (v w : Int), ds = [.int v, .int w] ∧ ∃ a es, env[i]? = some (.own a es) ∧ ta ex env fun x => ∃ j n, x = .int j ∧ ixN es.length j = some n ∧
  tb ex (env.set i (.own a (es.set n (.int v)))) fun y => ∃ j2 n2, y = .int j2 ∧ ixN es.length j2 = some n2 ∧ de.nx ((env.set i (.own a (es.set n (.int v)))).set i (.own a ((es.set n (.int v)).set n2 (.int w))))
theorem ds_swap {i : Nat} {x : Str} {ea eb va vb : Expr} {p1 p2 q1 q2 pt pos pt2 : Pos} {kt k2 : Nat} {c c1 c2 : Nat} {ta tb : DT} {u : DA} (hK : X.K = G.K) (hc : X.calm = true) (hN : X.N[i]? = some x) (hu : DEs G E X c [va, vb] u) (ha : DE G E X c1 ea ta) (hb : DE G E X c2 eb tb)
    (hv : Vis X.env.scope x := by first | exact Or.inl rfl | exact Or.inr (Or.inl rfl) | exact Or.inr (Or.inr rfl)) (hd : (x == ("__debug__" : Str)) = false := by decide) (hcd : (x == ("__classdict__" : Str)) = false := by decide)
    (h1 : ∀ v, assign (.Subscript (.Name x p1) ea q1) X.env v = (do
      let ov ← holding [v] (eval (.Name x p1) X.env)
      let iv ← holding [v, ov] (eval ea X.env)
      standAt q1
      holding [v, ov, iv]
        (setItem ov iv v)
      release [v, ov, iv] []) := by intro _; rfl)
    (h2 : ∀ v, assign (.Subscript (.Name x p2) eb q2) X.env v = (do
      let ov ← holding [v] (eval (.Name x p2) X.env)
      let iv ← holding [v, ov] (eval eb X.env)
      standAt q2
      holding [v, ov, iv]
        (setItem ov iv v)
      release [v, ov, iv] []) := by intro _; rfl)
    (hs : swapsWithSole [.Tuple [.Subscript (.Name x p1) ea q1, .Subscript (.Name x p2) eb q2] kt pt] (.Tuple [va, vb] k2 pt2) pos.line X.env = pure false := by rfl)
    (hw : swappedStores [.Tuple [.Subscript (.Name x p1) ea q1, .Subscript (.Name x p2) eb q2] kt pt] (.Tuple [va, vb] k2 pt2) X.env = pure none := by with_unfolding_all rfl)
    (hst : (assignEach [.Subscript (.Name x p1) ea q1, .Subscript (.Name x p2) eb q2] X.env).findIdx? (·.1) = none := by rfl) (hln : (assignEach [.Subscript (.Name x p1) ea q1, .Subscript (.Name x p2) eb q2] X.env).length = 2 := by rfl)
    (hm1 : (assignEach [.Subscript (.Name x p1) ea q1, .Subscript (.Name x p2) eb q2] X.env).map (·.2) = assign (.Subscript (.Name x p1) ea q1) X.env :: (assignEach [.Subscript (.Name x p2) eb q2] X.env).map (·.2) := by rfl)
    (hm2 : (assignEach [.Subscript (.Name x p2) eb q2] X.env).map (·.2) = assign (.Subscript (.Name x p2) eb q2) X.env :: (assignEach [] X.env).map (·.2) := by rfl)
    (ht1 : (assignEach [.Tuple [.Subscript (.Name x p1) ea q1, .Subscript (.Name x p2) eb q2] kt pt] X.env).map (·.2) = [assign (.Tuple [.Subscript (.Name x p1) ea q1, .Subscript (.Name x p2) eb q2] kt pt) X.env] := by rfl) :
    DSt G E X (c + c1 + c2) (.Assign [.Tuple [.Subscript (.Name x p1) ea q1, .Subscript (.Name x p2) eb q2] kt pt] (.Tuple [va, vb] k2 pt2) pos) (sSwap i ta tb u) :=
  impS (ps_asg (pe_tup hu) (pg_tup (n := 2) hc (pgs_cons (pg_sub (pe_var (i := i) hN hv hd hcd) ha set_list h1) (pgs_cons (pg_sub (pe_var (i := i) hN hv hd hcd) hb set_list h2) pgs_nil hm2) hm1) hln hst) hs hw ht1) fun Dn σ H h => by
    obtain ⟨W, hn, de, ht, k1, k2', k3, k4⟩ := h
    refine ⟨W, by omega, _, ht, fun vs H1 ds st hdv ⟨v, w, e1, a, es, hei, hq⟩ => ⟨by rw [← hdv.length, e1, sizeLine_eq]; simp, fun p hp => ?_⟩⟩
    subst e1
    obtain ⟨y1, y2, rfl, d1, d2⟩ := denL2 hdv
    have st1 := st.new (o := .tup [y1, y2]) hp
    have hd1 : Den G W.XB (upd H1 p (.tup [y1, y2])) (.int v) y1 := den_upd hp d1
    have hd2 : Den G W.XB (upd H1 p (.tup [y1, y2])) (.int w) y2 := den_upd hp d2
    obtain ⟨xs, hsi, h0, hao, hl, hds⟩ := lift_own (W := W.next st1) hei
    refine ⟨p, [y1, y2], rfl, by rw [hK]; exact .inl (.inl upd_same), rfl, y1, [y2], rfl, .ref a, hsi, W.next st1, by show W.m + c1 ≤ W.n - c; omega, _, hq, fun v2 H2 e2 st2 hv2 ⟨j, n, e3, hj, hq2⟩ => ?_⟩
    subst e3
    have ha2 : H2 a = some (.lst xs) := st2.ext a _ hao (W.nu h0)
    have el := hds.length
    obtain ⟨W', l1, l2⟩ := own_step (xs := xs) (ys := xs.set n y1) (es := es.set n (.int v)) (st1.trans st2) (W := W) hei hsi h0 (by rw [List.length_set]; exact hl) ((hds.ext st2.ext (W.next st1).huX).set n ((W.next st1).den st2 hd1))
    refine ⟨a, xs, j, n, rfl, hv2, ha2, by rw [← el]; exact hj, ?_⟩
    cases hd2
    cases hd1
    have he2 : W'.env[i]? = some (.own a (es.set n (.int v))) := by rw [l2, List.getElem?_set_self (List.getElem?_eq_some_iff.mp hei).1]
    obtain ⟨xs2, hsi2, h02, hao2, hl2, hds2⟩ := lift_own (W := W') he2
    rw [upd_same] at hao2
    cases hao2
    rw [← l2, ← show W'.ex = W.ex from l1.ex] at hq2
    refine ⟨.int w, [], rfl, .ref a, hsi, W', by have := l1.n; have e1 := l1.m; omega, _, hq2, fun v3 H3 e4 st3 hv3 ⟨j2, n2, e5, hj2, hq3⟩ => ?_⟩
    subst e5
    have ha3 : H3 a = some (.lst (xs.set n (.int v))) := st3.ext a _ upd_same (W'.nu h02)
    obtain ⟨W2, m1, m2⟩ := own_step (xs := xs.set n (.int v)) (ys := (xs.set n (.int v)).set n2 (.int w)) (es := (es.set n (.int v)).set n2 (.int w)) st3 (W := W') he2 hsi h02 (by rw [List.length_set, List.length_set]; exact hl) ((hds2.ext st3.ext W'.huX).set n2 (den_int w))
    refine ⟨a, xs.set n (.int v), j2, n2, rfl, hv3, ha3, by rw [List.length_set, ← el]; exact hj2, rfl, ?_⟩
    exact k1 σ _ W2 ((l1.trans m1).more (by omega)) (by rw [m2]; exact hq3)
end
end Kn
set_option Elab.async false
set_option linter.all false
set_option maxRecDepth 100000
set_option maxHeartbeats 2100000
namespace Kn
open PySem PySem.Spec PyProof.Rows L2 RZ
section
variable {G : Gd} {E : XK} {X : Cx} {σ : List (Option V)} {H H' : Hp} {k : Nat} {tg : Expr}
theorem cr_range1 : CallR X (.type "range") (fun vs H Q => ∃ j, vs = [V.int j] ∧ ∀ p, H p = none → Q (.ref p) (upd H p (.rng 0 j))) := by
  intro pins s σ H vs us Q I r h; obtain ⟨j, rfl, q⟩ := h
  obtain ⟨u1, rfl, t, rfl⟩ := vals1 r
  exact call_range_1 ⟨.ref s.heap.objs.size, upd H s.heap.objs.size (.rng 0 j), I.laid (t' := s.toks + 1 + 1) (fun b o e => Heap.get?_push_of_some _ e) (Nat.le_refl _) ⟨s.toks, t, s.toks + 1, Heap.get?_push_size _ rfl⟩, rfl, q _ (I.hok.fresh (Nat.le_refl _))⟩
/-- a range object that is there already, walked -/
theorem rng_walk {pins : List (Addr × Obj)} {s : Shared} {R : It → Hp → Prop} {Er : Value → Shared → Prop} {a : Addr} {lo hi : Int} (I : Inv X pins σ H s) (ha : H a = some (.rng lo hi)) (h1 : -(2 ^ 62) ≤ lo) (h2 : lo < 2 ^ 62) (h3 : -(2 ^ 62) ≤ hi) (h4 : hi < 2 ^ 62)
    (q : R (Itr lo (hi - lo).toNat) H) : wpAny (model X.prog X.w) X.A (pyIter (.ref a)) (PIE X pins σ tg R) Er s := by
  obtain ⟨t, u, v, ho⟩ := (show ObjOk X.prog X.w H s.heap a (.rng lo hi) from I.hok a _ ha)
  refine wpAny_pyIter_range (show IsRange s.heap a lo hi 1 t u v from ho) (small_one h1 h2 h3 h4) ?_
  refine ⟨s.heap.objs.size, [s.heap.objs.size], _, _, H, rfl, I.kept (t' := s.toks) fun b o e => Heap.get?_push_of_some _ e, turn_range _ lo (hi - lo).toNat, ?_, fun b hb => ?_, q⟩
  · have e1 : lo + ((0 : Nat)
        : Int) * 1 = lo := by simp
    have e2 : (((hi - lo).toNat : Nat) : Int) - ((0 : Nat) : Int) =
          Builtin.Range.rangeSize lo hi 1 := by rw [rangeSize_one]; split <;> omega
    show IsRangeIter _ _ (lo + ((0 : Nat) : Int) * 1) ((((hi - lo).toNat : Nat) : Int) - ((0 : Nat) : Int)) 1; rw [e1, e2]; exact Heap.get?_push_size _ rfl
  · have e : b = s.heap.objs.size := by simpa using hb
    subst e; exact I.fpOk (Nat.le_refl _) (I.hok.fresh (Nat.le_refl _))
/-- x = range(e) -/
def sRng (i : Nat) (te : DT) : DS := fun ex de env => te ex env fun d => ∃ j : Int, d = .int j ∧ ∀ a, de.nx (env.set i (.obj a (.rng 0 j)))
theorem ds_rng {i : Nat} {x : Str} {e : Expr} {p pos pos' cpos : Pos} {c : Nat} {te : DT} (hN : X.N.Nodup) (hi : X.N[i]? = some x) (hx : Loc X.env.scope x) (hm : X.mg "range" = none) (he : DE G E X c e te) (hg : Gl X "range" := by rfl)
    (hst : starEach [e] X.env = (false, eval e X.env) :: starEach [] X.env := by rfl) (hpl : (backTo cpos (starEach [] X.env)).any (·.1) = false := by rfl)
    (hs : swapsWith (.Call (.Name "range" p) [e] [] cpos) (some (.Name x pos')) pos.line X.env = pure false := by rfl) (hf : X.fn x = true ∨ X.env.scope.names.lookup x = some .local := by first | exact .inl rfl | exact .inr rfl) :
    DSt G E X c (.Assign [.Name x pos'] (.Call (.Name "range" p) [e] [] cpos) pos) (sRng i te) :=
  impS (ps_set hN hi hx (pe_callTy cr_range1 hg hm (by decide +kernel) (pa_cons he pa_nil hst) (by decide) (by decide) hst hpl) hs hf) fun Dn σ H h => by
    obtain ⟨W, hn, de, ht, k1, k2, k3, k4⟩ := h
    refine ⟨W, hn, _, ht, fun v H1 d st hd ⟨j, e1, hq⟩ => ?_⟩
    subst e1
    cases hd
    refine ⟨j, rfl, fun p hp => ?_⟩
    have hp0 : H p = none := by
      cases q : H p with
      | none => rfl
      | some o =>
        exfalso
        by_cases nu : NU W.u p
        · rw [st.ext p o q nu] at hp; cases hp
        · exact (W.next st).fresh hp (by
            by_cases z : W.XB p
            · exact z
            · exact absurd (W.nuX z) nu)
    obtain ⟨W', l1, l2⟩ := wd_ownO W (c := c) (st.new hp) (i := i) (o := .rng 0 j) hp0 upd_same (fun q z => by unfold LamX.CodeO at z; cases z)
    exact k1 _ _ W' l1 (by rw [l2]; exact hq p)
/-- for .. in x, x such a name -/
def iRngV (i : Nat) : DA := fun ex env Q => ∃ a j, env[i]? = some (.obj a (.rng 0 j)) ∧ j ≤ 16777216 ∧ -(2 ^ 62) ≤ j ∧ Q (rangeD 0 j.toNat)
theorem di_rngV {i : Nat} {x : Str} {p : Pos} (hN : X.N[i]? = some x) (hv : Vis X.env.scope x := by first | exact Or.inl rfl | exact Or.inr (Or.inl rfl) | exact Or.inr (Or.inr rfl)) (hd : (x == ("__debug__" : Str)) = false := by decide) (hcd : (x == ("__classdict__" : Str)) = false := by decide) :
    DI G E X tg 0 (.Name x p) (iRngV i) := by
  refine ⟨fun pins s σ H R I h => ?_⟩; obtain ⟨W, hn, Q, ⟨a, j, he, h1, h2, hq⟩, kk⟩ := h
  obtain ⟨hsi, h0, ha⟩ := lift_obj he
  refine thn ((pe_var (X := X) (pos := p) (i := i) hN hv hd hcd).run pins s σ H (fun y H1 => y = .ref a ∧ H1 = H) I ⟨.ref a, hsi, rfl, rfl⟩) fun v s1 ⟨y, H1, I1, r1, e1, e2⟩ => ?_
  subst e1; subst e2
  cases r1
  have hs := sizeLine_eq
  refine rng_walk I1 ha (by omega) (by omega) h2 (by omega) (kk _ H1 _ (Step.refl W) (walks_rng ?_) ?_)
  · omega
  · rw [Int.sub_zero]; exact hq
end
end Kn
set_option Elab.async false
set_option linter.all false
set_option maxRecDepth 100000
set_option maxHeartbeats 2100000
namespace Kn
open PySem L2 RZ
open PyProof.Rows (envOfC)
section
variable {G : Gd} {E : XK} {X : Cx} {σ : List (Option V)} {H H' : Hp} {k : Nat}
theorem de_make0 {j : Nat} {x : Str} {cid : Nat} {ps : List Str} {cf : Nat} {S : FSpec} {p pos : Pos} (F : Fc G X.prog X.w X.mg X.base j x cid ps cf S) (xk : Xk G E k X) (hl : ps.length = 1 := by rfl) (hj : j + 1 ≤ k := by decide) (hg : Gl X x := by rfl) (hdb : (x == ("__debug__" : Str)) = false := by decide) :
    DE G E X cf (.Call (.Name x p) [] [] pos) (dCall 0 S aNil) := by
  obtain ⟨f, fd, hF, hm, M, hb, hps⟩ := F.ex
  rw [← xk.K] at M hb
  have room1 : Room (j + 1) X.A := xk.room.mono hj
  constructor
  intro pins s σ H Q' I h
  obtain ⟨W, hn, Q, ht, kk⟩ := h
  obtain ⟨_, hs⟩ := ht
  refine wpAny_Call_Name_kw (ld_glob I hg hm ?_ hdb); refine PySem.W.callWith_K0 I.kIn M.kp ?_
  obtain ⟨us, eus⟩ : ∃ us : List Value, us = [] := ⟨_, rfl⟩
  obtain ⟨vs, evs⟩ : ∃ vs : List V, vs = [] := ⟨_, rfl⟩
  obtain ⟨ds, eds⟩ : ∃ ds : List D, ds = [] := ⟨_, rfl⟩
  suffices hz : wpAny (model X.prog X.w) X.A (call (.ref (G.cl cid)) us []) (EP X pins σ Q') X.xe s by rw [eus] at hz; exact hz
  rw [← eds] at hs
  have hd : DenL G W.XB H ds vs := by rw [eds, evs]; rfl
  have r1 : Vals vs us := by rw [evs, eus]; exact .nil
  have hl : vs.length = ps.length - 1 := by rw [evs, hl]; rfl
  have st : Step W 0 H := Step.refl W
  have I1 := I
  have f0 : H s.heap.objs.size = none := I1.hok.fresh (Nat.le_refl _)
  have f1 : H (s.heap.objs.size + 1) = none := I1.hok.fresh (Nat.le_succ _)
  have I2 := Inv.made (C := G.cl cid) I1
  have nx : s.heap.objs.size ≠ s.heap.objs.size + 1 := Nat.ne_of_lt (Nat.lt_succ_self _)
  have W1 := W.next st
  have bnd : ∀ b o, H b = some o → upd (upd H s.heap.objs.size (.own (s.heap.objs.size + 1))) (s.heap.objs.size + 1) (.ins (G.cl cid) s.heap.objs.size []) b = some o := fun b o e => by
    rw [upd_ne (ne_of_none e f1), upd_ne (ne_of_none e f0)]; exact e
  have hs' : liftN G cf cid S (.ref (s.heap.objs.size + 1) :: vs) (upd (upd H s.heap.objs.size (.own (s.heap.objs.size + 1))) (s.heap.objs.size + 1) (.ins (G.cl cid) s.heap.objs.size [])) (fun v H2 => v = .non ∧ Q' (.ref (s.heap.objs.size + 1)) H2) E := by
    refine ⟨W.u, W.n - 0, W.XB, ds, Q, W.ex, _, s.heap.objs.size, vs, W.ug, rfl, upd_same, Ne.symm nx, (W.next st).fresh f1, (W.next st).fresh f0, fun p e => ?_, by omega, fun p e => ⟨.inl (W.hu p e).1, .inl (W.hu p e).2⟩, fun a ha z => ?_, ?_, ?_, hs, fun H' xs ds' kp g hx hl2 hd2 hr => ⟨rfl, ?_⟩, fun y C d H' kp g hx hy => ?_⟩
    · have n1 : ¬ W.XB (s.heap.objs.size + 1) := (W.next st).fresh f1
      have n0 : ¬ W.XB s.heap.objs.size := (W.next st).fresh f0
      exact ⟨fun z => n1 (by rw [z]; exact .inl (W.hu p e).1), fun z => n1 (by rw [z]; exact .inl (W.hu p e).2), fun z => n0 (by rw [z]; exact .inl (W.hu p e).1), fun z => n0 (by rw [z]; exact .inl (W.hu p e).2)⟩
    · cases q : H a with
      | none => exact (W.next st).fresh q ha
      | some o => rw [bnd a o q] at z; cases z
    · refine Good.ext st.good fun b o e _ => bnd b o e
    · refine DenL.keep (fun b o nb e => bnd b o e) (fun b hb => ?_) ds vs hd
      rcases hb with hb | rfl | rfl
      · exact .inl hb
      · exact .inr f1
      · exact .inr f0
    · refine kk _ H' (.ins cid ds') ⟨fun b o e nu => ?_, by rw [Nat.sub_zero] at g; exact g⟩ ⟨_, _, xs, rfl, (W.next st).fresh f1, hx, hl2, hd2⟩ hr
      have e1 := st.ext b o e nu
      exact kp b o (bnd b o e1) (ne_of_none e1 f1) (ne_of_none e1 f0) nu
    · refine W.exc y C d H' (fun b o e nu => ?_) (g.less (by omega)) ?_ hy
      · have e1 := (W.fr.trans st.ext) b o e nu
        exact kp b o (bnd b o e1) (ne_of_none e1 f1) (ne_of_none e1 f0) nu
      · obtain ⟨e1, dd, xs, e2, nd, e3, e4, e5⟩ := hx
        exact ⟨e1, dd, xs, e2, fun z => nd (.inl z), e3, e4, e5.fewer fun b z => .inl z⟩
  have hlen2 : (V.ref (s.heap.objs.size + 1) :: vs).length = ps.length := by rw [List.length_cons, hl]; omega
  refine wpAny_call (make_map (f := f) I1.kIn M.makes M.init (beq_iff_eq.mp M.fn) (codeAny_mono (hF.run _ X.stack _ _ ⟨.ref (s.heap.objs.size + 1) :: us, []⟩ (.ref (s.heap.objs.size + 1) :: us) (.ref (s.heap.objs.size + 1) :: vs) _ E (room1.make (G.cl cid) us []) (guards_make.trans xk.gd) (by rw [← xk.K]; exact I2.env0.make (G.cl cid) us []) ?_ (.cons rfl r1) hlen2 hs') ?_))
  · have z := hb { s with heap := (s.heap.push PySem.W.emptyDict).push (PySem.W.instObj (G.cl cid) s.heap.objs.size) } (.ref (s.heap.objs.size + 1) :: us) I2.kIn (by rw [List.append_nil, List.length_cons, ← r1.length, hl]; omega)
    rw [List.append_nil] at z
    exact z
  · intro r s' hq
    cases r with
    | error e => exact xk.pass pins σ _ _ e s' I2 hq
    | ok fl =>
      cases fl with
      | ret u =>
        obtain ⟨v, H', I3, rv, ev, q3⟩ := I2.after hq
        subst ev; exact ⟨rv, ⟨V.ref (s.heap.objs.size + 1), H', I3, rfl, q3⟩⟩
      | next => exact hq.elim
      | brk => exact hq.elim
      | cont => exact hq.elim
end
end Kn
set_option Elab.async false
set_option linter.all false
set_option maxRecDepth 100000
set_option maxHeartbeats 2100000
namespace Kn
open PySem L2 RZ
section
variable {G : Gd} {E : XK} {X : Cx} {σ : List (Option V)} {H H' : Hp} {k : Nat}
structure GDK (K : PySem.W.Frag) (P : Params) (t : Addr) : Prop where
  ob : ∃ es n, K.lookup t = some ⟨.type "dict", none, .dict es n, #[]⟩ ∧ PySem.W.KeysLit P es.toList
  ns : (t == sysModules) = false
theorem op_niG : OpR X (compareOp .NotIn) (fun x y H Q => ∃ m t r, x = V.str m ∧ y = V.ref t ∧ GDK X.K X.w.params t ∧ PySem.W.nsIn X.K t m = some r ∧ Q (.bl (!r.isSome)) H) := by
  intro pins s σ H x y v u Q I rx ry h; obtain ⟨m, t, r, rfl, rfl, g, e, q⟩ := h
  obtain ⟨tk, rfl⟩ := rx
  cases ry
  obtain ⟨⟨es, n, hl, hk⟩, hd⟩ := g
  refine wpAny_notIn_of (strKind_is _ _ _ _) hd (PySem.W.mapOf_K I.kIn hl hk) ?_
  rw [PySem.W.find_K hl e]; exact ⟨.bl (!r.isSome), H, I.tok _, rfl, q⟩
/-- the module's dict x: some of its keys (texts), the ints there -/
structure GDct (G : Gd) (w : World) (mg : Str → Option Value) (x : Str) (ks : List (Str × Int)) : Prop where
  ex : ∃ t, mg x = some (.ref t) ∧ GDK G.K w.params t ∧ ∀ p ∈ ks, ∃ tk, PySem.W.nsIn G.K t p.1 = some (some (.int p.2 tk))
def dGIn (ks : List (Str × Int)) (b : Bool) (te : DT) : DT := fun ex env Q => te ex env fun d => ∃ m i, d = .str m ∧ (m, i) ∈ ks ∧ Q (.bl b)
theorem dt_gni {x : Str} {e : Expr} {c : Nat} {te : DT} {ks : List (Str × Int)} {p pos : Pos} (D : GDct G X.w X.mg x ks) (hK : X.K = G.K) (he : DE G E X c e te) (hg : Gl X x := by rfl) (hdb : (x == ("__debug__" : Str)) = false := by decide) (hm : behindInMarks .NotIn (.Name x p) = false := by rfl) :
    DPt G E X c (.Compare e [.NotIn] [.Name x p] pos) (dTrue (dGIn ks false te)) := by
  obtain ⟨t, hmg, g, hks⟩ := D.ex
  refine impT (pt_cmpR op_niG he (pe_glob (v := .ref t) hg hmg rfl hdb) hm) fun σ H Q' h => ?_
  obtain ⟨W, hn, Q, ht, kk⟩ := lift_true h
  refine ⟨W, hn, _, ht, fun v H1 d st hd ⟨m, i, e1, hmem, hq⟩ => ?_⟩
  subst e1
  cases hd
  obtain ⟨tk, e2⟩ := hks _ hmem
  exact ⟨m, t, _, rfl, rfl, by rw [hK]; exact g, by rw [hK]; exact e2, kk _ H1 (.bl false) st (den_bl _) hq⟩
def dGGet (ks : List (Str × Int)) (te : DT) : DT := fun ex env Q => te ex env fun d => ∃ m i, d = .str m ∧ (m, i) ∈ ks ∧ Q (.int i)
theorem de_gget {x : Str} {e : Expr} {c : Nat} {te : DT} {ks : List (Str × Int)} {p pos : Pos} (D : GDct G X.w X.mg x ks) (hK : X.K = G.K) (he : DE G E X c e te) (hs : PlainIx e) (hg : Gl X x := by rfl) (hdb : (x == ("__debug__" : Str)) = false := by decide) :
    DE G E X c (.Subscript (.Name x p) e pos) (dGGet ks te) := by
  obtain ⟨t, hmg, g, hks⟩ := D.ex
  refine imp (pe_ix ix_kdict (pe_glob (v := .ref t) hg hmg rfl hdb) he hs) fun σ H Q' h => ?_
  obtain ⟨W, hn, Q, ht, kk⟩ := h
  refine ⟨W, hn, _, ht, fun v H1 d st hd ⟨m, i, e1, hmem, hq⟩ => ?_⟩
  subst e1
  cases hd
  obtain ⟨tk, e2⟩ := hks _ hmem
  obtain ⟨⟨es, n, hl, hk⟩, _⟩ := g
  exact ⟨t, m, .int i, rfl, rfl, ⟨es, n, _, by rw [hK]; exact hl, hk, by rw [hK]; exact e2, ⟨tk, rfl⟩⟩, kk _ H1 (.int i) st (den_int _) hq⟩
end
end Kn
set_option Elab.async false
set_option linter.all false
set_option maxRecDepth 100000
set_option maxHeartbeats 2100000
namespace Kn
open PySem L2 RZ
section
variable {G : Gd} {E : XK} {X : Cx} {σ : List (Option V)} {H H' : Hp} {k : Nat}
def sParVD (i j : Nat) (te : DT) : DS := fun ex de env => te ex env fun d => ∀ a, de.nx ((env.set i (.val d)).set j (.dic a [] []))
theorem ds_parVD {i j : Nat} {x y : Str} {a : Expr} {te : DT} {c : Nat} {px py pt pos lpos : Pos} {kt k2 pt2} (hc : X.calm = true) (hN : X.N.Nodup) (hi : X.N[i]? = some x) (hj : X.N[j]? = some y) (hij : i ≠ j)
    (hx : X.env.scope.names.lookup x = some .local) (hy : X.env.scope.names.lookup y = some .local) (ha : DE G E X c a te) (hs1 : starEach [a, .Dict [] [] lpos] X.env = (false, eval a X.env) :: starEach [.Dict [] [] lpos] X.env := by rfl) (hs2 : starEach [.Dict [] [] lpos] X.env = (false, eval (.Dict [] [] lpos) X.env) :: starEach [] X.env := by rfl)
    (hw : swappedStores [.Tuple [.Name x px, .Name y py] kt pt] (.Tuple [a, .Dict [] [] lpos] k2 pt2) X.env = pure (some [x, y]))
    (hs : swapsWithSole [.Tuple [.Name x px, .Name y py] kt pt] (.Tuple [a, .Dict [] [] lpos] k2 pt2) pos.line X.env = pure false := by rfl) : DSt G E X c (.Assign [.Tuple [.Name x px, .Name y py] kt pt] (.Tuple [a, .Dict [] [] lpos] k2 pt2) pos) (sParVD i j te) :=
  impS (ps_par hc hN hi hj hij hx hy (pa_cons ha (pa_cons (dk_new (G := G) (E := E)) pa_nil hs2) hs1) hw hs) fun Dn σ H h => by
    obtain ⟨W, hn, de, ht, k1, k2, k3, k4⟩ := h
    refine ⟨W, by omega, _, ht, fun v H1 d st hd hq => ?_⟩
    refine ⟨W.next st, by show W.m + 0 ≤ W.n - c; omega, fun ks ds => ks = [] ∧ ds = [], ⟨rfl, rfl⟩, fun p H2 ks ds L st2 hp h2 hk hx hd2 ⟨e1, e2⟩ => ?_⟩
    subst e1 e2
    refine ⟨v, .ref p, rfl, ?_⟩
    have hd' : Den G (W.next st).XB H1 d v := hd
    let W1 := (W.next st).put i hd'
    have st3 : Step W1 0 H2 := ⟨st2.ext, st2.good⟩
    have eL : L = [] := List.map_eq_nil_iff.mp hk
    subst eL
    obtain ⟨W', l1, l2, _⟩ := wd_dic W1 st3 (i := j) (ks := []) (ds := []) (L := []) hp h2 rfl (fun _ z => nomatch z) rfl
    exact k1 _ H2 W' ((((Later.next st).trans (Later.put _ i hd')).trans l1).more (by omega)) (by rw [l2]; exact hq p)
end
end Kn
set_option Elab.async false
set_option linter.all false
set_option maxRecDepth 100000
set_option maxHeartbeats 2100000
namespace Kn
open PySem L2 RZ
section
variable {G : Gd} {E : XK} {X : Cx} {σ : List (Option V)} {H H' : Hp} {k : Nat} {tg : Expr}
def sParFV (i j : Nat) (t : DA) (te : DT) : DS := fun ex de env => t ex env fun ds => te ex env fun d => ∃ n, d = .int n ∧ ∀ a, de.nx ((env.set i (.own a ds)).set j (.val (.int n)))
theorem ds_parFV {i j : Nat} {x y : Str} {f b : Expr} {t : DA} {te : DT} {c c2 : Nat} {px py pt pos : Pos} {kt k2 pt2} (hc : X.calm = true) (hN : X.N.Nodup) (hi : X.N[i]? = some x) (hj : X.N[j]? = some y) (hij : i ≠ j)
    (hx : X.env.scope.names.lookup x = some .local) (hy : X.env.scope.names.lookup y = some .local) (hf : DF G E X c f t) (hb : DE G E X c2 b te) (hs1 : starEach [f, b] X.env = (false, eval f X.env) :: starEach [b] X.env := by rfl) (hs2 : starEach [b] X.env = (false, eval b X.env) :: starEach [] X.env := by rfl)
    (hw : swappedStores [.Tuple [.Name x px, .Name y py] kt pt] (.Tuple [f, b] k2 pt2) X.env = pure (some [x, y]))
    (hs : swapsWithSole [.Tuple [.Name x px, .Name y py] kt pt] (.Tuple [f, b] k2 pt2) pos.line X.env = pure false := by rfl) : DSt G E X (c + c2) (.Assign [.Tuple [.Name x px, .Name y py] kt pt] (.Tuple [f, b] k2 pt2) pos) (sParFV i j t te) :=
  impS (ps_par hc hN hi hj hij hx hy (pa_cons hf (pa_cons hb pa_nil hs2) hs1) hw hs) fun Dn σ H h => by
    obtain ⟨W, hn, de, ht, k1, k2, k3, k4⟩ := h
    refine ⟨W, by omega, _, ht, fun p H1 ds xs st hp h1 hl hd hq => ?_⟩
    refine ⟨W.next st, by show W.m + c2 ≤ W.n - c; omega, _, hq, fun v2 H2 e2 st2 he2 ⟨n, e, hnx⟩ => ?_⟩
    subst e
    cases he2
    refine ⟨.ref p, .int n, rfl, ?_⟩
    have nup : NU W.u p := W.nuX (W.fresh hp)
    have h2 : H2 p = some (.lst xs) := st2.ext p _ h1 nup
    have hd2 : DenL G (fun a => W.XB a ∨ a = p) H2 ds xs := hd.ext st2.ext fun r e => .inl (W.huX r e)
    obtain ⟨W1, l1, l2⟩ := wd_own W (st.trans st2) (i := i) hp h2 hl hd2
    have hi' : Den G W1.XB H2 (.int n) (.int n) := den_int n
    exact k1 _ H2 (W1.put j hi') ((l1.trans (Later.put W1 j hi')).more (by omega)) (by show de.nx (W1.env.set j _); rw [l2]; exact hnx p)
end
end Kn
set_option Elab.async false
set_option linter.all false
set_option maxRecDepth 100000
set_option maxHeartbeats 2100000
namespace Kn
open PySem PySem.Spec PyProof.Rows L2 RZ
end Kn
set_option Elab.async false
set_option linter.all false
set_option maxRecDepth 100000
set_option maxHeartbeats 2100000
namespace Kn
open PySem L2 RZ
open PyProof.Rows (envOfC)
end Kn
set_option Elab.async false
set_option linter.all false
set_option maxRecDepth 100000
set_option maxHeartbeats 2100000
namespace Kn
open PySem L2 RZ
end Kn
set_option Elab.async false
set_option linter.all false
set_option maxRecDepth 100000
set_option maxHeartbeats 2100000
namespace Pg
open PySem
open PySem.Spec PyProof.Rows L2
theorem strsB_ok : ∀ {vs : List Value} {ys : List Str}, strsB vs ys = true → Vals (ys.map V.str) vs
  | [], [], _ => .nil
  | v :: vs, y :: ys, h => by
    cases v with
    | str x t =>
      obtain ⟨h1, h2⟩ := Bool.and_eq_true_iff.mp (show (decide (x = y) && strsB vs ys) = true from h)
      exact .cons ⟨t, by rw [of_decide_eq_true h1]⟩ (strsB_ok h2)
    | _ => cases h
  | [], _ :: _, h => by cases h
  | v :: _, [], h => by cases v <;> cases h
theorem tupsB_ok {K : PySem.W.Frag} {a : Addr} {ys : List Str} (hy : ys.length ≤ sizeLine) (h : tupsB K a ys = true) : Kn.KTup K a (ys.map V.str) := by
  unfold tupsB at h
  cases q : K.lookup a with
  | none => rw [q] at h; cases h
  | some o =>
    obtain ⟨oc, od, dt, osl⟩ := o
    rw [q] at h
    cases oc with
    | type c =>
      cases dt with
      | seq its n =>
        obtain ⟨h1, h2⟩ := Bool.and_eq_true_iff.mp (show (decide (c = "tuple") && strsB its.toList ys) = true from h)
        have hv := strsB_ok h2
        refine ⟨_, its, n, q, congrArg Value.type (of_decide_eq_true h1), rfl, ?_, hv⟩
        have := hv.length
        rw [List.length_map] at this
        have e : its.size = its.toList.length := by simp
        omega
      | _ => cases h
    | _ => cases dt <;> cases h
theorem law_rowX {l : PySem.W.OpenLaw} {n : Nat} {q : Program} {loose : List Str} {XP : (Str → Option Value) → Heap → Prop} {YP : World → Heap → Prop} {d : DefRec}
    (hn : l.most = some n) (hn2 : n ≤ sizeLine) (hdf : d.params.defaults = [])
    (F : ∀ (w : World) (mg : Str → Option Value) (fa a : Addr) (h : Heap) (s : Shared) (ns : List Int), YP w h → h.Ns mainGlobals mg → mg d.name = some (.ref fa) → ns.length ≤ n →
      ∃ K : PySem.W.Frag, K.In h ∧ ∃ cs : List (Str × Addr × Addr), (∀ x ∈ cs, ((PyProof.Rows.recsOf q).find? (fun e => e.name == x.1)).isSome = true ∧ PySem.W.tabIn K x.1 = some x.2 ∧ K.lookup x.2.2 = none) ∧ Kn.LawOkT l.prog w K mg fa a ns s (cs.map (·.2))) :
    PySem.W.WalkO q loose XP YP l.row.toRowW
      d [] (fun f vs => PySem.call f vs) := by
  refine Att.attach_call hn hdf ?_
  intro w s₀ s₁ mg mb fa o pm cd doc a vs ns Gx Y ho hd hcd hmg hobj hints hlen hg
  obtain ⟨K, KX, cs, hcs, hF⟩ := F w mg fa a _ s₁ ns Y Gx.T.g hmg hlen
  have tabs : ∀ p ∈ cs.map (·.2), PySem.W.CodeHd s₁.heap p.1 p.2 ∧ s₁.heap.get? p.2 = some (PySem.W.tabObj #[]) ∧ K.lookup p.2 = none := fun p hp => by
    obtain ⟨x, hx, rfl⟩ := List.mem_map.mp hp
    obtain ⟨h1, h2, h3⟩ := hcs x hx
    obtain ⟨dr, h1⟩ := Option.isSome_iff_exists.mp h1
    obtain ⟨t1, t2⟩ := PySem.W.tab_of Gx.T KX h1 h2
    exact ⟨t1, t2, h3⟩
  exact Kn.law_topT KX Gx.T.g Gx.T.b Gx.T.builtins Gx.T.nolimit hg Gx.T.bmain hobj hints (Nat.le_trans hlen hn2) (fun p hp => (tabs p hp).2.1) (fun p hp => (tabs p hp).2.2) (fun p hp => (tabs p hp).1) hF
end Pg
set_option Elab.async false
set_option linter.all false
set_option maxRecDepth 100000
set_option maxHeartbeats 2100000
namespace Kn
open PySem L2 RZ
end Kn
set_option Elab.async false
set_option linter.all false
set_option maxRecDepth 100000
set_option maxHeartbeats 2100000
namespace Pg
open PySem
open PySem.Spec PyProof.Rows L2
end Pg
set_option Elab.async false
set_option linter.all false
set_option maxRecDepth 100000
set_option maxHeartbeats 4100000
namespace Pg
open PySem L2 RZ Kn
def topS (i : Nat) : Stmt := PySem.Challenge.pw_kindtells_k15_whole_blind_over_two_thing.main.body.getD i (.Pass ⟨0, 0, 0, 0⟩)
structure Bn (mg : Str → Option Value) : Prop where
  len : mg "len" = none
  all : mg "all" = none
  any : mg "any" = none
  isinstance : mg "isinstance" = none
  int : mg "int" = none
  bool : mg "bool" = none
  list : mg "list" = none
  tuple : mg "tuple" = none
  str : mg "str" = none
  range : mg "range" = none
  zip : mg "zip" = none
  sorted : mg "sorted" = none
  type : mg "type" = none
  max : mg "max" = none
  min : mg "min" = none
  abs : mg "abs" = none
  repr : mg "repr" = none
  set : mg "set" = none
  enumerate : mg "enumerate" = none
  dict : mg "dict" = none
  sum : mg "sum" = none
section
variable {G : Gd} {P : Program} {w : World} {mg : Str → Option Value} {base : Heap} {f : Addr} {fd : FuncData}
def sIsInt : FSpec := fun ds R _ => ∃ d, ds = [d] ∧ (kindS d).isSome = true ∧ R (.bl (D.isI d))
abbrev s_is_integer : Stmt := topS 6
theorem sc_is_integer : FnScope ["value"] ["value"] (defScope s_is_integer) := ⟨rfl, rfl, rfl, by decide +kernel, rfl, by decide +kernel, by decide +kernel⟩
theorem ok_is_integer (F : Fun G.K "is_integer" "is_integer" s_is_integer f fd) (bn : Bn mg)  : FnD G P w mg base 1 f fd ["value"] 0 sIsInt := by
  refine FnD.more (fnd_of F sc_is_integer (fun cdv A outer s H E hr hg => have xk := xk_def (E := E) hr hg; (ds_one (ds_ret (de_and (de_bi (c_isi xk.K) bn.isinstance (da_cons (dv 0) (da_cons (de_tyn (n := "int") bn.int) da_nil))) (de_one (de_not (de_bi (c_isi xk.K) bn.isinstance (da_cons (dv 0) (da_cons (de_tyn (n := "bool") bn.bool) da_nil))))))))) ?_) (by decide)
  rintro ds R ex hl ⟨d, rfl, hk, hr⟩
  refine ⟨d, rfl, _, _, rfl, isB_int hk, ?_⟩
  cases d <;> first | cases hk | skip
  all_goals first
    | exact ⟨_, rfl, hr⟩
    | exact ⟨_, rfl, _, rfl, _, _, rfl, isB_bool rfl, _, rfl, hr⟩
def sNumbers : FSpec := fun ds R _ => ∃ d, ds = [d] ∧ (kindS d).isSome = true ∧ (∀ xs, d.items? = some xs → ∀ x ∈ xs, (kindS x).isSome = true) ∧ R (.bl (match d.items? with | some xs => xs.all D.isI | none => false))
abbrev s_are_numbers : Stmt := topS 8
theorem sc_are_numbers : FnScope ["value", "number"] ["value"] (defScope s_are_numbers) := ⟨rfl, rfl, rfl, by decide +kernel, rfl, by decide +kernel, by decide +kernel⟩
theorem ok_are_numbers (F : Fun G.K "are_numbers" "are_numbers" s_are_numbers f fd) (bn : Bn mg) (F_is_integer : Fk G P w mg base 1 "is_integer" ["value"] 0 sIsInt) : FnD G P w mg base 2 f fd ["value"] 0 sNumbers := by
  refine FnD.more (fnd_of F sc_are_numbers (fun cdv A outer s H E hr hg => have xk := xk_def (E := E) hr hg; (ds_one (ds_ret (de_and (de_isiT (Ts := ["list", "tuple"]) xk.K bn.isinstance (dv 0) (pa_cons (ps_tyn (n := "list") bn.list) (pa_cons (ps_tyn (n := "tuple") bn.tuple) pa_nil)) (by simp) (by decide)) (de_one (de_bi (c_all xk.calm) bn.all (da_cons (de_comp (own := [("number", 1)]) xk sc_are_numbers.nd (di_seq xk.K (dv 0)) (blkOk_by (N := ["value", "number"]) (sc := defScope s_are_numbers) (by decide +kernel)) (fun s H C cl fp => (dg_name (i := 1) sc_are_numbers.nd rfl (Or.inl rfl))) (fun s H C cl fp => dts_nil) (fun s H C cl fp => (de_call F_is_integer (Xk.blk xk _ _ _ _ _) (da_cons (dv 1) da_nil))) (by simp)) da_nil))))))) ?_) (by decide)
  rintro ds R ex hl ⟨d, rfl, hk, hks, hr⟩
  refine ⟨d, rfl, _, any_seq hk, _, rfl, ?_⟩
  cases hi : d.items? with
  | none => rw [hi] at hr; exact hr
  | some xs =>
    rw [hi] at hr
    have key : ∀ (Q : D → Prop), Q (.bl (xs.all D.isI)) → compL (tgName 1) bYes (dCall 1 sIsInt (aCons (dVar 1) aNil)) (fun rs => g1 gAll [.lst rs] Q) (inEnv (env0 ["value", "number"] [d]) [1]) xs [] := fun Q hq => by
      refine compL_map (fun x => .bl (D.isI x)) (fun x hx K hK => ⟨x, rfl, rfl, x, rfl, hks xs hi x hx, hK⟩) ?_
      refine ⟨xs.map D.isI, by simp [List.map_map], ?_⟩
      simpa [List.all_map] using hq
    refine ⟨d, rfl, ?_⟩
    cases d <;> cases hi
    · exact key _ hr
    · exact key _ hr
def sWithin : FSpec := fun ds R _ => ∃ d lo hi, ds = [d, bndD lo, bndD hi] ∧ (kindS d).isSome = true ∧ R (.bl (withinB d lo hi))
abbrev s_is_within : Stmt := topS 7
theorem sc_is_within : FnScope ["value", "least", "most"] ["value", "least", "most"] (defScope s_is_within) := ⟨rfl, rfl, rfl, by decide +kernel, rfl, by decide +kernel, by decide +kernel⟩
theorem ok_is_within (F : Fun G.K "is_within" "is_within" s_is_within f fd) (bn : Bn mg) (F_is_integer : Fk G P w mg base 1 "is_integer" ["value"] 0 sIsInt) : FnD G P w mg base 2 f fd ["value", "least", "most"] 0 sWithin := by
  refine FnD.more (fnd_of F sc_is_within (fun cdv A outer s H E hr hg => have xk := xk_def (E := E) hr hg; (ds_cons (ds_if (dt_not (dt_val (de_call F_is_integer xk (da_cons (dv 0) da_nil)))) (ds_one (ds_ret de_bl)) ds_nil) (ds_one (ds_ret (de_and (de_or (de_cmp (o_is) (dv 1) de_non (by rfl)) (de_one (de_cmp (o_ge) (dv 0) (dv 1) (by rfl)))) (de_one (de_or (de_cmp (o_is) (dv 2) de_non (by rfl)) (de_one (de_cmp (o_le) (dv 0) (dv 2) (by rfl)))))))))) ?_) (by decide)
  rintro ds R ex hl ⟨d, lo, hi, rfl, hk, hr⟩
  refine ⟨d, rfl, rfl, d, rfl, hk, D.isI d, rfl, ?_⟩
  cases hi' : D.isI d with
  | false =>
    have e : withinB d lo hi = false := by cases d <;> first | rfl | cases hi'
    rw [e] at hr
    exact hr
  | true =>
    obtain ⟨i, rfl⟩ := isI_of hi'
    have k2 : ∀ Q : D → Prop, Q (.bl (hi.all fun h => decide (i ≤ h))) → (dOr (dOp gIs (dVar 2) (dC .non)) (dOp gLe (dVar 0) (dVar 2))) ex (env0 ["value", "least", "most"] [.int i, bndD lo, bndD hi]) Q := fun Q hq => by
      refine ⟨bndD hi, rfl, rfl, bnd_no hi, (bndD hi).isN, rfl, ?_⟩
      cases hi with
      | none => exact hq
      | some h => exact ⟨_, rfl, _, rfl, trivial, hq⟩
    have k1 : ∀ Q : D → Prop, (∀ b, b = (lo.all fun l => decide (l ≤ i)) → Q (.bl b)) → (dOr (dOp gIs (dVar 1) (dC .non)) (dOp gGe (dVar 0) (dVar 1))) ex (env0 ["value", "least", "most"] [.int i, bndD lo, bndD hi]) Q := fun Q hq => by
      refine ⟨bndD lo, rfl, rfl, bnd_no lo, (bndD lo).isN, rfl, ?_⟩
      cases lo with
      | none => exact hq _ rfl
      | some l => exact ⟨_, rfl, _, rfl, trivial, hq _ rfl⟩
    refine k1 (fun x => ∃ c, x = .bl c ∧ if c = true then dOr (dOp gIs (dVar 2) (dC .non)) (dOp gLe (dVar 0) (dVar 2)) ex (env0 ["value", "least", "most"] [.int i, bndD lo, bndD hi]) R else R (.bl false)) fun b hb => ⟨b, rfl, ?_⟩
    have e : withinB (.int i) lo hi = (b && hi.all fun h => decide (i ≤ h)) := by rw [hb]; rfl
    rw [e] at hr
    cases b with
    | false => exact hr
    | true => exact k2 _ hr
/-- a number within its bounds -/
def sDemNumL : FSpec := fun ds R _ => ∃ i lo hi p, ds = [.int i, bndD lo, bndD hi, p] ∧ inB i lo hi = true ∧ R .non
abbrev s_demand_number : Stmt := topS 24
theorem sc_demand_number : FnScope ["value", "least", "most", "part"] ["value", "least", "most", "part"] (defScope s_demand_number) := ⟨rfl, rfl, rfl, by decide +kernel, rfl, by decide +kernel, by decide +kernel⟩
theorem ok_demand_number (F : Fun G.K "demand_number" "demand_number" s_demand_number f fd) (bn : Bn mg) (F_is_within : Fk G P w mg base 2 "is_within" ["value", "least", "most"] 0 sWithin) : FnD G P w mg base 3 f fd ["value", "least", "most", "part"] 0 sDemNumL := by
  refine FnD.more (fnd_of F sc_demand_number (fun cdv A outer s H E hr hg => have xk := xk_def (E := E) hr hg; (ds_one (ds_if (dt_not (dt_val (de_call F_is_within xk (da_cons (dv 0) (da_cons (dv 1) (da_cons (dv 2) da_nil)))))) (ds_one ds_never) ds_nil))) ?_) (by decide)
  rintro ds R ex hl ⟨i, lo, hi, p, rfl, hb, hr⟩
  refine ⟨.int i, rfl, bndD lo, rfl, bndD hi, rfl, rfl, .int i, lo, hi, rfl, rfl, ?_⟩
  exact ⟨inB i lo hi, rfl, by rw [hb]; exact hr⟩
def sDemWorldL : FSpec := fun ds R _ => ∃ (i : Int) (p : D), ds = [.int i, p] ∧ 1 ≤ i ∧ i ≤ 5 ∧ R .non
abbrev s_demand_world : Stmt := topS 25
theorem sc_demand_world : FnScope ["things", "part"] ["things", "part"] (defScope s_demand_world) := ⟨rfl, rfl, rfl, by decide +kernel, rfl, by decide +kernel, by decide +kernel⟩
theorem ok_demand_world (F : Fun G.K "demand_world" "demand_world" s_demand_world f fd) (bn : Bn mg) (F_demand_number : Fk G P w mg base 3 "demand_number" ["value", "least", "most", "part"] 0 sDemNumL) (g_MOST_THINGS : ∃ t, mg "MOST_THINGS" = some (.int 5 t)) : FnD G P w mg base 4 f fd ["things", "part"] 0 sDemWorldL := by
  refine FnD.more (fnd_of F sc_demand_world (fun cdv A outer s H E hr hg => have xk := xk_def (E := E) hr hg; (ds_one (ds_expr (de_call F_demand_number xk (da_cons (dv 0) (da_cons de_int (da_cons (de_gint g_MOST_THINGS) (da_cons (dv 1) da_nil)))))))) ?_) (by decide)
  rintro ds R ex hl ⟨i, p, rfl, h1, h2, hr⟩
  refine ⟨.int i, rfl, p, rfl, rfl, i, some 1, some 5, p, rfl, ?_, hr⟩
  simp [inB, h1, h2]
def sDemNumsL : FSpec := fun ds R _ => ∃ d xs p, ds = [d, p] ∧ d.items? = some xs ∧ xs.all D.isI = true ∧ R .non
abbrev s_demand_numbers : Stmt := topS 27
theorem sc_demand_numbers : FnScope ["values", "part"] ["values", "part"] (defScope s_demand_numbers) := ⟨rfl, rfl, rfl, by decide +kernel, rfl, by decide +kernel, by decide +kernel⟩
theorem ok_demand_numbers (F : Fun G.K "demand_numbers" "demand_numbers" s_demand_numbers f fd) (bn : Bn mg) (F_are_numbers : Fk G P w mg base 2 "are_numbers" ["value"] 0 sNumbers) : FnD G P w mg base 3 f fd ["values", "part"] 0 sDemNumsL := by
  refine FnD.more (fnd_of F sc_demand_numbers (fun cdv A outer s H E hr hg => have xk := xk_def (E := E) hr hg; (ds_one (ds_if (dt_not (dt_val (de_call F_are_numbers xk (da_cons (dv 0) da_nil)))) (ds_one ds_never) ds_nil))) ?_) (by decide)
  rintro ds R ex hl ⟨d, xs, p, rfl, hx, ha, hr⟩
  refine ⟨d, rfl, rfl, d, rfl, kind_items hx, fun ys hy => ?_, true, ?_, hr⟩
  · rw [hx] at hy; cases hy; exact kinds_isI ha
  · rw [hx]; show D.bl (xs.all D.isI) = _; rw [ha]
def sDemThingsL : FSpec := fun ds R _ => ∃ (d : D) (is : List Int) (n : Int), ds = [d, .int n] ∧ d.items? = some (is.map D.int) ∧ (∀ i ∈ is, 0 ≤ i ∧ i < n) ∧ R .non
abbrev s_demand_things : Stmt := topS 29
theorem sc_demand_things : FnScope ["values", "things", "value"] ["values", "things"] (defScope s_demand_things) := ⟨rfl, rfl, rfl, by decide +kernel, rfl, by decide +kernel, by decide +kernel⟩
theorem ok_demand_things (F : Fun G.K "demand_things" "demand_things" s_demand_things f fd) (bn : Bn mg) (F_is_within : Fk G P w mg base 2 "is_within" ["value", "least", "most"] 0 sWithin) : FnD G P w mg base 3 f fd ["values", "things"] 0 sDemThingsL := by
  refine FnD.more (fnd_of F sc_demand_things (fun cdv A outer s H E hr hg => have xk := xk_def (E := E) hr hg; (ds_one (ds_for xk po_def (di_seq xk.K (dv 0)) (dg_name (i := 2) sc_demand_things.nd rfl (Or.inl rfl)) (ds_one (ds_if (dt_not (dt_val (de_call F_is_within xk (da_cons (dv 2) (da_cons de_int (da_cons (de_op (o_sub) (dv 1) de_int) da_nil)))))) (ds_one ds_never) ds_nil))))) ?_) (by decide)
  rintro ds R ex hl ⟨d, is, n, rfl, hx, hb, hr⟩
  refine ⟨d, rfl, ?_⟩
  have key : ∀ (de : DEnds) (tb : DS), de.nx = (fun _ => R .non) → (∀ (i : Int) (s : Sl) (nx : List Sl → Prop), 0 ≤ i → i < n → nx [.val d, .val (.int n), .val (.int i)] → tb ex { de with nx := nx, ct := nx, bk := de.nx } [.val d, .val (.int n), .val (.int i)]) → sForL ex (tgName 2) tb de (is.map D.int) (env0 ["values", "things", "value"] [d, .int n]) := fun de tb hde hstep => by
    refine sForL_inv (fun _ env => ∃ s, env = [.val d, .val (.int n), s]) 0 ⟨_, rfl⟩ (fun i x env hi hI nx hn => ?_) (fun env hI => by rw [hde]; exact hr)
    obtain ⟨s, rfl⟩ := hI
    rw [List.getElem?_map] at hi
    obtain ⟨j, hj, rfl⟩ := Option.map_eq_some_iff.mp hi
    obtain ⟨b1, b2⟩ := hb j (List.mem_of_getElem? hj)
    exact hstep j s nx b1 b2 (hn _ ⟨_, rfl⟩)
  cases d <;> cases hx
  all_goals
    refine key _ _ rfl fun i s nx b1 b2 hn => ?_
    refine ⟨.int i, rfl, .int n, rfl, trivial, rfl, .int i, some 0, some (n - 1), rfl, rfl, ?_⟩
    refine ⟨true, ?_, hn⟩
    rw [show withinB (.int i) (some 0) (some (n - 1)) = true by simp [withinB, inB]; omega]
/-- the classes: leads 1, the reader's 2, told functions 3, errors 4 to 6, Kept 7, Parting 8, places 12 -/
structure Gk (G : Gd) : Prop where
  fl : G.fl 1 = [Str.ofString "begin", "into", "row"]
  fl2 : G.fl 2 = [Str.ofString "words", "taken"]
  fl3 : G.fl 3 = [Str.ofString "things", "places", "tells"]
  fl4 : G.fl 4 = [Str.ofString "part"]
  fl5 : G.fl 5 = [Str.ofString "part"]
  fl7 : G.fl 7 = [Str.ofString "word", "parts"]
  fl8 : G.fl 8 = [Str.ofString "word", "parts", "lead", "row"]
  fl12 : G.fl 12 = [Str.ofString "places", "place"]
  begin : FldOk G "begin"
  into : FldOk G "into"
  row : FldOk G "row"
  words : FldOk G "words"
  taken : FldOk G "taken"
  things : FldOk G "things"
  places : FldOk G "places"
  tells : FldOk G "tells"
  word : FldOk G "word"
  parts : FldOk G "parts"
  lead : FldOk G "lead"
  place : FldOk G "place"
  nd : ∀ c, (G.fl c).Nodup
  sm : ∀ c, (G.fl c).length ≤ 100
def leadD (into : Int) (is : List Int) : D := .ins 1 [.int is.length, .int into, .tup (is.map D.int)]
def sLeadInitL : FSpec := fun ds R _ => ∃ (into : Int) (d : D) (is : List Int), ds = [.int into, d] ∧ d.items? = some (is.map D.int) ∧ 1 ≤ into ∧ into ≤ 5 ∧ 1 ≤ is.length ∧ is.length ≤ 5 ∧ (∀ i ∈ is, 0 ≤ i ∧ i < into) ∧ R (leadD into is)
abbrev s_Lead___init__ : Stmt := inClass (topS 35) 0
theorem sc_Lead___init__ : FnScope ["self", "into", "row"] ["self", "into", "row"] (defScope s_Lead___init__) := ⟨rfl, rfl, rfl, by decide +kernel, rfl, by decide +kernel, by decide +kernel⟩
theorem ok_Lead___init__ (F : Fun G.K "__init__" "Lead.__init__" s_Lead___init__ f fd) (bn : Bn mg) (fo : Gk G) (F_demand_world : Fk G P w mg base 4 "demand_world" ["things", "part"] 0 sDemWorldL) (F_demand_things : Fk G P w mg base 3 "demand_things" ["values", "things"] 0 sDemThingsL) (F_are_numbers : Fk G P w mg base 2 "are_numbers" ["value"] 0 sNumbers) (g_MOST_THINGS : ∃ t, mg "MOST_THINGS" = some (.int 5 t)) : InitD G P w mg base 5 f fd ["self", "into", "row"] 0 1 sLeadInitL := by
  refine InitD.more (initd_of F sc_Lead___init__ (fun cdv A outer s H E hr hg => have xk := xk_def (E := E) hr hg; (ds_cons (ds_expr (de_call F_demand_world xk (da_cons (dv 1) (da_cons de_str da_nil)))) (ds_cons (ds_if (dt_w (dw_or (dt_not (dt_val (de_call F_are_numbers xk (da_cons (dv 2) da_nil)))) (dw_or1 (dt_not (dt_chain (o_le) (o_le) de_int (de_bi (c_len xk.K) bn.len (da_cons (dv 2) da_nil)) (de_gint g_MOST_THINGS)))))) (ds_one ds_never) ds_nil) (ds_cons (ds_expr (de_call F_demand_things xk (da_cons (dv 2) (da_cons (dv 1) da_nil)))) (ds_cons (ds_fld (i := 0) xk.K fo.begin fo.nd fo.sm rfl (de_bi (c_len xk.K) bn.len (da_cons (dv 2) da_nil))) (ds_cons (ds_fld (i := 0) xk.K fo.into fo.nd fo.sm rfl (dv 1)) (ds_one (ds_fld (i := 0) xk.K fo.row fo.nd fo.sm rfl (de_ty (c_tuple xk.K) bn.tuple (da_cons (dv 2) da_nil)))))))))) ?_) (by decide)
  rintro a dx ds R ex hl ⟨into, d, is, rfl, hx, h1, h2, h3, h4, hb, hr⟩
  refine ⟨.int into, rfl, rfl, into, _, rfl, h1, h2, ?_⟩
  have hk := kind_items hx
  refine ⟨d, rfl, rfl, d, rfl, hk, fun ys hy => by rw [hx] at hy; cases hy; exact kinds_isI (all_isI is), true, by rw [hx]; show D.bl ((is.map D.int).all D.isI) = _; rw [all_isI], ?_⟩
  have fin : ∀ xs, xs = is.map D.int → leadD into is = .ins 1 [.int (xs.length : Nat), .int into, .tup xs] := fun xs e => by rw [e, List.length_map]; rfl
  have e1 : (decide ((1 : Int) ≤ ((is.map D.int).length : Nat))) = true := by rw [List.length_map]; simp; omega
  have e2 : (decide (((is.map D.int).length : Nat) ≤ (5 : Int))) = true := by rw [List.length_map]; simp; omega
  cases d <;> cases hx
  all_goals
    refine ⟨_, rfl, trivial, true, congrArg D.bl e1, ?_⟩
    refine ⟨trivial, true, congrArg D.bl e2, ?_⟩
    refine ⟨_, rfl, .int into, rfl, rfl, _, is, into, rfl, rfl, hb, ?_⟩
    refine ⟨_, rfl, a, dx, 1, [], rfl, by rw [fo.fl]; rfl, ?_⟩
    refine ⟨.int into, rfl, a, dx, 1, _, rfl, by rw [fo.fl]; rfl, ?_⟩
    refine ⟨_, rfl, a, dx, 1, _, rfl, by rw [fo.fl]; rfl, ?_⟩
    refine ⟨_, rfl, by rw [fo.fl]; rfl, ?_⟩
    rw [fin _ rfl] at hr
    exact hr
def allRows (n : Nat) : Nat → List (List Int)
  | 0 => [[]]
  | m + 1 => (allRows n m).flatMap fun r => (List.range n).map fun (t : Nat) => r ++ [(t : Int)]
theorem allRows_len (n : Nat) : ∀ m, (allRows n m).length = n ^ m
  | 0 => rfl
  | m + 1 => by
    unfold allRows
    rw [List.length_flatMap]
    simp only [List.length_range, List.length_map]
    rw [List.map_const', List.sum_replicate_nat, allRows_len n m, Nat.pow_succ]
theorem allRows_row (n : Nat) : ∀ m, ∀ r ∈ allRows n m, r.length = m
  | 0, r, h => by simp [allRows] at h; rw [h]; rfl
  | m + 1, r, h => by
    unfold allRows at h
    obtain ⟨q, hq, hr⟩ := List.mem_flatMap.mp h
    obtain ⟨t, _, rfl⟩ := List.mem_map.mp hr
    rw [List.length_append, allRows_row n m q hq]; rfl
theorem allRows_val (n : Nat) : ∀ m, ∀ r ∈ allRows n m, ∀ i ∈ r, 0 ≤ i ∧ i < (n : Int)
  | 0, r, h => by simp [allRows] at h; rw [h]; simp
  | m + 1, r, h => by
    unfold allRows at h
    obtain ⟨q, hq, hr⟩ := List.mem_flatMap.mp h
    obtain ⟨t, ht, rfl⟩ := List.mem_map.mp hr
    intro i hi
    rcases List.mem_append.mp hi with hi | hi
    · exact allRows_val n m q hq i hi
    · have : i = (t : Int) := by simpa using hi
      have := List.mem_range.mp ht
      omega
def sAllRowsL : FSpec := fun ds R _ => ∃ n m : Nat, ds = [.int n, .int m] ∧ n ≤ 5 ∧ m ≤ 5 ∧ R (.lst ((allRows n m).map rowD))
theorem flat_const {α β : Type} (es : List β) : ∀ l : List α, (l.flatMap fun _ => es).length = l.length * es.length
  | [] => by simp
  | x :: l => by rw [List.flatMap_cons, List.length_append, flat_const es l, List.length_cons, Nat.add_mul]; omega
theorem pow_small {n i m : Nat} (hn : n ≤ 5) (hi : i ≤ m) (hm : m ≤ 5) : n ^ i ≤ 3125 := by
  have h1 : n ^ i ≤ 5 ^ i := Nat.pow_le_pow_left hn i
  have h2 : (5 : Nat) ^ i ≤ 5 ^ 5 := Nat.pow_le_pow_right (by omega) (by omega)
  omega
def addT (d t : D) : D := match d with
  | .tup ds => .tup (ds ++ [t])
  | _ => .non
theorem rows_next (n i : Nat) : (allRows n (i + 1)).map rowD = ((allRows n i).map rowD).flatMap fun d => (rangeD 0 n).map (addT d) := by
  rw [show allRows n (i + 1) = (allRows n i).flatMap fun r => (List.range n).map fun (t : Nat) => r ++ [(t : Int)] from rfl, List.map_flatMap, List.flatMap_map]
  congr 1
  funext r
  simp [rangeD, rowD, addT, Function.comp_def]
abbrev s_all_rows : Stmt := topS 38
theorem sc_all_rows : FnScope ["things", "many", "rows", "_", "row", "thing"] ["things", "many"] (defScope s_all_rows) := ⟨rfl, rfl, rfl, by decide +kernel, rfl, by decide +kernel, by decide +kernel⟩
theorem ok_all_rows (F : Fun G.K "all_rows" "all_rows" s_all_rows f fd) (bn : Bn mg)  : FnD G P w mg base 1 f fd ["things", "many"] 0 sAllRowsL := by
  refine FnD.more (fnd_of F sc_all_rows (fun cdv A outer s H E hr hg => have xk := xk_def (E := E) hr hg; (ds_cons (ds_set (i := 2) sc_all_rows.nd rfl (Or.inl rfl) (de_lst (da_cons (de_tup da_nil) da_nil))) (ds_cons (ds_for xk po_def (di_range1 bn.range (da_cons (dv 1) da_nil)) (dg_name (i := 3) sc_all_rows.nd rfl (Or.inl rfl)) (ds_one (ds_setComp2 (i := 2) (own := [("row", 4), ("thing", 5)]) (vs1 := [5]) xk sc_all_rows.nd rfl rfl (sw_true rfl rfl rfl (by decide +kernel)) (di_seq xk.K (dv 2)) (blkOk_by (N := ["things", "many", "rows", "_", "row", "thing"]) (sc := defScope s_all_rows) (by decide +kernel)) (by simp) (fun s H C cl fp => (dg_name (i := 4) sc_all_rows.nd rfl (Or.inl rfl))) (fun s H C cl fp => dts_nil) (fun s H C cl fp => (di_range1 bn.range (da_cons (dv 0) da_nil))) (fun s H C cl fp => (dg_name (i := 5) sc_all_rows.nd rfl (Or.inl rfl))) (fun s H C cl fp => dts_nil) (fun s H C cl fp => (de_op (o_add (Xk.blk xk _ _ _ _ _).K) (dv 4) (de_tup (da_cons (dv 5) da_nil)))) (by simp) (by simp)))) (ds_one (ds_ret (dv 2)))))) ?_) (by decide)
  rintro ds R ex hl ⟨n, m, rfl, hn, hm, hr⟩
  refine ⟨small (by simp), small (by simp), ?_⟩
  refine ⟨.int m, rfl, (m : Int), rfl, by omega, by omega, ?_⟩
  rw [Int.toNat_natCast]
  refine sForL_inv (fun i env => i ≤ m ∧ ∃ s, env = [.val (.int n), .val (.int m), .val (.lst ((allRows n i).map rowD)), s, .emp, .emp]) 0 ⟨Nat.zero_le _, _, rfl⟩ (fun i x env hi hI nx hn2 => ?_) (fun env hI => ?_)
  · obtain ⟨him, s, rfl⟩ := hI
    rw [Nat.zero_add] at hn2 ⊢
    have hi2 : i < m := by have := (List.getElem?_eq_some_iff.mp hi).1; simpa [rangeD] using this
    refine ⟨_, rfl, ?_⟩
    refine compL2_map (fun _ => rangeD 0 n) addT ?_ (fun d hd K acc2 hK hl2 => ?_) ?_
    · have e : (((allRows n i).map rowD).flatMap fun _ => rangeD 0 n).length = n ^ (i + 1) := by
        rw [flat_const, List.length_map, allRows_len, Nat.pow_succ]
        simp [rangeD]
      rw [e]
      have := pow_small (i := i + 1) hn hi2 hm
      exact small (by simp; omega)
    · obtain ⟨r, hr2, rfl⟩ := List.mem_map.mp hd
      have hrl := allRows_row n i r hr2
      refine ⟨.int n, rfl, (n : Int), rfl, by omega, by omega, ?_⟩
      rw [Int.toNat_natCast]
      refine compI_map (addT (rowD r)) hl2 (fun e he K2 hK2 => ?_) hK
      refine ⟨rowD r, rfl, e, rfl, small (by simp), small (by simp [rowD]; omega), hK2⟩
    · refine hn2 _ ⟨by omega, .val x, ?_⟩
      rw [rows_next]
      rfl
  · obtain ⟨him, s, rfl⟩ := hI
    rw [show 0 + (rangeD 0 m).length = m by simp [rangeD]]
    exact ⟨_, rfl, hr⟩
theorem fld_lead (fo : Gk G) {n : Int} {r : List Int} : (("begin" : Str) ∈ G.fl 1 ∧ ("into" : Str) ∈ G.fl 1 ∧ ("row" : Str) ∈ G.fl 1 ∧ [D.int r.length, .int n, rowD r][(G.fl 1).idxOf ("begin" : Str)]? = some (.int r.length) ∧
    [D.int r.length, .int n, rowD r][(G.fl 1).idxOf ("into" : Str)]? = some (.int n) ∧ [D.int r.length, .int n, rowD r][(G.fl 1).idxOf ("row" : Str)]? = some (rowD r)) := by
  rw [fo.fl]
  exact ⟨by decide, by decide, by decide, rfl, rfl, rfl⟩
theorem pow_val {n m : Nat} (hn : n ≤ 5) (hm : m ≤ 5) : n ^ m ≤ 3125 := pow_small hn (Nat.le_refl m) hm
def sManyRows : FSpec := fun ds R _ => ∃ n m : Nat, ds = [.int n, .int m] ∧ n ≤ 5 ∧ m ≤ 5 ∧ R (.int (n ^ m : Nat))
abbrev s_many_rows : Stmt := topS 37
theorem sc_many_rows : FnScope ["things", "many", "count", "_"] ["things", "many"] (defScope s_many_rows) := ⟨rfl, rfl, rfl, by decide +kernel, rfl, by decide +kernel, by decide +kernel⟩
theorem ok_many_rows (F : Fun G.K "many_rows" "many_rows" s_many_rows f fd) (bn : Bn mg)  : FnD G P w mg base 1 f fd ["things", "many"] 0 sManyRows := by
  refine FnD.more (fnd_of F sc_many_rows (fun cdv A outer s H E hr hg => have xk := xk_def (E := E) hr hg; (ds_cons (ds_set (i := 2) sc_many_rows.nd rfl (Or.inl rfl) de_int) (ds_cons (ds_for xk po_def (di_range1 bn.range (da_cons (dv 1) da_nil)) (dg_name (i := 3) sc_many_rows.nd rfl (Or.inl rfl)) (ds_one (ds_set (i := 2) sc_many_rows.nd rfl (Or.inl rfl) (de_op (o_mul) (dv 2) (dv 0))))) (ds_one (ds_ret (dv 2)))))) ?_) (by decide)
  rintro ds R ex hl ⟨n, m, rfl, hn, hm, hr⟩
  refine ⟨_, rfl, (m : Int), rfl, by omega, by omega, ?_⟩
  rw [Int.toNat_natCast]
  refine sForL_inv (fun i env => i ≤ m ∧ ∃ s, env = [.val (.int n), .val (.int m), .val (.int (n ^ i : Nat)), s]) 0 ⟨Nat.zero_le _, _, rfl⟩ (fun i x env hi hI nx hn2 => ?_) (fun env hI => ?_)
  · obtain ⟨him, s, rfl⟩ := hI
    rw [Nat.zero_add] at hn2 ⊢
    have hi2 : i < m := by have := (List.getElem?_eq_some_iff.mp hi).1; simpa [rangeD] using this
    refine ⟨_, rfl, _, rfl, .inr ⟨by omega, by omega⟩, hn2 _ ⟨by omega, .val x, ?_⟩⟩
    rw [Nat.pow_succ, Int.natCast_mul]
    rfl
  · obtain ⟨him, s, rfl⟩ := hI
    rw [show 0 + (rangeD 0 m).length = m by simp [rangeD]]
    exact ⟨_, rfl, hr⟩
/-- where a row stands in the list of all -/
def idxR (n : Int) (r : List Int) : Int := r.foldl (fun a i => a * n + i) 0
theorem idx_snoc (n : Int) (r : List Int) (i : Int) : idxR n (r ++ [i]) = idxR n r * n + i := by unfold idxR; rw [List.foldl_append]; rfl
theorem idx_bound {n : Int} (hn : 0 ≤ n) : ∀ {r : List Int}, (∀ i ∈ r, 0 ≤ i ∧ i < n) → 0 ≤ idxR n r ∧ idxR n r < n ^ r.length := fun {r} => by
  induction r using PyProof.Rows.FinIter.snoc_ind with
  | nil => intro _; exact ⟨Int.le_refl _, by unfold idxR; simp⟩
  | snoc r i ih =>
    intro h
    obtain ⟨h0, h1⟩ := ih fun j hj => h j (List.mem_append_left _ hj)
    obtain ⟨g0, g1⟩ := h i (List.mem_append_right _ (List.mem_singleton_self _))
    rw [idx_snoc, List.length_append, List.length_singleton, Int.pow_succ]
    have h2 : idxR n r + 1 ≤ n ^ r.length := h1
    have h3 := Int.mul_le_mul_of_nonneg_right h2 hn
    rw [Int.add_mul, Int.one_mul] at h3
    have h4 := Int.mul_nonneg h0 hn
    omega
def sRowIndex : FSpec := fun ds R _ => ∃ (d : D) (r : List Int) (n : Nat), ds = [d, .int n] ∧ d.items? = some (r.map D.int) ∧ n ≤ 5 ∧ r.length ≤ 5 ∧ (∀ i ∈ r, 0 ≤ i ∧ i < (n : Int)) ∧ R (.int (idxR n r))
abbrev s_row_index : Stmt := topS 39
theorem sc_row_index : FnScope ["row", "things", "index", "thing"] ["row", "things"] (defScope s_row_index) := ⟨rfl, rfl, rfl, by decide +kernel, rfl, by decide +kernel, by decide +kernel⟩
theorem ok_row_index (F : Fun G.K "row_index" "row_index" s_row_index f fd) (bn : Bn mg)  : FnD G P w mg base 1 f fd ["row", "things"] 0 sRowIndex := by
  refine FnD.more (fnd_of F sc_row_index (fun cdv A outer s H E hr hg => have xk := xk_def (E := E) hr hg; (ds_cons (ds_set (i := 2) sc_row_index.nd rfl (Or.inl rfl) de_int) (ds_cons (ds_for xk po_def (di_seq xk.K (dv 0)) (dg_name (i := 3) sc_row_index.nd rfl (Or.inl rfl)) (ds_one (ds_set (i := 2) sc_row_index.nd rfl (Or.inl rfl) (de_op (o_add xk.K) (de_op (o_mul) (dv 2) (dv 1)) (dv 3))))) (ds_one (ds_ret (dv 2)))))) ?_) (by decide)
  rintro ds R ex hl ⟨d, r, n, rfl, hx, hn, hrl, hv, hr⟩
  have key : ∀ (de : DEnds) (tb : DS), (∀ s, de.nx [.val d, .val (.int n), .val (.int (idxR n r)), s]) → (∀ (a i : Int) (s : Sl) (nx : List Sl → Prop), CMul a n → nx [.val d, .val (.int n), .val (.int (a * n + i)), .val (.int i)] → tb ex { de with nx := nx, ct := nx, bk := de.nx } [.val d, .val (.int n), .val (.int a), .val (.int i)]) → sForL ex (tgName 3) tb de (r.map D.int) [.val d, .val (.int n), .val (.int 0), .emp] := fun de tb hde hstep => by
    refine sForL_inv (fun i env => ∃ s, env = [.val d, .val (.int n), .val (.int (idxR n (r.take i))), s]) 0 ⟨_, rfl⟩ (fun i x env hi hI nx hn2 => ?_) (fun env hI => ?_)
    · obtain ⟨s, rfl⟩ := hI
      rw [Nat.zero_add] at hn2 ⊢
      rw [List.getElem?_map] at hi
      obtain ⟨j, hj, rfl⟩ := Option.map_eq_some_iff.mp hi
      refine hstep _ j s nx (.inr ⟨by omega, by omega⟩) (hn2 _ ⟨.val (.int j), ?_⟩)
      rw [List.take_add_one, hj, ← idx_snoc]
      rfl
    · obtain ⟨s, rfl⟩ := hI
      rw [Nat.zero_add, List.length_map, List.take_length]
      exact hde s
  cases d <;> cases hx
  all_goals
    refine ⟨_, rfl, ?_⟩
    refine key _ _ (fun s => ?_) fun a i s nx hc hn2 => ?_
    · exact ⟨_, rfl, hr⟩
    · exact ⟨_, rfl, _, rfl, hc, _, rfl, hn2⟩
def sDemPlaces : FSpec := fun ds R _ => ∃ m : Int, ds = [.int m] ∧ 1 ≤ m ∧ m ≤ 4 ∧ R .non
abbrev s_demand_many_places : Stmt := topS 26
theorem sc_demand_many_places : FnScope ["places"] ["places"] (defScope s_demand_many_places) := ⟨rfl, rfl, rfl, by decide +kernel, rfl, by decide +kernel, by decide +kernel⟩
theorem ok_demand_many_places (F : Fun G.K "demand_many_places" "demand_many_places" s_demand_many_places f fd) (bn : Bn mg) (F_demand_number : Fk G P w mg base 3 "demand_number" ["value", "least", "most", "part"] 0 sDemNumL) (g_MOST_PLACES : ∃ t, mg "MOST_PLACES" = some (.int 4 t)) : FnD G P w mg base 4 f fd ["places"] 0 sDemPlaces := by
  refine FnD.more (fnd_of F sc_demand_many_places (fun cdv A outer s H E hr hg => have xk := xk_def (E := E) hr hg; (ds_one (ds_expr (de_call F_demand_number xk (da_cons (dv 0) (da_cons de_int (da_cons (de_gint g_MOST_PLACES) (da_cons de_str da_nil)))))))) ?_) (by decide)
  rintro ds R ex hl ⟨m, rfl, h1, h2, hr⟩
  refine ⟨.int m, rfl, rfl, m, some 1, some 4, _, rfl, ?_, hr⟩
  simp [inB, h1, h2]
def sDemManyNums : FSpec := fun ds R _ => ∃ (d : D) (is : List Int) (p : D), ds = [d, .int is.length, p] ∧ d.items? = some (is.map D.int) ∧ R .non
abbrev s_demand_many_numbers : Stmt := topS 28
theorem sc_demand_many_numbers : FnScope ["values", "many", "part"] ["values", "many", "part"] (defScope s_demand_many_numbers) := ⟨rfl, rfl, rfl, by decide +kernel, rfl, by decide +kernel, by decide +kernel⟩
theorem ok_demand_many_numbers (F : Fun G.K "demand_many_numbers" "demand_many_numbers" s_demand_many_numbers f fd) (bn : Bn mg) (F_are_numbers : Fk G P w mg base 2 "are_numbers" ["value"] 0 sNumbers) : FnD G P w mg base 3 f fd ["values", "many", "part"] 0 sDemManyNums := by
  refine FnD.more (fnd_of F sc_demand_many_numbers (fun cdv A outer s H E hr hg => have xk := xk_def (E := E) hr hg; (ds_one (ds_if (dt_w (dw_or (dt_not (dt_val (de_call F_are_numbers xk (da_cons (dv 0) da_nil)))) (dw_or1 (dt_cmp (o_ne xk.K xk.u64) (de_bi (c_len xk.K) bn.len (da_cons (dv 0) da_nil)) (dv 1) (by rfl))))) (ds_one ds_never) ds_nil))) ?_) (by decide)
  rintro ds R ex hl ⟨d, is, p, rfl, hx, hr⟩
  refine ⟨d, rfl, rfl, d, rfl, kind_items hx, fun ys hy => by rw [hx] at hy; cases hy; exact kinds_isI (all_isI is), true, by rw [hx]; show D.bl ((is.map D.int).all D.isI) = _; rw [all_isI], ?_⟩
  cases d <;> cases hx
  all_goals
    refine ⟨_, rfl, ?_⟩
    refine ⟨_, rfl, ne_int ⟨_, rfl, ?_⟩⟩
    rw [List.length_map, beq_self_eq_true]
    exact hr
def sDemFew : FSpec := fun ds R _ => ∃ n m : Nat, ds = [.int n, .int m] ∧ n ≤ 5 ∧ m ≤ 5 ∧ n ^ m ≤ 256 ∧ R .non
abbrev s_demand_few_values : Stmt := topS 56
theorem sc_demand_few_values : FnScope ["things", "places"] ["things", "places"] (defScope s_demand_few_values) := ⟨rfl, rfl, rfl, by decide +kernel, rfl, by decide +kernel, by decide +kernel⟩
theorem ok_demand_few_values (F : Fun G.K "demand_few_values" "demand_few_values" s_demand_few_values f fd) (bn : Bn mg) (F_many_rows : Fk G P w mg base 1 "many_rows" ["things", "many"] 0 sManyRows) (g_MOST_VALUES : ∃ t, mg "MOST_VALUES" = some (.int 256 t)) : FnD G P w mg base 2 f fd ["things", "places"] 0 sDemFew := by
  refine FnD.more (fnd_of F sc_demand_few_values (fun cdv A outer s H E hr hg => have xk := xk_def (E := E) hr hg; (ds_one (ds_if (dt_cmp (o_gt) (de_call F_many_rows xk (da_cons (dv 0) (da_cons (dv 1) da_nil))) (de_gint g_MOST_VALUES) (by rfl)) (ds_one ds_never) ds_nil))) ?_) (by decide)
  rintro ds R ex hl ⟨n, m, rfl, hn, hm, hk, hr⟩
  refine ⟨_, rfl, _, rfl, rfl, n, m, rfl, hn, hm, trivial, _, rfl, ?_⟩
  rw [decide_eq_false (by omega)]; exact hr
def sInputs : FSpec := fun ds R _ => ∃ n m : Nat, ds = [.int n, .int m] ∧ 1 ≤ n ∧ n ≤ 5 ∧ 1 ≤ m ∧ m ≤ 4 ∧ n ^ m ≤ 256 ∧ R (.tup ((allRows n m).map rowD))
abbrev s_inputs : Stmt := topS 57
theorem sc_inputs : FnScope ["things", "places"] ["things", "places"] (defScope s_inputs) := ⟨rfl, rfl, rfl, by decide +kernel, rfl, by decide +kernel, by decide +kernel⟩
theorem ok_inputs (F : Fun G.K "inputs" "inputs" s_inputs f fd) (bn : Bn mg) (F_demand_world : Fk G P w mg base 4 "demand_world" ["things", "part"] 0 sDemWorldL) (F_demand_many_places : Fk G P w mg base 4 "demand_many_places" ["places"] 0 sDemPlaces) (F_demand_few_values : Fk G P w mg base 2 "demand_few_values" ["things", "places"] 0 sDemFew) (F_all_rows : Fk G P w mg base 1 "all_rows" ["things", "many"] 0 sAllRowsL) : FnD G P w mg base 5 f fd ["things", "places"] 0 sInputs := by
  refine FnD.more (fnd_of F sc_inputs (fun cdv A outer s H E hr hg => have xk := xk_def (E := E) hr hg; (ds_cons (ds_expr (de_call F_demand_world xk (da_cons (dv 0) (da_cons de_str da_nil)))) (ds_cons (ds_expr (de_call F_demand_many_places xk (da_cons (dv 1) da_nil))) (ds_cons (ds_expr (de_call F_demand_few_values xk (da_cons (dv 0) (da_cons (dv 1) da_nil)))) (ds_one (ds_ret (de_ty (c_tuple xk.K) bn.tuple (da_cons (de_call F_all_rows xk (da_cons (dv 0) (da_cons (dv 1) da_nil))) da_nil)))))))) ?_) (by decide)
  rintro ds R ex hl ⟨n, m, rfl, n1, n5, m1, m4, hk, hr⟩
  refine ⟨_, rfl, rfl, n, _, rfl, by omega, by omega, ?_⟩
  refine ⟨_, rfl, rfl, m, rfl, by omega, by omega, ?_⟩
  refine ⟨_, rfl, _, rfl, rfl, n, m, rfl, n5, by omega, hk, ?_⟩
  exact ⟨_, rfl, _, rfl, rfl, n, m, rfl, n5, by omega, hr⟩
def toldD (n m : Int) (vs : List Int) : D := .ins 3 [.int n, .int m, .tup (vs.map D.int)]
/-- a told function as it is legitimate -/
structure ToldIn (n m : Nat) (vs : List Int) : Prop where
  n1 : 1 ≤ n
  n5 : n ≤ 5
  m1 : 1 ≤ m
  m4 : m ≤ 4
  k : n ^ m ≤ 256
  len : vs.length = n ^ m
  val : ∀ i ∈ vs, 0 ≤ i ∧ i < (n : Int)
def sToldInit : FSpec := fun ds R _ => ∃ (n m : Nat) (d : D) (vs : List Int), ds = [.int n, .int m, d] ∧ d.items? = some (vs.map D.int) ∧ ToldIn n m vs ∧ R (toldD n m vs)
abbrev s_Told___init__ : Stmt := inClass (topS 59) 0
theorem sc_Told___init__ : FnScope ["self", "things", "places", "tells"] ["self", "things", "places", "tells"] (defScope s_Told___init__) := ⟨rfl, rfl, rfl, by decide +kernel, rfl, by decide +kernel, by decide +kernel⟩
theorem ok_Told___init__ (F : Fun G.K "__init__" "Told.__init__" s_Told___init__ f fd) (bn : Bn mg) (fo : Gk G) (F_demand_world : Fk G P w mg base 4 "demand_world" ["things", "part"] 0 sDemWorldL) (F_demand_many_places : Fk G P w mg base 4 "demand_many_places" ["places"] 0 sDemPlaces) (F_demand_many_numbers : Fk G P w mg base 3 "demand_many_numbers" ["values", "many", "part"] 0 sDemManyNums) (F_many_rows : Fk G P w mg base 1 "many_rows" ["things", "many"] 0 sManyRows) (F_demand_things : Fk G P w mg base 3 "demand_things" ["values", "things"] 0 sDemThingsL) (F_demand_few_values : Fk G P w mg base 2 "demand_few_values" ["things", "places"] 0 sDemFew) : InitD G P w mg base 5 f fd ["self", "things", "places", "tells"] 0 3 sToldInit := by
  refine InitD.more (initd_of F sc_Told___init__ (fun cdv A outer s H E hr hg => have xk := xk_def (E := E) hr hg; (ds_cons (ds_expr (de_call F_demand_world xk (da_cons (dv 1) (da_cons de_str da_nil)))) (ds_cons (ds_expr (de_call F_demand_many_places xk (da_cons (dv 2) da_nil))) (ds_cons (ds_expr (de_call F_demand_many_numbers xk (da_cons (dv 3) (da_cons (de_call F_many_rows xk (da_cons (dv 1) (da_cons (dv 2) da_nil))) (da_cons de_str da_nil))))) (ds_cons (ds_expr (de_call F_demand_things xk (da_cons (dv 3) (da_cons (dv 1) da_nil)))) (ds_cons (ds_expr (de_call F_demand_few_values xk (da_cons (dv 1) (da_cons (dv 2) da_nil)))) (ds_cons (ds_fld (i := 0) xk.K fo.things fo.nd fo.sm rfl (dv 1)) (ds_cons (ds_fld (i := 0) xk.K fo.places fo.nd fo.sm rfl (dv 2)) (ds_one (ds_fld (i := 0) xk.K fo.tells fo.nd fo.sm rfl (de_ty (c_tuple xk.K) bn.tuple (da_cons (dv 3) da_nil)))))))))))) ?_) (by decide)
  rintro a dx ds R ex hl ⟨n, m, d, vs, rfl, hx, T, hr⟩
  obtain ⟨n1, n5, m1, m4, hk, len, hv⟩ := id T
  refine ⟨_, rfl, rfl, n, _, rfl, by omega, by omega, ?_⟩
  refine ⟨_, rfl, rfl, m, rfl, by omega, by omega, ?_⟩
  refine ⟨d, rfl, _, rfl, _, rfl, rfl, n, m, rfl, n5, by omega, ?_⟩
  rw [← len]
  refine ⟨rfl, d, vs, _, rfl, hx, ?_⟩
  refine ⟨d, rfl, _, rfl, rfl, d, vs, n, rfl, hx, hv, ?_⟩
  refine ⟨_, rfl, _, rfl, rfl, n, m, rfl, n5, by omega, hk, ?_⟩
  refine ⟨_, rfl, a, dx, 3, [], rfl, by rw [fo.fl3]; rfl, ?_⟩
  refine ⟨_, rfl, a, dx, 3, _, rfl, by rw [fo.fl3]; rfl, ?_⟩
  cases d <;> cases hx
  all_goals
    refine ⟨_, rfl, a, dx, 3, _, rfl, by rw [fo.fl3]; rfl, ?_⟩
    exact ⟨_, rfl, by rw [fo.fl3]; rfl, hr⟩
theorem fld_told (fo : Gk G) {n m : Int} {vs : List Int} : (("things" : Str) ∈ G.fl 3 ∧ ("places" : Str) ∈ G.fl 3 ∧ ("tells" : Str) ∈ G.fl 3) ∧ [D.int n, D.int m, .tup (vs.map D.int)][(G.fl 3).idxOf ("things" : Str)]? = some (.int n) ∧ [D.int n, D.int m, .tup (vs.map D.int)][(G.fl 3).idxOf ("places" : Str)]? = some (.int m) ∧ [D.int n, D.int m, .tup (vs.map D.int)][(G.fl 3).idxOf ("tells" : Str)]? = some (.tup (vs.map D.int)) := by
  rw [fo.fl3]
  exact ⟨⟨by decide +kernel, by decide +kernel, by decide +kernel⟩, by rw [show ([Str.ofString "things", "places", "tells"] : List Str).idxOf ("things" : Str) = 0 by decide +kernel]; rfl, by rw [show ([Str.ofString "things", "places", "tells"] : List Str).idxOf ("places" : Str) = 1 by decide +kernel]; rfl, by rw [show ([Str.ofString "things", "places", "tells"] : List Str).idxOf ("tells" : Str) = 2 by decide +kernel]; rfl⟩
def sEqTold : FSpec := fun ds R _ => ∃ (n m : Int) (vs : List Int) (e : D), ds = [toldD n m vs, e] ∧ ((∃ (n2 m2 : Int) (vs2 : List Int), e = toldD n2 m2 vs2 ∧ R (.bl (n == n2 && (m == m2 && vs == vs2)))) ∨ (((∃ es, e = .tup es) ∨ ∃ x, e = .str x) ∧ R (.bl false)))
abbrev s_Told___eq__ : Stmt := inClass (topS 59) 1
theorem sc_Told___eq__ : FnScope ["self", "other"] ["self", "other"] (defScope s_Told___eq__) := ⟨rfl, rfl, rfl, by decide +kernel, rfl, by decide +kernel, by decide +kernel⟩
theorem ok_Told___eq__ (F : Fun G.K "__eq__" "Told.__eq__" s_Told___eq__ f fd) (bn : Bn mg) (fo : Gk G) (r_Told : mg "Told" = some (.ref (G.cl 3))) : FnD G P w mg base 1 f fd ["self", "other"] 0 sEqTold := by
  refine FnD.more (fnd_of F sc_Told___eq__ (fun cdv A outer s H E hr hg => have xk := xk_def (E := E) hr hg; (ds_cons (ds_if (dt_cmp (o_isnA) (de_ty (c_typeA xk.K) bn.type (da_cons (dv 1) da_nil)) (de_ref r_Told) (by rfl)) (ds_one (ds_ret de_bl)) ds_nil) (ds_one (ds_ret (de_and (de_cmp (o_eq xk.K xk.u64) (de_fld xk.K fo.things (dv 0)) (de_fld xk.K fo.things (dv 1)) (by rfl)) (de_and (de_cmp (o_eq xk.K xk.u64) (de_fld xk.K fo.places (dv 0)) (de_fld xk.K fo.places (dv 1)) (by rfl)) (de_one (de_cmp (o_eq xk.K xk.u64) (de_fld xk.K fo.tells (dv 0)) (de_fld xk.K fo.tells (dv 1)) (by rfl))))))))) ?_) (by decide)
  rintro ds R ex hl ⟨n, m, vs, e, rfl, hr⟩
  obtain ⟨⟨m1, m2, m3⟩, i1, i2, i3⟩ := fld_told fo (n := n) (m := m) (vs := vs)
  rcases hr with ⟨n', m', vs', rfl, hr⟩ | ⟨he, hr⟩
  · obtain ⟨_, j1, j2, j3⟩ := fld_told fo (n := n') (m := m') (vs := vs')
    refine ⟨_, rfl, .inl ⟨3, _, rfl, ?_⟩⟩
    refine .inl ⟨G.cl 3, rfl, rfl, false, rfl, ?_⟩
    refine ⟨_, rfl, 3, _, _, rfl, m1, i1, _, rfl, 3, _, _, rfl, m1, j1, eq_int ?_⟩
    refine ⟨n == n', rfl, ite_of (fun hb => ?_) fun hb => ?_⟩
    · rw [hb] at hr
      refine ⟨_, rfl, 3, _, _, rfl, m2, i2, _, rfl, 3, _, _, rfl, m2, j2, eq_int ?_⟩
      refine ⟨m == m', rfl, ite_of (fun hc => ?_) fun hc => ?_⟩
      · rw [hc] at hr
        exact ⟨_, rfl, 3, _, _, rfl, m3, i3, _, rfl, 3, _, _, rfl, m3, j3, eq_row shaped_row hr⟩
      · rw [hc] at hr
        exact hr
    · rw [hb] at hr
      exact hr
  · refine ⟨_, rfl, .inr ?_⟩
    rcases he with ⟨es, rfl⟩ | ⟨x, rfl⟩
    · exact .inl ⟨_, rfl, .inr ⟨"tuple", G.cl 3, rfl, rfl, true, rfl, hr⟩⟩
    · exact .inr ⟨_, rfl, .inr ⟨"str", G.cl 3, rfl, rfl, true, rfl, hr⟩⟩
end
end Pg
set_option Elab.async false
set_option linter.all false
set_option maxRecDepth 100000
set_option maxHeartbeats 4100000
namespace Pg
open PySem L2 RZ Kn
section
variable {G : Gd} {P : Program} {w : World} {mg : Str → Option Value} {base : Heap} {f : Addr} {fd : FuncData}
def pairUp (rel : Int → Int → Bool) : List Int → Bool
  | a :: b :: r => rel a b && pairUp rel (b :: r)
  | _ => true
theorem pairUp_zip (rel : Int → Int → Bool) : ∀ is : List Int, (is.zip (is.drop 1)).all (fun p => rel p.1 p.2) = pairUp rel is
  | [] => rfl
  | [_] => rfl
  | a :: b :: r => by
    have := pairUp_zip rel (b :: r)
    simp only [List.drop_succ_cons, List.drop_zero, List.zip_cons_cons, List.all_cons, pairUp] at this ⊢
    rw [← this]
theorem zipD_map : ∀ is js : List Int, zipD (is.map D.int) (js.map D.int) = (is.zip js).map fun p => D.tup [.int p.1, .int p.2]
  | [], _ => by simp [zipD]
  | _ :: _, [] => by simp [zipD]
  | a :: is, b :: js => by simp [zipD, zipD_map is js]
theorem cut_from1 {xs : List D} : cutD xs (some 1) none = xs.drop 1 := by
  unfold cutD
  have e1 : HT.sIx xs.length 0 (some 1) = min 1 xs.length := HT.sIx_nat xs.length 0 1
  rw [e1, HT.sIx_none]
  cases xs with
  | nil => rfl
  | cons x r =>
    rw [show min 1 (x :: r).length = 1 by rw [List.length_cons]; omega, List.length_cons, Nat.add_sub_cancel]
    exact List.take_length
def relD (rel : Int → Int → Bool) (d : D) : D := match d with
  | .tup [.int a, .int b] => .bl (rel a b)
  | _ => .non
theorem pairs_key {g : G2} (rel : Int → Int → Bool) (hg : ∀ a b Q, Q (.bl (rel a b)) → g (.int a) (.int b) Q) {d : D} {is : List Int} (hd : d = .tup (is.map D.int) ∨ d = .lst (is.map D.int)) {R : D → Prop} {ex : Exc → Prop} (hr : R (.bl (pairUp rel is))) :
    dBi (g1 gAll) (aCons (dComp [1, 2] (iZip (aCons (dVar 0) (aCons (dSl (dVar 0) (oSome (dC (.int 1))) oNone) aNil))) (tgTwo 1 2) bYes (dOp g (dVar 1) (dVar 2))) aNil) ex (env0 ["row", "one", "other"] [d]) R := by
  have key : compL (tgTwo 1 2) bYes (dOp g (dVar 1) (dVar 2)) (fun rs => g1 gAll [.lst rs] R) (inEnv (env0 ["row", "one", "other"] [d]) [1, 2]) (zipD (is.map D.int) (cutD (is.map D.int) (some 1) none)) [] := by
    rw [cut_from1, ← List.map_drop, zipD_map]
    refine compL_map (relD rel) (fun e he K hK => ?_) ?_
    · obtain ⟨p, hp, rfl⟩ := List.mem_map.mp he
      exact ⟨_, rfl, _, rfl, hg _ _ _ hK⟩
    · refine ⟨(is.zip (is.drop 1)).map fun p => rel p.1 p.2, by simp [List.map_map, Function.comp_def, relD], ?_⟩
      rw [List.all_map]
      have := pairUp_zip rel is
      rw [← this] at hr
      exact hr
  refine ⟨d, rfl, d, rfl, 1, rfl, ?_⟩
  rcases hd with rfl | rfl <;> exact key
/-- a test of a row of ints -/
def sRow (f : List Int → Bool) : FSpec := fun ds R _ => ∃ (d : D) (is : List Int), ds = [d] ∧ (d = .tup (is.map D.int) ∨ d = .lst (is.map D.int)) ∧ R (.bl (f is))
def leB (a b : Int) : Bool := decide (a ≤ b)
def geB (a b : Int) : Bool := decide (b ≤ a)
def ltB (a b : Int) : Bool := decide (a < b)
abbrev s_never_falls : Stmt := topS 46
theorem sc_never_falls : FnScope ["row", "one", "other"] ["row"] (defScope s_never_falls) := ⟨rfl, rfl, rfl, by decide +kernel, rfl, by decide +kernel, by decide +kernel⟩
theorem ok_never_falls (F : Fun G.K "never_falls" "never_falls" s_never_falls f fd) (bn : Bn mg)  : FnD G P w mg base 1 f fd ["row"] 0 (sRow (pairUp leB)) := by
  refine FnD.more (fnd_of F sc_never_falls (fun cdv A outer s H E hr hg => have xk := xk_def (E := E) hr hg; (ds_one (ds_ret (de_bi (c_all xk.calm) bn.all (da_cons (de_comp (own := [("one", 1), ("other", 2)]) xk sc_never_falls.nd (di_zip xk.K bn.zip (da_cons (dv 0) (da_cons (de_sl xk.K (dv 0) (do_some de_int) do_none) da_nil))) (blkOk_by (N := ["row", "one", "other"]) (sc := defScope s_never_falls) (by decide +kernel)) (fun s H C cl fp => (dg_two (i := 1) (j := 2) (Xk.blk xk _ _ _ _ _).K (Xk.blk xk _ _ _ _ _).calm sc_never_falls.nd rfl (Or.inl rfl) rfl (Or.inl rfl) (pg_name sc_never_falls.nd rfl (Or.inl rfl)) (pg_name sc_never_falls.nd rfl (Or.inl rfl)))) (fun s H C cl fp => dts_nil) (fun s H C cl fp => (de_cmp (o_le) (dv 1) (dv 2) (by rfl))) (by simp)) da_nil))))) ?_) (by decide)
  rintro ds R ex hl ⟨d, is, rfl, hd, hr⟩
  exact pairs_key leB (fun a b Q hq => by first | exact ⟨trivial, hq⟩ | exact hq) hd hr
abbrev s_never_rises : Stmt := topS 47
theorem sc_never_rises : FnScope ["row", "one", "other"] ["row"] (defScope s_never_rises) := ⟨rfl, rfl, rfl, by decide +kernel, rfl, by decide +kernel, by decide +kernel⟩
theorem ok_never_rises (F : Fun G.K "never_rises" "never_rises" s_never_rises f fd) (bn : Bn mg)  : FnD G P w mg base 1 f fd ["row"] 0 (sRow (pairUp geB)) := by
  refine FnD.more (fnd_of F sc_never_rises (fun cdv A outer s H E hr hg => have xk := xk_def (E := E) hr hg; (ds_one (ds_ret (de_bi (c_all xk.calm) bn.all (da_cons (de_comp (own := [("one", 1), ("other", 2)]) xk sc_never_rises.nd (di_zip xk.K bn.zip (da_cons (dv 0) (da_cons (de_sl xk.K (dv 0) (do_some de_int) do_none) da_nil))) (blkOk_by (N := ["row", "one", "other"]) (sc := defScope s_never_rises) (by decide +kernel)) (fun s H C cl fp => (dg_two (i := 1) (j := 2) (Xk.blk xk _ _ _ _ _).K (Xk.blk xk _ _ _ _ _).calm sc_never_rises.nd rfl (Or.inl rfl) rfl (Or.inl rfl) (pg_name sc_never_rises.nd rfl (Or.inl rfl)) (pg_name sc_never_rises.nd rfl (Or.inl rfl)))) (fun s H C cl fp => dts_nil) (fun s H C cl fp => (de_cmp (o_ge) (dv 1) (dv 2) (by rfl))) (by simp)) da_nil))))) ?_) (by decide)
  rintro ds R ex hl ⟨d, is, rfl, hd, hr⟩
  exact pairs_key geB (fun a b Q hq => by first | exact ⟨trivial, hq⟩ | exact hq) hd hr
abbrev s_rises : Stmt := topS 48
theorem sc_rises : FnScope ["row", "one", "other"] ["row"] (defScope s_rises) := ⟨rfl, rfl, rfl, by decide +kernel, rfl, by decide +kernel, by decide +kernel⟩
theorem ok_rises (F : Fun G.K "rises" "rises" s_rises f fd) (bn : Bn mg)  : FnD G P w mg base 1 f fd ["row"] 0 (sRow (pairUp ltB)) := by
  refine FnD.more (fnd_of F sc_rises (fun cdv A outer s H E hr hg => have xk := xk_def (E := E) hr hg; (ds_one (ds_ret (de_bi (c_all xk.calm) bn.all (da_cons (de_comp (own := [("one", 1), ("other", 2)]) xk sc_rises.nd (di_zip xk.K bn.zip (da_cons (dv 0) (da_cons (de_sl xk.K (dv 0) (do_some de_int) do_none) da_nil))) (blkOk_by (N := ["row", "one", "other"]) (sc := defScope s_rises) (by decide +kernel)) (fun s H C cl fp => (dg_two (i := 1) (j := 2) (Xk.blk xk _ _ _ _ _).K (Xk.blk xk _ _ _ _ _).calm sc_rises.nd rfl (Or.inl rfl) rfl (Or.inl rfl) (pg_name sc_rises.nd rfl (Or.inl rfl)) (pg_name sc_rises.nd rfl (Or.inl rfl)))) (fun s H C cl fp => dts_nil) (fun s H C cl fp => (de_cmp (o_lt) (dv 1) (dv 2) (by rfl))) (by simp)) da_nil))))) ?_) (by decide)
  rintro ds R ex hl ⟨d, is, rfl, hd, hr⟩
  exact pairs_key ltB (fun a b Q hq => by first | exact ⟨trivial, hq⟩ | exact hq) hd hr
def manners : List Str := ["blind", "rank", "either", "least", "ends", "one", "two", "alike", "order"]
theorem man_ok : ∀ m ∈ manners, PyData.strOk m = true := by decide +kernel
def last (is : List Int) : Int := is.getLastD 0
def isOf (m : Str) (into : Int) (r : List Int) : Bool :=
  if m == ("blind" : Str) then true else if m == ("rank" : Str) then pairUp leB r else if m == ("either" : Str) then (pairUp leB r || pairUp geB r)
  else if m == ("least" : Str) then (pairUp leB r && r.headD 0 == 0) else if m == ("ends" : Str) then (pairUp leB r && (r.headD 0 == 0 && last r == into - 1))
  else if m == ("one" : Str) then r.headD 0 == 0 else if m == ("two" : Str) then r.take 2 == [0, 1] else if m == ("alike" : Str) then decide r.Nodup else pairUp ltB r
theorem if_str {i : Nat} {m c : Str} (hm : PyData.strOk m = true) (hc : PyData.strOk c = true) {t u : DS} {ex : Exc → Prop} {de : DEnds} {env : List Sl} (he : env[i]? = some (.val (.str m))) (h1 : (m == c) = true → t ex de env) (h2 : (m == c) = false → u ex de env) :
    sIf (dTrue (dOp gEq (dVar i) (dC (.str c)))) t u ex de env := by
  refine ⟨.str m, he, ?_⟩
  refine eqC (eq_str hm hc ?_)
  refine ⟨m == c, rfl, ?_⟩
  cases hb : (m == c) with
  | true => exact h1 hb
  | false => exact h2 hb
theorem map_at0 {a : Int} {q : List Int} : atI ((a :: q).map D.int) 0 = some (.int a) := atI_cons
theorem map_last {a : Int} {q : List Int} : atI ((a :: q).map D.int) (-1) = some (.int (last (a :: q))) := by
  have e : (a :: q) = (a :: q).dropLast ++ [last (a :: q)] := by
    rw [show last (a :: q) = (a :: q).getLast (by simp) by simp [last, List.getLastD_eq_getLast?, List.getLast?_eq_getLast]]
    exact (List.dropLast_concat_getLast (by simp)).symm
  rw [e, List.map_append]
  have h := atI_last (((a :: q).dropLast).map D.int) (D.int (last (a :: q)))
  rw [← e]
  exact h
theorem cut_to2 {xs : List D} : cutD xs none (some 2) = xs.take 2 := by
  unfold cutD
  rw [HT.sIx_none, show HT.sIx xs.length xs.length (some 2) = min 2 xs.length from HT.sIx_nat xs.length xs.length 2, List.drop_zero, Nat.sub_zero]
  by_cases h : 2 ≤ xs.length
  · rw [Nat.min_eq_left h]
  · rw [Nat.min_eq_right (by omega), List.take_length, List.take_of_length_le (by omega)]
theorem sorted_up {ns r : List Int} (p : ns.Perm r) (s : ns.Pairwise (· ≤ ·)) : pairUp ltB ns = decide r.Nodup := by
  have e : decide r.Nodup = decide ns.Nodup := by
    by_cases h : ns.Nodup
    · rw [decide_eq_true h, decide_eq_true (p.nodup_iff.mp h)]
    · rw [decide_eq_false h, decide_eq_false fun z => h (p.nodup_iff.mpr z)]
  rw [e]
  clear e p
  induction ns with
  | nil => rfl
  | cons a l ih =>
    cases l with
    | nil => rfl
    | cons b l =>
      have s2 := (List.pairwise_cons.mp s).2
      have s1 := (List.pairwise_cons.mp s).1
      have hab := s1 b List.mem_cons_self
      show (ltB a b && pairUp ltB (b :: l)) = _
      rw [ih s2]
      by_cases h : a < b
      · have hn : a ∉ b :: l := fun z => by
          rcases List.mem_cons.mp
                z with z | z
          · omega
          · have := (List.pairwise_cons.mp s2).1 a z; omega
        simp only [ltB, decide_eq_true h, Bool.true_and, List.nodup_cons (a := a), hn, not_false_eq_true, true_and]
      · have e : a = b := by omega
        subst e
        simp [ltB]
def sRowOf : FSpec := fun ds R _ => ∃ (r : List Int) (into : Int) (m : Str), ds = [rowD r, .int into, .str m] ∧ m ∈ manners ∧ r ≠ [] ∧ r.length ≤ 1000 ∧ R (.bl (isOf m into r))
abbrev s_row_is_of : Stmt := topS 49
theorem sc_row_is_of : FnScope ["row", "into", "manner"] ["row", "into", "manner"] (defScope s_row_is_of) := ⟨rfl, rfl, rfl, by decide +kernel, rfl, by decide +kernel, by decide +kernel⟩
theorem ok_row_is_of (F : Fun G.K "row_is_of" "row_is_of" s_row_is_of f fd) (bn : Bn mg) (F_never_falls : Fk G P w mg base 1 "never_falls" ["row"] 0 (sRow (pairUp leB))) (F_never_rises : Fk G P w mg base 1 "never_rises" ["row"] 0 (sRow (pairUp geB))) (F_rises : Fk G P w mg base 1 "rises" ["row"] 0 (sRow (pairUp ltB))) : FnD G P w mg base 2 f fd ["row", "into", "manner"] 0 sRowOf := by
  refine FnD.more (fnd_of F sc_row_is_of (fun cdv A outer s H E hr hg => have xk := xk_def (E := E) hr hg; (ds_cons (ds_if (dt_cmp (o_eq xk.K xk.u64) (dv 2) de_str (by rfl)) (ds_one (ds_ret de_bl)) ds_nil) (ds_cons (ds_if (dt_cmp (o_eq xk.K xk.u64) (dv 2) de_str (by rfl)) (ds_one (ds_ret (de_call F_never_falls xk (da_cons (dv 0) da_nil)))) ds_nil) (ds_cons (ds_if (dt_cmp (o_eq xk.K xk.u64) (dv 2) de_str (by rfl)) (ds_one (ds_ret (de_or (de_call F_never_falls xk (da_cons (dv 0) da_nil)) (de_one (de_call F_never_rises xk (da_cons (dv 0) da_nil)))))) ds_nil) (ds_cons (ds_if (dt_cmp (o_eq xk.K xk.u64) (dv 2) de_str (by rfl)) (ds_one (ds_ret (de_and (de_call F_never_falls xk (da_cons (dv 0) da_nil)) (de_one (de_cmp (o_eq xk.K xk.u64) (de_ix xk.K (dv 0) de_int (fun _ _ => rfl)) de_int (by rfl)))))) ds_nil) (ds_cons (ds_if (dt_cmp (o_eq xk.K xk.u64) (dv 2) de_str (by rfl)) (ds_one (ds_ret (de_and (de_call F_never_falls xk (da_cons (dv 0) da_nil)) (de_and (de_cmp (o_eq xk.K xk.u64) (de_ix xk.K (dv 0) de_int (fun _ _ => rfl)) de_int (by rfl)) (de_one (de_cmp (o_eq xk.K xk.u64) (de_ix xk.K (dv 0) (de_neg de_int) (fun _ _ => rfl)) (de_op (o_sub) (dv 1) de_int) (by rfl))))))) ds_nil) (ds_cons (ds_if (dt_cmp (o_eq xk.K xk.u64) (dv 2) de_str (by rfl)) (ds_one (ds_ret (de_cmp (o_eq xk.K xk.u64) (de_ix xk.K (dv 0) de_int (fun _ _ => rfl)) de_int (by rfl)))) ds_nil) (ds_cons (ds_if (dt_cmp (o_eq xk.K xk.u64) (dv 2) de_str (by rfl)) (ds_one (ds_ret (de_cmp (o_eq xk.K xk.u64) (de_sl xk.K (dv 0) do_none (do_some de_int)) (de_tup (da_cons de_int (da_cons de_int da_nil))) (by rfl)))) ds_nil) (ds_cons (ds_if (dt_cmp (o_eq xk.K xk.u64) (dv 2) de_str (by rfl)) (ds_one (ds_ret (de_call F_rises xk (da_cons (de_bi (c_sortA xk.K) bn.sorted (da_cons (dv 0) da_nil)) da_nil)))) ds_nil) (ds_one (ds_ret (de_call F_rises xk (da_cons (dv 0) da_nil))))))))))))) ?_) (by decide)
  rintro ds R ex hl ⟨r, into, m, rfl, hm, hne, hrl, hr⟩
  have hok := man_ok m hm
  obtain ⟨a, q, rfl⟩ : ∃ a q, r = a :: q := by cases r with
    | nil => exact absurd rfl hne
    | cons a q => exact ⟨a, q, rfl⟩
  unfold isOf at hr
  refine if_str hok (by decide +kernel) rfl (fun h => ?_) fun h => ?_
  · rw [if_pos h] at hr; exact hr
  rw [if_neg (by rw [h]; decide)] at hr
  refine if_str hok (by decide +kernel) rfl (fun h => ?_) fun h => ?_
  · rw [if_pos h] at hr; exact ⟨_, rfl, rfl, _, a :: q, rfl, .inl rfl, hr⟩
  rw [if_neg (by rw [h]; decide)] at hr
  refine if_str hok (by decide +kernel) rfl (fun h => ?_) fun h => ?_
  · rw [if_pos h] at hr
    refine ⟨_, rfl, rfl, _, a :: q, rfl, .inl rfl, _, rfl, ?_⟩
    cases hb : pairUp leB (a :: q) with
    | true => rw [hb] at hr; exact hr
    | false => rw [hb] at hr; exact ⟨_, rfl, rfl, _, a :: q, rfl, .inl rfl, hr⟩
  rw [if_neg (by rw [h]; decide)] at hr
  refine if_str hok (by decide +kernel) rfl (fun h => ?_) fun h => ?_
  · rw [if_pos h] at hr
    refine ⟨_, rfl, rfl, _, a :: q, rfl, .inl rfl, _, rfl, ?_⟩
    cases hb : pairUp leB (a :: q) with
    | false => rw [hb] at hr; exact hr
    | true => rw [hb] at hr; exact ⟨_, rfl, _, map_at0, eq_int hr⟩
  rw [if_neg (by rw [h]; decide)] at hr
  refine if_str hok (by decide +kernel) rfl (fun h => ?_) fun h => ?_
  · rw [if_pos h] at hr
    refine ⟨_, rfl, rfl, _, a :: q, rfl, .inl rfl, _, rfl, ?_⟩
    cases hb : pairUp leB (a :: q) with
    | false => rw [hb] at hr; exact hr
    | true =>
      rw [hb] at hr
      refine ⟨_, rfl, _, map_at0, ?_⟩
      refine eqC (eq_int ?_)
      refine ⟨_, rfl, ?_⟩
      cases hc : (a == 0) with
      | false => rw [show ((a :: q).headD 0 == 0) = (a == 0) from rfl, hc] at hr; exact hr
      | true =>
        rw [show ((a :: q).headD 0 == 0) = (a == 0) from rfl, hc] at hr
        exact ⟨_, rfl, 1, rfl, .int (last (a :: q)), map_last, .int into, rfl, trivial, eq_int hr⟩
  rw [if_neg (by rw [h]; decide)] at hr
  refine if_str hok (by decide +kernel) rfl (fun h => ?_) fun h => ?_
  · rw [if_pos h] at hr; exact ⟨_, rfl, _, map_at0, eq_int hr⟩
  rw [if_neg (by rw [h]; decide)] at hr
  refine if_str hok (by decide +kernel) rfl (fun h => ?_) fun h => ?_
  · rw [if_pos h] at hr
    refine ⟨_, rfl, 2, rfl, ?_⟩
    have e : cutD ((a :: q).map D.int) none (some 2) = ((a :: q).take 2).map D.int := by rw [cut_to2, List.map_take]
    refine ⟨small (by simp), ?_⟩
    show gEq (.tup (cutD ((a :: q).map D.int) none (some 2))) (.tup ([0, 1].map D.int)) R
    rw [e]
    exact eq_row shaped_row hr
  rw [if_neg (by rw [h]; decide)] at hr
  refine if_str hok (by decide +kernel) rfl (fun h => ?_) fun h => ?_
  · rw [if_pos h] at hr
    refine ⟨_, rfl, a :: q, .inr rfl, fun ns p s => ?_⟩
    refine ⟨rfl, _, ns, rfl, .inr rfl, ?_⟩
    rw [sorted_up p s]
    exact hr
  rw [if_neg (by rw [h]; decide)] at hr
  exact ⟨_, rfl, rfl, _, a :: q, rfl, .inl rfl, hr⟩
theorem isB_str : isB (.str m) "str" = some true := by show kitB "str" "str" = some true; decide +kernel
theorem any_man {m : Str} (h : m ∈ manners) : ((manners.map PyData.str).any fun z => PyData.eqv z (.str m)) = true := by
  rw [List.any_map, List.any_eq_true]
  exact ⟨m, h, by show (m == m) = true; exact beq_self_eq_true m⟩
theorem shaped_man : SeqAt.shaped (.tuple (manners.map PyData.str)) = true := by decide +kernel
def sDemManL : FSpec := fun ds R _ => ∃ (m : Str) (p : D), ds = [.str m, p] ∧ m ∈ manners ∧ R .non
abbrev s_demand_manner : Stmt := topS 44
theorem sc_demand_manner : FnScope ["manner", "part"] ["manner", "part"] (defScope s_demand_manner) := ⟨rfl, rfl, rfl, by decide +kernel, rfl, by decide +kernel, by decide +kernel⟩
theorem ok_demand_manner (F : Fun G.K "demand_manner" "demand_manner" s_demand_manner f fd) (bn : Bn mg) (g_MANNERS : GTup G mg "MANNERS" manners) : FnD G P w mg base 1 f fd ["manner", "part"] 0 sDemManL := by
  refine FnD.more (fnd_of F sc_demand_manner (fun cdv A outer s H E hr hg => have xk := xk_def (E := E) hr hg; (ds_one (ds_if (dt_w (dw_or (dt_not (dt_val (de_bi (c_isi xk.K) bn.isinstance (da_cons (dv 0) (da_cons (de_tyn (n := "str") bn.str) da_nil))))) (dw_or1 (dt_cmp (o_niT xk.K xk.u65) (dv 0) (de_gtup g_MANNERS) (by rfl))))) (ds_one ds_never) ds_nil))) ?_) (by decide)
  rintro ds R ex hl ⟨m, p, rfl, hm, hr⟩
  refine ⟨_, rfl, _, _, rfl, isB_str, true, rfl, ?_⟩
  refine ⟨_, rfl, .str m, manners.map PyData.str, strsD manners, rfl, rfl, pdL_str manners, shaped_str (man_ok m hm), shaped_man, ?_⟩
  rw [any_man hm]
  exact ⟨false, rfl, hr⟩
def sDemTwoW : FSpec := fun ds R _ => ∃ (m : Str) (ns : List Int), ds = [.str m, .tup (ns.map D.int)] ∧ m ∈ manners ∧ ns.length ≤ 100 ∧ (m = ("two" : Str) → 1 ∉ ns) ∧ R .non
theorem any_one {ns : List Int} (h : 1 ∉ ns) : ((ns.map PyData.int).any fun z => PyData.eqv z (.int 1)) = false := by
  rw [List.any_map, List.any_eq_false]
  intro x hx z
  have e : (x == 1) = true := z
  exact h (by rw [← eq_of_beq e]; exact hx)
abbrev s_demand_two : Stmt := topS 45
theorem sc_demand_two : FnScope ["manner", "worlds"] ["manner", "worlds"] (defScope s_demand_two) := ⟨rfl, rfl, rfl, by decide +kernel, rfl, by decide +kernel, by decide +kernel⟩
theorem ok_demand_two (F : Fun G.K "demand_two" "demand_two" s_demand_two f fd) (bn : Bn mg)  : FnD G P w mg base 1 f fd ["manner", "worlds"] 0 sDemTwoW := by
  refine FnD.more (fnd_of F sc_demand_two (fun cdv A outer s H E hr hg => have xk := xk_def (E := E) hr hg; (ds_one (ds_if (dt_w (dw_and (dt_cmp (o_eq xk.K xk.u64) (dv 0) de_str (by rfl)) (dw_and1 (dt_cmp (o_inT xk.K xk.u65) de_int (dv 1) (by rfl))))) (ds_one ds_never) ds_nil))) ?_) (by decide)
  rintro ds R ex hl ⟨m, ns, rfl, hm, hln, h2, hr⟩
  refine ⟨.str m, rfl, ?_⟩
  refine eqC (eq_str (man_ok m hm) (by decide +kernel) ?_)
  refine ⟨m == ("two" : Str), rfl, ?_⟩
  cases hb : (m == ("two" : Str)) with
  | false => exact hr
  | true =>
    refine ⟨_, rfl, .int 1, ns.map PyData.int, ns.map D.int, rfl, rfl, pdL_int ns, shaped_int 1, shaped_row ns, ?_⟩
    rw [any_one (h2 (eq_of_beq hb))]
    exact ⟨false, rfl, hr⟩
end
end Pg
set_option Elab.async false
set_option linter.all false
set_option maxRecDepth 100000
set_option maxHeartbeats 4100000
namespace Pg
open PySem L2 RZ Kn
section
variable {G : Gd} {P : Program} {w : World} {mg : Str → Option Value} {base : Heap} {f : Addr} {fd : FuncData}
theorem rows_at {n : Nat} : ∀ {r : List Int} {m : Nat}, r.length = m → (∀ i ∈ r, 0 ≤ i ∧ i < (n : Int)) → (allRows n m)[(idxR n r).toNat]? = some r := fun {r} => by
  induction r using PyProof.Rows.FinIter.snoc_ind with
  | nil =>
    intro m hm _
    subst hm
    rfl
  | snoc r i ih =>
    intro m hm hv
    subst hm
    have hv' : ∀ j ∈ r, 0 ≤ j ∧ j < (n : Int) := fun j hj => hv j (List.mem_append_left _ hj)
    obtain ⟨g0, g1⟩ := hv i (List.mem_append_right _ (List.mem_singleton_self _))
    obtain ⟨t, rfl⟩ := Int.eq_ofNat_of_zero_le g0
    obtain ⟨b0, _⟩ := idx_bound (n := n) (by omega) hv'
    have ht : t < n := by omega
    have e := ih rfl hv'
    rw [List.length_append, List.length_singleton, idx_snoc]
    obtain ⟨j, hj⟩ := Int.eq_ofNat_of_zero_le b0
    rw [hj, show ((j : Int) * (n : Int) + (t : Int)).toNat = j * n + t by rw [← Int.natCast_mul, ← Int.natCast_add, Int.toNat_natCast]]
    rw [hj, Int.toNat_natCast] at e
    show ((allRows n r.length).flatMap fun r => (List.range n).map fun (t : Nat) => r ++ [(t : Int)])[j * n + t]? = _
    rw [flat_at (k := n) (fun x _ => by simp) e ht, List.getElem?_map, List.getElem?_range ht]
    rfl
theorem idx_of_row {n : Nat} : ∀ {m j : Nat} {r : List Int}, (allRows n m)[j]? = some r → idxR n r = (j : Int)
  | 0, j, r, h => by
    obtain ⟨hj, e⟩ := List.getElem?_eq_some_iff.mp h
    have hj' : j < 1 := hj
    have e0 : j = 0 := by omega
    subst e0
    have e1 : ([] : List Int) = r := e
    rw [← e1]; rfl
  | m + 1, j, r, h => by
    obtain ⟨hj, _⟩ := List.getElem?_eq_some_iff.mp h
    rw [allRows_len, Nat.pow_succ] at hj
    have hn : 0 < n := by
      rcases Nat.eq_zero_or_pos n with z | z
      · rw [z] at hj; simp at hj
      · exact z
    have hd : j / n < (allRows n m).length := by rw [allRows_len]; exact (Nat.div_lt_iff_lt_mul hn).mpr hj
    have hmod := Nat.mod_lt j hn
    have hsum := Nat.div_add_mod j n
    have e := flat_at (k := n) (g := fun r : List Int => (List.range n).map fun (t : Nat) => r ++ [(t : Int)]) (fun x _ => by simp) (List.getElem?_eq_getElem hd) hmod
    rw [Nat.mul_comm, hsum] at e
    have h' : ((allRows n m).flatMap fun r => (List.range n).map fun (t : Nat) => r ++ [(t : Int)])[j]? = some r := h
    rw [h', List.getElem?_map, List.getElem?_range hmod] at e
    have e' := Option.some.inj e
    rw [e', idx_snoc, idx_of_row (List.getElem?_eq_getElem hd), ← Int.natCast_mul, ← Int.natCast_add, Nat.mul_comm, hsum]
/-- a told function at a row; a row led; whether a lead parts a told function at a row -/
def fV (n : Nat) (vs r : List Int) : Int := atR vs (idxR n r)
def ledR (l r : List Int) : List Int := r.map (atR l)
def partsB (n : Nat) (vs l r : List Int) : Bool := fV n vs (ledR l r) != atR l (fV n vs r)
def partO (n m : Nat) (vs l : List Int) : Option (List Int) := (allRows n m).find? (partsB n vs l)
def optD : Option (List Int) → D
  | none => .non
  | some r => rowD r
theorem atR_val {l : List Int} {i n : Int} (h0 : 0 ≤ i) (h1 : i < l.length) (hv : ∀ j ∈ l, 0 ≤ j ∧ j < n) : 0 ≤ atR l i ∧ atR l i < n := (atR_in h0 h1 hv).2
theorem led_row {n k m : Nat} {l r : List Int} (hl : RowIn k n l) (hr : r.length = m) (hv : ∀ i ∈ r, 0 ≤ i ∧ i < (k : Int)) : (ledR l r).length = m ∧ ∀ i ∈ ledR l r, 0 ≤ i ∧ i < (n : Int) := by
  refine ⟨by unfold ledR; rw [List.length_map, hr], fun i hi => ?_⟩
  obtain ⟨j, hj, rfl⟩ := List.mem_map.mp hi
  obtain ⟨h0, h1⟩ := hv j hj
  exact atR_val h0 (by rw [hl.1]; exact h1) hl.2
theorem fV_val {n m : Nat} {vs r : List Int} (T : ToldIn n m vs) (hl : r.length = m) (hv : ∀ i ∈ r, 0 ≤ i ∧ i < (n : Int)) : 0 ≤ fV n vs r ∧ fV n vs r < (n : Int) := by
  obtain ⟨b0, b1⟩ := idx_bound (n := n) (by omega) hv
  exact atR_val b0 (by rw [T.len, hl] at *; exact_mod_cast b1) T.val
theorem idx_toNat {n m : Nat} {r : List Int} (hl : r.length = m) (hv : ∀ i ∈ r, 0 ≤ i ∧ i < (n : Int)) : ∃ k : Nat, idxR n r = k ∧ k < n ^ m ∧ (allRows n m)[k]? = some r := by
  obtain ⟨b0, b1⟩ := idx_bound (n := n) (by omega) hv
  obtain ⟨k, hk⟩ := Int.eq_ofNat_of_zero_le b0
  have h1 := rows_at hl hv
  rw [hk] at h1 b1
  refine ⟨k, hk, ?_, h1⟩
  rw [hl] at b1
  exact_mod_cast b1
theorem told_vals {n m : Nat} {vs : List Int} (hl : vs.length = n ^ m) : (allRows n m).map (fV n vs) = vs := by
  refine List.ext_getElem? fun j => ?_; rw [List.getElem?_map]
  cases h : (allRows n m)[j]? with
  | none =>
    have h2 : n ^ m ≤ j := by rw [← allRows_len n m]; exact List.getElem?_eq_none_iff.mp h
    rw [List.getElem?_eq_none (by omega)]; rfl
  | some r =>
    have e := idx_of_row h
    have hj : j < vs.length := by rw [hl, ← allRows_len n m]; exact (List.getElem?_eq_some_iff.mp h).1
    show some (fV n vs r) = _
    unfold fV atR
    rw [e, Int.toNat_natCast, List.getD_eq_getElem?_getD, List.getElem?_eq_getElem hj]; rfl
theorem find_idx {α : Type} (p : α → Bool) : ∀ (l : List α) (x : α), l.find? p = some x → ∃ k : Nat, l[k]? = some x ∧ p x = true ∧ ∀ j : Nat, j < k → ∀ y : α, l[j]? = some y → p y = false
  | [], x, h => by cases h
  | y :: l, x, h => by
    rw [List.find?_cons] at h
    cases hp : p y with
    | true =>
      rw [hp] at h
      cases h
      exact ⟨0, rfl, hp, fun j hj => by omega⟩
    | false =>
      rw [hp] at h
      obtain ⟨k, h1, h2, h3⟩ := find_idx p l x h
      refine ⟨k + 1, h1, h2, fun j hj z hz => ?_⟩
      cases j with
      | zero => cases hz; exact hp
      | succ j => exact h3 j (by omega) z hz
def sRowAt : FSpec := fun ds R _ => ∃ (n m : Nat) (r : List Int), ds = [.int (idxR n r), .int n, .int m] ∧ 1 ≤ n ∧ n ≤ 5 ∧ r.length = m ∧ m ≤ 5 ∧ (∀ i ∈ r, 0 ≤ i ∧ i < (n : Int)) ∧ R (rowD r)
abbrev s_row_at : Stmt := topS 40
theorem sc_row_at : FnScope ["index", "things", "many", "row", "_"] ["index", "things", "many"] (defScope s_row_at) := ⟨rfl, rfl, rfl, by decide +kernel, rfl, by decide +kernel, by decide +kernel⟩
theorem ok_row_at (F : Fun G.K "row_at" "row_at" s_row_at f fd) (bn : Bn mg)  : FnD G P w mg base 1 f fd ["index", "things", "many"] 0 sRowAt := by
  refine FnD.more (fnd_of F sc_row_at (fun cdv A outer s H E hr hg => have xk := xk_def (E := E) hr hg; (ds_cons (ds_own (i := 3) sc_row_at.nd rfl (Or.inl rfl) (df_lst da_nil)) (ds_cons (ds_for xk po_def (di_range1 bn.range (da_cons (dv 2) da_nil)) (dg_name (i := 4) sc_row_at.nd rfl (Or.inl rfl)) (ds_cons (ds_app (i := 3) rfl (de_op (o_mod) (dv 0) (dv 1))) (ds_one (ds_set (i := 0) sc_row_at.nd rfl (Or.inl rfl) (de_op (o_div) (dv 0) (dv 1)))))) (ds_freeze (i := 3) (ds_one (ds_ret (de_ty (c_tuple xk.K) bn.tuple (da_cons (de_revL (dv 3)) da_nil)))))))) ?_) (by decide)
  rintro ds R ex hl ⟨n, m, r, rfl, n1, n5, hrl, m5, hv, hr⟩
  refine ⟨small (by simp), fun a => ?_⟩
  dsimp only [List.set]
  refine seq_to (fun env' => ∃ a s0 s4, env' = [s0, .val (.int n), .val (.int m), .own a (r.reverse.map D.int), s4]) (fun de' hnx hrt => ?_) (fun env' e => ?_)
  · refine ⟨_, rfl, (m : Int), rfl, by omega, by omega, ?_⟩
    rw [Int.toNat_natCast]
    refine sForL_rng (fun i env => i ≤ m ∧ ∃ a s, env = [.val (.int (idxR n (r.take (m - i)))), .val (.int n), .val (.int m), .own a ((r.drop (m - i)).reverse.map D.int), s]) ⟨Nat.zero_le _, a, .emp, ?_⟩ (fun i env hi hI nx hn2 => ?_) (fun env hI => ?_)
    · rw [Nat.sub_zero, ← hrl, List.take_length, List.drop_length]; rfl
    · obtain ⟨him, a, s, rfl⟩ := hI
      have hj : m - i - 1 < r.length := by omega
      have e1 : r.take (m - i) = r.take (m - i - 1) ++ [r[m - i - 1]] := by
        have := List.take_succ (l := r) (i := m - i - 1)
        rw [show m - i - 1 + 1 = m - i by omega, List.getElem?_eq_getElem hj] at this
        exact this
      have e2 : r.drop (m - i - 1) = r[m - i - 1] :: r.drop (m - i) := by
        rw [List.drop_eq_getElem_cons hj, show m - i - 1 + 1 = m - i by omega]
      obtain ⟨x0, x1⟩ := hv _ (List.getElem_mem hj)
      have hq := (idx_bound (n := n) (r := r.take (m - i - 1)) (by omega) fun j hj => hv j (List.mem_of_mem_take hj)).1
      rw [e1, idx_snoc]
      have em : (idxR n (r.take (m - i - 1)) * n + r[m - i - 1]) % (n : Int) = r[m - i - 1] := by
        rw [Int.add_comm, Int.add_mul_emod_self_right, Int.emod_eq_of_lt x0 x1]
      have ed : (idxR n (r.take (m - i - 1)) * n + r[m - i - 1]) / (n : Int) = idxR n (r.take (m - i - 1)) := by
        rw [Int.add_comm, Int.add_mul_ediv_right _ _ (by omega), Int.ediv_eq_zero_of_lt x0 x1, Int.zero_add]
      refine ⟨a, _, rfl, _, rfl, _, rfl, by omega, ?_⟩
      dsimp only
      rw [em]
      refine ⟨small (by simp; omega), _, rfl, _, rfl, ⟨by omega, by omega⟩, ?_⟩
      dsimp only
      rw [ed]
      refine hn2 _ ⟨by omega, a, .val (.int i), ?_⟩
      rw [show m - (i + 1) = m - i - 1 by omega, e2, List.reverse_cons, List.map_append]
      rfl
    · obtain ⟨_, a, s, rfl⟩ := hI
      refine hnx _ ⟨a, .val (.int (idxR n (r.take (m - m)))), s, ?_⟩
      rw [Nat.sub_self, List.drop_zero]
  obtain ⟨a, s0, s4, rfl⟩ := e
  refine ⟨a, _, rfl, _, rfl, _, rfl, ?_⟩
  rw [← List.map_reverse, List.reverse_reverse]
  exact hr
def sLedIdx : FSpec := fun ds R _ => ∃ (k n m : Nat) (l : List Int), ds = [rowD l, .int n, .int m] ∧ k ≤ 5 ∧ n ≤ 5 ∧ m ≤ 4 ∧ RowIn k n l ∧ R (.lst (((allRows k m).map fun r => idxR n (ledR l r)).map D.int))
theorem led_snoc (l r : List Int) (i : Int) : ledR l (r ++ [i]) = ledR l r ++ [atR l i] := by unfold ledR; rw [List.map_append]; rfl
theorem idx_small {n m : Nat} {r : List Int} (hn : n ≤ 5) (hm : m ≤ 5) (hl : r.length = m) (hv : ∀ i ∈ r, 0 ≤ i ∧ i < (n : Int)) : 0 ≤ idxR n r ∧ idxR n r < 3200 := by
  obtain ⟨k, h1, h2, _⟩ := idx_toNat hl hv
  have := pow_val hn hm
  omega
abbrev s_led_indices : Stmt := topS 41
theorem sc_led_indices : FnScope ["row", "into", "many", "indices", "_", "index", "thing"] ["row", "into", "many"] (defScope s_led_indices) := ⟨rfl, rfl, rfl, by decide +kernel, rfl, by decide +kernel, by decide +kernel⟩
theorem ok_led_indices (F : Fun G.K "led_indices" "led_indices" s_led_indices f fd) (bn : Bn mg)  : FnD G P w mg base 1 f fd ["row", "into", "many"] 0 sLedIdx := by
  refine FnD.more (fnd_of F sc_led_indices (fun cdv A outer s H E hr hg => have xk := xk_def (E := E) hr hg; (ds_cons (ds_set (i := 3) sc_led_indices.nd rfl (Or.inl rfl) (de_lst (da_cons de_int da_nil))) (ds_cons (ds_for xk po_def (di_range1 bn.range (da_cons (dv 2) da_nil)) (dg_name (i := 4) sc_led_indices.nd rfl (Or.inl rfl)) (ds_one (ds_setComp2 (i := 3) (own := [("index", 5), ("thing", 6)]) (vs1 := [6]) xk sc_led_indices.nd rfl rfl (sw_true rfl rfl rfl (by decide +kernel)) (di_seq xk.K (dv 3)) (blkOk_by (N := ["row", "into", "many", "indices", "_", "index", "thing"]) (sc := defScope s_led_indices) (by decide +kernel)) (by simp) (fun s H C cl fp => (dg_name (i := 5) sc_led_indices.nd rfl (Or.inl rfl))) (fun s H C cl fp => dts_nil) (fun s H C cl fp => (di_seq (Xk.blk xk _ _ _ _ _).K (dv 0))) (fun s H C cl fp => (dg_name (i := 6) sc_led_indices.nd rfl (Or.inl rfl))) (fun s H C cl fp => dts_nil) (fun s H C cl fp => (de_op (o_add (Xk.blk xk _ _ _ _ _).K) (de_op (o_mul) (dv 5) (dv 1)) (dv 6))) (by simp) (by simp)))) (ds_one (ds_ret (dv 3)))))) ?_) (by decide)
  rintro ds R ex hl ⟨k, n, m, l, rfl, k5, n5, m4, L, hr⟩
  refine ⟨small (by simp), ?_⟩
  refine ⟨_, rfl, (m : Int), rfl, by omega, by omega, ?_⟩
  rw [Int.toNat_natCast]
  refine sForL_rng (fun i env => i ≤ m ∧ ∃ s, env = [.val (rowD l), .val (.int n), .val (.int m), .val (.lst (((allRows k i).map fun r => idxR n (ledR l r)).map D.int)), s, .emp, .emp]) ⟨Nat.zero_le _, .emp, rfl⟩ (fun i env hi hI nx hn2 => ?_) (fun env hI => ?_)
  · obtain ⟨him, s, rfl⟩ := hI
    refine ⟨_, rfl, ?_⟩
    have hlen : ((((allRows k i).map fun r => idxR n (ledR l r)).map D.int).flatMap fun _ => l.map D.int).length = k ^ (i + 1) := by
      rw [flat_const, List.length_map, List.length_map, List.length_map, allRows_len, L.1, Nat.pow_succ]
    refine compL2_map (fun _ => l.map D.int) (fun d e => match d, e with | .int a, .int b => .int (a * n + b) | _, _ => .non) ?_ (fun d hd K acc2 hK hl2 => ?_) ?_
    · rw [hlen]
      have := pow_val (n := k) (m := i + 1) k5 (by omega)
      exact small (by simp; omega)
    · obtain ⟨v, hv, rfl⟩ := List.mem_map.mp hd
      obtain ⟨r, hr2, rfl⟩ := List.mem_map.mp hv
      have hrl := allRows_row k i r hr2
      obtain ⟨g1, g2⟩ := led_row (n := n) L hrl (allRows_val k i r hr2)
      obtain ⟨b0, b1⟩ := idx_small n5 (by omega) g1 g2
      refine ⟨_, rfl, ?_⟩
      refine compI_map _ hl2 (fun e he K2 hK2 => ?_) hK
      obtain ⟨t, ht, rfl⟩ := List.mem_map.mp he
      exact ⟨_, rfl, _, rfl, .inr ⟨by omega, by omega⟩, _, rfl, hK2⟩
    · refine hn2 _ ⟨by omega, .val (.int i), ?_⟩
      have e : ((((allRows k i).map fun r => idxR n (ledR l r)).map D.int).flatMap fun d => (l.map D.int).map fun e => match d, e with | .int a, .int b => D.int (a * n + b) | _, _ => .non) = ((allRows k (i + 1)).map fun r => idxR n (ledR l r)).map D.int := by
        rw [show allRows k (i + 1) = (allRows k i).flatMap fun r => (List.range k).map fun (t : Nat) => r ++ [(t : Int)] from rfl, List.map_map, List.map_map, List.map_flatMap, List.flatMap_map]
        congr 1
        funext r
        have el : l.map D.int = (List.range k).map fun (t : Nat) => D.int (atR l (t : Int)) := by
          have e0 : l = (idx k).map (atR l) := by rw [← L.1]; exact (idx_at l).symm
          conv => lhs; rw [e0]
          unfold idx
          rw [List.map_map, List.map_map]; rfl
        rw [el, List.map_map, List.map_map]
        refine List.map_congr_left fun t _ => ?_
        show D.int (idxR n (ledR l r) * n + atR l (t : Int)) = D.int (idxR n (ledR l (r ++ [(t : Int)])))
        rw [led_snoc, idx_snoc]
      rw [List.nil_append, e]
      rfl
  · obtain ⟨him, s, rfl⟩ := hI
    exact ⟨_, rfl, hr⟩
def sDemTold : FSpec := fun ds R _ => ∃ (n m : Int) (vs : List Int), ds = [toldD n m vs] ∧ R .non
abbrev s_demand_told : Stmt := topS 60
theorem sc_demand_told : FnScope ["told"] ["told"] (defScope s_demand_told) := ⟨rfl, rfl, rfl, by decide +kernel, rfl, by decide +kernel, by decide +kernel⟩
theorem ok_demand_told (F : Fun G.K "demand_told" "demand_told" s_demand_told f fd) (bn : Bn mg) (r_Told : mg "Told" = some (.ref (G.cl 3))) : FnD G P w mg base 1 f fd ["told"] 0 sDemTold := by
  refine FnD.more (fnd_of F sc_demand_told (fun cdv A outer s H E hr hg => (ds_one (ds_if (dt_cmp (o_isnC) (de_ty (c_type) bn.type (da_cons (dv 0) da_nil)) (de_ref r_Told) (by rfl)) (ds_one ds_never) ds_nil))) ?_) (by decide)
  rintro ds R ex hl ⟨n, m, vs, rfl, hr⟩
  exact ⟨_, rfl, 3, _, rfl, G.cl 3, rfl, rfl, false, rfl, hr⟩
def sFirst : FSpec := fun ds R _ => ∃ (n m : Nat) (vs l : List Int), ds = [toldD n m vs, toldD n m vs, rowD l] ∧ ToldIn n m vs ∧ RowIn n n l ∧ R (optD (partO n m vs l))
/-- the first row where two ways tell unlike -/
theorem first_ne {rows : List (List Int)} {f g : List Int → Int} : (rows.map f == rows.map g) = (rows.find? fun r => f r != g r).isNone := by
  induction rows with
  | nil => rfl
  | cons r rows ih =>
    rw [List.map_cons, List.map_cons, List.find?_cons]
    cases h : (f r != g r) with
    | true =>
      have hne : f r ≠ g r := by simpa using h
      have : ((f r :: rows.map f) == (g r :: rows.map g)) = false := by
        refine beq_eq_false_iff_ne.mpr fun e => hne (List.cons.inj e).1
      rw [this]; rfl
    | false =>
      have he : f r = g r := by simpa using h
      rw [← ih, he]
      show ((g r == g r) && (rows.map f == rows.map g)) = _
      rw [beq_self_eq_true, Bool.true_and]
theorem pdL_bl : ∀ bs : List Bool, pdL (bs.map D.bl) = some (bs.map PyData.bool)
  | [] => rfl
  | b :: bs => by
    show (match pd (.bl b), pdL (bs.map D.bl) with | some p, some ps => some (p :: ps) | _, _ => none) = _
    rw [pdL_bl bs]; rfl
theorem lay_bl : ∀ bs : List Bool, PyData.canLayAll0 (bs.map PyData.bool) = true
  | [] => rfl
  | b :: bs => by
    show (true && PyData.canLayAll0 (bs.map PyData.bool)) = true
    rw [lay_bl bs]; rfl
theorem depth_bl : ∀ bs : List Bool, PyData.depthAll (bs.map PyData.bool) ≤ 1
  | [] => by decide
  | b :: bs => by
    show max (0 + 0) (PyData.depthAll (bs.map PyData.bool)) ≤ 1
    have := depth_bl bs
    omega
theorem shaped_bl (bs : List Bool) : SeqAt.shaped (.list (bs.map PyData.bool)) = true := by
  unfold SeqAt.shaped
  rw [show PyData.canLay0 (.list (bs.map PyData.bool)) = PyData.canLayAll0 (bs.map PyData.bool) from rfl, lay_bl, Bool.true_and]
  have := depth_bl bs
  exact decide_eq_true (by show PyData.depthAll (bs.map PyData.bool) + 1 ≤ 64; omega)
abbrev s_first_parting : Stmt := topS 76
theorem sc_first_parting : FnScope ["begin", "into", "lead_row", "led", "asked", "index", "value", "one", "other"] ["begin", "into", "lead_row"] (defScope s_first_parting) := ⟨rfl, rfl, rfl, by decide +kernel, rfl, by decide +kernel, by decide +kernel⟩
theorem ok_first_parting (F : Fun G.K "first_parting" "first_parting" s_first_parting f fd) (bn : Bn mg) (fo : Gk G) (F_led_indices : Fk G P w mg base 1 "led_indices" ["row", "into", "many"] 0 sLedIdx) (F_row_at : Fk G P w mg base 1 "row_at" ["index", "things", "many"] 0 sRowAt) : FnD G P w mg base 2 f fd ["begin", "into", "lead_row"] 0 sFirst := by
  refine FnD.more (fnd_of F sc_first_parting (fun cdv A outer s H E hr hg => have xk := xk_def (E := E) hr hg; (ds_cons (ds_setComp (i := 3) (own := [("index", 5)]) xk sc_first_parting.nd rfl rfl (sw_true rfl rfl rfl (by decide +kernel)) (di_seq xk.K (de_call F_led_indices xk (da_cons (dv 2) (da_cons (de_fld xk.K fo.things (dv 1)) (da_cons (de_fld xk.K fo.places (dv 0)) da_nil))))) (blkOk_by (N := ["begin", "into", "lead_row", "led", "asked", "index", "value", "one", "other"]) (sc := defScope s_first_parting) (by decide +kernel)) (fun s H C cl fp => (dg_name (i := 5) sc_first_parting.nd rfl (Or.inl rfl))) (fun s H C cl fp => dts_nil) (fun s H C cl fp => (de_ix (Xk.blk xk _ _ _ _ _).K (de_fld (Xk.blk xk _ _ _ _ _).K fo.tells (dv 1)) (dv 5) (fun _ _ => rfl))) (by simp)) (ds_cons (ds_setComp (i := 4) (own := [("value", 6)]) xk sc_first_parting.nd rfl rfl (sw_true rfl rfl rfl (by decide +kernel)) (di_seq xk.K (de_fld xk.K fo.tells (dv 0))) (blkOk_by (N := ["begin", "into", "lead_row", "led", "asked", "index", "value", "one", "other"]) (sc := defScope s_first_parting) (by decide +kernel)) (fun s H C cl fp => (dg_name (i := 6) sc_first_parting.nd rfl (Or.inl rfl))) (fun s H C cl fp => dts_nil) (fun s H C cl fp => (de_ix (Xk.blk xk _ _ _ _ _).K (dv 2) (dv 6) (fun _ _ => rfl))) (by simp)) (ds_cons (ds_if (dt_cmp (o_eq xk.K xk.u64) (dv 3) (dv 4) (by rfl)) (ds_one (ds_ret de_non)) ds_nil) (ds_cons (ds_set (i := 5) sc_first_parting.nd rfl (Or.inl rfl) (de_index xk (de_comp (own := [("one", 7), ("other", 8)]) xk sc_first_parting.nd (di_zip xk.K bn.zip (da_cons (dv 3) (da_cons (dv 4) da_nil))) (blkOk_by (N := ["begin", "into", "lead_row", "led", "asked", "index", "value", "one", "other"]) (sc := defScope s_first_parting) (by decide +kernel)) (fun s H C cl fp => (dg_two (i := 7) (j := 8) (Xk.blk xk _ _ _ _ _).K (Xk.blk xk _ _ _ _ _).calm sc_first_parting.nd rfl (Or.inl rfl) rfl (Or.inl rfl) (pg_name sc_first_parting.nd rfl (Or.inl rfl)) (pg_name sc_first_parting.nd rfl (Or.inl rfl)))) (fun s H C cl fp => dts_nil) (fun s H C cl fp => (de_cmp (o_ne (Xk.blk xk _ _ _ _ _).K (Xk.blk xk _ _ _ _ _).u64) (dv 7) (dv 8) (by rfl))) (by simp)) de_bl)) (ds_one (ds_ret (de_call F_row_at xk (da_cons (dv 5) (da_cons (de_fld xk.K fo.things (dv 0)) (da_cons (de_fld xk.K fo.places (dv 0)) da_nil))))))))))) ?_) (by decide)
  rintro ds R ex hl ⟨n, m, vs, l, rfl, T, L, hr⟩
  obtain ⟨n1, n5, p1, p4, hk, len, hv⟩ := id T
  obtain ⟨⟨m1, m2, m3⟩, i1, i2, i3⟩ := fld_told fo (n := n) (m := m) (vs := vs)
  refine seq_to (fun env' => env' = [.val (toldD n m vs), .val (toldD n m vs), .val (rowD l), .val (.lst (((allRows n m).map fun r => fV n vs (ledR l r)).map D.int)), .emp, .emp, .emp, .emp, .emp]) (fun de' hnx hrt => ?_) (fun env' e => ?_)
  · refine ⟨_, rfl, _, rfl, 3, _, _, rfl, m1, i1, _, rfl, 3, _, _, rfl, m2, i2, rfl, n, n, m, l, rfl, n5, n5, p4, L, ?_⟩
    rw [List.map_map]
    refine compL_of _ (fun r => D.int (fV n vs (ledR l r))) (fun r hr2 K hK => ?_) ?_
    · obtain ⟨g1, g2⟩ := led_row (n := n) L (allRows_row n m r hr2) (allRows_val n m r hr2)
      obtain ⟨k, hk1, hk2, _⟩ := idx_toNat g1 g2
      have hat := (atR_in (r := vs) (i := idxR n (ledR l r)) (n := n) (by omega) (by rw [len]; omega) hv).1
      exact ⟨_, rfl, 3, _, _, rfl, m3, i3, _, rfl, _, hat, hK⟩
    · rw [List.nil_append]
      refine hnx _ ?_
      rw [List.map_map]; rfl
  subst e
  refine seq_to (fun env' => env' = [.val (toldD n m vs), .val (toldD n m vs), .val (rowD l), .val (.lst (((allRows n m).map fun r => fV n vs (ledR l r)).map D.int)), .val (.lst (((allRows n m).map fun r => atR l (fV n vs r)).map D.int)), .emp, .emp, .emp, .emp]) (fun de' hnx hrt => ?_) (fun env' e => ?_)
  · refine ⟨_, rfl, 3, _, _, rfl, m3, i3, ?_⟩
    refine compL_of _ (fun v => D.int (atR l v)) (fun v hv2 K hK => ?_) ?_
    · obtain ⟨v0, v1⟩ := hv v hv2
      have hat := (atR_in (r := l) (i := v) (n := n) v0 (by rw [L.1]; exact v1) L.2).1
      exact ⟨_, rfl, _, rfl, _, hat, hK⟩
    · rw [List.nil_append]
      refine hnx _ ?_
      have e : (vs.map fun v => D.int (atR l v)) = ((allRows n m).map fun r => atR l (fV n vs r)).map D.int := by
        conv => lhs; rw [← told_vals (n := n) (m := m) len]
        rw [List.map_map, List.map_map]; rfl
      rw [e]; rfl
  subst e
  refine seq_to (fun env' => (partO n m vs l).isNone = false ∧ env' = [.val (toldD n m vs), .val (toldD n m vs), .val (rowD l), .val (.lst (((allRows n m).map fun r => fV n vs (ledR l r)).map D.int)), .val (.lst (((allRows n m).map fun r => atR l (fV n vs r)).map D.int)), .emp, .emp, .emp, .emp]) (fun de' hnx hrt => ?_) (fun env' e => ?_)
  · refine ⟨_, rfl, _, rfl, eq_lst ⟨_, rfl, ?_⟩⟩
    rw [first_ne]
    refine ite_of (fun hb => ?_) (fun hb => hnx _ ⟨hb, rfl⟩)
    have e0 : partO n m vs l = none := Option.isNone_iff_eq_none.mp hb
    show de'.rt .non _
    rw [hrt]
    rw [e0] at hr
    exact hr
  obtain ⟨hs, rfl⟩ := e
  cases hp : partO n m vs l with
  | none => rw [hp] at hs; cases hs
  | some r =>
    rw [hp] at hr
    obtain ⟨k, hk1, hk2, hk3⟩ := find_idx _ _ _ hp
    have hmem := List.mem_of_getElem? hk1
    have hrl := allRows_row n m r hmem
    have hrv := allRows_val n m r hmem
    refine seq_to (fun env' => ∃ s4, env' = [.val (toldD n m vs), .val (toldD n m vs), .val (rowD l), .val (.lst (((allRows n m).map fun r => fV n vs (ledR l r)).map D.int)), s4, .val (.int (k : Nat)), .emp, .emp, .emp]) (fun de' hnx hrt => ?_) (fun env' e => ?_)
    · refine ⟨_, rfl, _, rfl, ?_⟩
      show compL _ _ _ _ _ (zipD _ _) _
      have ez : zipD (((allRows n m).map fun r => fV n vs (ledR l r)).map D.int) (((allRows n m).map fun r => atR l (fV n vs r)).map D.int) = (allRows n m).map fun r => .tup [.int (fV n vs (ledR l r)), .int (atR l (fV n vs r))] := by rw [zip_map, List.zip_map', List.map_map]; rfl
      rw [ez]
      refine compL_of _ (fun r => D.bl (partsB n vs l r)) (fun r hr2 K hK => ?_) ?_
      · exact ⟨_, rfl, _, rfl, ne_int hK⟩
      · rw [List.nil_append]
        refine ⟨_, ((allRows n m).map (partsB n vs l)).map PyData.bool, rfl, ?_, shaped_bl _, .bool true, k, .bool true, rfl, by decide +kernel, ?_, rfl, fun j z hj hz => ?_, hnx _ ⟨_, rfl⟩⟩
        · rw [← pdL_bl, List.map_map]; rfl
        · rw [List.getElem?_map, List.getElem?_map, hk1, Option.map_some, hk2]; rfl
        · rw [List.getElem?_map, List.getElem?_map] at hz
          obtain ⟨b, hb, rfl⟩ := Option.map_eq_some_iff.mp hz
          obtain ⟨y, hy, rfl⟩ := Option.map_eq_some_iff.mp hb
          rw [hk3 j hj y hy]; rfl
    obtain ⟨s4, rfl⟩ := e
    have e1 := idx_of_row hk1
    exact ⟨_, rfl, _, rfl, 3, _, _, rfl, m1, i1, _, rfl, 3, _, _, rfl, m2, i2, rfl, n, m, r, by rw [e1], n1, n5, hrl, by omega, hrv, hr⟩
end
end Pg
set_option Elab.async false
set_option linter.all false
set_option maxRecDepth 100000
set_option maxHeartbeats 4100000
namespace Pg
open PySem L2 RZ Kn
section
variable {G : Gd} {P : Program} {w : World} {mg : Str → Option Value} {base : Heap} {f : Addr} {fd : FuncData}
/-- the row that puts t on o; that exchanges t and o -/
def putR (n t o : Nat) : List Int := (List.range n).map fun a => if a = t then (o : Int) else (a : Int)
def exR (n t o : Nat) : List Int := ((idx n).set t (o : Int)).set o (t : Int)
theorem rng_nat (n : Nat) : rangeD 0 n = (List.range n).map fun (i : Nat) => D.int i := by
  unfold rangeD
  congr 1
  funext i
  simp
def sPutRow : FSpec := fun ds R _ => ∃ n t o : Nat, ds = [.int n, .int t, .int o] ∧ n ≤ 5 ∧ t ≤ 5 ∧ o ≤ 5 ∧ R (rowD (putR n t o))
abbrev s_put_row : Stmt := topS 50
theorem sc_put_row : FnScope ["things", "thing", "other", "at"] ["things", "thing", "other"] (defScope s_put_row) := ⟨rfl, rfl, rfl, by decide +kernel, rfl, by decide +kernel, by decide +kernel⟩
theorem ok_put_row (F : Fun G.K "put_row" "put_row" s_put_row f fd) (bn : Bn mg)  : FnD G P w mg base 1 f fd ["things", "thing", "other"] 0 sPutRow := by
  refine FnD.more (fnd_of F sc_put_row (fun cdv A outer s H E hr hg => have xk := xk_def (E := E) hr hg; (ds_one (ds_ret (de_ty (c_tuple xk.K) bn.tuple (da_cons (de_comp (own := [("at", 3)]) xk sc_put_row.nd (di_range1 bn.range (da_cons (dv 0) da_nil)) (blkOk_by (N := ["things", "thing", "other", "at"]) (sc := defScope s_put_row) (by decide +kernel)) (fun s H C cl fp => (dg_name (i := 3) sc_put_row.nd rfl (Or.inl rfl))) (fun s H C cl fp => dts_nil) (fun s H C cl fp => (de_ife (dt_cmp (o_eq (Xk.blk xk _ _ _ _ _).K (Xk.blk xk _ _ _ _ _).u64) (dv 3) (dv 1) (by rfl)) (dv 2) (dv 3))) (by simp)) da_nil))))) ?_) (by decide)
  rintro ds R ex hl ⟨n, t, o, rfl, hn, ht, ho, hr⟩
  refine ⟨_, rfl, n, rfl, by omega, by omega, ?_⟩
  rw [Int.toNat_natCast, rng_nat]
  refine compL_of (fun i : Nat => D.int i) (fun i => .int (if i = t then (o : Int) else (i : Int))) (fun i hi K hK => ?_) ?_
  · refine ⟨_, rfl, _, rfl, eq_int ⟨_, rfl, ite_of (fun hb => ?_) (fun hb => ?_)⟩⟩
    · have e : i = t := by have := eq_of_beq hb; omega
      rw [if_pos e] at hK
      exact ⟨_, rfl, hK⟩
    · have e : i ≠ t := fun z => by rw [z] at hb; simp at hb
      rw [if_neg e] at hK
      exact ⟨_, rfl, hK⟩
  · rw [List.nil_append]
    refine nilT ?_
    unfold rowD putR at hr
    rw [List.map_map] at hr
    exact hr
def sExRow : FSpec := fun ds R _ => ∃ n t o : Nat, ds = [.int n, .int t, .int o] ∧ n ≤ 5 ∧ t < n ∧ o < n ∧ R (rowD (exR n t o))
theorem idx_ints (n : Nat) : rangeD 0 n = (idx n).map D.int := by
  unfold idx rangeD
  rw [List.map_map]
  congr 1
  funext i
  simp
abbrev s_exchange_row : Stmt := topS 51
theorem sc_exchange_row : FnScope ["things", "thing", "other", "row"] ["things", "thing", "other"] (defScope s_exchange_row) := ⟨rfl, rfl, rfl, by decide +kernel, rfl, by decide +kernel, by decide +kernel⟩
theorem ok_exchange_row (F : Fun G.K "exchange_row" "exchange_row" s_exchange_row f fd) (bn : Bn mg)  : FnD G P w mg base 1 f fd ["things", "thing", "other"] 0 sExRow := by
  refine FnD.more (fnd_of F sc_exchange_row (fun cdv A outer s H E hr hg => have xk := xk_def (E := E) hr hg; (ds_cons (ds_own (i := 3) sc_exchange_row.nd rfl (Or.inl rfl) (df_listRange xk.calm bn.list bn.range (dv 0))) (ds_cons (ds_swap (i := 3) xk.K xk.calm rfl (da_cons (dv 2) (da_cons (dv 1) da_nil)) (dv 1) (dv 2)) (ds_freeze (i := 3) (ds_one (ds_ret (de_ty (c_tuple xk.K) bn.tuple (da_cons (dv 3) da_nil)))))))) ?_) (by decide)
  rintro ds R ex hl ⟨n, t, o, rfl, hn, ht, ho, hr⟩
  have hln : (idx n).length = n := by simp [idx]
  refine ⟨_, rfl, n, rfl, by omega, fun a => ?_⟩
  dsimp only
  rw [idx_ints]
  refine ⟨_, rfl, _, rfl, _, _, rfl, a, _, rfl, _, rfl, t, t, rfl, ixN_nat (by rw [List.length_map, hln]; exact ht), _, rfl, o, o, rfl, ixN_nat (by rw [List.length_map, hln]; exact ho), ?_⟩
  refine ⟨a, _, rfl, _, rfl, ?_⟩
  refine nilT ?_
  unfold exR rowD at hr
  rw [List.map_set, List.map_set] at hr
  exact hr
def exL (n : Nat) : List (List Int) := (List.range (n - 1)).map fun i => exR n i (i + 1)
def dnL (n : Nat) : List (List Int) := (List.range (n - 1)).map fun i => putR n (i + 1) i
def upL (n : Nat) : List (List Int) := (List.range (n - 1)).map fun i => putR n i (i + 1)
/-- the rows out of which the few ones of a manner are taken -/
def candR (m : Str) (n : Nat) : List (List Int) :=
  if (m == ("order" : Str)) = true then [] else if (m == ("alike" : Str)) = true then exL n
  else if ((m == ("two" : Str)) && decide ((2 : Int) < n)) = true then exL n ++ dnL n ++ [putR n 2 0]
  else if ([("blind" : Str), "one", "two"].any (· == m)) = true then exL n ++ dnL n
  else if ((m == ("either" : Str)) && decide ((1 : Int) < n)) = true then dnL n ++ upL n ++ [(idx n).reverse] else dnL n ++ upL n
theorem nil_seq {ex : Exc → Prop} {de : DEnds} {env : List Sl} (h : de.nx env) : sNil ex de env := h
def sCand : FSpec := fun ds R _ => ∃ (m : Str) (n : Nat), ds = [.str m, .int n] ∧ m ∈ manners ∧ 1 ≤ n ∧ n ≤ 5 ∧ R (.lst ((candR m n).map rowD))
theorem rows_few {n : Nat} (h : n ≤ 5) : (exL n).length ≤ 5 ∧ (dnL n).length ≤ 5 ∧ (upL n).length ≤ 5 := by
  unfold exL dnL upL
  simp only [List.length_map, List.length_range]; omega
abbrev s_candidate_rows : Stmt := topS 52
theorem sc_candidate_rows : FnScope ["manner", "things", "lower", "exchanged", "put_down", "put_up", "thing"] ["manner", "things"] (defScope s_candidate_rows) := ⟨rfl, rfl, rfl, by decide +kernel, rfl, by decide +kernel, by decide +kernel⟩
theorem ok_candidate_rows (F : Fun G.K "candidate_rows" "candidate_rows" s_candidate_rows f fd) (bn : Bn mg) (F_put_row : Fk G P w mg base 1 "put_row" ["things", "thing", "other"] 0 sPutRow) (F_exchange_row : Fk G P w mg base 1 "exchange_row" ["things", "thing", "other"] 0 sExRow) : FnD G P w mg base 2 f fd ["manner", "things"] 0 sCand := by
  refine FnD.more (fnd_of F sc_candidate_rows (fun cdv A outer s H E hr hg => have xk := xk_def (E := E) hr hg; (ds_cons (ds_rng (i := 2) sc_candidate_rows.nd rfl (Or.inl rfl) bn.range (de_op (o_sub) (dv 1) de_int)) (ds_cons (ds_setComp (i := 3) (own := [("thing", 6)]) xk sc_candidate_rows.nd rfl rfl (sw_true rfl rfl rfl (by decide +kernel)) (di_rngV (i := 2) rfl) (blkOk_by (N := ["manner", "things", "lower", "exchanged", "put_down", "put_up", "thing"]) (sc := defScope s_candidate_rows) (by decide +kernel)) (fun s H C cl fp => (dg_name (i := 6) sc_candidate_rows.nd rfl (Or.inl rfl))) (fun s H C cl fp => dts_nil) (fun s H C cl fp => (de_call F_exchange_row (Xk.blk xk _ _ _ _ _) (da_cons (dv 1) (da_cons (dv 6) (da_cons (de_op (o_add (Xk.blk xk _ _ _ _ _).K) (dv 6) de_int) da_nil))))) (by simp)) (ds_cons (ds_setComp (i := 4) (own := [("thing", 6)]) xk sc_candidate_rows.nd rfl rfl (sw_true rfl rfl rfl (by decide +kernel)) (di_rngV (i := 2) rfl) (blkOk_by (N := ["manner", "things", "lower", "exchanged", "put_down", "put_up", "thing"]) (sc := defScope s_candidate_rows) (by decide +kernel)) (fun s H C cl fp => (dg_name (i := 6) sc_candidate_rows.nd rfl (Or.inl rfl))) (fun s H C cl fp => dts_nil) (fun s H C cl fp => (de_call F_put_row (Xk.blk xk _ _ _ _ _) (da_cons (dv 1) (da_cons (de_op (o_add (Xk.blk xk _ _ _ _ _).K) (dv 6) de_int) (da_cons (dv 6) da_nil))))) (by simp)) (ds_cons (ds_setComp (i := 5) (own := [("thing", 6)]) xk sc_candidate_rows.nd rfl rfl (sw_true rfl rfl rfl (by decide +kernel)) (di_rngV (i := 2) rfl) (blkOk_by (N := ["manner", "things", "lower", "exchanged", "put_down", "put_up", "thing"]) (sc := defScope s_candidate_rows) (by decide +kernel)) (fun s H C cl fp => (dg_name (i := 6) sc_candidate_rows.nd rfl (Or.inl rfl))) (fun s H C cl fp => dts_nil) (fun s H C cl fp => (de_call F_put_row (Xk.blk xk _ _ _ _ _) (da_cons (dv 1) (da_cons (dv 6) (da_cons (de_op (o_add (Xk.blk xk _ _ _ _ _).K) (dv 6) de_int) da_nil))))) (by simp)) (ds_cons (ds_if (dt_cmp (o_eq xk.K xk.u64) (dv 0) de_str (by rfl)) (ds_one (ds_ret (de_lst da_nil))) ds_nil) (ds_cons (ds_if (dt_cmp (o_eq xk.K xk.u64) (dv 0) de_str (by rfl)) (ds_one (ds_ret (dv 3))) ds_nil) (ds_cons (ds_if (dt_w (dw_and (dt_cmp (o_eq xk.K xk.u64) (dv 0) de_str (by rfl)) (dw_and1 (dt_cmp (o_gt) (dv 1) de_int (by rfl))))) (ds_one (ds_ret (de_op (o_add xk.K) (de_op (o_add xk.K) (dv 3) (dv 4)) (de_lst (da_cons (de_call F_put_row xk (da_cons (dv 1) (da_cons de_int (da_cons de_int da_nil)))) da_nil))))) ds_nil) (ds_cons (ds_if (dt_cmp (o_inT xk.K xk.u65) (dv 0) (de_tup (da_cons de_str (da_cons de_str (da_cons de_str da_nil)))) (by rfl)) (ds_one (ds_ret (de_op (o_add xk.K) (dv 3) (dv 4)))) ds_nil) (ds_cons (ds_if (dt_w (dw_and (dt_cmp (o_eq xk.K xk.u64) (dv 0) de_str (by rfl)) (dw_and1 (dt_cmp (o_gt) (dv 1) de_int (by rfl))))) (ds_one (ds_ret (de_op (o_add xk.K) (de_op (o_add xk.K) (dv 4) (dv 5)) (de_lst (da_cons (de_revT xk.K (de_tupleRange xk.calm bn.tuple bn.range (dv 1))) da_nil))))) ds_nil) (ds_one (ds_ret (de_op (o_add xk.K) (dv 4) (dv 5)))))))))))))) ?_) (by decide)
  rintro ds R ex hl ⟨m, n, rfl, hm, n1, n5, hr⟩
  have hok := man_ok m hm
  obtain ⟨l1, l2, l3⟩ := rows_few n5
  have hj : (((n : Int) - 1).toNat : Nat) = n - 1 := by omega
  have sm : ∀ (a b : List (List Int)), a.length ≤ 20 → b.length ≤ 20 → (a.map rowD).length + (b.map rowD).length ≤ sizeLine := fun a b h1 h2 => by rw [List.length_map, List.length_map, sizeLine_eq]; omega
  refine seq_to (fun env' => ∃ a, env' = [.val (.str m), .val (.int n), .obj a (.rng 0 ((n : Int) - 1)), .emp, .emp, .emp, .emp]) (fun de' hnx hrt => ?_) (fun env' e => ?_)
  · exact ⟨_, rfl, trivial, _, rfl, fun a => hnx _ ⟨a, rfl⟩⟩
  obtain ⟨a, rfl⟩ := e
  refine seq_to (fun env' => env' = [.val (.str m), .val (.int n), .obj a (.rng 0 ((n : Int) - 1)), .val (.lst ((exL n).map rowD)), .emp, .emp, .emp]) (fun de' hnx hrt => ?_) (fun env' e => ?_)
  · refine ⟨a, _, rfl, by omega, by omega, ?_⟩
    rw [hj, rng_nat]
    refine compL_of (fun i : Nat => D.int i) (fun i => rowD (exR n i (i + 1))) (fun i hi K hK => ?_) ?_
    · have := List.mem_range.mp hi
      exact ⟨_, rfl, _, rfl, _, rfl, rfl, n, i, i + 1, rfl, n5, by omega, by omega, hK⟩
    · rw [List.nil_append]
      refine hnx _ ?_
      unfold exL
      rw [List.map_map]
      rfl
  subst e
  refine seq_to (fun env' => env' = [.val (.str m), .val (.int n), .obj a (.rng 0 ((n : Int) - 1)), .val (.lst ((exL n).map rowD)), .val (.lst ((dnL n).map rowD)), .emp, .emp]) (fun de' hnx hrt => ?_) (fun env' e => ?_)
  · refine ⟨a, _, rfl, by omega, by omega, ?_⟩
    rw [hj, rng_nat]
    refine compL_of (fun i : Nat => D.int i) (fun i => rowD (putR n (i + 1) i)) (fun i hi K hK => ?_) ?_
    · have := List.mem_range.mp hi
      exact ⟨_, rfl, _, rfl, _, rfl, rfl, n, i + 1, i, rfl, n5, by omega, by omega, hK⟩
    · rw [List.nil_append]
      refine hnx _ ?_
      unfold dnL
      rw [List.map_map]
      rfl
  subst e
  refine seq_to (fun env' => env' = [.val (.str m), .val (.int n), .obj a (.rng 0 ((n : Int) - 1)), .val (.lst ((exL n).map rowD)), .val (.lst ((dnL n).map rowD)), .val (.lst ((upL n).map rowD)), .emp]) (fun de' hnx hrt => ?_) (fun env' e => ?_)
  · refine ⟨a, _, rfl, by omega, by omega, ?_⟩
    rw [hj, rng_nat]
    refine compL_of (fun i : Nat => D.int i) (fun i => rowD (putR n i (i + 1))) (fun i hi K hK => ?_) ?_
    · have := List.mem_range.mp hi
      exact ⟨_, rfl, _, rfl, _, rfl, rfl, n, i, i + 1, rfl, n5, by omega, by omega, hK⟩
    · rw [List.nil_append]
      refine hnx _ ?_
      unfold upL
      rw [List.map_map]
      rfl
  subst e
  unfold candR at hr
  refine if_str hok (by decide +kernel) rfl (fun h => ?_) fun h => ?_
  · rw [if_pos h] at hr; exact ⟨small (by simp), hr⟩
  rw [if_neg (by rw [h]; decide)] at hr
  refine if_str hok (by decide +kernel) rfl (fun h => ?_) fun h => ?_
  · rw [if_pos h] at hr; exact ⟨_, rfl, hr⟩
  rw [if_neg (by rw [h]; decide)] at hr
  refine nil_seq ?_
  dsimp only
  refine sif_of (tst_and (x := m == ("two" : Str)) (y := decide ((2 : Int) < n)) (fun K hK => ?_) fun _ K hK => ?_) (fun hb => ?_) fun hb => ?_
  · refine ⟨.str m, rfl, ?_⟩
    exact eqC (eq_str hok (by decide +kernel) ⟨_, rfl, hK⟩)
  · exact ⟨_, rfl, trivial, _, rfl, hK⟩
  · rw [if_pos hb] at hr
    refine ⟨_, rfl, _, rfl, sm _ _ (by omega) (by omega), ?_⟩
    refine ⟨_, rfl, rfl, n, 2, 0, rfl, n5, by omega, by omega, small (by simp), small (by simp; omega), ?_⟩
    rw [← List.map_append]
    rw [List.map_append] at hr
    exact hr
  rw [if_neg (by rw [hb]; decide)] at hr
  refine nil_seq ?_
  dsimp only
  refine sif_of (x := [("blind" : Str), "one", "two"].any (· == m)) (fun K hK => ?_) (fun hb => ?_) fun hb => ?_
  · exact ⟨.str m, rfl, small (by simp), in_strs (ts := ["blind", "one", "two"]) hok (by decide +kernel) ⟨_, rfl, hK⟩⟩
  · rw [if_pos hb, List.map_append] at hr
    exact ⟨_, rfl, _, rfl, sm _ _ (by omega) (by omega), hr⟩
  rw [if_neg (by rw [hb]; decide)] at hr
  refine nil_seq ?_
  dsimp only
  refine sif_of (tst_and (x := m == ("either" : Str)) (y := decide ((1 : Int) < n)) (fun K hK => ?_) fun _ K hK => ?_) (fun hb => ?_) fun hb => ?_
  · refine ⟨.str m, rfl, ?_⟩
    exact eqC (eq_str hok (by decide +kernel) ⟨_, rfl, hK⟩)
  · exact ⟨_, rfl, trivial, _, rfl, hK⟩
  · rw [if_pos hb] at hr
    refine ⟨_, rfl, _, rfl, sm _ _ (by omega) (by omega), ?_⟩
    refine ⟨_, rfl, _, rfl, by omega, by omega, ?_⟩
    rw [Int.toNat_natCast, idx_ints]
    refine ⟨_, rfl, small (by simp), small (by simp; omega), ?_⟩
    rw [← List.map_append, ← List.map_reverse]
    rw [List.map_append] at hr
    exact hr
  rw [if_neg (by rw [hb]; decide), List.map_append] at hr
  exact ⟨_, rfl, _, rfl, sm _ _ (by omega) (by omega), hr⟩
def fewR (m : Str) (n : Nat) : List (List Int) := (candR m n).filter (isOf m n)
theorem ex_len (n t o : Nat) : (exR n t o).length = n := by unfold exR; rw [List.length_set, List.length_set, idx_len]
theorem put_len (n t o : Nat) : (putR n t o).length = n := by simp [putR]
theorem exL_len {n : Nat} {r : List Int} (h : r ∈ exL n) : r.length = n := by
  obtain ⟨i, _, rfl⟩ := List.mem_map.mp h
  exact ex_len ..
theorem dnL_len {n : Nat} {r : List Int} (h : r ∈ dnL n) : r.length = n := by
  obtain ⟨i, _, rfl⟩ := List.mem_map.mp h
  exact put_len ..
theorem upL_len {n : Nat} {r : List Int} (h : r ∈ upL n) : r.length = n := by
  obtain ⟨i, _, rfl⟩ := List.mem_map.mp h
  exact put_len ..
theorem cand_len {m : Str} {n : Nat} {r : List Int} (h : r ∈ candR m n) : r.length = n := by
  unfold candR at h
  split at h
  · cases h
  split at h
  · exact exL_len h
  split at h
  · rcases List.mem_append.mp
        h with h | h
    · rcases List.mem_append.mp
          h with h | h
      · exact exL_len h
      · exact dnL_len h
    · rw [List.mem_singleton.mp h]; exact put_len ..
  split at h
  · rcases List.mem_append.mp
        h with h | h
    · exact exL_len h
    · exact dnL_len h
  split at h
  · rcases List.mem_append.mp
        h with h | h
    · rcases List.mem_append.mp
          h with h | h
      · exact dnL_len h
      · exact upL_len h
    · rw [List.mem_singleton.mp h, List.length_reverse, idx_len]
  · rcases List.mem_append.mp
        h with h | h
    · exact dnL_len h
    · exact upL_len h
def sFew : FSpec := fun ds R _ => ∃ (m : Str) (n : Nat), ds = [.str m, .int n] ∧ m ∈ manners ∧ 1 ≤ n ∧ n ≤ 5 ∧ ∀ out : List (List Int), out.Perm (fewR m n) → R (.lst (out.map rowD))
abbrev s_few_rows : Stmt := topS 53
theorem sc_few_rows : FnScope ["manner", "things", "row"] ["manner", "things"] (defScope s_few_rows) := ⟨rfl, rfl, rfl, by decide +kernel, rfl, by decide +kernel, by decide +kernel⟩
theorem ok_few_rows (F : Fun G.K "few_rows" "few_rows" s_few_rows f fd) (bn : Bn mg) (F_candidate_rows : Fk G P w mg base 2 "candidate_rows" ["manner", "things"] 0 sCand) (F_row_is_of : Fk G P w mg base 2 "row_is_of" ["row", "into", "manner"] 0 sRowOf) : FnD G P w mg base 3 f fd ["manner", "things"] 0 sFew := by
  refine FnD.more (fnd_of F sc_few_rows (fun cdv A outer s H E hr hg => have xk := xk_def (E := E) hr hg; (ds_one (ds_ret (de_bi (c_sortR xk.K) bn.sorted (da_cons (de_comp (own := [("row", 2)]) xk sc_few_rows.nd (di_seq xk.K (de_call F_candidate_rows xk (da_cons (dv 0) (da_cons (dv 1) da_nil)))) (blkOk_by (N := ["manner", "things", "row"]) (sc := defScope s_few_rows) (by decide +kernel)) (fun s H C cl fp => (dg_name (i := 2) sc_few_rows.nd rfl (Or.inl rfl))) (fun s H C cl fp => (dts_one (dt_val (de_call F_row_is_of (Xk.blk xk _ _ _ _ _) (da_cons (dv 2) (da_cons (dv 1) (da_cons (dv 0) da_nil))))))) (fun s H C cl fp => (dv 2)) (by simp)) da_nil))))) ?_) (by decide)
  rintro ds R ex hl ⟨m, n, rfl, hm, n1, n5, hr⟩
  refine ⟨_, rfl, _, rfl, rfl, m, n, rfl, hm, n1, n5, ?_⟩
  refine compL_ofF rowD rowD (isOf m n) (fun r hr2 K K' hK hK' => ?_) ?_
  · have hl2 := cand_len hr2
    refine ⟨_, rfl, _, rfl, _, rfl, rfl, r, n, m, rfl, hm, (fun z => by rw [z] at hl2; simp at hl2; omega), by omega, isOf m n r, rfl, ?_⟩
    cases hb : isOf m n r with
    | false => exact hK' hb
    | true => exact ⟨_, rfl, hK hb⟩
  · rw [List.nil_append]
    exact ⟨fewR m n, n, rfl, n1, fun r hr2 => cand_len (List.mem_filter.mp hr2).1, fun out hp _ => hr out hp⟩
end
end Pg
set_option Elab.async false
set_option linter.all false
set_option maxRecDepth 100000
set_option maxHeartbeats 4100000
namespace Pg
open PySem L2 RZ Kn
section
variable {G : Gd} {P : Program} {w : World} {mg : Str → Option Value} {base : Heap} {f : Addr} {fd : FuncData}
/-- what fixed leaves as it is -/
def leafB : D → Bool
  | .non | .bl _ | .int _ | .str _ => true
  | .ins c _ => c == 1
  | _ => false
/-- nested at most k deep -/
def okF : Nat → D → Bool
  | 0, d => leafB d
  | k + 1, d => match d.items? with
    | some xs => xs.all (okF k)
    | none => leafB d
/-- each list a tuple, all the way in -/
def fixD : Nat → D → D
  | 0, d => d
  | k + 1, d => match d.items? with
    | some xs => .tup (xs.map (fixD k))
    | none => d
/-- leads are no lists -/
structure LfC (G : Gd) : Prop where
  inc : InC G.K (G.cl 1)
  no : PySem.W.kitAny G.K (.ref (G.cl 1)) [.type "list", .type "tuple"] = some false
theorem isi_leaf (lf : LfC G) {d : D} (h : leafB d = true) : ∃ t, TyD G d t ∧ PySem.W.kitAny G.K t [.type "list", .type "tuple"] = some false := by
  have nm : ∀ {s : String}, kindS d = some s → d.items? = none → ∃ t, TyD G d t ∧ PySem.W.kitAny G.K t [.type "list", .type "tuple"] = some false := fun {s} hs hi => by
    refine ⟨.type s, .inl ⟨s, hs, rfl⟩, ?_⟩
    have z := any_seq (d := d) (by rw [hs]; rfl)
    rw [hi] at z
    exact any_kit hs z
  cases d with
  | ins c ds =>
    have e : c = 1 := eq_of_beq h
    subst e
    exact ⟨_, .inr (.inr ⟨1, ds, rfl, lf.inc, rfl⟩), lf.no⟩
  | non => exact nm rfl rfl
  | bl b => exact nm rfl rfl
  | int i => exact nm rfl rfl
  | str x => exact nm rfl rfl
  | _ => cases h
theorem isi_items {d : D} {xs : List D} (h : d.items? = some xs) : ∃ t, TyD G d t ∧ PySem.W.kitAny G.K t [.type "list", .type "tuple"] = some true := by
  have hk := kind_items h
  obtain ⟨s, hs⟩ := Option.isSome_iff_exists.mp hk
  refine ⟨.type s, .inl ⟨s, hs, rfl⟩, ?_⟩
  have z := any_seq (d := d) hk
  rw [h] at z
  exact any_kit hs z
def sFix (k : Nat) : FSpec := fun ds R _ => ∃ d, ds = [d] ∧ okF k d = true ∧ R (fixD k d)
theorem fnd_never {f : Addr} {fd : FuncData} {ps : List Str} {c k : Nat} : FnD G P w mg base k f fd ps c (fun _ _ _ => False) := by
  constructor
  intro A outer s H args us vs Q E hr hgd e0 hb rv hlen hsp
  exfalso
  unfold liftF at hsp
  simp at hsp
abbrev s_fixed : Stmt := topS 2
theorem sc_fixed : FnScope ["value", "item"] ["value"] (defScope s_fixed) := ⟨rfl, rfl, rfl, by decide +kernel, rfl, by decide +kernel, by decide +kernel⟩
theorem ok_fixed0 (F : Fun G.K "fixed" "fixed" s_fixed f fd) (bn : Bn mg) (lf : LfC G) (F_fixed : Fk G P w mg base 0 "fixed" ["value"] 0 (fun _ _ _ => False)) : FnD G P w mg base 1 f fd ["value"] 0 (sFix 0) := by
  refine FnD.more (fnd_of F sc_fixed (fun cdv A outer s H E hr hg => have xk := xk_def (E := E) hr hg; (ds_cons (ds_if (dt_val (de_isiCs xk.K bn.isinstance (dv 0) (pa_cons (ps_tyn (n := "list") bn.list) (pa_cons (ps_tyn (n := "tuple") bn.tuple) pa_nil)) (.cons (.ty _) (.cons (.ty _) .nil)))) (ds_one (ds_ret (de_ty (c_tuple xk.K) bn.tuple (da_cons (de_comp (own := [("item", 1)]) xk sc_fixed.nd (di_seq xk.K (dv 0)) (blkOk_by (N := ["value", "item"]) (sc := defScope s_fixed) (by decide +kernel)) (fun s H C cl fp => (dg_name (i := 1) sc_fixed.nd rfl (Or.inl rfl))) (fun s H C cl fp => dts_nil) (fun s H C cl fp => (de_call F_fixed (Xk.blk xk _ _ _ _ _) (da_cons (dv 1) da_nil))) (by simp)) da_nil)))) ds_nil) (ds_one (ds_ret (dv 0))))) ?_) (by decide)
  rintro ds R ex hl ⟨d, rfl, hok, hr⟩
  obtain ⟨t, ty, hk⟩ := isi_leaf lf hok
  exact ⟨_, rfl, t, _, ty, hk, _, rfl, _, rfl, hr⟩
theorem ok_fixed1 (F : Fun G.K "fixed" "fixed" s_fixed f fd) (bn : Bn mg) (lf : LfC G) (F_fixed : Fk G P w mg base 1 "fixed" ["value"] 0 (sFix 0)) : FnD G P w mg base 2 f fd ["value"] 0 (sFix 1) := by
  refine FnD.more (fnd_of F sc_fixed (fun cdv A outer s H E hr hg => have xk := xk_def (E := E) hr hg; (ds_cons (ds_if (dt_val (de_isiCs xk.K bn.isinstance (dv 0) (pa_cons (ps_tyn (n := "list") bn.list) (pa_cons (ps_tyn (n := "tuple") bn.tuple) pa_nil)) (.cons (.ty _) (.cons (.ty _) .nil)))) (ds_one (ds_ret (de_ty (c_tuple xk.K) bn.tuple (da_cons (de_comp (own := [("item", 1)]) xk sc_fixed.nd (di_seq xk.K (dv 0)) (blkOk_by (N := ["value", "item"]) (sc := defScope s_fixed) (by decide +kernel)) (fun s H C cl fp => (dg_name (i := 1) sc_fixed.nd rfl (Or.inl rfl))) (fun s H C cl fp => dts_nil) (fun s H C cl fp => (de_call F_fixed (Xk.blk xk _ _ _ _ _) (da_cons (dv 1) da_nil))) (by simp)) da_nil)))) ds_nil) (ds_one (ds_ret (dv 0))))) ?_) (by decide)
  rintro ds R ex hl ⟨d, rfl, hok, hr⟩
  unfold okF at hok
  unfold fixD at hr
  cases hi : d.items? with
  | none =>
    rw [hi] at hok hr
    obtain ⟨t, ty, hk⟩ := isi_leaf lf hok
    exact ⟨_, rfl, t, _, ty, hk, _, rfl, _, rfl, hr⟩
  | some xs =>
    rw [hi] at hok hr
    obtain ⟨t, ty, hk⟩ := isi_items (G := G) hi
    have key : compL (tgName 1) bYes (dCall 1 (sFix 0) (aCons (dVar 1) aNil)) (fun rs => g1 gTuple [.lst rs] R) (inEnv (env0 ["value", "item"] [d]) [1]) xs [] := by
      refine compL_map (fixD 0) (fun x hx K hK => ?_) ?_
      · exact ⟨_, rfl, rfl, x, rfl, List.all_eq_true.mp hok x hx, hK⟩
      · rw [List.nil_append]
        exact hr
    refine ⟨_, rfl, t, _, ty, hk, _, rfl, ?_⟩
    cases d <;> cases hi
    · exact ⟨_, rfl, key⟩
    · exact ⟨_, rfl, key⟩
theorem ok_fixed2 (F : Fun G.K "fixed" "fixed" s_fixed f fd) (bn : Bn mg) (lf : LfC G) (F_fixed : Fk G P w mg base 2 "fixed" ["value"] 0 (sFix 1)) : FnD G P w mg base 3 f fd ["value"] 0 (sFix 2) := by
  refine FnD.more (fnd_of F sc_fixed (fun cdv A outer s H E hr hg => have xk := xk_def (E := E) hr hg; (ds_cons (ds_if (dt_val (de_isiCs xk.K bn.isinstance (dv 0) (pa_cons (ps_tyn (n := "list") bn.list) (pa_cons (ps_tyn (n := "tuple") bn.tuple) pa_nil)) (.cons (.ty _) (.cons (.ty _) .nil)))) (ds_one (ds_ret (de_ty (c_tuple xk.K) bn.tuple (da_cons (de_comp (own := [("item", 1)]) xk sc_fixed.nd (di_seq xk.K (dv 0)) (blkOk_by (N := ["value", "item"]) (sc := defScope s_fixed) (by decide +kernel)) (fun s H C cl fp => (dg_name (i := 1) sc_fixed.nd rfl (Or.inl rfl))) (fun s H C cl fp => dts_nil) (fun s H C cl fp => (de_call F_fixed (Xk.blk xk _ _ _ _ _) (da_cons (dv 1) da_nil))) (by simp)) da_nil)))) ds_nil) (ds_one (ds_ret (dv 0))))) ?_) (by decide)
  rintro ds R ex hl ⟨d, rfl, hok, hr⟩
  unfold okF at hok
  unfold fixD at hr
  cases hi : d.items? with
  | none =>
    rw [hi] at hok hr
    obtain ⟨t, ty, hk⟩ := isi_leaf lf hok
    exact ⟨_, rfl, t, _, ty, hk, _, rfl, _, rfl, hr⟩
  | some xs =>
    rw [hi] at hok hr
    obtain ⟨t, ty, hk⟩ := isi_items (G := G) hi
    have key : compL (tgName 1) bYes (dCall 1 (sFix 1) (aCons (dVar 1) aNil)) (fun rs => g1 gTuple [.lst rs] R) (inEnv (env0 ["value", "item"] [d]) [1]) xs [] := by
      refine compL_map (fixD 1) (fun x hx K hK => ?_) ?_
      · exact ⟨_, rfl, rfl, x, rfl, List.all_eq_true.mp hok x hx, hK⟩
      · rw [List.nil_append]
        exact hr
    refine ⟨_, rfl, t, _, ty, hk, _, rfl, ?_⟩
    cases d <;> cases hi
    · exact ⟨_, rfl, key⟩
    · exact ⟨_, rfl, key⟩
/-- a paper's own two fields -/
def sPapI : XSpec := fun fs ds R _ => ∃ (wd : Str) (parts : List D), fs = [] ∧ ds = .str wd :: parts ∧ parts.length ≤ 100 ∧ okF 2 (.tup parts) = true ∧ R .non [.str wd, fixD 2 (.tup parts)]
abbrev s_Paper___init__ : Stmt := inClass (topS 3) 0
theorem sc_Paper___init__ : FnScope ["self", "word", "parts"] ["self", "word", "parts"] (defScope s_Paper___init__) := ⟨rfl, rfl, rfl, by decide +kernel, rfl, by decide +kernel, by decide +kernel⟩
theorem ok_Paper___init__ (F : Fun G.K "__init__" "Paper.__init__" s_Paper___init__ f fd) (hbn : ∀ us rest : List Value, us.length = (["self", "word"] : List Str).length → bindArgs fd ⟨us ++ rest, []⟩ = (newTuple rest >>= fun t => pure ((["self", "word"] : List Str).zip us ++ [(("parts" : Str), t)]))) (bn : Bn mg) {cid : Nat} (fo : Gk G) (h0 : (G.fl cid)[0]? = some (Str.ofString "word")) (h1 : (G.fl cid)[1]? = some (Str.ofString "parts")) (F_fixed : Fk G P w mg base 3 "fixed" ["value"] 0 (sFix 2)) : MutX G P w mg base 4 f 0 cid sPapI := by
  refine mutx_star F (ps := ["self", "word"]) (pv := "parts") sc_Paper___init__ hbn (fun cdv A outer s H E hr hg => have xk := xk_def (E := E) hr hg; (ds_cons (ds_fld (i := 0) xk.K fo.word fo.nd fo.sm rfl (dv 1)) (ds_one (ds_fld (i := 0) xk.K fo.parts fo.nd fo.sm rfl (de_call F_fixed xk (da_cons (dv 2) da_nil)))))) ?_
  rintro a dx fs ds R ex hfl ⟨wd, parts, rfl, rfl, hln, hok, hr⟩
  refine ⟨[.str wd], parts, rfl, rfl, small (by omega), ?_⟩
  refine ⟨_, rfl, a, dx, cid, [], rfl, h0, ?_⟩
  refine ⟨_, rfl, rfl, _, rfl, hok, ?_⟩
  exact ⟨a, dx, cid, _, rfl, h1, _, rfl, hr⟩
abbrev s_Denial___init__ : Stmt := inClass (topS 4) 0
theorem sc_Denial___init__ : FnScope ["self", "word", "parts"] ["self", "word", "parts"] (defScope s_Denial___init__) := ⟨rfl, rfl, rfl, by decide +kernel, rfl, by decide +kernel, by decide +kernel⟩
theorem ok_Denial___init__ (F : Fun G.K "__init__" "Denial.__init__" s_Denial___init__ f fd) (hbn : ∀ us rest : List Value, us.length = (["self", "word"] : List Str).length → bindArgs fd ⟨us ++ rest, []⟩ = (newTuple rest >>= fun t => pure ((["self", "word"] : List Str).zip us ++ [(("parts" : Str), t)]))) (bn : Bn mg) {cid : Nat} (fo : Gk G) (h0 : (G.fl cid)[0]? = some (Str.ofString "word")) (h1 : (G.fl cid)[1]? = some (Str.ofString "parts")) (F_fixed : Fk G P w mg base 3 "fixed" ["value"] 0 (sFix 2)) : MutX G P w mg base 4 f 0 cid sPapI := by
  refine mutx_star F (ps := ["self", "word"]) (pv := "parts") sc_Denial___init__ hbn (fun cdv A outer s H E hr hg => have xk := xk_def (E := E) hr hg; (ds_cons (ds_fld (i := 0) xk.K fo.word fo.nd fo.sm rfl (dv 1)) (ds_one (ds_fld (i := 0) xk.K fo.parts fo.nd fo.sm rfl (de_call F_fixed xk (da_cons (dv 2) da_nil)))))) ?_
  rintro a dx fs ds R ex hfl ⟨wd, parts, rfl, rfl, hln, hok, hr⟩
  refine ⟨[.str wd], parts, rfl, rfl, small (by omega), ?_⟩
  refine ⟨_, rfl, a, dx, cid, [], rfl, h0, ?_⟩
  refine ⟨_, rfl, rfl, _, rfl, hok, ?_⟩
  exact ⟨a, dx, cid, _, rfl, h1, _, rfl, hr⟩
def keptD : D := .ins 7 [.str "kept", .tup []]
def partD (n : Nat) (l r : List Int) : D := .ins 8 [.str "parting", .tup [leadD n l, rowD r], leadD n l, rowD r]
def sKeptI : FSpec := fun ds R _ => ds = [] ∧ R keptD
theorem fix_row (k : Nat) (r : List Int) : okF (k + 1) (rowD r) = true ∧ fixD (k + 1) (rowD r) = rowD r := by
  constructor
  · unfold okF rowD
    show ((r.map D.int).all (okF k)) = true
    rw [List.all_map, List.all_eq_true]
    intro x _
    show okF k (.int x) = true
    cases k <;> rfl
  · unfold fixD rowD
    show D.tup ((r.map D.int).map (fixD k)) = _
    rw [List.map_map]
    congr 1
    refine List.map_congr_left fun x _ => ?_; show fixD k (.int x) = .int x
    cases k <;> rfl
theorem fix_lead (k n : Nat) (l : List Int) : okF k (leadD n l) = true ∧ fixD k (leadD n l) = leadD n l := by
  cases k <;> exact ⟨rfl, rfl⟩
theorem fix_two (n : Nat) (l r : List Int) : okF 2 (.tup [leadD n l, rowD r]) = true ∧ fixD 2 (.tup [leadD n l, rowD r]) = .tup [leadD n l, rowD r] := by
  obtain ⟨a1, a2⟩ := fix_lead 1 n l
  obtain ⟨b1, b2⟩ := fix_row 0 r
  constructor
  · show ([leadD n l, rowD r].all (okF 1)) = true
    simp [a1, b1]
  · show D.tup ([leadD n l, rowD r].map (fixD 1)) = _
    simp [a2, b2]
abbrev s_Kept___init__ : Stmt := inClass (topS 74) 0
theorem sc_Kept___init__ : FnScope ["self"] ["self"] (defScope s_Kept___init__) := ⟨rfl, rfl, rfl, by decide +kernel, rfl, by decide +kernel, by decide +kernel⟩
theorem ok_Kept___init__ (F : Fun G.K "__init__" "Kept.__init__" s_Kept___init__ f fd) (bn : Bn mg) (fo : Gk G) (B_Paper : Fbi G P w mg base 4 "Paper" 9 7 0 sPapI) : InitD G P w mg base 5 f fd ["self"] 0 7 sKeptI := by
  refine InitD.more (initd_of F sc_Kept___init__ (fun cdv A outer s H E hr hg => have xk := xk_def (E := E) hr hg; (ds_one (ds2_expr (d2_base (i := 0) B_Paper xk rfl (da_cons de_str da_nil))))) ?_) (by decide)
  rintro a dx ds R ex hl ⟨rfl, hr⟩
  refine ⟨a, dx, [], rfl, Nat.zero_le _, "kept", [], rfl, rfl, by simp, rfl, fun _ => ?_⟩
  exact ⟨_, rfl, by rw [fo.fl7]; rfl, hr⟩
def sPartI : FSpec := fun ds R _ => ∃ (n : Nat) (l r : List Int), ds = [leadD n l, rowD r] ∧ R (partD n l r)
abbrev s_Parting___init__ : Stmt := inClass (topS 75) 0
theorem sc_Parting___init__ : FnScope ["self", "lead", "row"] ["self", "lead", "row"] (defScope s_Parting___init__) := ⟨rfl, rfl, rfl, by decide +kernel, rfl, by decide +kernel, by decide +kernel⟩
theorem ok_Parting___init__ (F : Fun G.K "__init__" "Parting.__init__" s_Parting___init__ f fd) (bn : Bn mg) (fo : Gk G) (B_Denial : Fbi G P w mg base 4 "Denial" 10 8 0 sPapI) (F_fixed : Fk G P w mg base 3 "fixed" ["value"] 0 (sFix 2)) : InitD G P w mg base 5 f fd ["self", "lead", "row"] 0 8 sPartI := by
  refine InitD.more (initd_of F sc_Parting___init__ (fun cdv A outer s H E hr hg => have xk := xk_def (E := E) hr hg; (ds_cons (ds2_expr (d2_base (i := 0) B_Denial xk rfl (da_cons de_str (da_cons (dv 1) (da_cons (dv 2) da_nil))))) (ds_cons (ds_fld (i := 0) xk.K fo.lead fo.nd fo.sm rfl (de_call F_fixed xk (da_cons (dv 1) da_nil))) (ds_one (ds_fld (i := 0) xk.K fo.row fo.nd fo.sm rfl (de_call F_fixed xk (da_cons (dv 2) da_nil))))))) ?_) (by decide)
  rintro a dx ds R ex hl ⟨n, l, r, rfl, hr⟩
  obtain ⟨t1, t2⟩ := fix_two n l r
  refine ⟨a, dx, [], rfl, Nat.zero_le _, _, rfl, _, rfl, "parting", [leadD n l, rowD r], rfl, rfl, by simp, t1, fun _ => ?_⟩
  rw [t2]
  obtain ⟨l1, l2⟩ := fix_lead 2 n l
  obtain ⟨r1, r2⟩ := fix_row 1 r
  refine ⟨_, rfl, rfl, _, rfl, l1, ?_⟩
  rw [l2]
  refine ⟨a, dx, 8, _, rfl, by rw [fo.fl8]; rfl, ?_⟩
  refine ⟨_, rfl, rfl, _, rfl, r1, ?_⟩
  rw [r2]
  refine ⟨a, dx, 8, _, rfl, by rw [fo.fl8]; rfl, ?_⟩
  exact ⟨_, rfl, by rw [fo.fl8]; rfl, hr⟩
abbrev s_Paper___bool__ : Stmt := inClass (topS 3) 2
theorem sc_Paper___bool__ : FnScope ["self"] ["self"] (defScope s_Paper___bool__) := ⟨rfl, rfl, rfl, by decide +kernel, rfl, by decide +kernel, by decide +kernel⟩
theorem ok_Paper___bool__ (F : Fun G.K "__bool__" "Paper.__bool__" s_Paper___bool__ f fd) (bn : Bn mg)  : FnD G P w mg base 1 f fd ["self"] 0 (sSays true) := by
  refine FnD.more (fnd_of F sc_Paper___bool__ (fun cdv A outer s H E hr hg => (ds_one (ds_ret de_bl))) ?_) (by decide)
  rintro ds R ex hl ⟨d, rfl, hr⟩
  exact hr
abbrev s_Denial___bool__ : Stmt := inClass (topS 4) 2
theorem sc_Denial___bool__ : FnScope ["self"] ["self"] (defScope s_Denial___bool__) := ⟨rfl, rfl, rfl, by decide +kernel, rfl, by decide +kernel, by decide +kernel⟩
theorem ok_Denial___bool__ (F : Fun G.K "__bool__" "Denial.__bool__" s_Denial___bool__ f fd) (bn : Bn mg)  : FnD G P w mg base 1 f fd ["self"] 0 (sSays false) := by
  refine FnD.more (fnd_of F sc_Denial___bool__ (fun cdv A outer s H E hr hg => (ds_one (ds_ret de_bl))) ?_) (by decide)
  rintro ds R ex hl ⟨d, rfl, hr⟩
  exact hr
end
end Pg
set_option Elab.async false
set_option linter.all false
set_option maxRecDepth 100000
set_option maxHeartbeats 4100000
namespace Pg
open PySem L2 RZ Kn
section
variable {G : Gd} {P : Program} {w : World} {mg : Str → Option Value} {base : Heap} {f : Addr} {fd : FuncData}
theorem ex_val {n t o : Nat} (ht : t < n) (ho : o < n) : ∀ i ∈ exR n t o, 0 ≤ i ∧ i < (n : Int) := by
  intro i hi
  unfold exR at hi
  rcases List.mem_or_eq_of_mem_set hi with hi | rfl
  · rcases List.mem_or_eq_of_mem_set hi with hi | rfl
    · obtain ⟨j, hj, rfl⟩ := List.mem_map.mp hi
      have := List.mem_range.mp hj
      omega
    · omega
  · omega
theorem put_val {n t o : Nat} (ho : o < n) : ∀ i ∈ putR n t o, 0 ≤ i ∧ i < (n : Int) := by
  intro i hi
  obtain ⟨j, hj, rfl⟩ := List.mem_map.mp hi
  have := List.mem_range.mp hj
  split <;> omega
theorem idx_valN {n : Nat} : ∀ i ∈ idx n, 0 ≤ i ∧ i < (n : Int) := by
  intro i hi
  obtain ⟨j, hj, rfl⟩ := List.mem_map.mp hi
  have := List.mem_range.mp hj
  omega
theorem cand_val {m : Str} {n : Nat} (hn : 1 ≤ n) {r : List Int} (h : r ∈ candR m n) : ∀ i ∈ r, 0 ≤ i ∧ i < (n : Int) := by
  have e1 : ∀ {r : List Int}, r ∈ exL n → ∀ i ∈ r, 0 ≤ i ∧ i < (n : Int) := fun {r} h => by
    obtain ⟨i, hi, rfl⟩ := List.mem_map.mp h; have := List.mem_range.mp hi
    exact ex_val (by omega) (by omega)
  have e2 : ∀ {r : List Int}, r ∈ dnL n → ∀ i ∈ r, 0 ≤ i ∧ i < (n : Int) := fun {r} h => by
    obtain ⟨i, hi, rfl⟩ := List.mem_map.mp h; have := List.mem_range.mp hi
    exact put_val (by omega)
  have e3 : ∀ {r : List Int}, r ∈ upL n → ∀ i ∈ r, 0 ≤ i ∧ i < (n : Int) := fun {r} h => by
    obtain ⟨i, hi, rfl⟩ := List.mem_map.mp h; have := List.mem_range.mp hi
    exact put_val (by omega)
  unfold candR at h
  split at h
  · cases h
  split at h
  · exact e1 h
  split at h
  · rcases List.mem_append.mp
        h with h | h
    · rcases List.mem_append.mp
          h with h | h
      · exact e1 h
      · exact e2 h
    · rw [List.mem_singleton.mp h]; exact put_val (by omega)
  split at h
  · rcases List.mem_append.mp
        h with h | h
    · exact e1 h
    · exact e2 h
  split at h
  · rcases List.mem_append.mp
        h with h | h
    · rcases List.mem_append.mp
          h with h | h
      · exact e2 h
      · exact e3 h
    · rw [List.mem_singleton.mp h]
      exact fun i hi => idx_valN i (List.mem_reverse.mp hi)
  · rcases List.mem_append.mp
        h with h | h
    · exact e2 h
    · exact e3 h
theorem few_in {m : Str} {n : Nat} (hn : 1 ≤ n) {l : List Int} (h : l ∈ fewR m n) : RowIn n n l :=
  ⟨cand_len (List.mem_filter.mp h).1, cand_val hn (List.mem_filter.mp h).1⟩
def sDTM : FSpec := fun ds R _ => ∃ (n m : Nat) (vs : List Int) (μ : Str), ds = [toldD n m vs, .str μ] ∧ μ ∈ manners ∧ (μ = ("two" : Str) → n ≠ 1) ∧ R .non
abbrev s_demand_told_manner : Stmt := topS 77
theorem sc_demand_told_manner : FnScope ["told", "manner"] ["told", "manner"] (defScope s_demand_told_manner) := ⟨rfl, rfl, rfl, by decide +kernel, rfl, by decide +kernel, by decide +kernel⟩
theorem ok_demand_told_manner (F : Fun G.K "demand_told_manner" "demand_told_manner" s_demand_told_manner f fd) (bn : Bn mg) (fo : Gk G) (F_demand_told : Fk G P w mg base 1 "demand_told" ["told"] 0 sDemTold) (F_demand_manner : Fk G P w mg base 1 "demand_manner" ["manner", "part"] 0 sDemManL) (F_demand_two : Fk G P w mg base 1 "demand_two" ["manner", "worlds"] 0 sDemTwoW) : FnD G P w mg base 2 f fd ["told", "manner"] 0 sDTM := by
  refine FnD.more (fnd_of F sc_demand_told_manner (fun cdv A outer s H E hr hg => have xk := xk_def (E := E) hr hg; (ds_cons (ds_expr (de_call F_demand_told xk (da_cons (dv 0) da_nil))) (ds_cons (ds_expr (de_call F_demand_manner xk (da_cons (dv 1) (da_cons de_str da_nil)))) (ds_one (ds_expr (de_call F_demand_two xk (da_cons (dv 1) (da_cons (de_tup (da_cons (de_fld xk.K fo.things (dv 0)) da_nil)) da_nil)))))))) ?_) (by decide)
  rintro ds R ex hl ⟨n, m, vs, μ, rfl, hm, h2, hr⟩
  obtain ⟨⟨m1, m2, m3⟩, i1, i2, i3⟩ := fld_told fo (n := n) (m := m) (vs := vs)
  refine ⟨_, rfl, rfl, n, m, vs, rfl, ?_⟩
  refine ⟨_, rfl, rfl, μ, _, rfl, hm, ?_⟩
  refine ⟨_, rfl, _, rfl, 3, _, _, rfl, m1, i1, small (by simp), rfl, μ, [n], rfl, hm, by simp, fun z => ?_, hr⟩
  have := h2 z
  simp
  omega
/-- a told function keeps a manner: no few row parts it -/
def keepB (μ : Str) (n m : Nat) (vs : List Int) : Bool := (fewR μ n).all fun l => (partO n m vs l).isNone
def sKept : FSpec := fun ds R _ => ∃ (n m : Nat) (vs : List Int) (μ : Str), ds = [toldD n m vs, .str μ] ∧ ToldIn n m vs ∧ μ ∈ manners ∧ (μ = ("two" : Str) → n ≠ 1) ∧ (keepB μ n m vs = true → R keptD) ∧ ∀ l r, l ∈ fewR μ n → partO n m vs l = some r → R (partD n l r)
abbrev s_kept : Stmt := topS 78
theorem sc_kept : FnScope ["told", "manner", "lead_row", "row"] ["told", "manner"] (defScope s_kept) := ⟨rfl, rfl, rfl, by decide +kernel, rfl, by decide +kernel, by decide +kernel⟩
theorem ok_kept (F : Fun G.K "kept" "kept" s_kept f fd) (bn : Bn mg) (fo : Gk G) (F_demand_told_manner : Fk G P w mg base 2 "demand_told_manner" ["told", "manner"] 0 sDTM) (F_few_rows : Fk G P w mg base 3 "few_rows" ["manner", "things"] 0 sFew) (F_first_parting : Fk G P w mg base 2 "first_parting" ["begin", "into", "lead_row"] 0 sFirst) (C_Kept : Fc G P w mg base 5 "Kept" 7 ["self"] 0 sKeptI) (C_Parting : Fc G P w mg base 5 "Parting" 8 ["self", "lead", "row"] 0 sPartI) (C_Lead : Fc G P w mg base 5 "Lead" 1 ["self", "into", "row"] 0 sLeadInitL) : FnD G P w mg base 7 f fd ["told", "manner"] 0 sKept := by
  refine FnD.more (fnd_of F sc_kept (fun cdv A outer s H E hr hg => have xk := xk_def (E := E) hr hg; (ds_cons (ds_expr (de_call F_demand_told_manner xk (da_cons (dv 0) (da_cons (dv 1) da_nil)))) (ds_cons (ds_for xk po_def (di_seq xk.K (de_call F_few_rows xk (da_cons (dv 1) (da_cons (de_fld xk.K fo.things (dv 0)) da_nil)))) (dg_name (i := 2) sc_kept.nd rfl (Or.inl rfl)) (ds_cons (ds_set (i := 3) sc_kept.nd rfl (Or.inl rfl) (de_call F_first_parting xk (da_cons (dv 0) (da_cons (dv 0) (da_cons (dv 2) da_nil))))) (ds_one (ds_if (dt_cmp (o_isn) (dv 3) de_non (by rfl)) (ds_one (ds_ret (de_make C_Parting xk (da_cons (de_make C_Lead xk (da_cons (de_fld xk.K fo.things (dv 0)) (da_cons (dv 2) da_nil))) (da_cons (dv 3) da_nil))))) ds_nil)))) (ds_one (ds_ret (de_make0 C_Kept xk)))))) ?_) (by decide)
  rintro ds R ex hl ⟨n, m, vs, μ, rfl, T, hm, h2, hk, hp⟩
  obtain ⟨n1, n5, m1', m4, hkk, len, hv⟩ := id T
  obtain ⟨⟨m1, m2, m3⟩, i1, i2, i3⟩ := fld_told fo (n := n) (m := m) (vs := vs)
  refine seq_to (fun env' => env' = [.val (toldD n m vs), .val (.str μ), .emp, .emp]) (fun de' hnx hrt => ?_) (fun env' e => ?_)
  · exact ⟨_, rfl, _, rfl, rfl, n, m, vs, μ, rfl, hm, h2, hnx _ rfl⟩
  subst e
  refine seq_to (fun env' => keepB μ n m vs = true) (fun de' hnx hrt => ?_) (fun env' e => ?_)
  · refine ⟨_, rfl, _, rfl, 3, _, _, rfl, m1, i1, rfl, μ, n, rfl, hm, n1, n5, fun out ho => ?_⟩
    refine sForL_of rowD (fun i env => (∀ j l, j < i → out[j]? = some l → partO n m vs l = none) ∧ ∃ s2 s3, env = [.val (toldD n m vs), .val (.str μ), s2, s3]) ⟨fun j l hj => absurd hj (Nat.not_lt_zero j), _, _, rfl⟩ (fun i l env hi hI nx hn2 => ?_) (fun env hI => ?_)
    · obtain ⟨hpre, s2, s3, rfl⟩ := hI
      have hmem : l ∈ fewR μ n := ho.mem_iff.mp (List.mem_of_getElem? hi)
      have hL := few_in n1 hmem
      refine seq_to (fun env' => env' = [.val (toldD n m vs), .val (.str μ), .val (rowD l), .val (optD (partO n m vs l))]) (fun de2 hnx2 hrt2 => ?_) (fun env' e => ?_)
      · exact ⟨_, rfl, _, rfl, _, rfl, rfl, n, m, vs, l, rfl, T, hL, hnx2 _ rfl⟩
      subst e
      refine sif_of (x := (partO n m vs l).isSome) (fun K hK => ?_) (fun hb => ?_) fun hb => ?_
      · cases hpo : partO n m vs l with
        | none => rw [hpo] at hK; exact ⟨_, rfl, rfl, (fun v z => nomatch z), _, rfl, hK⟩
        | some r => rw [hpo] at hK; exact ⟨_, rfl, rfl, (fun v z => nomatch z), _, rfl, hK⟩
      · obtain ⟨r, hpo⟩ := Option.isSome_iff_exists.mp hb
        rw [hpo]
        have hlen : l ≠ [] := fun z => by have := hL.1; rw [z] at this; simp at this; omega
        refine ⟨_, rfl, 3, _, _, rfl, m1, i1, _, rfl, rfl, n, rowD l, l, rfl, rfl, by omega, by omega, by have := hL.1; omega, by have := hL.1; omega, hL.2, ?_⟩
        refine ⟨_, rfl, rfl, n, l, r, rfl, ?_⟩
        show de'.rt _ _
        rw [hrt]
        exact hp l r hmem hpo
      · refine hn2 _ ⟨fun j l' hj hl' => ?_, _, _, rfl⟩
        by_cases e : j = i
        · rw [e] at hl'
          rw [hi] at hl'
          cases hl'
          cases hpo : partO n m vs l with
          | none => rfl
          | some r => rw [hpo] at hb; cases hb
        · exact hpre j l' (by omega) hl'
    · refine hnx _ ?_
      unfold keepB
      refine List.all_eq_true.mpr fun l hl2 => ?_
      obtain ⟨j, hj⟩ := List.getElem?_of_mem (ho.mem_iff.mpr hl2)
      have hjl := (List.getElem?_eq_some_iff.mp hj).1
      rw [hI.1 j l hjl hj]
      rfl
  exact ⟨rfl, rfl, hk e⟩
def sKeeps : FSpec := fun ds R _ => ∃ (n m : Nat) (vs : List Int) (μ : Str), ds = [toldD n m vs, .str μ] ∧ ToldIn n m vs ∧ μ ∈ manners ∧ (μ = ("two" : Str) → n ≠ 1) ∧ R (.bl (keepB μ n m vs))
abbrev s_keeps : Stmt := topS 79
theorem sc_keeps : FnScope ["told", "manner"] ["told", "manner"] (defScope s_keeps) := ⟨rfl, rfl, rfl, by decide +kernel, rfl, by decide +kernel, by decide +kernel⟩
theorem ok_keeps (F : Fun G.K "keeps" "keeps" s_keeps f fd) (bn : Bn mg) (F_kept : Fk G P w mg base 7 "kept" ["told", "manner"] 0 sKept) (T_bool : Fbs G P w mg base 1 [(7, true), (8, false)]) : FnD G P w mg base 8 f fd ["told", "manner"] 0 sKeeps := by
  refine FnD.more (fnd_of F sc_keeps (fun cdv A outer s H E hr hg => have xk := xk_def (E := E) hr hg; (ds_one (ds_ret (de_boolI T_bool xk bn.bool (de_call F_kept xk (da_cons (dv 0) (da_cons (dv 1) da_nil))))))) ?_) (by decide)
  rintro ds R ex hl ⟨n, m, vs, μ, rfl, T, hm, h2, hr⟩
  refine ⟨_, rfl, _, rfl, rfl, n, m, vs, μ, rfl, T, hm, h2, fun hk => ?_, fun l r hl2 hpo => ?_⟩
  · rw [hk] at hr
    exact ⟨7, _, true, rfl, by simp, hr⟩
  · have : keepB μ n m vs = false := by
      refine Bool.eq_false_iff.mpr fun z => ?_
      have y := List.all_eq_true.mp z l hl2
      rw [hpo] at y
      cases y
    rw [this] at hr
    exact ⟨8, _, false, rfl, by simp, hr⟩
end
end Pg
set_option Elab.async false
set_option linter.all false
set_option maxRecDepth 100000
set_option maxHeartbeats 4100000
namespace Pg
open PySem L2 RZ Kn
section
variable {G : Gd} {P : Program} {w : World} {mg : Str → Option Value} {base : Heap} {f : Addr} {fd : FuncData}
def sDemPlace : FSpec := fun ds R _ => ∃ i m : Int, ds = [.int i, .int m] ∧ 0 ≤ i ∧ i < m ∧ R .non
abbrev s_demand_place : Stmt := topS 30
theorem sc_demand_place : FnScope ["value", "places"] ["value", "places"] (defScope s_demand_place) := ⟨rfl, rfl, rfl, by decide +kernel, rfl, by decide +kernel, by decide +kernel⟩
theorem ok_demand_place (F : Fun G.K "demand_place" "demand_place" s_demand_place f fd) (bn : Bn mg) (F_is_within : Fk G P w mg base 2 "is_within" ["value", "least", "most"] 0 sWithin) : FnD G P w mg base 3 f fd ["value", "places"] 0 sDemPlace := by
  refine FnD.more (fnd_of F sc_demand_place (fun cdv A outer s H E hr hg => have xk := xk_def (E := E) hr hg; (ds_one (ds_if (dt_not (dt_val (de_call F_is_within xk (da_cons (dv 0) (da_cons de_int (da_cons (de_op (o_sub) (dv 1) de_int) da_nil)))))) (ds_one ds_never) ds_nil))) ?_) (by decide)
  rintro ds R ex hl ⟨i, m, rfl, h0, h1, hr⟩
  refine ⟨.int i, rfl, .int m, rfl, trivial, rfl, .int i, some 0, some (m - 1), rfl, rfl, ?_⟩
  refine ⟨true, ?_, hr⟩
  rw [show withinB (.int i) (some 0) (some (m - 1)) = true by simp [withinB, inB]; omega]
def placeD (m p : Int) : D := .ins 12 [.int m, .int p]
def sWorkI : XSpec := fun fs ds R _ => ∃ m : Int, fs = [] ∧ ds = [.int m] ∧ 1 ≤ m ∧ m ≤ 4 ∧ R .non [.int m]
def sPlaceI : FSpec := fun ds R _ => ∃ m p : Int, ds = [.int m, .int p] ∧ 1 ≤ m ∧ m ≤ 4 ∧ 0 ≤ p ∧ p < m ∧ R (placeD m p)
abbrev s_Worker___init__ : Stmt := inClass (topS 64) 0
theorem sc_Worker___init__ : FnScope ["self", "places"] ["self", "places"] (defScope s_Worker___init__) := ⟨rfl, rfl, rfl, by decide +kernel, rfl, by decide +kernel, by decide +kernel⟩
theorem ok_Worker___init__ (F : Fun G.K "__init__" "Worker.__init__" s_Worker___init__ f fd) (hbn : Binds G.K fd ["self", "places"] []) (bn : Bn mg) {cid : Nat} (fo : Gk G) (h0 : (G.fl cid)[0]? = some (Str.ofString "places")) (F_demand_many_places : Fk G P w mg base 4 "demand_many_places" ["places"] 0 sDemPlaces) : MutX G P w mg base 5 f 0 cid sWorkI := by
  refine mutx_of F sc_Worker___init__ hbn (fun cdv A outer s H E hr hg => have xk := xk_def (E := E) hr hg; (ds_cons (ds_expr (de_call F_demand_many_places xk (da_cons (dv 1) da_nil))) (ds_one (ds_fld (i := 0) xk.K fo.places fo.nd fo.sm rfl (dv 1))))) ?_
  rintro a dx fs ds R ex hfl ⟨m, rfl, rfl, h1, h4, hr⟩
  refine ⟨rfl, ?_⟩
  refine ⟨_, rfl, rfl, m, rfl, h1, h4, ?_⟩
  exact ⟨_, rfl, a, dx, cid, [], rfl, h0, _, rfl, hr⟩
abbrev s_Place___init__ : Stmt := inClass (topS 65) 0
theorem sc_Place___init__ : FnScope ["self", "places", "place"] ["self", "places", "place"] (defScope s_Place___init__) := ⟨rfl, rfl, rfl, by decide +kernel, rfl, by decide +kernel, by decide +kernel⟩
theorem ok_Place___init__ (F : Fun G.K "__init__" "Place.__init__" s_Place___init__ f fd) (bn : Bn mg) (fo : Gk G) (B_Worker : Fbi G P w mg base 5 "Worker" 11 12 0 sWorkI) (F_demand_place : Fk G P w mg base 3 "demand_place" ["value", "places"] 0 sDemPlace) : InitD G P w mg base 6 f fd ["self", "places", "place"] 0 12 sPlaceI := by
  refine InitD.more (initd_of F sc_Place___init__ (fun cdv A outer s H E hr hg => have xk := xk_def (E := E) hr hg; (ds_cons (ds2_expr (d2_base (i := 0) B_Worker xk rfl (da_cons (dv 1) da_nil))) (ds_cons (ds_expr (de_call F_demand_place xk (da_cons (dv 2) (da_cons (dv 1) da_nil)))) (ds_one (ds_fld (i := 0) xk.K fo.place fo.nd fo.sm rfl (dv 2)))))) ?_) (by decide)
  rintro a dx ds R ex hl ⟨m, p, rfl, h1, h4, p0, p1, hr⟩
  refine ⟨a, dx, [], rfl, Nat.zero_le _, _, rfl, m, rfl, rfl, h1, h4, fun _ => ?_⟩
  refine ⟨_, rfl, _, rfl, rfl, p, m, rfl, p0, p1, ?_⟩
  refine ⟨_, rfl, a, dx, 12, _, rfl, by rw [fo.fl12]; rfl, ?_⟩
  exact ⟨_, rfl, by rw [fo.fl12]; rfl, hr⟩
theorem fld_place (fo : Gk G) {m p : Int} : (("places" : Str) ∈ G.fl 12 ∧ ("place" : Str) ∈ G.fl 12) ∧ [D.int m, D.int p][(G.fl 12).idxOf ("places" : Str)]? = some (.int m) ∧ [D.int m, D.int p][(G.fl 12).idxOf ("place" : Str)]? = some (.int p) := by
  rw [fo.fl12]
  exact ⟨⟨by decide, by decide⟩, rfl, rfl⟩
/-- what a place tells -/
def plV (n m : Nat) (p : Int) : List Int := (allRows n m).map fun r => atR r p
def sOver : FSpec := fun ds R _ => ∃ (n m : Nat) (p : Int), ds = [placeD m p, .int n] ∧ 1 ≤ n ∧ n ≤ 5 ∧ 1 ≤ m ∧ m ≤ 4 ∧ n ^ m ≤ 256 ∧ 0 ≤ p ∧ p < m ∧ R (toldD n m (plV n m p))
theorem pl_told {n m : Nat} {p : Int} (n1 : 1 ≤ n) (n5 : n ≤ 5) (m1 : 1 ≤ m) (m4 : m ≤ 4) (hk : n ^ m ≤ 256) (p0 : 0 ≤ p) (p1 : p < m) : ToldIn n m (plV n m p) :=
  ⟨n1, n5, m1, m4, hk, by unfold plV; rw [List.length_map, allRows_len], fun i hi => by
    obtain ⟨r, hr, rfl⟩ := List.mem_map.mp hi
    exact atR_val p0 (by rw [allRows_row n m r hr]; exact p1) (allRows_val n m r hr)⟩
abbrev s_Place_over : Stmt := inClass (topS 65) 3
theorem sc_Place_over : FnScope ["self", "things", "rows", "row"] ["self", "things"] (defScope s_Place_over) := ⟨rfl, rfl, rfl, by decide +kernel, rfl, by decide +kernel, by decide +kernel⟩
theorem ok_Place_over (F : Fun G.K "over" "Place.over" s_Place_over f fd) (bn : Bn mg) (fo : Gk G) (F_inputs : Fk G P w mg base 5 "inputs" ["things", "places"] 0 sInputs) (C_Told : Fc G P w mg base 5 "Told" 3 ["self", "things", "places", "tells"] 0 sToldInit) : FnD G P w mg base 7 f fd ["self", "things"] 0 sOver := by
  refine FnD.more (fnd_of F sc_Place_over (fun cdv A outer s H E hr hg => have xk := xk_def (E := E) hr hg; (ds_cons (ds_set (i := 2) sc_Place_over.nd rfl (Or.inl rfl) (de_call F_inputs xk (da_cons (dv 1) (da_cons (de_fld xk.K fo.places (dv 0)) da_nil)))) (ds_one (ds_ret (de_make C_Told xk (da_cons (dv 1) (da_cons (de_fld xk.K fo.places (dv 0)) (da_cons (de_comp (own := [("row", 3)]) xk sc_Place_over.nd (di_seq xk.K (dv 2)) (blkOk_by (N := ["self", "things", "rows", "row"]) (sc := defScope s_Place_over) (by decide +kernel)) (fun s H C cl fp => (dg_name (i := 3) sc_Place_over.nd rfl (Or.inl rfl))) (fun s H C cl fp => dts_nil) (fun s H C cl fp => (de_ix (Xk.blk xk _ _ _ _ _).K (dv 3) (de_fld (Xk.blk xk _ _ _ _ _).K fo.place (dv 0)) (fun _ _ => rfl))) (by simp)) da_nil)))))))) ?_) (by decide)
  rintro ds R ex hl ⟨n, m, p, rfl, n1, n5, m1', m4, hk, p0, p1, hr⟩
  obtain ⟨⟨m1, m2⟩, i1, i2⟩ := fld_place fo (m := m) (p := p)
  refine seq_to (fun env' => env' = [.val (placeD m p), .val (.int n), .val (.tup ((allRows n m).map rowD)), .emp]) (fun de' hnx hrt => ?_) (fun env' e => ?_)
  · exact ⟨_, rfl, _, rfl, 12, _, _, rfl, m1, i1, rfl, n, m, rfl, n1, n5, m1', m4, hk, hnx _ rfl⟩
  subst e
  refine ⟨_, rfl, _, rfl, 12, _, _, rfl, m1, i1, ?_⟩
  refine ⟨_, rfl, ?_⟩
  refine compL_of rowD (fun r => .int (atR r p)) (fun r hr2 K hK => ?_) ?_
  · have hl2 := allRows_row n m r hr2
    exact ⟨_, rfl, _, rfl, 12, _, _, rfl, m2, i2, _, (atR_in p0 (by rw [hl2]; exact p1) (allRows_val n m r hr2)).1, hK⟩
  · rw [List.nil_append]
    refine ⟨rfl, n, m, _, plV n m p, rfl, ?_, pl_told n1 n5 m1' m4 hk p0 p1, hr⟩
    unfold plV
    rw [List.map_map]
    rfl
def KN : List (Str × Int) := [("blind", 0)]
def sDKM : FSpec := fun ds R _ => ds = [.str "blind"] ∧ R .non
abbrev s_demand_known_manner : Stmt := topS 69
theorem sc_demand_known_manner : FnScope ["manner"] ["manner"] (defScope s_demand_known_manner) := ⟨rfl, rfl, rfl, by decide +kernel, rfl, by decide +kernel, by decide +kernel⟩
theorem ok_demand_known_manner (F : Fun G.K "demand_known_manner" "demand_known_manner" s_demand_known_manner f fd) (bn : Bn mg) (D_KNOWN_THINGS : GDct G w mg "KNOWN_THINGS" KN) : FnD G P w mg base 1 f fd ["manner"] 0 sDKM := by
  refine FnD.more (fnd_of F sc_demand_known_manner (fun cdv A outer s H E hr hg => have xk := xk_def (E := E) hr hg; (ds_one (ds_if (dt_w (dw_or (dt_not (dt_val (de_bi (c_isi xk.K) bn.isinstance (da_cons (dv 0) (da_cons (de_tyn (n := "str") bn.str) da_nil))))) (dw_or1 (dt_gni D_KNOWN_THINGS xk.K (dv 0))))) (ds_one ds_never) ds_nil))) ?_) (by decide)
  rintro ds R ex hl ⟨rfl, hr⟩
  refine ⟨_, rfl, _, _, rfl, isB_str, true, rfl, ?_⟩
  exact ⟨_, rfl, "blind", 0, rfl, by simp [KN], false, rfl, hr⟩
def sAllKnown : FSpec := fun ds R _ => ∃ m : Nat, ds = [.int m, .str "blind"] ∧ 1 ≤ m ∧ m ≤ 4 ∧ R (.tup ((List.range m).map fun (p : Nat) => placeD m p))
abbrev s_all_known : Stmt := topS 70
theorem sc_all_known : FnScope ["places", "manner", "workers", "place", "thing"] ["places", "manner"] (defScope s_all_known) := ⟨rfl, rfl, rfl, by decide +kernel, rfl, by decide +kernel, by decide +kernel⟩
theorem ok_all_known (F : Fun G.K "all_known" "all_known" s_all_known f fd) (bn : Bn mg) (F_demand_many_places : Fk G P w mg base 4 "demand_many_places" ["places"] 0 sDemPlaces) (F_demand_known_manner : Fk G P w mg base 1 "demand_known_manner" ["manner"] 0 sDKM) (D_KNOWN_THINGS : GDct G w mg "KNOWN_THINGS" KN) (C_Place : Fc G P w mg base 6 "Place" 12 ["self", "places", "place"] 0 sPlaceI) (C_Thing : Fc G P w mg base 1 "Thing" 13 ["self", "places", "thing"] 0 (fun _ _ _ => False)) : FnD G P w mg base 8 f fd ["places", "manner"] 0 sAllKnown := by
  refine FnD.more (fnd_of F sc_all_known (fun cdv A outer s H E hr hg => have xk := xk_def (E := E) hr hg; (ds_cons (ds_expr (de_call F_demand_many_places xk (da_cons (dv 0) da_nil))) (ds_cons (ds_expr (de_call F_demand_known_manner xk (da_cons (dv 1) da_nil))) (ds_cons (ds_setComp (i := 2) (own := [("place", 3)]) xk sc_all_known.nd rfl rfl (sw_true rfl rfl rfl (by decide +kernel)) (di_range1 bn.range (da_cons (dv 0) da_nil)) (blkOk_by (N := ["places", "manner", "workers", "place", "thing"]) (sc := defScope s_all_known) (by decide +kernel)) (fun s H C cl fp => (dg_name (i := 3) sc_all_known.nd rfl (Or.inl rfl))) (fun s H C cl fp => dts_nil) (fun s H C cl fp => (de_make C_Place (Xk.blk xk _ _ _ _ _) (da_cons (dv 0) (da_cons (dv 3) da_nil)))) (by simp)) (ds_one (ds_ret (de_ty (c_tuple xk.K) bn.tuple (da_cons (de_op (o_add xk.K) (dv 2) (de_comp (own := [("thing", 4)]) xk sc_all_known.nd (di_range1 bn.range (da_cons (de_gget D_KNOWN_THINGS xk.K (dv 1) (fun _ _ => rfl)) da_nil)) (blkOk_by (N := ["places", "manner", "workers", "place", "thing"]) (sc := defScope s_all_known) (by decide +kernel)) (fun s H C cl fp => (dg_name (i := 4) sc_all_known.nd rfl (Or.inl rfl))) (fun s H C cl fp => dts_nil) (fun s H C cl fp => (de_make C_Thing (Xk.blk xk _ _ _ _ _) (da_cons (dv 0) (da_cons (dv 4) da_nil)))) (by simp))) da_nil)))))))) ?_) (by decide)
  rintro ds R ex hl ⟨m, rfl, h1, h4, hr⟩
  refine ⟨_, rfl, rfl, m, rfl, by omega, by omega, ?_⟩
  refine ⟨_, rfl, rfl, rfl, ?_⟩
  dsimp only
  refine seq_to (fun env' => env' = [.val (.int m), .val (.str "blind"), .val (.lst ((List.range m).map fun (p : Nat) => placeD m p)), .emp, .emp]) (fun de' hnx hrt => ?_) (fun env' e => ?_)
  · refine ⟨_, rfl, m, rfl, by omega, by omega, ?_⟩
    rw [Int.toNat_natCast, rng_nat]
    refine compL_of (fun i : Nat => D.int i) (fun (p : Nat) => placeD m p) (fun i hi K hK => ?_) ?_
    · have := List.mem_range.mp hi
      exact ⟨_, rfl, _, rfl, rfl, m, i, rfl, by omega, by omega, by omega, by omega, hK⟩
    · rw [List.nil_append]
      exact hnx _ rfl
  subst e
  refine ⟨_, rfl, _, rfl, "blind", 0, rfl, by simp [KN], 0, rfl, by omega, by omega, ?_⟩
  refine ⟨small (by simp; omega), ?_⟩
  refine nilT ?_
  rw [List.append_nil]
  exact hr
end
end Pg
set_option Elab.async false
set_option linter.all false
set_option maxRecDepth 100000
set_option maxHeartbeats 4100000
namespace Pg
open PySem L2 RZ Kn
section
variable {G : Gd} {P : Program} {w : World} {mg : Str → Option Value} {base : Heap} {f : Addr} {fd : FuncData}
/-- the place that a told function is, if any: the first one -/
def spotO (n m : Nat) (vs : List Int) : Option Nat := (List.range m).find? fun p => plV n m p == vs
def knownD (n m : Nat) (vs : List Int) : D := match spotO n m vs with
  | some p => placeD m p
  | none => .non
def sKnownOf : FSpec := fun ds R _ => ∃ (n m : Nat) (vs : List Int), ds = [toldD n m vs, .str "blind"] ∧ ToldIn n m vs ∧ R (knownD n m vs)
theorem find_first {α : Type} {p : α → Bool} {l : List α} {i : Nat} {x : α} (h : l[i]? = some x) (hx : p x = true) (hb : ∀ j y, j < i → l[j]? = some y → p y = false) : l.find? p = some x := by
  induction l
        generalizing i with
  | nil => simp at h
  | cons a l ih =>
    cases i with
    | zero =>
      simp at h
      subst h
      rw [List.find?_cons, hx]
    | succ i =>
      have ha := hb 0 a (Nat.succ_pos i) rfl
      rw [List.find?_cons, ha]
      exact ih (by simpa using h) fun j y hj hy => hb (j + 1) y (by omega) (by simpa using hy)
abbrev s_known_of : Stmt := topS 71
theorem sc_known_of : FnScope ["told", "manner", "worker"] ["told", "manner"] (defScope s_known_of) := ⟨rfl, rfl, rfl, by decide +kernel, rfl, by decide +kernel, by decide +kernel⟩
theorem ok_known_of (F : Fun G.K "known_of" "known_of" s_known_of f fd) (bn : Bn mg) (fo : Gk G) (F_demand_told : Fk G P w mg base 1 "demand_told" ["told"] 0 sDemTold) (F_demand_known_manner : Fk G P w mg base 1 "demand_known_manner" ["manner"] 0 sDKM) (F_demand_two : Fk G P w mg base 1 "demand_two" ["manner", "worlds"] 0 sDemTwoW) (F_all_known : Fk G P w mg base 8 "all_known" ["places", "manner"] 0 sAllKnown) (M_over : Fm G P w mg base 7 12 "over" ["self", "things"] 0 sOver) (N_Told : Fqn G P w mg base 1 3 0 sEqTold) : FnD G P w mg base 9 f fd ["told", "manner"] 0 sKnownOf := by
  refine FnD.more (fnd_of F sc_known_of (fun cdv A outer s H E hr hg => have xk := xk_def (E := E) hr hg; (ds_cons (ds_expr (de_call F_demand_told xk (da_cons (dv 0) da_nil))) (ds_cons (ds_expr (de_call F_demand_known_manner xk (da_cons (dv 1) da_nil))) (ds_cons (ds_expr (de_call F_demand_two xk (da_cons (dv 1) (da_cons (de_tup (da_cons (de_fld xk.K fo.things (dv 0)) da_nil)) da_nil)))) (ds_cons (ds_for xk po_def (di_seq xk.K (de_call F_all_known xk (da_cons (de_fld xk.K fo.places (dv 0)) (da_cons (dv 1) da_nil)))) (dg_name (i := 2) sc_known_of.nd rfl (Or.inl rfl)) (ds_one (ds_if (dt_eqO N_Told xk (de_meth M_over xk (dv 2) (da_cons (de_fld xk.K fo.things (dv 0)) da_nil)) (dv 0) (by rfl)) (ds_one (ds_ret (dv 2))) ds_nil))) (ds_one (ds_ret de_non))))))) ?_) (by decide)
  rintro ds R ex hl ⟨n, m, vs, rfl, T, hr⟩
  obtain ⟨n1, n5, m1', m4, hkk, len, hv⟩ := id T
  obtain ⟨⟨m1, m2, m3⟩, i1, i2, i3⟩ := fld_told fo (n := n) (m := m) (vs := vs)
  refine ⟨_, rfl, rfl, n, m, vs, rfl, ?_⟩
  refine ⟨_, rfl, rfl, rfl, ?_⟩
  refine ⟨_, rfl, _, rfl, 3, _, _, rfl, m1, i1, small (by simp), rfl, "blind", [n], rfl, by decide +kernel, by simp, (fun z => absurd z (by decide +kernel)), ?_⟩
  dsimp only
  refine seq_to (fun env' => spotO n m vs = none) (fun de' hnx hrt => ?_) (fun env' e => ?_)
  · refine ⟨_, rfl, 3, _, _, rfl, m2, i2, _, rfl, rfl, m, rfl, m1', m4, ?_⟩
    refine sForL_of (fun (p : Nat) => placeD m p) (fun i env => (∀ j, j < i → (plV n m (j : Nat) == vs) = false) ∧ ∃ s2, env = [.val (toldD n m vs), .val (.str "blind"), s2]) ⟨fun j hj => absurd hj (Nat.not_lt_zero j), _, rfl⟩ (fun i p env hi hI nx hn2 => ?_) (fun env hI => ?_)
    · obtain ⟨hpre, s2, rfl⟩ := hI
      have hil := (List.getElem?_eq_some_iff.mp hi).1
      rw [List.length_range] at hil
      have hpi : p = i := by
        rw [List.getElem?_range hil] at hi
        exact (Option.some.inj hi).symm
      subst hpi
      refine sif_of (x := plV n m p == vs) (fun K hK => ?_) (fun hb => ?_) fun hb => ?_
      · refine ⟨_, rfl, _, rfl, _, rfl, 3, _, _, rfl, m1, i1, rfl, n, m, p, rfl, n1, n5, m1', m4, hkk, by omega, by omega, ?_⟩
        refine ⟨_, rfl, _, rfl, .inl ⟨_, rfl⟩, n, m, plV n m p, _, rfl, .inl ⟨n, m, vs, rfl, ?_⟩⟩
        refine ⟨_, rfl, _, rfl, ?_⟩
        rw [beq_self_eq_true, beq_self_eq_true, Bool.true_and, Bool.true_and]
        exact hK
      · refine ⟨_, rfl, ?_⟩
        show de'.rt _ _
        rw [hrt]
        have e : spotO n m vs = some p := find_first (i := p) (List.getElem?_range hil) hb fun j y hj hy => by
          rw [List.getElem?_range (by omega)] at hy
          cases hy
          exact hpre j hj
        unfold knownD at hr
        rw [e] at hr
        exact hr
      · refine hn2 _ ⟨fun j hj => ?_, _, rfl⟩
        by_cases e : j = p
        · rw [e]; exact hb
        · exact hpre j (by omega)
    · refine hnx _ ?_
      unfold spotO
      rw [List.find?_eq_none]
      intro p hp
      have := List.mem_range.mp hp
      rw [hI.1 p (by rw [List.length_range]; exact this)]
      simp
  unfold knownD at hr
  rw [e] at hr
  exact hr
end
end Pg
set_option Elab.async false
set_option linter.all false
set_option maxRecDepth 100000
set_option maxHeartbeats 4100000
namespace Pg
open PySem L2 RZ Kn
section
variable {P : Program} {w : World} {K : PySem.W.Frag} {mg : Str → Option Value} {base : Heap} {f : Addr} {fd : FuncData}
abbrev s_law_jug : Stmt := topS 81
theorem sc_law_jug : FnScope ["script", "cell"] ["script"] (defScope s_law_jug) := ⟨rfl, rfl, rfl, by decide +kernel, rfl, by decide +kernel, by decide +kernel⟩
theorem ok_law_jug (F : Fun K "_law_jug" "_law_jug" s_law_jug f fd) (bi : mg "int" = none) : FnOk P w K mg base (L2.CX P w) 1 f fd ["script"] (spPen K) := by
  refine F.okX sc_law_jug (fun vs H Q E h => ?_) (fun cdv A outer s H vs Q E hr h => ?_)
  · obtain ⟨a, ns, rfl, _⟩ := h
    rfl
  obtain ⟨a, ns, rfl, hS, hlen, q⟩ := h
  refine ⟨_, pss_one (ps_ret (pe_lst (pa_cons (pe_lc (own := [("cell", 1)]) rfl sc_law_jug.nd (pi_sq (pe_slice sl_list (pe_var (i := 0) rfl (by first | exact Or.inl rfl | exact Or.inr (Or.inl rfl) | exact Or.inr (Or.inr rfl)) (by decide) (by decide)) po_none (po_some pe_int))) (blkOk_by (N := ["script", "cell"]) (sc := defScope s_law_jug) (by decide +kernel))
    (fun s H C cl fp => pg_name (i := 1) sc_law_jug.nd rfl (Or.inl rfl)) (fun s H C cl fp => pts_nil) (fun s H C cl fp => pe_callTy call_int1 rfl bi (by decide +kernel) (pa_cons (pe_var (i := 1) rfl (by first | exact Or.inl rfl | exact Or.inr (Or.inl rfl) | exact Or.inr (Or.inr rfl)) (by decide) (by decide)) pa_nil) (by decide) (by decide) rfl rfl)) (pa_cons pe_int (pa_cons pe_int pa_nil))))), ?_⟩
  refine ⟨.ref a, rfl, 60, rfl, a, _, rfl, hS, fun c hc => ?_⟩
  have hn60 : (ns.take 60).length ≤ 60 := by rw [List.length_take]; omega
  have k1 : ∀ b o, H b = some o → upd H c (.lst (cutV (ns.map V.int) none (some 60))) b = some o := fun b o e => by rw [upd_ne (ne_of_none e hc)]; exact e
  have hcl : upd H c (.lst (cutV (ns.map V.int) none (some 60))) c = some (.lst ((ns.take 60).map V.int)) := by rw [upd_same, cut_ints]
  generalize upd H c (.lst (cutV (ns.map V.int) none (some 60))) = H1 at *
  generalize ns.take 60 = cs at *
  refine ⟨c, rfl, .inl ⟨⟨_, SqL.of hcl⟩, fun D hD => ?_⟩⟩
  have hDc : c ≠ D := ne_of_none hcl hD
  refine ⟨fun i m H2 => i ≤ cs.length ∧ m = cs.length - i ∧ (∀ b o, H1 b = some o → H2 b = some o) ∧ H2 D = some (.lst ((cs.take i).map V.int)), ⟨_, Nat.zero_le _, rfl, fun b o e => by rw [upd_ne (ne_of_none e hD)]; exact e, by rw [upd_same]; rfl⟩, fun i m H2 hW => ?_⟩
  obtain ⟨hi, rfl, k2, hD2⟩ := hW
  have hc2 := SqL.of (K := K) (k2 _ _ hcl)
  by_cases hlt : i < cs.length
  · refine .inr ⟨⟨_, .int (cs[i]), hc2, by rw [List.getElem?_map, List.getElem?_eq_getElem hlt]; rfl⟩, fun H3 => (∀ b o, H1 b = some o → H3 b = some o) ∧ H3 D = some (.lst ((cs.take (i + 1)).map V.int)), fun H3 ⟨e1, e2⟩ => ⟨cs.length - (i + 1), by omega, hlt, rfl, e1, e2⟩, fun x H3 hy => ?_⟩
    obtain ⟨rfl, hx⟩ := hy
    have ex : x = .int (cs[i]) := by
      have := hx _ hc2
      rw [List.getElem?_map, List.getElem?_eq_getElem hlt] at this; exact (Option.some.inj this).symm
    subst ex
    refine ⟨rfl, ?_⟩
    refine ⟨_, rfl, .inl ⟨_, rfl, _, hD2, by rw [List.length_map, List.length_take, sizeLine_eq]; omega, fun b o e => ?_, ?_⟩⟩
    · rw [upd_ne (ne_of_none e hD)]; exact k2 b o e
    · rw [upd_same, List.take_succ, List.getElem?_eq_getElem hlt, List.map_append]
      rfl
  · have e : i = cs.length := by omega
    refine .inl ⟨⟨_, hc2, by rw [List.length_map]; omega⟩, ?_⟩
    refine ⟨small (by simp), fun p hp => ?_⟩
    have hpD : D ≠ p := ne_of_none hD2 hp
    refine q _ p D cs (fun b o e _ => ?_) ?_ ?_ (Ne.symm hpD) (by omega) upd_same ?_
    · have e2 := k2 b o (k1 b o e)
      rw [upd_ne (ne_of_none e2 hp)]; exact e2
    · cases hq : H p with
      | none => rfl
      | some o => rw [k2 p o (k1 p o hq)] at hp; cases hp
    · cases hq : H D with
      | none => rfl
      | some o => rw [k1 D o hq] at hD; cases hD
    · rw [upd_ne hpD, hD2, e, List.take_length]
end
section
variable {G : Gd} {P : Program} {w : World} {mg : Str → Option Value} {base : Heap} {f : Addr} {fd : FuncData}
abbrev s_law_tap : Stmt := topS 82
theorem sc_law_tap : FnScope ["jug", "many", "left", "at", "cell", "mixed"] ["jug", "many"] (defScope s_law_tap) := ⟨rfl, rfl, rfl, by decide +kernel, rfl, by decide +kernel, by decide +kernel⟩
theorem ok_law_draw (F : Fun G.K "_law_tap" "_law_tap" s_law_tap f fd) (bn : Bn mg) : FnD G P w mg base 1 f fd ["jug", "many"] 1 sDraw := by
  refine draw_of F sc_law_tap rfl (fun cdv A outer s H E hr hg => have xk := xk_def (G := { G with u := none }) (E := E) hr hg; (ds_cons (ds_if (dt_cmp (o_gt) (de_oix (i := 0) rfl de_int (fun _ _ => rfl)) de_int (by rfl)) (ds_cons (ds_set (i := 2) sc_law_tap.nd rfl (Or.inl rfl) (de_ty (c_int) bn.int (da_cons (de_oix (i := 0) rfl de_int (fun _ _ => rfl)) da_nil))) (ds_cons (ds_setIx (i := 0) rfl (de_op (o_div) (dv 2) (dv 1)) de_int) (ds_one (ds_ret (de_op (o_mod) (de_ty (c_int) bn.int (da_cons (dv 2) da_nil)) (dv 1)))))) ds_nil) (ds_cons (ds_set (i := 3) sc_law_tap.nd rfl (Or.inl rfl) (de_oix (i := 0) rfl de_int (fun _ _ => rfl))) (ds_cons (ds_setIx (i := 0) rfl (de_op (o_add xk.K) (dv 3) de_int) de_int) (ds_cons (ds_set (i := 4) sc_law_tap.nd rfl (Or.inl rfl) (de_op (o_add xk.K) (de_op (o_mul) de_int (dv 3)) de_int)) (ds_cons (ds_if (dt_cmp (o_ne xk.K xk.u64) (de_oix (i := 0) rfl de_int (fun _ _ => rfl)) (de_lst da_nil) (by rfl)) (ds_one (ds_set (i := 4) sc_law_tap.nd rfl (Or.inl rfl) (de_ix xk.K (de_oix (i := 0) rfl de_int (fun _ _ => rfl)) (de_op (o_mod) (de_ty (c_int) bn.int (da_cons (dv 3) da_nil)) (de_bi (c_len xk.K) bn.len (da_cons (de_oix (i := 0) rfl de_int (fun _ _ => rfl)) da_nil))) (fun _ _ => rfl)))) ds_nil) (ds_cons (ds_if (dt_w (dw_and (dt_cmp (o_lt) (dv 3) (de_bi (c_len xk.K) bn.len (da_cons (de_oix (i := 0) rfl de_int (fun _ _ => rfl)) da_nil)) (by rfl)) (dw_and1 (dt_cmp (o_ge) (de_bi (c_abs) bn.abs (da_cons (dv 4) da_nil)) (de_op (o_pow) de_int de_int) (by rfl))))) (ds_cons (ds_set (i := 2) sc_law_tap.nd rfl (Or.inl rfl) (de_op (o_add xk.K) (de_op (o_mul) de_int (de_op (o_sub) (de_bi (c_abs) bn.abs (da_cons (de_ty (c_int) bn.int (da_cons (dv 4) da_nil)) da_nil)) (de_op (o_pow) de_int de_int))) (de_ty (c_int) bn.int (da_cons (de_cmp (o_lt) (dv 4) de_int (by rfl)) da_nil)))) (ds_cons (ds_setIx (i := 0) rfl (de_op (o_div) (dv 2) (dv 1)) de_int) (ds_one (ds_ret (de_op (o_mod) (de_ty (c_int) bn.int (da_cons (dv 2) da_nil)) (dv 1)))))) ds_nil) (ds_cons (ds_set (i := 5) sc_law_tap.nd rfl (Or.inl rfl) (de_op (o_mod) (de_ty (c_int) bn.int (da_cons (de_op (o_pow) (de_op (o_add xk.K) (de_op (o_add xk.K) (de_op (o_mod) (de_ty (c_int) bn.int (da_cons (dv 4) da_nil)) de_int) (de_op (o_mul) de_int (dv 3))) de_int) de_int) da_nil)) de_int)) (ds_cons (ds_set (i := 5) sc_law_tap.nd rfl (Or.inl rfl) (de_op (o_mod) (de_ty (c_int) bn.int (da_cons (de_op (o_pow) (de_op (o_add xk.K) (de_op (o_add xk.K) (de_op (o_mul) (dv 5) (de_op (o_add xk.K) (de_op (o_mul) de_int (dv 3)) de_int)) (de_op (o_mulW) (de_op (o_mul) de_int (dv 3)) (dv 3))) de_int) de_int) da_nil)) de_int)) (ds_one (ds_ret (de_op (o_mod) (de_ty (c_int) bn.int (da_cons (de_op (o_div) (dv 5) de_int) da_nil)) (dv 1))))))))))))) ?_
  intro cells at_ r many a b hc h0 h1 hr0 hm1 hm2
  have hpos : 0 < many := by omega
  have cdiv : CDiv r many := ⟨hpos, hm2⟩
  refine seq_to (fun env' => env' = Sl.own a [.at_ b (cells.map D.int), .int at_, .int r] :: Sl.val (.int many) :: List.replicate 4 Sl.emp) (fun de' hnx hrt => ?_) (fun env' e => ?_)
  · refine ⟨a, _, rfl, 2, .int r, rfl, rfl, trivial, _, rfl, ite_of (fun hb => ?_) fun hb => hnx _ rfl⟩
    have hr : 0 < r := of_decide_eq_true hb
    refine ⟨a, _, rfl, 2, .int r, rfl, rfl, ?_⟩
    refine ⟨.int r, rfl, .int many, rfl, ⟨hpos, hm2⟩, a, _, rfl, 2, 2, rfl, rfl, ?_⟩
    refine ⟨.int r, rfl, .int many, rfl, hpos, ?_⟩
    rw [hrt]
    exact ⟨r % many, at_, r / many, rfl, Int.emod_nonneg _ (by omega), Int.emod_lt_of_pos _ hpos, rfl, Int.ediv_nonneg hr0 (by omega), h0, by omega⟩
  subst e
  refine seq_to (fun env' => env' = [Sl.own a [.at_ b (cells.map D.int), .int at_, .int r], .val (.int many), .emp, .val (.int at_), .emp, .emp]) (fun de' hnx hrt => ?_) (fun env' e => ?_)
  · exact ⟨a, _, rfl, 1, .int at_, rfl, rfl, hnx _ rfl⟩
  subst e
  refine seq_to (fun env' => env' = [Sl.own a [.at_ b (cells.map D.int), .int (at_ + 1), .int r], .val (.int many), .emp, .val (.int at_), .emp, .emp]) (fun de' hnx hrt => ?_) (fun env' e => ?_)
  · exact ⟨.int at_, rfl, a, _, rfl, 1, 1, rfl, rfl, hnx _ rfl⟩
  subst e
  refine seq_to (fun env' => ∃ c : Int, env' = [Sl.own a [.at_ b (cells.map D.int), .int (at_ + 1), .int r], .val (.int many), .emp, .val (.int at_), .val (.int c), .emp]) (fun de' hnx hrt => ?_) (fun env' e => ?_)
  · exact ⟨.int at_, rfl, .inl ⟨by decide, by decide⟩, hnx _ ⟨_, rfl⟩⟩
  obtain ⟨c0, rfl⟩ := e
  refine seq_to (fun env' => ∃ c : Int, env' = [Sl.own a [.at_ b (cells.map D.int), .int (at_ + 1), .int r], .val (.int many), .emp, .val (.int at_), .val (.int c), .emp]) (fun de' hnx hrt => ?_) (fun env' e => ?_)
  · refine ⟨a, _, rfl, 0, _, rfl, rfl, small (by simp), ne_nil ⟨_, rfl, ite_of (fun hb => ?_) fun hb => hnx _ ⟨_, rfl⟩⟩⟩
    have hne : 0 < cells.length := by cases cells with
      | nil => cases hb
      | cons x l => simp
    have hne' : (0 : Int) < cells.length := by omega
    have e1 := atR_at (r := cells) (i := at_ % cells.length) (Int.emod_nonneg _ (by omega)) (Int.emod_lt_of_pos _ hne')
    refine ⟨a, _, rfl, 0, _, rfl, rfl, .int at_, rfl, a, _, rfl, 0, _, rfl, rfl, ?_⟩
    have hl : ((cells.map D.int).length : Int) = cells.length := by simp
    refine ⟨by rw [hl]; exact hne', .int (atR cells (at_ % cells.length)), by rw [hl]; exact e1, hnx _ ⟨_, rfl⟩⟩
  obtain ⟨c, rfl⟩ := e
  refine seq_to (fun env' => env' = [Sl.own a [.at_ b (cells.map D.int), .int (at_ + 1), .int r], .val (.int many), .emp, .val (.int at_), .val (.int c), .emp]) (fun de' hnx hrt => ?_) (fun env' e => ?_)
  · refine ⟨.int at_, rfl, a, _, rfl, 0, _, rfl, rfl, trivial, _, rfl, ite_of (fun hb => ?_) fun hb => hnx _ rfl⟩
    refine ⟨.int c, rfl, pow18, trivial, _, rfl, ite_of (fun hb2 => ?_) fun hb2 => hnx _ rfl⟩
    have hge : (10 : Int) ^ (18 : Int).toNat ≤ (if c < 0 then -c else c) := of_decide_eq_true hb2
    refine seq_to (fun env' => ∃ q : Int, 0 ≤ q ∧ env' = [Sl.own a [.at_ b (cells.map D.int), .int (at_ + 1), .int r], .val (.int many), .val (.int q), .val (.int at_), .val (.int c), .emp]) (fun de2 hnx2 hrt2 => ?_) (fun env' e => ?_)
    · refine ⟨.int c, rfl, pow18, trivial, .inl ⟨by decide, by decide⟩, .int c, rfl, trivial, hnx2 _ ⟨_, ?_, rfl⟩⟩
      by_cases hcn : c < 0
      · rw [if_pos hcn] at hge ⊢
        rw [if_pos (decide_eq_true hcn)]
        omega
      · rw [if_neg hcn] at hge ⊢
        rw [if_neg (by rw [decide_eq_false hcn]; decide)]
        omega
    obtain ⟨q, hq0, rfl⟩ := e
    refine ⟨.int q, rfl, .int many, rfl, ⟨hpos, hm2⟩, a, _, rfl, 2, 2, rfl, rfl, ?_⟩
    refine ⟨.int q, rfl, .int many, rfl, hpos, ?_⟩
    rw [hrt]
    exact ⟨q % many, at_ + 1, q / many, rfl, Int.emod_nonneg _ (by omega), Int.emod_lt_of_pos _ hpos, rfl, Int.ediv_nonneg hq0 (by omega), by omega, by omega⟩
  subst e
  refine seq_to (fun env' => ∃ x : Int, 0 ≤ x ∧ x < 2 ^ 62 ∧ env' = [Sl.own a [.at_ b (cells.map D.int), .int (at_ + 1), .int r], .val (.int many), .emp, .val (.int at_), .val (.int c), .val (.int x)]) (fun de' hnx hrt => ?_) (fun env' e => ?_)
  · refine ⟨.int c, rfl, pos_of (by decide), .int at_, rfl, .inl ⟨by decide, by decide⟩, ?_⟩
    refine ⟨draw_pow1 (Int.emod_nonneg _ (by decide)) (Int.lt_trans (Int.emod_lt_of_pos _ (by decide)) (by decide)) (by decide) (by decide) (by decide) (by decide) h0 h1, pos_of (by decide), hnx _ ⟨_, Int.emod_nonneg _ (by decide), Int.lt_trans (Int.emod_lt_of_pos _ (by decide)) (by decide), rfl⟩⟩
  obtain ⟨x, hx0, hx1, rfl⟩ := e
  refine seq_to (fun env' => ∃ y : Int, 0 ≤ y ∧ env' = [Sl.own a [.at_ b (cells.map D.int), .int (at_ + 1), .int r], .val (.int many), .emp, .val (.int at_), .val (.int c), .val (.int y)]) (fun de' hnx hrt => ?_) (fun env' e => ?_)
  · refine ⟨.int x, rfl, .int at_, rfl, .inl ⟨by decide, by decide⟩, .inl ⟨by omega, by omega⟩, .int at_, rfl, .inl ⟨by decide, by decide⟩, .int at_, rfl, draw_wide (by decide) (by decide) h0 h1, ?_⟩
    exact ⟨draw_pow2 hx0 hx1 (by decide) (by decide) (by decide) (by decide) (by decide) (by decide) (by decide) (by decide) h0 h1, pos_of (by decide), hnx _ ⟨_, Int.emod_nonneg _ (by decide), rfl⟩⟩
  obtain ⟨y, hy0, rfl⟩ := e
  refine ⟨.int y, rfl, ⟨by decide, by decide⟩, .int many, rfl, hpos, ?_⟩
  exact ⟨_, at_ + 1, r, rfl, Int.emod_nonneg _ (by omega), Int.emod_lt_of_pos _ hpos, rfl, hr0, by omega, by omega⟩
def sPick : FSpec := fun ds R _ => ∃ (d : D) (xs : List D), ds = [.urn, d] ∧ d.items? = some xs ∧ 1 ≤ xs.length ∧ xs.length ≤ 100000 ∧ ∀ (i : Nat) (x : D), xs[i]? = some x → R x
abbrev s_law_pick : Stmt := topS 83
theorem sc_law_pick : FnScope ["jug", "some"] ["jug", "some"] (defScope s_law_pick) := ⟨rfl, rfl, rfl, by decide +kernel, rfl, by decide +kernel, by decide +kernel⟩
theorem ok_law_pick (F : Fun G.K "_law_pick" "_law_pick" s_law_pick f fd) (bn : Bn mg) (F__law_tap : Fk G P w mg base 1 "_law_tap" ["jug", "many"] 1 sDraw) : FnD G P w mg base 2 f fd ["jug", "some"] 1 sPick := by
  refine FnD.more (fnd_of F sc_law_pick (fun cdv A outer s H E hr hg => have xk := xk_def (E := E) hr hg; (ds_one (ds_ret (de_ix xk.K (dv 1) (de_call F__law_tap xk (da_cons (dv 0) (da_cons (de_bi (c_len xk.K) bn.len (da_cons (dv 1) da_nil)) da_nil))) (fun _ _ => rfl))))) ?_) (by decide)
  rintro ds R ex hl ⟨d, xs, rfl, hx, h1, h2, hr⟩
  refine ⟨d, rfl, .urn, rfl, d, rfl, ?_⟩
  cases d <;> cases hx
  all_goals
    refine ⟨rfl, _, rfl, by omega, by omega, fun i b1 b2 => ?_⟩
    obtain ⟨j, rfl⟩ := Int.eq_ofNat_of_zero_le b1
    have hj : j < xs.length := by omega
    exact ⟨xs[j], atI_nat (List.getElem?_eq_getElem hj), hr j _ (List.getElem?_eq_getElem hj)⟩
def rowN (r : List Int) : D := .tupn (r.map D.int)
def inD (n m : Nat) : D := .lst ((allRows n m).map rowN)
/-- a row as it stands at the turns of the inputs' making -/
def rowX (i : Nat) (r : List Int) : D := if i = 0 then rowD r else rowN r
theorem rowX_s (i : Nat) : rowX (i + 1) = rowN := by funext r; unfold rowX; rw [if_neg (by omega)]
theorem rowX_or (i : Nat) (r : List Int) : rowX i r = .tup (r.map D.int) ∨ rowX i r = .tupn (r.map D.int) := by
  unfold rowX
  split
  · exact .inl rfl
  · exact .inr rfl
def sInputsN : FSpec := fun ds R _ => ∃ n m : Nat, ds = [.int n, .int m] ∧ n ≤ 5 ∧ 1 ≤ m ∧ m ≤ 5 ∧ R (inD n m)
theorem take_next (n i j : Nat) (h : j < (allRows n i).length) : ((allRows n i).take (j + 1)).flatMap (fun r => (List.range n).map fun (t : Nat) => rowN (r ++ [(t : Int)])) = ((allRows n i).take j).flatMap (fun r => (List.range n).map fun (t : Nat) => rowN (r ++ [(t : Int)])) ++ (List.range n).map fun (t : Nat) => rowN ((allRows n i)[j] ++ [(t : Int)]) := by
  rw [List.take_succ, List.getElem?_eq_getElem h, List.flatMap_append]
  simp
abbrev s_law_inputs : Stmt := topS 84
theorem sc_law_inputs : FnScope ["things", "places", "rows", "turn", "longer", "row", "thing"] ["things", "places"] (defScope s_law_inputs) := ⟨rfl, rfl, rfl, by decide +kernel, rfl, by decide +kernel, by decide +kernel⟩
theorem ok_law_inputs (F : Fun G.K "_law_inputs" "_law_inputs" s_law_inputs f fd) (bn : Bn mg)  : FnD G P w mg base 1 f fd ["things", "places"] 0 sInputsN := by
  refine FnD.more (fnd_of F sc_law_inputs (fun cdv A outer s H E hr hg => have xk := xk_def (E := E) hr hg; (ds_cons (ds_set (i := 2) sc_law_inputs.nd rfl (Or.inl rfl) (de_lst (da_cons (de_tup da_nil) da_nil))) (ds_cons (ds_for xk po_def (di_range1 bn.range (da_cons (dv 1) da_nil)) (dg_name (i := 3) sc_law_inputs.nd rfl (Or.inl rfl)) (ds_cons (ds_own (i := 4) sc_law_inputs.nd rfl (Or.inl rfl) (df_lst da_nil)) (ds_cons (ds_for xk po_def (di_seq xk.K (dv 2)) (dg_name (i := 5) sc_law_inputs.nd rfl (Or.inr rfl)) (ds_one (ds_ext (i := 4) rfl (de_comp (own := [("thing", 6)]) xk sc_law_inputs.nd (di_range1 bn.range (da_cons (dv 0) da_nil)) (blkOk_by (N := ["things", "places", "rows", "turn", "longer", "row", "thing"]) (sc := defScope s_law_inputs) (by decide +kernel)) (fun s H C cl fp => (dg_name (i := 6) sc_law_inputs.nd rfl (Or.inl rfl))) (fun s H C cl fp => dts_nil) (fun s H C cl fp => (de_op (o_addN (Xk.blk xk _ _ _ _ _).K) (dv 5) (de_tupN (da_cons (dv 6) da_nil)))) (by simp))))) (ds_freeze (i := 4) (ds_one (ds_set (i := 2) sc_law_inputs.nd rfl (Or.inl rfl) (dv 4))))))) (ds_one (ds_ret (dv 2)))))) ?_) (by decide)
  rintro ds R ex hl ⟨n, m, rfl, hn, m1, hm, hr⟩
  refine ⟨small (by simp), small (by simp), ?_⟩
  refine ⟨.int m, rfl, (m : Int), rfl, by omega, by omega, ?_⟩
  rw [Int.toNat_natCast]
  refine sForL_rng (fun i env => i ≤ m ∧ ∃ s3 s4 s5, env = [.val (.int n), .val (.int m), .val (.lst ((allRows n i).map (rowX i))), s3, s4, s5, .emp]) ⟨Nat.zero_le _, _, _, _, rfl⟩ (fun i env hi hI nx hn2 => ?_) (fun env hI => ?_)
  · obtain ⟨him, s3, s4, s5, rfl⟩ := hI
    have hlen : (allRows n i).length ≤ 3125 := by rw [allRows_len]; exact pow_val hn (by omega)
    refine ⟨small (by simp), fun a => ?_⟩
    dsimp only [List.set]
    refine seq_to (fun env' => ∃ a' s5', env' = [.val (.int n), .val (.int m), .val (.lst ((allRows n i).map (rowX i))), .val (.int i), .own a' ((allRows n (i + 1)).map rowN), s5', .emp]) (fun de' hnx hrt => ?_) (fun env' e => ?_)
    · refine ⟨_, rfl, ?_⟩
      refine sForL_of (rowX i) (fun j env => ∃ a' s5', env = [.val (.int n), .val (.int m), .val (.lst ((allRows n i).map (rowX i))), .val (.int i), .own a' (((allRows n i).take j).flatMap fun r => (List.range n).map fun (t : Nat) => rowN (r ++ [(t : Int)])), s5', .emp]) ⟨a, s5, rfl⟩ (fun j r env hj hI nx hn3 => ?_) (fun env hI => ?_)
      · obtain ⟨a', s5', rfl⟩ := hI
        obtain ⟨hjl, hjr⟩ := List.getElem?_eq_some_iff.mp hj
        refine ⟨a', _, rfl, _, rfl, (n : Int), rfl, by omega, by omega, ?_⟩
        rw [Int.toNat_natCast, rangeD_eq]
        refine compL_of (fun (t : Nat) => D.int t) (fun (t : Nat) => rowN (r ++ [(t : Int)])) (fun t ht K hK => ?_) ?_
        · have hrl : r.length = i := allRows_row n i r (List.mem_of_getElem? hj)
          refine ⟨_, rfl, _, rfl, small (by simp), r.map D.int, [.int t], rowX_or i r, rfl, by simp, small (by simp; omega), ?_⟩
          have e2 : rowN (r ++ [(t : Int)]) = .tupn (r.map D.int ++ [.int t]) := by unfold rowN; rw [List.map_append]; rfl
          rw [e2] at hK; exact hK
        · refine ⟨_, rfl, ?_, ?_⟩
          · have h2 : ((((allRows n i).take j).flatMap fun r => (List.range n).map fun (t : Nat) => rowN (r ++ [(t : Int)]))).length ≤ 3125 * 5 := by
              rw [flat_len (k := n)]
              · have h3 : ((allRows n i).take j).length ≤ 3125 := by rw [List.length_take]; omega
                exact Nat.mul_le_mul h3 hn
              · intro x _; simp
            refine small ?_
            simp only [List.nil_append, List.length_map, List.length_range]
            omega
          · refine hn3 _ ⟨a', .val (rowX i r), ?_⟩
            rw [take_next n i j hjl, hjr, List.nil_append]
            rfl
      · obtain ⟨a', s5', rfl⟩ := hI
        refine hnx _ ⟨a', s5', ?_⟩
        rw [List.take_length, show allRows n (i + 1) = (allRows n i).flatMap fun r => (List.range n).map fun (t : Nat) => r ++ [(t : Int)] from rfl, List.map_flatMap]
        simp only [List.map_map, Function.comp_def]
    obtain ⟨a', s5', rfl⟩ := e
    refine ⟨a', _, rfl, _, rfl, hn2 _ ⟨by omega, .val (.int i), .val (.lst ((allRows n (i + 1)).map rowN)), s5', ?_⟩⟩
    rw [rowX_s]
    rfl
  · obtain ⟨him, s3, s4, s5, rfl⟩ := hI
    have e : rowX m = rowN := by rw [show m = m - 1 + 1 by omega]; exact rowX_s _
    rw [e]
    exact ⟨_, rfl, hr⟩
end
end Pg
set_option Elab.async false
set_option linter.all false
set_option maxRecDepth 100000
set_option maxHeartbeats 4100000
namespace Pg
open PySem L2 RZ Kn
section
variable {G : Gd} {P : Program} {w : World} {mg : Str → Option Value} {base : Heap} {f : Addr} {fd : FuncData}
/-- what is no told function: plain data, a place -/
def oddT (d : D) : Prop := (kindS d).isSome = true ∨ ∃ ds, d = .ins 12 ds
structure OdC (G : Gd) : Prop where
  ne : G.cl 12 ≠ G.cl 3
  m12 : PySem.W.makesIn G.K (G.cl 12) = true
  m3 : PySem.W.makesIn G.K (G.cl 3) = true
def sDemToldE : FSpec := fun ds R ex => ∃ d, ds = [d] ∧ ((∃ (n m : Int) (vs : List Int), d = toldD n m vs ∧ R .non) ∨ (oddT d ∧ ex ⟨4, [.str "told"]⟩))
abbrev s_BadTold___init__ : Stmt := inClass (topS 13) 0
theorem sc_BadTold___init__ : FnScope ["self", "part"] ["self", "part"] (defScope s_BadTold___init__) := ⟨rfl, rfl, rfl, by decide +kernel, rfl, by decide +kernel, by decide +kernel⟩
theorem ok_BadTold___init__ {K : PySem.W.Frag} {C : Addr} (F : Fun K "__init__" "BadTold.__init__" s_BadTold___init__ f fd) (T : OexC K C) (n_part : PySem.W.findIn K (.ref C) "part" = some none) : FnOk P w K mg base (L2.CX P w) 1 f fd ["self", "part"] (spX C ["part"]) := by
  refine F.okX sc_BadTold___init__ (fun vs H Q E h => ?_) (fun cdv A outer s H vs Q E hr h => ?_)
  · obtain ⟨a, ws, rfl, hl, _⟩ := h
    rw [List.length_cons, hl]; rfl
  obtain ⟨a, ws, rfl, hl, ha, q⟩ := h
  match ws, hl with
  | [x], _ =>
  refine ⟨_, pss_one (ps_ost (by exact pe_var (i := 0) rfl (Or.inl rfl) (by decide) (by decide)) (by exact pe_var (i := 1) rfl (Or.inl rfl) (by decide) (by decide))), ?_⟩
  refine ⟨x, rfl, .ref a, rfl, a, C, rfl, T, n_part, .inl ⟨ha, fun dx hdx nda => ?_⟩⟩
  exact q _ dx (fun b o e nb => by rw [upd_ne nb, upd_ne (ne_of_none e hdx)]; exact e) hdx nda upd_same (by rw [upd_ne nda, upd_same]; rfl)
abbrev s_Misfit___init__ : Stmt := inClass (topS 15) 0
theorem sc_Misfit___init__ : FnScope ["self", "part"] ["self", "part"] (defScope s_Misfit___init__) := ⟨rfl, rfl, rfl, by decide +kernel, rfl, by decide +kernel, by decide +kernel⟩
theorem ok_Misfit___init__ {K : PySem.W.Frag} {C : Addr} (F : Fun K "__init__" "Misfit.__init__" s_Misfit___init__ f fd) (T : OexC K C) (n_part : PySem.W.findIn K (.ref C) "part" = some none) : FnOk P w K mg base (L2.CX P w) 1 f fd ["self", "part"] (spX C ["part"]) := by
  refine F.okX sc_Misfit___init__ (fun vs H Q E h => ?_) (fun cdv A outer s H vs Q E hr h => ?_)
  · obtain ⟨a, ws, rfl, hl, _⟩ := h
    rw [List.length_cons, hl]; rfl
  obtain ⟨a, ws, rfl, hl, ha, q⟩ := h
  match ws, hl with
  | [x], _ =>
  refine ⟨_, pss_one (ps_ost (by exact pe_var (i := 0) rfl (Or.inl rfl) (by decide) (by decide)) (by exact pe_var (i := 1) rfl (Or.inl rfl) (by decide) (by decide))), ?_⟩
  refine ⟨x, rfl, .ref a, rfl, a, C, rfl, T, n_part, .inl ⟨ha, fun dx hdx nda => ?_⟩⟩
  exact q _ dx (fun b o e nb => by rw [upd_ne nb, upd_ne (ne_of_none e hdx)]; exact e) hdx nda upd_same (by rw [upd_ne nda, upd_same]; rfl)
theorem ok_demand_toldE (F : Fun G.K "demand_told" "demand_told" s_demand_told f fd) (bn : Bn mg) (r_Told : mg "Told" = some (.ref (G.cl 3))) (X_BadTold : Fx G P w mg base 1 "BadTold" 4 1) (od : OdC G) : FnD G P w mg base 3 f fd ["told"] 0 sDemToldE := by
  refine FnD.more (fnd_of F sc_demand_told (fun cdv A outer s H E hr hg => have xk := xk_def (E := E) hr hg; (ds_one (ds_if (dt_cmp (o_isnK xk.K) (de_ty (c_typeK xk.K) bn.type (da_cons (dv 0) da_nil)) (de_ref r_Told) (by rfl)) (ds_one (ds_raise X_BadTold xk (da_cons de_str da_nil))) ds_nil))) ?_) (by decide)
  rintro ds R ex hl ⟨d, rfl, h⟩
  rcases h with ⟨n, m, vs, rfl, hr⟩ | ⟨ho, hx⟩
  · exact sif_of (x := false) (fun K hK => ⟨_, rfl, .inl ⟨3, _, rfl, .inl ⟨_, _, rfl, rfl, .inl rfl, _, rfl, by rw [decide_eq_true rfl]; exact hK⟩⟩⟩) (fun hb => by cases hb) (fun _ => hr)
  · refine sif_of (x := true) (fun K hK => ?_) (fun _ => ⟨rfl, hx⟩) (fun hb => by cases hb)
    rcases ho with ho | ⟨fs, rfl⟩
    · obtain ⟨s, hs⟩ := Option.isSome_iff_exists.mp ho
      exact ⟨_, rfl, .inr ⟨s, hs, .inr ⟨_, _, rfl, rfl, _, rfl, hK⟩⟩⟩
    · refine ⟨_, rfl, .inl ⟨12, _, rfl, .inl ⟨_, _, rfl, rfl, .inr ⟨od.m12, od.m3⟩, _, rfl, ?_⟩⟩⟩
      rw [decide_eq_false od.ne]
      exact hK
def sKnownOfE : FSpec := fun ds R ex => ∃ d, ds = [d, .str "blind"] ∧ oddT d ∧ ex ⟨4, [.str "told"]⟩
/-- tells 0 first, and the other thing at the other end -/
def turnB (vs : List Int) : Bool := atR vs 0 == 0 && vs == vs.reverse.map fun v => 1 - v
def sTurned : FSpec := fun ds R ex => ∃ d, ds = [d] ∧ ((∃ (n m : Nat) (vs : List Int), d = toldD n m vs ∧ ToldIn n m vs ∧ (n = 2 → R (.bl (turnB vs))) ∧ (n ≠ 2 → ex ⟨5, [.str "things"]⟩)) ∨ (oddT d ∧ ex ⟨4, [.str "told"]⟩))
theorem ok_known_ofE (F : Fun G.K "known_of" "known_of" s_known_of f fd) (bn : Bn mg) (fo : Gk G) (F_demand_told : Fk G P w mg base 3 "demand_told" ["told"] 0 sDemToldE) (F_demand_known_manner : Fk G P w mg base 1 "demand_known_manner" ["manner"] 0 sDKM) (F_demand_two : Fk G P w mg base 1 "demand_two" ["manner", "worlds"] 0 sDemTwoW) (F_all_known : Fk G P w mg base 8 "all_known" ["places", "manner"] 0 sAllKnown) (M_over : Fm G P w mg base 7 12 "over" ["self", "things"] 0 sOver) (N_Told : Fqn G P w mg base 1 3 0 sEqTold) : FnD G P w mg base 9 f fd ["told", "manner"] 0 sKnownOfE := by
  refine FnD.more (fnd_of F sc_known_of (fun cdv A outer s H E hr hg => have xk := xk_def (E := E) hr hg; (ds_cons (ds_expr (de_call F_demand_told xk (da_cons (dv 0) da_nil))) (ds_cons (ds_expr (de_call F_demand_known_manner xk (da_cons (dv 1) da_nil))) (ds_cons (ds_expr (de_call F_demand_two xk (da_cons (dv 1) (da_cons (de_tup (da_cons (de_fld xk.K fo.things (dv 0)) da_nil)) da_nil)))) (ds_cons (ds_for xk po_def (di_seq xk.K (de_call F_all_known xk (da_cons (de_fld xk.K fo.places (dv 0)) (da_cons (dv 1) da_nil)))) (dg_name (i := 2) sc_known_of.nd rfl (Or.inl rfl)) (ds_one (ds_if (dt_eqO N_Told xk (de_meth M_over xk (dv 2) (da_cons (de_fld xk.K fo.things (dv 0)) da_nil)) (dv 0) (by rfl)) (ds_one (ds_ret (dv 2))) ds_nil))) (ds_one (ds_ret de_non))))))) ?_) (by decide)
  rintro ds R ex hl ⟨d, rfl, ho, hx⟩
  exact ⟨_, rfl, rfl, d, rfl, .inr ⟨ho, hx⟩⟩
abbrev s_is_turned : Stmt := topS 72
theorem sc_is_turned : FnScope ["told", "turned", "value"] ["told"] (defScope s_is_turned) := ⟨rfl, rfl, rfl, by decide +kernel, rfl, by decide +kernel, by decide +kernel⟩
theorem ok_is_turned (F : Fun G.K "is_turned" "is_turned" s_is_turned f fd) (bn : Bn mg) (fo : Gk G) (F_demand_told : Fk G P w mg base 3 "demand_told" ["told"] 0 sDemToldE) (X_Misfit : Fx G P w mg base 1 "Misfit" 5 1) : FnD G P w mg base 4 f fd ["told"] 0 sTurned := by
  refine FnD.more (fnd_of F sc_is_turned (fun cdv A outer s H E hr hg => have xk := xk_def (E := E) hr hg; (ds_cons (ds_expr (de_call F_demand_told xk (da_cons (dv 0) da_nil))) (ds_cons (ds_if (dt_cmp (o_ne xk.K xk.u64) (de_fld xk.K fo.things (dv 0)) de_int (by rfl)) (ds_one (ds_raise X_Misfit xk (da_cons de_str da_nil))) ds_nil) (ds_cons (ds_setComp (i := 1) (own := [("value", 2)]) xk sc_is_turned.nd rfl rfl (sw_true rfl rfl rfl (by decide +kernel)) (di_seq xk.K (de_revT xk.K (de_fld xk.K fo.tells (dv 0)))) (blkOk_by (N := ["told", "turned", "value"]) (sc := defScope s_is_turned) (by decide +kernel)) (fun s H C cl fp => (dg_name (i := 2) sc_is_turned.nd rfl (Or.inl rfl))) (fun s H C cl fp => dts_nil) (fun s H C cl fp => (de_op (o_sub) de_int (dv 2))) (by simp)) (ds_one (ds_ret (de_and (de_cmp (o_eq xk.K xk.u64) (de_ix xk.K (de_fld xk.K fo.tells (dv 0)) de_int (fun _ _ => rfl)) de_int (by rfl)) (de_one (de_cmp (o_eq xk.K xk.u64) (de_ty (c_list xk.K) bn.list (da_cons (de_fld xk.K fo.tells (dv 0)) da_nil)) (dv 1) (by rfl)))))))))) ?_) (by decide)
  rintro ds R ex hl ⟨d, rfl, h⟩
  rcases h with ⟨n, m, vs, rfl, T, h1, h2⟩ | ⟨ho, hx⟩
  · obtain ⟨⟨m1, m2, m3⟩, i1, i2, i3⟩ := fld_told fo (n := n) (m := m) (vs := vs)
    have hpos : 0 < vs.length := by rw [T.len]; exact Nat.pow_pos (by have := T.n1; omega)
    have hlen : vs.length ≤ 256 := by rw [T.len]; exact T.k
    refine ⟨_, rfl, rfl, _, rfl, .inl ⟨n, m, vs, rfl, ?_⟩⟩
    dsimp only
    refine sif_of (x := !((n : Int) == 2)) (fun K hK => ⟨_, rfl, 3, _, _, rfl, m1, i1, neC (ne_int ⟨_, rfl, hK⟩)⟩) (fun hb => ?_) (fun hb => ?_)
    · refine ⟨rfl, h2 fun z => ?_⟩
      rw [z] at hb
      simp at hb
    · have e2 : n = 2 := by
        have : ((n : Int) == 2) = true := by simpa using hb
        have := eq_of_beq this
        omega
      refine nil_seq ?_
      dsimp only
      refine seq_to (fun env' => env' = [.val (toldD n m vs), .val (.lst ((vs.reverse.map fun v => 1 - v).map D.int)), .emp]) (fun de' hnx hrt => ?_) (fun env' e => ?_)
      · refine ⟨_, rfl, 3, _, _, rfl, m3, i3, ?_⟩
        refine ⟨_, rfl, ?_⟩
        show compL _ _ _ _ _ (vs.map D.int).reverse []
        rw [← List.map_reverse]
        refine compL_of D.int (fun v => .int (1 - v)) (fun v hv K hK => ⟨_, rfl, trivial, hK⟩) ?_
        rw [List.nil_append]
        refine hnx _ ?_
        rw [List.map_map]
        rfl
      subst e
      have hat := (atR_in (r := vs) (i := 0) (n := n) (by omega) (by omega) T.val).1
      refine d_and (x := atR vs 0 == 0) (y := vs == vs.reverse.map fun v => 1 - v) (fun K hK => ?_) (fun _ K hK => ?_) (h1 e2)
      · exact ⟨_, rfl, 3, _, _, rfl, m3, i3, _, hat, eqC (eq_int hK)⟩
      · exact ⟨_, rfl, 3, _, _, rfl, m3, i3, nilLt ⟨_, rfl, eq_lst hK⟩⟩
  · exact ⟨_, rfl, rfl, d, rfl, .inr ⟨ho, hx⟩⟩
end
end Pg
set_option Elab.async false
set_option linter.all false
set_option maxRecDepth 100000
set_option maxHeartbeats 4100000
namespace Pg
open PySem L2 RZ Kn
section
variable {G : Gd} {P : Program} {w : World} {mg : Str → Option Value} {base : Heap} {f : Addr} {fd : FuncData}
theorem take_nextD (n i j : Nat) (h : j < (allRows n i).length) : ((allRows n i).take (j + 1)).flatMap (fun r => (List.range n).map fun (t : Nat) => rowD (r ++ [(t : Int)])) = ((allRows n i).take j).flatMap (fun r => (List.range n).map fun (t : Nat) => rowD (r ++ [(t : Int)])) ++ (List.range n).map fun (t : Nat) => rowD ((allRows n i)[j] ++ [(t : Int)]) := by
  rw [List.take_succ, List.getElem?_eq_getElem h, List.flatMap_append]
  simp
def sInputsD : FSpec := fun ds R _ => ∃ n m : Nat, ds = [.int n, .int m] ∧ n ≤ 5 ∧ 1 ≤ m ∧ m ≤ 5 ∧ R (.lst ((allRows n m).map rowD))
theorem ok_law_inputsD (F : Fun G.K "_law_inputs" "_law_inputs" s_law_inputs f fd) (bn : Bn mg)  : FnD G P w mg base 1 f fd ["things", "places"] 0 sInputsD := by
  refine FnD.more (fnd_of F sc_law_inputs (fun cdv A outer s H E hr hg => have xk := xk_def (E := E) hr hg; (ds_cons (ds_set (i := 2) sc_law_inputs.nd rfl (Or.inl rfl) (de_lst (da_cons (de_tup da_nil) da_nil))) (ds_cons (ds_for xk po_def (di_range1 bn.range (da_cons (dv 1) da_nil)) (dg_name (i := 3) sc_law_inputs.nd rfl (Or.inl rfl)) (ds_cons (ds_own (i := 4) sc_law_inputs.nd rfl (Or.inl rfl) (df_lst da_nil)) (ds_cons (ds_for xk po_def (di_seq xk.K (dv 2)) (dg_name (i := 5) sc_law_inputs.nd rfl (Or.inr rfl)) (ds_one (ds_ext (i := 4) rfl (de_comp (own := [("thing", 6)]) xk sc_law_inputs.nd (di_range1 bn.range (da_cons (dv 0) da_nil)) (blkOk_by (N := ["things", "places", "rows", "turn", "longer", "row", "thing"]) (sc := defScope s_law_inputs) (by decide +kernel)) (fun s H C cl fp => (dg_name (i := 6) sc_law_inputs.nd rfl (Or.inl rfl))) (fun s H C cl fp => dts_nil) (fun s H C cl fp => (de_op (o_add (Xk.blk xk _ _ _ _ _).K) (dv 5) (de_tup (da_cons (dv 6) da_nil)))) (by simp))))) (ds_freeze (i := 4) (ds_one (ds_set (i := 2) sc_law_inputs.nd rfl (Or.inl rfl) (dv 4))))))) (ds_one (ds_ret (dv 2)))))) ?_) (by decide)
  rintro ds R ex hl ⟨n, m, rfl, hn, m1, hm, hr⟩
  refine ⟨small (by simp), small (by simp), ?_⟩
  refine ⟨.int m, rfl, (m : Int), rfl, by omega, by omega, ?_⟩
  rw [Int.toNat_natCast]
  refine sForL_rng (fun i env => i ≤ m ∧ ∃ s3 s4 s5, env = [.val (.int n), .val (.int m), .val (.lst ((allRows n i).map rowD)), s3, s4, s5, .emp]) ⟨Nat.zero_le _, _, _, _, rfl⟩ (fun i env hi hI nx hn2 => ?_) (fun env hI => ?_)
  · obtain ⟨him, s3, s4, s5, rfl⟩ := hI
    have hlen : (allRows n i).length ≤ 3125 := by rw [allRows_len]; exact pow_val hn (by omega)
    refine ⟨small (by simp), fun a => ?_⟩
    dsimp only [List.set]
    refine seq_to (fun env' => ∃ a' s5', env' = [.val (.int n), .val (.int m), .val (.lst ((allRows n i).map rowD)), .val (.int i), .own a' ((allRows n (i + 1)).map rowD), s5', .emp]) (fun de' hnx hrt => ?_) (fun env' e => ?_)
    · refine ⟨_, rfl, ?_⟩
      refine sForL_of rowD (fun j env => ∃ a' s5', env = [.val (.int n), .val (.int m), .val (.lst ((allRows n i).map rowD)), .val (.int i), .own a' (((allRows n i).take j).flatMap fun r => (List.range n).map fun (t : Nat) => rowD (r ++ [(t : Int)])), s5', .emp]) ⟨a, s5, rfl⟩ (fun j r env hj hI nx hn3 => ?_) (fun env hI => ?_)
      · obtain ⟨a', s5', rfl⟩ := hI
        obtain ⟨hjl, hjr⟩ := List.getElem?_eq_some_iff.mp hj
        refine ⟨a', _, rfl, _, rfl, (n : Int), rfl, by omega, by omega, ?_⟩
        rw [Int.toNat_natCast, rangeD_eq]
        refine compL_of (fun (t : Nat) => D.int t) (fun (t : Nat) => rowD (r ++ [(t : Int)])) (fun t ht K hK => ?_) ?_
        · have hrl : r.length = i := allRows_row n i r (List.mem_of_getElem? hj)
          refine ⟨_, rfl, _, rfl, small (by simp), small (by simp; omega), ?_⟩
          have e2 : rowD (r ++ [(t : Int)]) = .tup (r.map D.int ++ [.int t]) := by unfold rowD; rw [List.map_append]; rfl
          rw [e2] at hK; exact hK
        · refine ⟨_, rfl, ?_, ?_⟩
          · have h2 : ((((allRows n i).take j).flatMap fun r => (List.range n).map fun (t : Nat) => rowD (r ++ [(t : Int)]))).length ≤ 3125 * 5 := by
              rw [flat_len (k := n)]
              · have h3 : ((allRows n i).take j).length ≤ 3125 := by rw [List.length_take]; omega
                exact Nat.mul_le_mul h3 hn
              · intro x _; simp
            refine small ?_
            simp only [List.nil_append, List.length_map, List.length_range]
            omega
          · refine hn3 _ ⟨a', .val (rowD r), ?_⟩
            rw [take_nextD n i j hjl, hjr, List.nil_append]
            rfl
      · obtain ⟨a', s5', rfl⟩ := hI
        refine hnx _ ⟨a', s5', ?_⟩
        rw [List.take_length, show allRows n (i + 1) = (allRows n i).flatMap fun r => (List.range n).map fun (t : Nat) => r ++ [(t : Int)] from rfl, List.map_flatMap]
        simp only [List.map_map, Function.comp_def]
    obtain ⟨a', s5', rfl⟩ := e
    refine ⟨a', _, rfl, _, rfl, hn2 _ ⟨by omega, .val (.int i), .val (.lst ((allRows n (i + 1)).map rowD)), s5', ?_⟩⟩
    rfl
  · obtain ⟨him, s3, s4, s5, rfl⟩ := hI
    exact ⟨_, rfl, hr⟩
def sEqPl : FSpec := fun ds R _ => ∃ (m m2 p p2 : Int), ds = [placeD m p, placeD m2 p2] ∧ R (.bl (m == m2 && p == p2))
abbrev s_Place___eq__ : Stmt := inClass (topS 65) 1
theorem sc_Place___eq__ : FnScope ["self", "other"] ["self", "other"] (defScope s_Place___eq__) := ⟨rfl, rfl, rfl, by decide +kernel, rfl, by decide +kernel, by decide +kernel⟩
theorem ok_Place___eq__ (F : Fun G.K "__eq__" "Place.__eq__" s_Place___eq__ f fd) (bn : Bn mg) (fo : Gk G) (r_Place : mg "Place" = some (.ref (G.cl 12))) : FnD G P w mg base 1 f fd ["self", "other"] 0 sEqPl := by
  refine FnD.more (fnd_of F sc_Place___eq__ (fun cdv A outer s H E hr hg => have xk := xk_def (E := E) hr hg; (ds_one (ds_ret (de_and (de_cmp (o_isC) (de_ty (c_type) bn.type (da_cons (dv 1) da_nil)) (de_ref r_Place) (by rfl)) (de_and (de_cmp (o_eq xk.K xk.u64) (de_fld xk.K fo.places (dv 0)) (de_fld xk.K fo.places (dv 1)) (by rfl)) (de_one (de_cmp (o_eq xk.K xk.u64) (de_fld xk.K fo.place (dv 0)) (de_fld xk.K fo.place (dv 1)) (by rfl)))))))) ?_) (by decide)
  rintro ds R ex hl ⟨m, m2, p, p2, rfl, hr⟩
  obtain ⟨⟨m1, m2'⟩, i1, i2⟩ := fld_place fo (m := m) (p := p)
  obtain ⟨_, j1, j2⟩ := fld_place fo (m := m2) (p := p2)
  refine ⟨_, rfl, 12, _, rfl, G.cl 12, rfl, rfl, true, rfl, ?_⟩
  refine ⟨_, rfl, 12, _, _, rfl, m1, i1, _, rfl, 12, _, _, rfl, m1, j1, ?_⟩
  refine eq_int ?_
  refine ⟨m == m2, rfl, ite_of (fun hb => ?_) fun hb => ?_⟩
  · rw [hb] at hr
    exact ⟨_, rfl, 12, _, _, rfl, m2', i2, _, rfl, 12, _, _, rfl, m2', j2, eq_int hr⟩
  · rw [hb] at hr
    exact hr
theorem ix_row {d e : D} {l : List Int} {i x : Int} {Q : D → Prop} (h : d = .lst (l.map D.int) ∨ d = .tup (l.map D.int)) (he : e = .int i) (hx : atI (l.map D.int) i = some (.int x)) (hq : Q (.int x)) : gIx d e Q := by
  subst he
  rcases h with rfl | rfl
  · exact ⟨_, hx, hq⟩
  · exact ⟨_, hx, hq⟩
def tabD (n m : Nat) (vs : List Int) : D := .dcT (allRows n m) (vs.map D.int)
theorem look_zip : ∀ {ks : List (List Int)} {vs : List Int} {k : Nat} {r : List Int} {x : Int}, ks[k]? = some r → vs[k]? = some x → (∀ j, j < k → ks[j]? ≠ some r) → lookT ks (vs.map D.int) r = some (.int x)
  | [], _, _, _, _, h, _, _ =>
        by simp at h
  | _ :: _, [], _, _, _, _, h, _ =>
        by simp at h
  | k0 :: ks, v0 :: vs, 0, r, x, h1, h2, _ => by
    simp only [List.getElem?_cons_zero, Option.some.injEq] at h1 h2
    subst h1; subst h2
    unfold lookT
    rw [List.map_cons, List.zip_cons_cons, List.find?_cons, decide_eq_true rfl]
    rfl
  | k0 :: ks, v0 :: vs, k + 1, r, x, h1, h2, h3 => by
    have hne : k0 ≠ r := fun e => h3 0 (by omega) (by rw [e]; rfl)
    unfold lookT
    rw [List.map_cons, List.zip_cons_cons, List.find?_cons, decide_eq_false hne]
    exact look_zip (k := k) (by simpa using h1) (by simpa using h2) fun j hj e => h3 (j + 1) (by omega) (by simpa using e)
theorem rows_nd (n m : Nat) : (allRows n m).Nodup := by
  refine List.nodup_iff_pairwise_ne.mpr (List.pairwise_iff_getElem.mpr fun i j hi hj hij e => ?_)
  have h1 := idx_of_row (List.getElem?_eq_getElem hi)
  have h2 := idx_of_row (List.getElem?_eq_getElem hj)
  rw [e] at h1
  omega
theorem tab_look {n m : Nat} {vs r : List Int} (hl : vs.length = n ^ m) (hr : r.length = m) (hv : ∀ i ∈ r, 0 ≤ i ∧ i < (n : Int)) : lookT (allRows n m) (vs.map D.int) r = some (.int (fV n vs r)) := by
  obtain ⟨k, h1, h2, h3⟩ := idx_toNat hr hv
  have hk : k < vs.length := by omega
  refine look_zip h3 (x := fV n vs r) ?_ fun j hj e => ?_
  · unfold fV atR
    rw [h1, Int.toNat_natCast, List.getElem?_eq_getElem hk, List.getD_eq_getElem?_getD, List.getElem?_eq_getElem hk]; rfl
  · have e1 := idx_of_row e
    omega
theorem get_tab {n m : Nat} {vs r : List Int} {d : D} {Q : D → Prop} (hd : rowK d r) (hl : vs.length = n ^ m) (hr : r.length = m) (hv : ∀ i ∈ r, 0 ≤ i ∧ i < (n : Int)) (hq : Q (.int (fV n vs r))) : gGetT (tabD n m vs) d Q :=
  ⟨_, _, r, _, rfl, hd, tab_look hl hr hv, hq⟩
theorem find_take {α : Type} {p : α → Bool} {l : List α} {k : Nat} {x : α} (h1 : ∀ y ∈ l.take k, p y = false) (hx : l[k]? = some x) (hp : p x = true) : l.find? p = some x := by
  obtain ⟨hk, he⟩ := List.getElem?_eq_some_iff.mp hx
  have e : l = l.take k ++ l[k] :: l.drop (k + 1) := by rw [← List.drop_eq_getElem_cons hk, List.take_append_drop]
  rw [e, List.find?_append, List.find?_eq_none.mpr fun y hy => by rw [h1 y hy]; simp, List.find?_cons, he, hp]
  rfl
def lstD (r : List Int) : D := .lst (r.map D.int)
theorem putKs_new {ks : List (List Int)} {r : List Int} (h : r ∉ ks) : putKs ks r = ks ++ [r] := by unfold putKs; rw [if_neg h]
theorem putDs_new {ks : List (List Int)} {ds : List D} {r : List Int} {d : D} (h : r ∉ ks) : putDs ks ds r d = ds ++ [d] := by unfold putDs; rw [if_neg h]
theorem enum_rows {n m i : Nat} {p : List Int × Nat} (h : (allRows n m).zipIdx[i]? = some p) : (allRows n m)[i]? = some p.1 ∧ p.2 = i := by
  rw [List.getElem?_zipIdx] at h
  cases q : (allRows n m)[i]? with
  | none => rw [q] at h; cases h
  | some r =>
    rw [q] at h
    cases h
    exact ⟨rfl, by simp⟩
def goesB (n m : Nat) (vs : List Int) (ms : List (List Int)) : Bool := ms.all fun l => (partO n m vs l).isNone
def four : List (List Int) := [[0, 0], [0, 1], [1, 0], [1, 1]]
theorem four_row : ∀ l ∈ four, RowIn 2 2 l := by unfold RowIn; decide
def sGoes : FSpec := fun ds R _ => ∃ (m : Nat) (vs : List Int), ds = [.int m, .lst (vs.map D.int)] ∧ ToldIn 2 m vs ∧ R (.bl (goesB 2 m vs four))
abbrev s_law_goes : Stmt := topS 85
theorem sc_law_goes : FnScope ["places", "values", "rows", "worth", "at", "row", "lead", "thing"] ["places", "values"] (defScope s_law_goes) := ⟨rfl, rfl, rfl, by decide +kernel, rfl, by decide +kernel, by decide +kernel⟩
theorem ok_law_goes (F : Fun G.K "_law_goes" "_law_goes" s_law_goes f fd) (bn : Bn mg) (F__law_inputs : Fk G P w mg base 1 "_law_inputs" ["things", "places"] 0 sInputsN) : FnD G P w mg base 2 f fd ["places", "values"] 0 sGoes := by
  refine FnD.more (fnd_of F sc_law_goes (fun cdv A outer s H E hr hg => have xk := xk_def (E := E) hr hg; (ds_cons (ds_parVD (i := 2) (j := 3) xk.calm sc_law_goes.nd rfl rfl (by decide) rfl rfl (de_call F__law_inputs xk (da_cons de_int (da_cons (dv 0) da_nil))) (hw := (by with_unfolding_all rfl))) (ds_cons (ds_for xk po_def (di_enum xk.K bn.enumerate (dv 2)) (dg_two (i := 4) (j := 5) xk.K xk.calm sc_law_goes.nd rfl (Or.inl rfl) rfl (Or.inl rfl) (pg_name sc_law_goes.nd rfl (Or.inl rfl)) (pg_name sc_law_goes.nd rfl (Or.inl rfl))) (ds_one (ds_dput (i := 3) xk.K (xk.u (n := 1)) rfl (de_ix xk.K (dv 1) (dv 4) (fun _ _ => rfl)) (dvn 5)))) (ds_freezeD (i := 3) (ds_cons (ds_for xk po_def (di_seq xk.K (de_tup (da_cons (de_lst (da_cons de_int (da_cons de_int da_nil))) (da_cons (de_lst (da_cons de_int (da_cons de_int da_nil))) (da_cons (de_lst (da_cons de_int (da_cons de_int da_nil))) (da_cons (de_lst (da_cons de_int (da_cons de_int da_nil))) da_nil)))))) (dg_name (i := 6) sc_law_goes.nd rfl (Or.inr rfl)) (ds_one (ds_for xk po_def (di_seq xk.K (dv 2)) (dg_name (i := 5) sc_law_goes.nd rfl (Or.inl rfl)) (ds_one (ds_if (dt_cmp (o_ne xk.K xk.u64) (de_tget xk.K (xk.u (n := 1)) (dv 3) (de_ty (c_tuple xk.K) bn.tuple (da_cons (de_comp (own := [("thing", 7)]) xk sc_law_goes.nd (di_seq xk.K (dvn 5)) (blkOk_by (N := ["places", "values", "rows", "worth", "at", "row", "lead", "thing"]) (sc := defScope s_law_goes) (by decide +kernel)) (fun s H C cl fp => (dg_name (i := 7) sc_law_goes.nd rfl (Or.inl rfl))) (fun s H C cl fp => dts_nil) (fun s H C cl fp => (de_ix (Xk.blk xk _ _ _ _ _).K (dv 6) (dv 7) (fun _ _ => rfl))) (by simp)) da_nil))) (de_ix xk.K (dv 6) (de_tget xk.K (xk.u (n := 1)) (dv 3) (dvn 5)) (fun _ _ => rfl)) (by rfl)) (ds_one (ds_ret de_bl)) ds_nil))))) (ds_one (ds_ret de_bl))))))) ?_) (by decide)
  rintro ds R ex hl ⟨m, vs, rfl, T, hr⟩
  obtain ⟨n1, n5, p1, p4, hk, len, hv⟩ := id T
  have hms : ∀ l ∈ four, RowIn 2 2 l := four_row
  have hcount : (allRows 2 m).length = 2 ^ m := allRows_len 2 m
  refine seq_to (fun env' => ∃ a, env' = [.val (.int m), .val (.lst (vs.map D.int)), .val (inD 2 m), .dic a [] [], .emp, .emp, .emp, .emp]) (fun de' hnx hrt => ?_) (fun env' e => ?_)
  · exact ⟨_, rfl, rfl, 2, m, rfl, n5, p1, by omega, fun a => hnx _ ⟨a, rfl⟩⟩
  obtain ⟨a0, rfl⟩ := e
  refine seq_to (fun env' => ∃ a s6 s7, env' = [.val (.int m), .val (.lst (vs.map D.int)), .val (inD 2 m), .dic a (allRows 2 m) (vs.map D.int), s6, s7, .emp, .emp]) (fun de' hnx hrt => ?_) (fun env' e => ?_)
  · refine ⟨_, rfl, _, rfl, ?_⟩
    rw [enum_map]
    refine sForL_of (fun p : List Int × Nat => .tup [.int (p.2 : Nat), rowN p.1]) (fun i env => ∃ a s6 s7, env = [.val (.int m), .val (.lst (vs.map D.int)), .val (inD 2 m), .dic a ((allRows 2 m).take i) ((vs.take i).map D.int), s6, s7, .emp, .emp]) ⟨a0, _, _, rfl⟩ (fun i p env hi hI nx hn2 => ?_) (fun env hI => ?_)
    · obtain ⟨a, s6, s7, rfl⟩ := hI
      obtain ⟨h1, h2⟩ := enum_rows hi
      obtain ⟨r, j⟩ := p
      dsimp only at h1 h2
      subst h2
      obtain ⟨hil, hir⟩ := List.getElem?_eq_some_iff.mp h1
      have hvj : j < vs.length := by omega
      have hnr : r ∉ (allRows 2 m).take j := fun z => by
        obtain ⟨i, hi2, e⟩ := List.mem_iff_getElem.mp z
        rw [List.length_take] at hi2
        rw [List.getElem_take] at e
        have e3 := (List.getElem_inj (h₀ := by omega) (h₁ := hil) (rows_nd 2 m)).mp (e.trans hir.symm)
        omega
      refine ⟨⟨_, _, _, rfl⟩, _, rfl, _, rfl, .int vs[j], atI_nat (by rw [List.getElem?_map, List.getElem?_eq_getElem hvj]; rfl), ?_⟩
      refine ⟨_, rfl, a, _, _, r, rfl, rowK_t, small (by rw [List.length_take]; omega), hn2 _ ⟨a, .val (.int j), .val (rowN r), ?_⟩⟩
      rw [putKs_new hnr, putDs_new hnr, List.take_succ, h1, List.take_succ (l := vs), List.getElem?_eq_getElem hvj, List.map_append]
      rfl
    · obtain ⟨a, s6, s7, rfl⟩ := hI
      refine hnx _ ⟨a, s6, s7, ?_⟩
      rw [List.length_zipIdx, List.take_length, List.take_of_length_le (by omega)]
  obtain ⟨a, s6, s7, rfl⟩ := e
  refine ⟨a, _, _, rfl, ?_⟩
  dsimp only [List.set]
  refine seq_to (fun env' => goesB 2 m vs four = true) (fun de' hnx hrt => ?_) (fun env' e => ?_)
  · refine ⟨small (by simp), small (by simp), small (by simp), small (by simp), small (by simp), ?_⟩
    refine sForL_of (xs := four) lstD (fun i env => (∀ j l, j < i → four[j]? = some l → partO 2 m vs l = none) ∧ ∃ s6 s7 s8, env = [.val (.int m), .val (.lst (vs.map D.int)), .val (inD 2 m), .val (tabD 2 m vs), s6, s7, s8, .emp]) ⟨fun j l hj => absurd hj (Nat.not_lt_zero j), _, _, _, rfl⟩ (fun i l env hi hI nx hn2 => ?_) (fun env hI => ?_)
    · obtain ⟨hpre, s6, s7, s8, rfl⟩ := hI
      have L := hms l (List.mem_of_getElem? hi)
      refine ⟨_, rfl, ?_⟩
      refine sForL_of rowN (fun q env => (∀ r ∈ (allRows 2 m).take q, partsB 2 vs l r = false) ∧ ∃ s7, env = [.val (.int m), .val (.lst (vs.map D.int)), .val (inD 2 m), .val (tabD 2 m vs), s6, s7, .val (lstD l), .emp]) ⟨fun r hr => (by simp at hr), _, rfl⟩ (fun q r env hq hI nx3 hn3 => ?_) (fun env hI => ?_)
      · obtain ⟨hIq, s7, rfl⟩ := hI
        have hmem := List.mem_of_getElem? hq
        have hrl := allRows_row 2 m r hmem
        have hrv := allRows_val 2 m r hmem
        obtain ⟨g1, g2⟩ := led_row (n := 2) L hrl hrv
        refine sif_of (x := partsB 2 vs l r) (fun K hK => ?_) (fun hb => ?_) (fun hb => ?_)
        · refine ⟨_, rfl, _, rfl, ?_⟩
          refine compL_of D.int (fun i => D.int (atR l i)) (fun i hi2 K2 hK2 => ?_) ?_
          · obtain ⟨b0, b1⟩ := hrv i hi2
            have hat := (atR_in (r := l) (i := i) (n := 2) b0 (by rw [L.1]; exact b1) L.2).1
            exact ⟨_, rfl, _, rfl, ix_row (.inl rfl) rfl hat hK2⟩
          · rw [List.nil_append]
            have e : (.tup (r.map fun i => D.int (atR l i)) : D) = rowD (ledR l r) := by unfold rowD ledR; rw [List.map_map]; rfl
            refine nilT ?_
            rw [e]
            refine get_tab rowK_t len g1 g2 ?_
            have fv := fV_val T hrl hrv
            have hat := (atR_in (r := l) (i := fV 2 vs r) (n := 2) fv.1 (by rw [L.1]; exact fv.2) L.2).1
            refine ⟨_, rfl, _, rfl, _, rfl, get_tab (.inl rfl) len hrl hrv ?_⟩
            refine ix_row (.inl rfl) rfl hat ?_
            exact ne_int ⟨_, rfl, hK⟩
        · have e : goesB 2 m vs four = false := by
            refine Bool.eq_false_iff.mpr fun z => ?_
            have y := List.all_eq_true.mp z l (List.mem_of_getElem? hi)
            have hp : partO 2 m vs l = some r := find_take hIq hq hb
            rw [hp] at y
            cases y
          show de'.rt (.bl false) _
          rw [hrt]
          rw [e] at hr
          exact hr
        · refine hn3 _ ⟨fun y hy => ?_, _, rfl⟩
          rw [List.take_succ, hq] at hy; rcases List.mem_append.mp hy with hy | hy
          · exact hIq y hy
          · have hy2 : y = r := by simpa using hy
            rw [hy2]; exact hb
      · obtain ⟨hIq, s7, rfl⟩ := hI
        rw [List.take_length] at hIq
        refine hn2 _ ⟨fun j l' hj hl' => ?_, _, _, _, rfl⟩
        by_cases e : j = i
        · rw [e, hi] at hl'
          cases hl'
          exact List.find?_eq_none.mpr fun r hr => by rw [hIq r hr]; simp
        · exact hpre j l' (by omega) hl'
    · refine hnx _ ?_
      refine List.all_eq_true.mpr fun l hl2 => ?_
      obtain ⟨j, hj⟩ := List.getElem?_of_mem hl2
      rw [hI.1 j l (List.getElem?_eq_some_iff.mp hj).1 hj]
      rfl
  rw [e] at hr
  exact hr
/-- the values turned: the first one 0, the ends unlike, and so on -/
def turnL (vs : List Int) : Bool := vs.headD 0 == 0 && (((vs.zip vs.reverse).filter fun p => p.1 == p.2) == [])
def sIsTurned : FSpec := fun ds R _ => ∃ vs : List Int, ds = [.lst (vs.map D.int)] ∧ 1 ≤ vs.length ∧ R (.bl (turnL vs))
theorem head_atI {vs : List Int} (h : 1 ≤ vs.length) : atI (vs.map D.int) 0 = some (.int (vs.headD 0)) := by
  cases vs with
  | nil => cases h
  | cons x l => exact atI_cons
abbrev s_law_is_turned : Stmt := topS 86
theorem sc_law_is_turned : FnScope ["values", "one", "other"] ["values"] (defScope s_law_is_turned) := ⟨rfl, rfl, rfl, by decide +kernel, rfl, by decide +kernel, by decide +kernel⟩
theorem ok_law_is_turned (F : Fun G.K "_law_is_turned" "_law_is_turned" s_law_is_turned f fd) (bn : Bn mg)  : FnD G P w mg base 1 f fd ["values"] 0 sIsTurned := by
  refine FnD.more (fnd_of F sc_law_is_turned (fun cdv A outer s H E hr hg => have xk := xk_def (E := E) hr hg; (ds_one (ds_ret (de_and (de_cmp (o_eq xk.K xk.u64) (de_ix xk.K (dv 0) de_int (fun _ _ => rfl)) de_int (by rfl)) (de_one (de_cmp (o_eq xk.K xk.u64) (de_comp (own := [("one", 1), ("other", 2)]) xk sc_law_is_turned.nd (di_zip xk.K bn.zip (da_cons (dv 0) (da_cons (de_revL (dv 0)) da_nil))) (blkOk_by (N := ["values", "one", "other"]) (sc := defScope s_law_is_turned) (by decide +kernel)) (fun s H C cl fp => (dg_two (i := 1) (j := 2) (Xk.blk xk _ _ _ _ _).K (Xk.blk xk _ _ _ _ _).calm sc_law_is_turned.nd rfl (Or.inl rfl) rfl (Or.inl rfl) (pg_name sc_law_is_turned.nd rfl (Or.inl rfl)) (pg_name sc_law_is_turned.nd rfl (Or.inl rfl)))) (fun s H C cl fp => (dts_one (dt_cmp (o_eq (Xk.blk xk _ _ _ _ _).K (Xk.blk xk _ _ _ _ _).u64) (dv 1) (dv 2) (by rfl)))) (fun s H C cl fp => de_int) (by simp)) (de_lst da_nil) (by rfl))))))) ?_) (by decide)
  rintro ds R ex hl ⟨vs, rfl, h1, hr⟩
  refine d_and (x := vs.headD 0 == 0) (y := ((vs.zip vs.reverse).filter fun p => p.1 == p.2) == []) (fun K hK => ?_) (fun _ K hK => ?_) hr
  · exact ⟨_, rfl, _, head_atI h1, eqC (eq_int hK)⟩
  · refine ⟨_, rfl, _, rfl, _, rfl, ?_⟩
    rw [← List.map_reverse]
    show compL _ _ _ _ _ (zipD _ _) []
    rw [zipD_map]
    refine compL_ofF (fun p : Int × Int => .tup [.int p.1, .int p.2]) (fun _ => .int 1) (fun p => p.1 == p.2) (fun p hp K2 K2' a1 a2 => tg_two ⟨_, rfl, _, rfl, eq_int ⟨_, rfl, ite_of (fun hb => a1 hb) (fun hb => a2 hb)⟩⟩) ?_
    rw [List.nil_append]
    have e : ((vs.zip vs.reverse).filter fun p => p.1 == p.2).map (fun _ => D.int 1) = (((vs.zip vs.reverse).filter fun p => p.1 == p.2).map fun _ => (1 : Int)).map D.int := by rw [List.map_map]; rfl
    rw [e]
    refine ⟨small (by simp), eq_lst (js := []) ?_⟩
    have e2 : ((((vs.zip vs.reverse).filter fun p => p.1 == p.2).map fun _ => (1 : Int)) == []) = (((vs.zip vs.reverse).filter fun p => p.1 == p.2) == []) := by
      cases (vs.zip vs.reverse).filter fun p => p.1 == p.2 <;> rfl
    rw [e2]
    exact hK
/-- the digits of a number to the base 2, the last first -/
def digL (x : Int) (many : Nat) : List Int := (List.range many).map fun i => x / 2 ^ i % 2
theorem dig_s (x : Int) (i : Nat) : digL x (i + 1) = digL x i ++ [x / 2 ^ i % 2] := by
  unfold digL
  rw [List.range_succ, List.map_append]; rfl
def sDig : FSpec := fun ds R _ => ∃ (x : Int) (many : Nat), ds = [.int x, .int many] ∧ many ≤ 8 ∧ R (.lst ((digL x many).map D.int))
abbrev s_law_digits : Stmt := topS 87
theorem sc_law_digits : FnScope ["number", "many", "found", "left", "turn"] ["number", "many"] (defScope s_law_digits) := ⟨rfl, rfl, rfl, by decide +kernel, rfl, by decide +kernel, by decide +kernel⟩
theorem ok_law_digits (F : Fun G.K "_law_digits" "_law_digits" s_law_digits f fd) (bn : Bn mg)  : FnD G P w mg base 1 f fd ["number", "many"] 0 sDig := by
  refine FnD.more (fnd_of F sc_law_digits (fun cdv A outer s H E hr hg => have xk := xk_def (E := E) hr hg; (ds_cons (ds_parOV (i := 2) (j := 3) (l := 0) xk.calm sc_law_digits.nd rfl rfl (by decide) rfl rfl da_nil rfl (hw := (by with_unfolding_all rfl))) (ds_cons (ds_for xk po_def (di_range1 bn.range (da_cons (dv 1) da_nil)) (dg_name (i := 4) sc_law_digits.nd rfl (Or.inl rfl)) (ds_cons (ds_app (i := 2) rfl (de_op (o_mod) (de_ty (c_int) bn.int (da_cons (dv 3) da_nil)) de_int)) (ds_one (ds_set (i := 3) sc_law_digits.nd rfl (Or.inl rfl) (de_op (o_div) (dv 3) de_int))))) (ds_freeze (i := 2) (ds_one (ds_ret (dv 2))))))) ?_) (by decide)
  rintro ds R ex hl ⟨x, many, rfl, hm, hr⟩
  refine ⟨_, rfl, small (by simp), fun a0 => ?_⟩
  dsimp only [List.set]
  refine seq_to (fun env' => ∃ a s4, env' = [.val (.int x), .val (.int many), .own a ((digL x many).map D.int), .val (.int (x / 2 ^ many)), s4]) (fun de' hnx hrt => ?_) (fun env' e => ?_)
  · refine ⟨_, rfl, many, rfl, by omega, by omega, ?_⟩
    rw [Int.toNat_natCast]
    refine sForL_rng (fun i env => i ≤ many ∧ ∃ a s4, env = [.val (.int x), .val (.int many), .own a ((digL x i).map D.int), .val (.int (x / 2 ^ i)), s4]) ⟨Nat.zero_le _, a0, .emp, by simp [digL]; rfl⟩ (fun i env hi hI nx hn2 => ?_) (fun env hI => ?_)
    · obtain ⟨him, a, s4, rfl⟩ := hI
      refine ⟨a, _, rfl, _, rfl, (by decide : (0 : Int) < 2), ?_⟩
      refine ⟨small (by simp [digL]; omega), ?_⟩
      refine ⟨_, rfl, ⟨by decide, by decide⟩, ?_⟩
      refine hn2 _ ⟨by omega, a, .val (.int i), ?_⟩
      rw [dig_s, List.map_append, Int.pow_succ, ← Int.ediv_ediv_of_nonneg (by exact Int.pow_nonneg (by omega))]
      rfl
    · obtain ⟨him, a, s4, rfl⟩ := hI
      exact hnx _ ⟨a, s4, rfl⟩
  obtain ⟨a, s4, rfl⟩ := e
  exact ⟨a, _, rfl, _, rfl, hr⟩
def halfL (vs : List Int) : List Int := (0 :: vs) ++ (0 :: vs).reverse.map fun v => 1 - v
def sHalf : FSpec := fun ds R _ => ∃ vs : List Int, ds = [.lst (vs.map D.int)] ∧ vs.length ≤ 100 ∧ R (.lst ((halfL vs).map D.int))
abbrev s_law_half : Stmt := topS 88
theorem sc_law_half : FnScope ["half", "first", "value"] ["half"] (defScope s_law_half) := ⟨rfl, rfl, rfl, by decide +kernel, rfl, by decide +kernel, by decide +kernel⟩
theorem ok_law_half (F : Fun G.K "_law_half" "_law_half" s_law_half f fd) (bn : Bn mg)  : FnD G P w mg base 1 f fd ["half"] 0 sHalf := by
  refine FnD.more (fnd_of F sc_law_half (fun cdv A outer s H E hr hg => have xk := xk_def (E := E) hr hg; (ds_cons (ds_set (i := 1) sc_law_half.nd rfl (Or.inl rfl) (de_op (o_add xk.K) (de_lst (da_cons de_int da_nil)) (dv 0))) (ds_one (ds_ret (de_op (o_add xk.K) (dv 1) (de_comp (own := [("value", 2)]) xk sc_law_half.nd (di_seq xk.K (de_revL (dv 1))) (blkOk_by (N := ["half", "first", "value"]) (sc := defScope s_law_half) (by decide +kernel)) (fun s H C cl fp => (dg_name (i := 2) sc_law_half.nd rfl (Or.inl rfl))) (fun s H C cl fp => dts_nil) (fun s H C cl fp => (de_op (o_sub) de_int (dv 2))) (by simp))))))) ?_) (by decide)
  rintro ds R ex hl ⟨vs, rfl, h1, hr⟩
  refine seq_to (fun env' => env' = [.val (.lst (vs.map D.int)), .val (.lst ((0 :: vs).map D.int)), .emp]) (fun de' hnx hrt => ?_) (fun env' e => ?_)
  · exact ⟨small (by simp), _, rfl, small (by simp; omega), hnx _ rfl⟩
  subst e
  refine ⟨_, rfl, _, rfl, _, rfl, ?_⟩
  show compL _ _ _ _ _ ((0 :: vs).map D.int).reverse []
  rw [← List.map_reverse]
  refine compL_of D.int (fun v => .int (1 - v)) (fun v hv K hK => ⟨_, rfl, trivial, hK⟩) ?_
  rw [List.nil_append]
  refine ⟨small (by simp; omega), ?_⟩
  have e : ((0 :: vs).map D.int) ++ ((0 :: vs).reverse.map fun v => D.int (1 - v)) = (halfL vs).map D.int := by
    unfold halfL
    rw [List.map_append, List.map_map]; rfl
  rw [e]
  exact hr
def sBent : FSpec := fun ds R _ => ∃ vs : List Int, ds = [.urn, .lst (vs.map D.int)] ∧ 1 ≤ vs.length ∧ vs.length ≤ 256 ∧ (∀ v ∈ vs, 0 ≤ v ∧ v < 2) ∧ ∀ us : List Int, us.length = vs.length → (∀ v ∈ us, 0 ≤ v ∧ v < 2) → R (.lst (us.map D.int))
abbrev s_law_bent : Stmt := topS 93
theorem sc_law_bent : FnScope ["jug", "values", "found", "at"] ["jug", "values"] (defScope s_law_bent) := ⟨rfl, rfl, rfl, by decide +kernel, rfl, by decide +kernel, by decide +kernel⟩
theorem ok_law_bent (F : Fun G.K "_law_bent" "_law_bent" s_law_bent f fd) (bn : Bn mg) (F__law_tap : Fk G P w mg base 1 "_law_tap" ["jug", "many"] 1 sDraw) : FnD G P w mg base 2 f fd ["jug", "values"] 1 sBent := by
  refine FnD.more (fnd_of F sc_law_bent (fun cdv A outer s H E hr hg => have xk := xk_def (E := E) hr hg; (ds_cons (ds_parFV (i := 2) (j := 3) xk.calm sc_law_bent.nd rfl rfl (by decide) rfl rfl (df_list xk.K bn.list (dv 1)) (de_call F__law_tap xk (da_cons (dv 0) (da_cons (de_bi (c_len xk.K) bn.len (da_cons (dv 1) da_nil)) da_nil))) (hw := (by with_unfolding_all rfl))) (ds_cons (ds_setIx (i := 2) rfl (de_op (o_sub) de_int (de_oix (i := 2) rfl (dv 3) (fun _ _ => rfl))) (dv 3)) (ds_freeze (i := 2) (ds_one (ds_ret (dv 2))))))) ?_) (by decide)
  rintro ds R ex hl ⟨vs, rfl, h1, h256, hv, hr⟩
  refine seq_to (fun env' => ∃ (a : Addr) (j : Nat), j < vs.length ∧ env' = [.val .urn, .val (.lst (vs.map D.int)), .own a (vs.map D.int), .val (.int j)]) (fun de' hnx hrt => ?_) (fun env' e => ?_)
  · refine ⟨_, rfl, ?_⟩
    refine ⟨_, rfl, _, rfl, nilLen ?_⟩
    rw [List.length_map]
    refine ⟨rfl, _, rfl, by omega, by omega, fun i i0 i1 => ?_⟩
    obtain ⟨j, rfl⟩ := Int.eq_ofNat_of_zero_le i0
    exact ⟨_, rfl, fun a => hnx _ ⟨a, j, by omega, rfl⟩⟩
  obtain ⟨a, j, hj, rfl⟩ := e
  refine seq_to (fun env' => ∃ us : List Int, us.length = vs.length ∧ (∀ v ∈ us, 0 ≤ v ∧ v < 2) ∧ env' = [.val .urn, .val (.lst (vs.map D.int)), .own a (us.map D.int), .val (.int j)]) (fun de' hnx hrt => ?_) (fun env' e => ?_)
  · refine ⟨_, _, rfl, _, rfl, (j : Int), .int vs[j], rfl, atI_nat (by rw [List.getElem?_map, List.getElem?_eq_getElem hj]; rfl), ?_⟩
    refine ⟨trivial, a, _, rfl, _, rfl, (j : Int), j, rfl, ixN_nat (by rw [List.length_map]; exact hj), hnx _ ⟨vs.set j (1 - vs[j]), List.length_set, fun v hv2 => ?_, ?_⟩⟩
    · rcases List.mem_or_eq_of_mem_set hv2 with h | rfl
      · exact hv v h
      · have := hv vs[j] (List.getElem_mem hj)
        omega
    · rw [List.map_set]; rfl
  obtain ⟨us, hl2, hu, rfl⟩ := e
  exact ⟨a, _, rfl, _, rfl, hr us hl2 hu⟩
theorem rows_small {n m : Nat} (n5 : n ≤ 5) (m4 : m ≤ 4) : ∀ r ∈ allRows n m, Small r := fun r hr => ⟨by rw [allRows_row n m r hr]; omega, fun i hi => by have := allRows_val n m r hr i hi; omega⟩
theorem ne_tup2 {a b c d : Int} {Q : D → Prop} (h : Q (.bl (!([a, b] == [c, d])))) : gNe (.tup [.int a, .int b]) (.tup [.int c, .int d]) Q :=
  ⟨rowP [a, b], rowP [c, d], rfl, rfl, shaped_row [a, b], shaped_row [c, d], by rw [eqv_row]; exact h⟩
theorem ni_rowsX {n m : Nat} (n5 : n ≤ 5) (m4 : m ≤ 4) {r : List Int} (hr : r ∈ allRows n m) {Q : D → Prop} (h : Q (.bl false)) : gNi (rowD r) (.lst ((allRows n m).map rowD)) Q := by
  refine ⟨rowP r, (allRows n m).map rowP, _, rfl, by simp [rowD, rowP, pd, pdL_int], pd_rows _, shaped_row r, shaped_rows (rows_small n5 m4), ?_⟩
  have e : (((allRows n m).map rowP).any fun z => PyData.eqv z (rowP r)) = true := List.any_eq_true.mpr ⟨rowP r, List.mem_map.mpr ⟨r, hr, rfl⟩, by rw [eqv_row]; simp⟩
  rw [e]
  exact h
theorem idx_rows {n m : Nat} {r : List Int} (hl : r.length = m) (hv : ∀ i ∈ r, 0 ≤ i ∧ i < (n : Int)) : ∃ k : Nat, idxR n r = k ∧ k < n ^ m ∧ ((allRows n m).map rowP)[k]? = some (rowP r) ∧ PyData.eqv (rowP r) (rowP r) = true ∧ ∀ (j : Nat) (z : PyData), j < k → ((allRows n m).map rowP)[j]? = some z → PyData.eqv z (rowP r) = false := by
  obtain ⟨k, h1, h2, h3⟩ := idx_toNat hl hv
  refine ⟨k, h1, h2, by rw [List.getElem?_map, h3]; rfl, by rw [eqv_row]; simp, fun j z hj hz => ?_⟩
  rw [List.getElem?_map] at hz
  obtain ⟨x, hx, rfl⟩ := Option.map_eq_some_iff.mp hz
  rw [eqv_row]
  refine beq_eq_false_iff_ne.mpr fun e => ?_
  rw [e] at hx
  have := idx_of_row hx
  omega
theorem nilTT {ex : Exc → Prop} {env : List Sl} {ds : List D} {Q : D → Prop} (h : Q (.tup ds)) : aNil ex env fun xs => g1 gTuple (.tup ds :: xs) Q := h
def sPts : FSpec := fun ds R _ => ∃ (m : Nat) (vs l r : List Int), ds = [.lst (vs.map D.int), .lst ((allRows 2 m).map rowD), leadD 2 l, rowD r] ∧ ToldIn 2 m vs ∧ RowIn 2 2 l ∧ partO 2 m vs l = some r ∧ R (.bl true)
abbrev s_law_parts : Stmt := topS 89
theorem sc_law_parts : FnScope ["values", "rows", "lead", "row", "led", "thing"] ["values", "rows", "lead", "row"] (defScope s_law_parts) := ⟨rfl, rfl, rfl, by decide +kernel, rfl, by decide +kernel, by decide +kernel⟩
theorem ok_law_parts (F : Fun G.K "_law_parts" "_law_parts" s_law_parts f fd) (bn : Bn mg) (fo : Gk G) : FnD G P w mg base 1 f fd ["values", "rows", "lead", "row"] 0 sPts := by
  refine FnD.more (fnd_of F sc_law_parts (fun cdv A outer s H E hr hg => have xk := xk_def (E := E) hr hg; (ds_cons (ds_if (dt_w (dw_or (dt_cmp (o_ne xk.K xk.u64) (de_tup (da_cons (de_fld xk.K fo.begin (dv 2)) (da_cons (de_fld xk.K fo.into (dv 2)) da_nil))) (de_tup (da_cons de_int (da_cons de_int da_nil))) (by rfl)) (dw_or1 (dt_cmp (o_ni xk.K xk.u65) (de_ty (c_tuple xk.K) bn.tuple (da_cons (dv 3) da_nil)) (dv 1) (by rfl))))) (ds_one (ds_ret de_bl)) ds_nil) (ds_cons (ds_set (i := 4) sc_law_parts.nd rfl (Or.inl rfl) (de_ty (c_tuple xk.K) bn.tuple (da_cons (de_comp (own := [("thing", 5)]) xk sc_law_parts.nd (di_seq xk.K (dv 3)) (blkOk_by (N := ["values", "rows", "lead", "row", "led", "thing"]) (sc := defScope s_law_parts) (by decide +kernel)) (fun s H C cl fp => (dg_name (i := 5) sc_law_parts.nd rfl (Or.inl rfl))) (fun s H C cl fp => dts_nil) (fun s H C cl fp => (de_ix (Xk.blk xk _ _ _ _ _).K (de_fld (Xk.blk xk _ _ _ _ _).K fo.row (dv 2)) (dv 5) (fun _ _ => rfl))) (by simp)) da_nil))) (ds_one (ds_ret (de_cmp (o_ne xk.K xk.u64) (de_ix xk.K (dv 0) (de_index xk (dv 1) (dv 4)) (fun _ _ => rfl)) (de_ix xk.K (de_fld xk.K fo.row (dv 2)) (de_ix xk.K (dv 0) (de_index xk (dv 1) (de_ty (c_tuple xk.K) bn.tuple (da_cons (dv 3) da_nil))) (fun _ _ => rfl)) (fun _ _ => rfl)) (by rfl))))))) ?_) (by decide)
  rintro ds R ex hl ⟨m, vs, l, r, rfl, T, L, hp, hr⟩
  obtain ⟨n1, n5, p1, p4, hk, len, hv⟩ := id T
  obtain ⟨m1, m2, m3, i1, i2, i3⟩ := fld_lead fo (n := 2) (r := l)
  have hmem := List.mem_of_find?_eq_some hp
  have hpb : partsB 2 vs l r = true := List.find?_some hp
  have hrl := allRows_row 2 m r hmem
  have hrv := allRows_val 2 m r hmem
  obtain ⟨g1, g2⟩ := led_row (n := 2) L hrl hrv
  have hll : (l.length : Int) = 2 := by rw [L.1]; rfl
  refine sif_of (x := false || false) (tst_or (fun K hK => ?_) (fun _ K hK => ?_)) (fun hb => by simp at hb) (fun hb => ?_)
  · refine ⟨_, rfl, 1, _, _, rfl, m1, i1, _, rfl, 1, _, _, rfl, m2, i2, small (by simp), small (by simp), ?_⟩
    refine ne_tup2 ?_
    rw [hll]
    rw [show (!(([(2 : Int), 2] : List Int) == [(2 : Int), 2])) = false by simp]
    exact ⟨_, rfl, hK⟩
  · refine ⟨_, rfl, nilTT ?_⟩
    exact ⟨_, rfl, ni_rowsX n5 p4 hmem ⟨_, rfl, hK⟩⟩
  refine nil_seq ?_
  dsimp only
  refine seq_to (fun env' => env' = [.val (.lst (vs.map D.int)), .val (.lst ((allRows 2 m).map rowD)), .val (leadD 2 l), .val (rowD r), .val (rowD (ledR l r)), .emp]) (fun de' hnx hrt => ?_) (fun env' e => ?_)
  · refine ⟨_, rfl, ?_⟩
    refine compL_of D.int (fun i => D.int (atR l i)) (fun i hi2 K2 hK2 => ?_) ?_
    · obtain ⟨b0, b1⟩ := hrv i hi2
      have hat := (atR_in (r := l) (i := i) (n := 2) b0 (by rw [L.1]; exact b1) L.2).1
      exact ⟨_, rfl, 1, _, _, rfl, m3, i3, _, rfl, _, hat, hK2⟩
    · rw [List.nil_append]
      have e : (.tup (r.map fun i => D.int (atR l i)) : D) = rowD (ledR l r) := by unfold rowD ledR; rw [List.map_map]; rfl
      refine nilT ?_
      rw [e]
      exact hnx _ rfl
  subst e
  obtain ⟨k1, a1, a2, a3, a4, a5⟩ := idx_rows g1 g2
  obtain ⟨k2, b1, b2, b3, b4, b5⟩ := idx_rows hrl hrv
  have v1 : vs[k1]? = some (fV 2 vs (ledR l r)) := by
    have hk1 : k1 < vs.length := by omega
    unfold fV
    rw [a1]
    rw [List.getElem?_eq_getElem hk1]
    exact congrArg some (atR_get (List.getElem?_eq_getElem hk1)).symm
  have v2 : vs[k2]? = some (fV 2 vs r) := by
    have hk2 : k2 < vs.length := by omega
    unfold fV
    rw [b1]
    rw [List.getElem?_eq_getElem hk2]
    exact congrArg some (atR_get (List.getElem?_eq_getElem hk2)).symm
  have fv := fV_val T hrl hrv
  have hat := (atR_in (r := l) (i := fV 2 vs r) (n := 2) fv.1 (by rw [L.1]; exact fv.2) L.2).1
  have sh := shaped_rows (rows_small n5 p4 : ∀ r ∈ allRows 2 m, Small r)
  have pdr : ∀ x : List Int, pd (rowD x) = some (rowP x) := fun x => by simp [rowD, rowP, pd, pdL_int]
  refine ⟨_, rfl, _, rfl, _, _, rfl, pd_rows _, sh, _, rfl, _, k1, _, pdr _, shaped_row _, a3, a4, a5, .int (fV 2 vs (ledR l r)), atI_nat (by rw [List.getElem?_map, v1]; rfl), ?_⟩
  refine ⟨_, rfl, 1, _, _, rfl, m3, i3, _, rfl, _, rfl, _, _, rfl, pd_rows _, sh, _, rfl, nilTT ⟨_, k2, _, pdr r, shaped_row r, b3, b4, b5, .int (fV 2 vs r), atI_nat (by rw [List.getElem?_map, v2]; rfl), ?_⟩⟩
  refine ⟨_, hat, ne_int ?_⟩
  rw [show (!(fV 2 vs (ledR l r) == atR l (fV 2 vs r))) = true from hpb]
  exact hr
end
end Pg
set_option Elab.async false
set_option linter.all false
set_option maxRecDepth 100000
set_option maxHeartbeats 4100000
namespace Pg
open PySem L2 RZ Kn
section
variable {G : Gd} {P : Program} {w : World} {mg : Str → Option Value} {base : Heap} {f : Addr} {fd : FuncData}
theorem part_none {n m : Nat} {vs l : List Int} : partO n m vs l = none ↔ ∀ r ∈ allRows n m, fV n vs (ledR l r) = atR l (fV n vs r) := by
  unfold partO
  rw [List.find?_eq_none]
  refine forall_congr' fun r => forall_congr' fun _ => ?_
  unfold partsB
  simp
theorem few_two : fewR "blind" 2 = [[1, 0], [0, 0]] := by decide +kernel
theorem man_blind : ("blind" : Str) ∈ manners := by decide +kernel
theorem fold_two : ∀ (r : List Int) (a b : Int), (r.map fun i => 1 - i).foldl (fun a i => a * 2 + i) a + r.foldl (fun a i => a * 2 + i) b + 1 = (a + b + 1) * 2 ^ r.length
  | [], a, b => by simp
  | i :: r, a, b => by
    rw [List.map_cons, List.foldl_cons, List.foldl_cons, fold_two r, List.length_cons, Int.pow_succ]
    rw [show a * 2 + (1 - i) + (b * 2 + i) + 1 = (a + b + 1) * 2 by omega, Int.mul_assoc, Int.mul_comm 2]
theorem idx_other (r : List Int) : idxR 2 (r.map fun i => 1 - i) + idxR 2 r + 1 = 2 ^ r.length := by
  have := fold_two r 0 0
  unfold idxR
  omega
theorem bit_cases {v : Int} (h : 0 ≤ v ∧ v < ((2 : Nat) : Int)) : v = 0 ∨ v = 1 := by omega
theorem ledR10 {r : List Int} (h : ∀ i ∈ r, 0 ≤ i ∧ i < ((2 : Nat) : Int)) : ledR [1, 0] r = r.map fun i => 1 - i := by
  unfold ledR
  refine List.map_congr_left fun i hi => ?_
  rcases bit_cases (h i hi) with rfl | rfl <;> rfl
theorem at10 {v : Int} (h : 0 ≤ v ∧ v < ((2 : Nat) : Int)) : atR [1, 0] v = 1 - v := by
  rcases bit_cases h with rfl | rfl <;> rfl
theorem at00 {v : Int} (h : 0 ≤ v ∧ v < ((2 : Nat) : Int)) : atR [0, 0] v = 0 := by
  rcases bit_cases h with rfl | rfl <;> rfl
theorem at11 {v : Int} (h : 0 ≤ v ∧ v < ((2 : Nat) : Int)) : atR [1, 1] v = 1 := by
  rcases bit_cases h with rfl | rfl <;> rfl
theorem at01 {v : Int} (h : 0 ≤ v ∧ v < ((2 : Nat) : Int)) : atR [0, 1] v = v := by
  rcases bit_cases h with rfl | rfl <;> rfl
/-- row by row: at the number of an input stands its value, at the number of the other one the other's -/
theorem row_at2 {m k : Nat} (hk : k < 2 ^ m) : ∃ r, r ∈ allRows 2 m ∧ r.length = m ∧ (∀ i ∈ r, 0 ≤ i ∧ i < ((2 : Nat) : Int)) ∧ idxR 2 r = k ∧ idxR 2 (r.map fun i => 1 - i) = ((2 ^ m - 1 - k : Nat) : Int) := by
  have hl : k < (allRows 2 m).length := by rw [allRows_len]; exact hk
  have hg := List.getElem?_eq_getElem hl
  have hm := List.mem_of_getElem? hg
  have h1 : idxR ((2 : Nat) : Int) (allRows 2 m)[k] = k := idx_of_row hg
  have hr := allRows_row 2 m _ hm
  refine ⟨_, hm, hr, allRows_val 2 m _ hm, h1, ?_⟩
  have h2 := idx_other (allRows 2 m)[k]
  have h3 : idxR (2 : Int) (allRows 2 m)[k] = k := h1
  rw [hr, h3] at h2
  have h4 : ((2 ^ m : Nat) : Int) = 2 ^ m := by simp
  omega
theorem fV2 {m k : Nat} {vs r : List Int} (h : idxR 2 r = k) (hk : k < vs.length) : fV 2 vs r = vs[k] := by
  unfold fV
  rw [show idxR ((2 : Nat) : Int) r = k from h]
  exact atR_get (List.getElem?_eq_getElem hk)
/-- the other thing at the other end -/
def Turned (m : Nat) (vs : List Int) : Prop := ∀ k, k < 2 ^ m → ∀ v w, vs[k]? = some v → vs[2 ^ m - 1 - k]? = some w → w = 1 - v
theorem part10 {m : Nat} {vs : List Int} (T : ToldIn 2 m vs) : partO 2 m vs [1, 0] = none ↔ Turned m vs := by
  have len := T.len
  rw [part_none]
  constructor
  · intro h k hk v w hv hw
    obtain ⟨r, hr, hl, hb, e1, e2⟩ := row_at2 (m := m) hk
    have z := h r hr
    have k2 : 2 ^ m - 1 - k < vs.length := by omega
    have k1 : k < vs.length := by omega
    rw [ledR10 hb, fV2 (m := m) e2 k2, fV2 (m := m) e1 k1, at10 (T.val _ (List.getElem_mem k1))] at z
    rw [List.getElem?_eq_getElem k1] at hv
    rw [List.getElem?_eq_getElem k2] at hw
    cases hv
    cases hw
    exact z
  · intro h r hr
    have hl := allRows_row 2 m r hr
    have hb := allRows_val 2 m r hr
    obtain ⟨k, e1, hk, _⟩ := idx_toNat hl hb
    have e1' : idxR (2 : Int) r = k := e1
    have e2 : idxR 2 (r.map fun i => 1 - i) = ((2 ^ m - 1 - k : Nat) : Int) := by
      have h2 := idx_other r
      rw [hl, e1'] at h2
      have h4 : ((2 ^ m : Nat) : Int) = 2 ^ m := by simp
      omega
    have k2 : 2 ^ m - 1 - k < vs.length := by omega
    have k1 : k < vs.length := by omega
    rw [ledR10 hb, fV2 (m := m) e2 k2, fV2 (m := m) e1' k1, at10 (T.val _ (List.getElem_mem k1))]
    exact h k hk _ _ (List.getElem?_eq_getElem k1) (List.getElem?_eq_getElem k2)
theorem idx_zero (r : List Int) : idxR 2 (r.map fun _ => 0) = 0 := by
  unfold idxR
  induction r with
  | nil => rfl
  | cons i r ih => exact ih
theorem led00 {r : List Int} (h : ∀ i ∈ r, 0 ≤ i ∧ i < ((2 : Nat) : Int)) : ledR [0, 0] r = r.map fun _ => 0 := by
  unfold ledR
  exact List.map_congr_left fun i hi => at00 (h i hi)
theorem led11 {r : List Int} (h : ∀ i ∈ r, 0 ≤ i ∧ i < ((2 : Nat) : Int)) : ledR [1, 1] r = (r.map fun _ => (0 : Int)).map fun i => 1 - i := by
  unfold ledR
  rw [List.map_map]
  exact List.map_congr_left fun i hi => at11 (h i hi)
theorem pos2 {m : Nat} {vs : List Int} (T : ToldIn 2 m vs) : 0 < vs.length := by rw [T.len]; exact Nat.pow_pos (by decide)
theorem part00 {m : Nat} {vs : List Int} (T : ToldIn 2 m vs) : partO 2 m vs [0, 0] = none ↔ vs[0]? = some 0 := by
  have hp := pos2 T
  rw [part_none]
  constructor
  · intro h
    obtain ⟨r, hr, hl, hb, e1, _⟩ := row_at2 (m := m) (k := 0) (by have := T.len; omega)
    have z := h r hr
    rw [led00 hb, fV2 (m := m) (k := 0) (idx_zero r) hp, fV2 (m := m) e1 hp, at00 (T.val _ (List.getElem_mem hp))] at z
    rw [List.getElem?_eq_getElem hp, z]
  · intro h r hr
    have hl := allRows_row 2 m r hr
    have hb := allRows_val 2 m r hr
    rw [led00 hb, fV2 (m := m) (k := 0) (idx_zero r) hp, at00 (fV_val T hl hb)]
    rw [List.getElem?_eq_getElem hp] at h
    exact Option.some.inj h
theorem part11 {m : Nat} {vs : List Int} (T : ToldIn 2 m vs) (h0 : vs[0]? = some 0) (ht : Turned m vs) : partO 2 m vs [1, 1] = none := by
  have hp := pos2 T
  have len := T.len
  rw [part_none]
  intro r hr
  have hl := allRows_row 2 m r hr
  have hb := allRows_val 2 m r hr
  have e2 : idxR 2 ((r.map fun _ => (0 : Int)).map fun i => 1 - i) = ((2 ^ m - 1 - 0 : Nat) : Int) := by
    have h2 := idx_other (r.map fun _ => (0 : Int))
    rw [List.length_map, hl, idx_zero] at h2
    have h4 : ((2 ^ m : Nat) : Int) = 2 ^ m := by simp
    omega
  have k2 : 2 ^ m - 1 - 0 < vs.length := by omega
  rw [led11 hb, fV2 (m := m) e2 k2, at11 (fV_val T hl hb)]
  have z := ht 0 (by omega) 0 _ h0 (List.getElem?_eq_getElem k2)
  exact z
theorem part01 {m : Nat} {vs : List Int} (T : ToldIn 2 m vs) : partO 2 m vs [0, 1] = none := by
  rw [part_none]
  intro r hr
  have hl := allRows_row 2 m r hr
  have hb := allRows_val 2 m r hr
  rw [at01 (fV_val T hl hb)]
  have e : ledR [0, 1] r = r := by
    unfold ledR
    exact (List.map_congr_left fun i hi => at01 (hb i hi)).trans (List.map_id' r)
  rw [e]
theorem head_get {vs : List Int} (h : 0 < vs.length) : (vs.headD 0 == 0) = true ↔ vs[0]? = some 0 := by
  cases vs with
  | nil => cases h
  | cons x l => simp
theorem rev_at {vs : List Int} {k : Nat} (hk : k < vs.length) : vs.reverse[k]? = vs[vs.length - 1 - k]? := by
  rw [List.getElem?_reverse hk]
theorem turn_iff {m : Nat} {vs : List Int} (T : ToldIn 2 m vs) : turnL vs = true ↔ vs[0]? = some 0 ∧ Turned m vs := by
  have hp := pos2 T
  have len := T.len
  unfold turnL
  rw [Bool.and_eq_true, head_get hp]
  refine and_congr_right fun _ => ?_
  rw [beq_iff_eq, List.filter_eq_nil_iff]
  constructor
  · intro h k hk v w hv hw
    have hkl : k < vs.length := by omega
    have hz : (vs.zip vs.reverse)[k]? = some (v, w) := by
      rw [List.getElem?_zip_eq_some]
      exact ⟨hv, by rw [rev_at hkl, len]; exact hw⟩
    have hne := h (v, w) (List.mem_of_getElem? hz)
    have hne2 : v ≠ w := fun e => hne (by simpa using e)
    rcases bit_cases (T.val v (List.mem_of_getElem? hv)) with rfl | rfl <;> rcases bit_cases (T.val w (List.mem_of_getElem? hw)) with rfl | rfl <;> first | exact absurd rfl hne2 | rfl
  · rintro h ⟨v, w⟩ hm he
    obtain ⟨k, hk⟩ := List.getElem?_of_mem hm
    rw [List.getElem?_zip_eq_some] at hk
    obtain ⟨h1, h2⟩ := hk
    have hkl := (List.getElem?_eq_some_iff.mp h1).1
    rw [rev_at hkl, len] at h2
    have z := h k (by omega) v w h1 h2
    have e : v = w := by simpa using he
    omega
theorem turnB_iff {m : Nat} {vs : List Int} (T : ToldIn 2 m vs) : turnB vs = true ↔ vs[0]? = some 0 ∧ Turned m vs := by
  have hp := pos2 T
  have len := T.len
  unfold turnB
  rw [Bool.and_eq_true, beq_iff_eq, beq_iff_eq]
  refine and_congr ?_ ?_
  · rw [show atR vs 0 = vs[0] from atR_get (j := 0) (List.getElem?_eq_getElem hp), List.getElem?_eq_getElem hp]
    simp
  · constructor
    · intro h k hk v w hv hw
      have hkl : 2 ^ m - 1 - k < vs.length := by omega
      have h2 : vs[2 ^ m - 1 - k]? = (vs.reverse.map fun v => 1 - v)[2 ^ m - 1 - k]? := by rw [← h]
      rw [List.getElem?_map, rev_at hkl, len, show 2 ^ m - 1 - (2 ^ m - 1 - k) = k by omega, hv] at h2
      rw [hw] at h2
      exact Option.some.inj h2
    · intro h
      refine List.ext_getElem? fun k => ?_; by_cases hk : k < vs.length
      · rw [List.getElem?_map, rev_at hk, len]
        have k2 : 2 ^ m - 1 - k < vs.length := by omega
        have z := h (2 ^ m - 1 - k) (by omega) _ vs[k] (List.getElem?_eq_getElem k2) (by rw [show 2 ^ m - 1 - (2 ^ m - 1 - k) = k by omega]; exact List.getElem?_eq_getElem hk)
        rw [List.getElem?_eq_getElem hk, List.getElem?_eq_getElem k2, z]
        rfl
      · rw [List.getElem?_eq_none (by omega), List.getElem?_eq_none (by rw [List.length_map, List.length_reverse]; omega)]
theorem bool_of {a b : Bool} {P : Prop} (h1 : a = true ↔ P) (h2 : b = true ↔ P) : a = b := by
  rw [Bool.eq_iff_iff, h1, h2]
theorem turn_eq {m : Nat} {vs : List Int} (T : ToldIn 2 m vs) : turnB vs = turnL vs := bool_of (turnB_iff T) (turn_iff T)
theorem goes_turn {m : Nat} {vs : List Int} (T : ToldIn 2 m vs) : goesB 2 m vs four = turnL vs := by
  refine bool_of (P := vs[0]? = some 0 ∧ Turned m vs) ?_ (turn_iff T)
  unfold goesB four
  rw [List.all_eq_true]
  constructor
  · intro h
    exact ⟨(part00 T).mp (Option.isNone_iff_eq_none.mp (h _ (by simp))), (part10 T).mp (Option.isNone_iff_eq_none.mp (h _ (by simp)))⟩
  · rintro ⟨h0, ht⟩ l hl
    simp only [List.mem_cons, List.not_mem_nil, or_false] at hl
    rw [Option.isNone_iff_eq_none]
    rcases hl with rfl | rfl | rfl | rfl
    · exact (part00 T).mpr h0
    · exact part01 T
    · exact (part10 T).mpr ht
    · exact part11 T h0 ht
theorem keep_turn {m : Nat} {vs : List Int} (T : ToldIn 2 m vs) : keepB "blind" 2 m vs = turnL vs := by
  refine bool_of (P := vs[0]? = some 0 ∧ Turned m vs) ?_ (turn_iff T)
  unfold keepB
  rw [few_two, List.all_eq_true]
  constructor
  · intro h
    exact ⟨(part00 T).mp (Option.isNone_iff_eq_none.mp (h _ (by simp))), (part10 T).mp (Option.isNone_iff_eq_none.mp (h _ (by simp)))⟩
  · rintro ⟨h0, ht⟩ l hl
    simp only [List.mem_cons, List.not_mem_nil, or_false] at hl
    rw [Option.isNone_iff_eq_none]
    rcases hl with rfl | rfl
    · exact (part10 T).mpr ht
    · exact (part00 T).mpr h0
end
end Pg
set_option Elab.async false
set_option linter.all false
set_option maxRecDepth 100000
set_option maxHeartbeats 4100000
namespace Pg
open PySem L2 RZ Kn
section
variable {G : Gd} {P : Program} {w : World} {mg : Str → Option Value} {base : Heap} {f : Addr} {fd : FuncData}
theorem fld_part (fo : Gk G) {n : Nat} {l r : List Int} : (("lead" : Str) ∈ G.fl 8 ∧ ("row" : Str) ∈ G.fl 8) ∧ [D.str "parting", .tup [leadD n l, rowD r], leadD n l, rowD r][(G.fl 8).idxOf ("lead" : Str)]? = some (leadD n l) ∧ [D.str "parting", .tup [leadD n l, rowD r], leadD n l, rowD r][(G.fl 8).idxOf ("row" : Str)]? = some (rowD r) := by
  rw [fo.fl8]
  exact ⟨⟨by decide, by decide⟩, rfl, rfl⟩
structure KinK (G : Gd) : Prop where
  i7 : InC G.K (G.cl 7)
  k7 : PySem.W.kitOne G.K (.ref (G.cl 7)) (.ref (G.cl 7)) = some true
  i8 : InC G.K (G.cl 8)
  k8 : PySem.W.kitOne G.K (.ref (G.cl 8)) (.ref (G.cl 8)) = some true
def spotsL (n m : Nat) (vs : List Int) : List Nat := (List.range m).filter fun p => plV n m (p : Nat) == vs
theorem spots_ne {n m : Nat} {vs : List Int} : (!((spotsL n m vs).map (fun p : Nat => (p : Int)) == [])) = (spotO n m vs).isSome := by
  unfold spotO spotsL
  rw [← List.head?_filter]
  cases (List.range m).filter fun p => plV n m (p : Nat) == vs with
  | nil => rfl
  | cons a l => rfl
theorem spot_first {n m p : Nat} {vs : List Int} (h : spotO n m vs = some p) : atI (((spotsL n m vs).map fun p : Nat => (p : Int)).map D.int) 0 = some (.int (p : Int)) ∧ p < m ∧ plV n m (p : Nat) = vs := by
  refine ⟨?_, List.mem_range.mp (List.mem_of_find?_eq_some h), eq_of_beq (List.find?_some (p := fun p : Nat => plV n m (p : Nat) == vs) h)⟩
  have h1 : (spotsL n m vs).head? = some p := by
    unfold spotsL
    rw [List.head?_filter]
    exact h
  cases hl2 : spotsL n m vs with
  | nil => rw [hl2] at h1; cases h1
  | cons a l =>
    rw [hl2] at h1
    cases h1
    exact atI_cons
theorem spots_eq {n m : Nat} {vs : List Int} : ((spotsL n m vs).map (fun p : Nat => (p : Int)) == []) = !(spotO n m vs).isSome := by
  rw [← spots_ne, Bool.not_not]
theorem repr_bl2 {a b : Bool} {Q : D → Prop} (hq : Q (.str (PyData.shown (.list [.bool a, .bool b])))) : gRepr (.lst [.bl a, .bl b]) Q := by
  refine .inr ⟨⟨_, .inl rfl⟩, .list [.bool a, .bool b], rfl, ?_, ?_, ?_, ?_, hq⟩
  · cases a <;> cases b <;> decide +kernel
  · cases a <;> cases b <;> decide +kernel
  · cases a <;> cases b <;> decide +kernel
  · refine small ?_
    cases a <;> cases b <;> decide +kernel
def sRight : FSpec := fun ds R _ => ∃ (m : Nat) (vs : List Int), ds = [.int m, .lst (vs.map D.int)] ∧ ToldIn 2 m vs ∧ R (.bl true)
abbrev s_law_right : Stmt := topS 90
theorem sc_law_right : FnScope ["places", "values", "rows", "due", "told", "spots", "known", "paper", "place", "row"] ["places", "values"] (defScope s_law_right) := ⟨rfl, rfl, rfl, by decide +kernel, rfl, by decide +kernel, by decide +kernel⟩
theorem ok_law_right (F : Fun G.K "_law_right" "_law_right" s_law_right f fd) (bn : Bn mg) (fo : Gk G) (F__law_inputs : Fk G P w mg base 1 "_law_inputs" ["things", "places"] 0 sInputsD) (F__law_goes : Fk G P w mg base 2 "_law_goes" ["places", "values"] 0 sGoes) (F__law_is_turned : Fk G P w mg base 1 "_law_is_turned" ["values"] 0 sIsTurned) (C_Told : Fc G P w mg base 5 "Told" 3 ["self", "things", "places", "tells"] 0 sToldInit) (F_is_turned : FkK G P w mg base 4 "is_turned" ["told"] ["told"] [0] 0 sTurned) (F_keeps : Fk G P w mg base 8 "keeps" ["told", "manner"] 0 sKeeps) (F_known_of : FkK G P w mg base 9 "known_of" ["told", "manner"] ["manner", "told"] [1, 0] 0 sKnownOf) (F_kept : Fk G P w mg base 7 "kept" ["told", "manner"] 0 sKept) (C_Place : Fc G P w mg base 6 "Place" 12 ["self", "places", "place"] 0 sPlaceI) (N_Place : Fqn G P w mg base 1 12 0 sEqPl) (F__law_parts : Fk G P w mg base 1 "_law_parts" ["values", "rows", "lead", "row"] 0 sPts) (r_Kept : mg "Kept" = some (.ref (G.cl 7))) (r_Parting : mg "Parting" = some (.ref (G.cl 8))) (kk : KinK G) : FnD G P w mg base 10 f fd ["places", "values"] 0 sRight := by
  refine FnD.more (fnd_of F sc_law_right (fun cdv A outer s H E hr hg => have xk := xk_def (E := E) hr hg; (ds_cons (ds_asg (de_tup (da_cons (de_call F__law_inputs xk (da_cons de_int (da_cons (dv 0) da_nil))) (da_cons (de_call F__law_is_turned xk (da_cons (dv 1) da_nil)) da_nil))) (dg_two (i := 2) (j := 3) xk.K xk.calm sc_law_right.nd rfl (Or.inr rfl) rfl (Or.inl rfl) (pg_name sc_law_right.nd rfl (Or.inr rfl)) (pg_name sc_law_right.nd rfl (Or.inl rfl)))) (ds_cons (ds_if (dt_cmp (o_ne xk.K xk.u64) (de_call F__law_goes xk (da_cons (dv 0) (da_cons (dv 1) da_nil))) (dv 3) (by rfl)) (ds_one (ds_ret de_bl)) ds_nil) (ds_cons (ds_par (i := 4) (j := 5) xk.calm sc_law_right.nd rfl rfl (by decide) rfl rfl (da_cons (de_make C_Told xk (da_cons de_int (da_cons (dv 0) (da_cons (dv 1) da_nil)))) (da_cons (de_comp (own := [("place", 8)]) xk sc_law_right.nd (di_range1 bn.range (da_cons (dv 0) da_nil)) (blkOk_by (N := ["places", "values", "rows", "due", "told", "spots", "known", "paper", "place", "row"]) (sc := defScope s_law_right) (by decide +kernel)) (fun s H C cl fp => (dg_name (i := 8) sc_law_right.nd rfl (Or.inr rfl))) (fun s H C cl fp => (dts_one (dt_cmp (o_eq (Xk.blk xk _ _ _ _ _).K (Xk.blk xk _ _ _ _ _).u64) (de_comp (own := [("row", 9)]) (Xk.blk xk _ _ _ _ _) sc_law_right.nd (di_seq (Xk.blk xk _ _ _ _ _).K (dv 2)) (by refine blkOk_by ?_; kernel_rfl) (fun s H C cl fp => (dg_name (i := 9) sc_law_right.nd rfl (Or.inl rfl))) (fun s H C cl fp => dts_nil) (fun s H C cl fp => (de_ix (Xk.blk (Xk.blk xk _ _ _ _ _) _ _ _ _ _).K (dv 9) (dv 8) (fun _ _ => rfl))) (by simp)) (dv 1) (by rfl)))) (fun s H C cl fp => (dv 8)) (by simp)) da_nil)) (hw := (by with_unfolding_all rfl))) (ds_cons (ds_if (dt_cmp (o_neS) (de_bi (c_repr xk) bn.repr (da_cons (de_lst (da_cons (de_callk F_is_turned xk (dk_cons (dv 4) dk_nil)) (da_cons (de_call F_keeps xk (da_cons (dv 4) (da_cons de_str da_nil))) da_nil))) da_nil)) (de_bi (c_repr xk) bn.repr (da_cons (de_lst (da_cons (dv 3) (da_cons (dv 3) da_nil))) da_nil)) (by rfl)) (ds_one (ds_ret de_bl)) ds_nil) (ds_cons (ds_par (i := 6) (j := 7) xk.calm sc_law_right.nd rfl rfl (by decide) rfl rfl (da_cons (de_callk F_known_of xk (dk_cons de_str (dk_cons (dv 4) dk_nil))) (da_cons (de_call F_kept xk (da_cons (dv 4) (da_cons de_str da_nil))) da_nil)) (hw := (by with_unfolding_all rfl))) (ds_cons (ds_if (dt_w (dw_or (dt_w (dw_and (dt_cmp (o_eq xk.K xk.u64) (dv 5) (de_lst da_nil) (by rfl)) (dw_and1 (dt_cmp (o_isn) (dv 6) de_non (by rfl))))) (dw_or1 (dt_w (dw_and (dt_cmp (o_ne xk.K xk.u64) (dv 5) (de_lst da_nil) (by rfl)) (dw_and1 (dt_neO N_Place xk (dv 6) (de_make C_Place xk (da_cons (dv 0) (da_cons (de_ix xk.K (dv 5) de_int (fun _ _ => rfl)) da_nil))) (by rfl)))))))) (ds_one (ds_ret de_bl)) ds_nil) (ds_cons (ds_if (dt_val (dv 3)) (ds_one (ds_ret (de_bi (c_isiC xk.K) bn.isinstance (da_cons (dv 7) (da_cons (de_ref r_Kept) da_nil))))) ds_nil) (ds_one (ds_ret (de_and (de_bi (c_isiC xk.K) bn.isinstance (da_cons (dv 7) (da_cons (de_ref r_Parting) da_nil))) (de_one (de_call F__law_parts xk (da_cons (dv 1) (da_cons (dv 2) (da_cons (de_fld xk.K fo.lead (dv 7)) (da_cons (de_fld xk.K fo.row (dv 7)) da_nil))))))))))))))))) ?_) (by decide)
  rintro ds R ex hl ⟨m, vs, rfl, T, hr⟩
  obtain ⟨n1, n5, m1', m4, hk, len, hv⟩ := id T
  have hk7 := kk.k7
  have hk8 := kk.k8
  have hp0 := pos2 T
  generalize hso : spotO 2 m vs = so at *
  have hks := keep_turn T
  have hgs := goes_turn T
  have hte := turn_eq T
  have hsn := @spots_ne 2 m vs
  have hse := @spots_eq 2 m vs
  rw [hso] at hsn hse
  generalize hb0 : turnL vs = b at hks hgs hte
  refine seq_to (fun env' => env' = [.val (.int m), .val (.lst (vs.map D.int)), .val (.lst ((allRows 2 m).map rowD)), .val (.bl b), .emp, .emp, .emp, .emp, .emp, .emp]) (fun de' hnx hrt => ?_) (fun env' e => ?_)
  · refine ⟨_, rfl, rfl, 2, m, rfl, n5, m1', by omega, ?_⟩
    refine ⟨_, rfl, rfl, vs, rfl, hp0, ?_⟩
    rw [hb0]
    exact ⟨small (by simp), hnx _ rfl⟩
  subst e
  refine seq_to (fun env' => env' = [.val (.int m), .val (.lst (vs.map D.int)), .val (.lst ((allRows 2 m).map rowD)), .val (.bl b), .emp, .emp, .emp, .emp, .emp, .emp]) (fun de' hnx hrt => ?_) (fun env' e => ?_)
  · refine sif_of (x := !(b == b)) (fun K hK => ?_) (fun hb => by simp at hb) (fun hb => hnx _ rfl)
    refine ⟨_, rfl, _, rfl, rfl, m, vs, rfl, T, ?_⟩
    rw [hgs]
    exact ⟨_, rfl, ne_bl ⟨_, rfl, hK⟩⟩
  subst e
  have ist : ∀ {K : Bool → Prop}, K so.isSome → gNe (.lst (((spotsL 2 m vs).map fun p : Nat => (p : Int)).map D.int)) (.lst []) fun x => ∃ b, x = .bl b ∧ K b := fun h => by
    refine ne_lst (js := []) ⟨_, rfl, ?_⟩
    rw [hsn]
    exact h
  have isq : ∀ {K : Bool → Prop}, K (!so.isSome) → gEq (.lst (((spotsL 2 m vs).map fun p : Nat => (p : Int)).map D.int)) (.lst []) fun x => ∃ b, x = .bl b ∧ K b := fun h => by
    refine eq_lst (js := []) ⟨_, rfl, ?_⟩
    rw [hse]
    exact h
  refine seq_to (fun env' => env' = [.val (.int m), .val (.lst (vs.map D.int)), .val (.lst ((allRows 2 m).map rowD)), .val (.bl b), .val (toldD 2 m vs), .val (.lst (((spotsL 2 m vs).map fun p : Nat => (p : Int)).map D.int)), .emp, .emp, .emp, .emp]) (fun de' hnx hrt => ?_) (fun env' e => ?_)
  · refine ⟨_, rfl, _, rfl, rfl, 2, m, _, vs, rfl, rfl, T, ?_⟩
    refine ⟨_, rfl, m, rfl, by omega, by omega, ?_⟩
    rw [Int.toNat_natCast, rng_nat]
    refine compL_ofF (fun i : Nat => D.int i) (fun i : Nat => D.int i) (fun p => plV 2 m (p : Nat) == vs) (fun p hp K K' hK hK' => ?_) ?_
    · have := List.mem_range.mp hp
      refine ⟨_, rfl, ?_⟩
      refine compL_of rowD (fun r => .int (atR r p)) (fun r hr2 K2 hK2 => ?_) ?_
      · exact ⟨_, rfl, _, rfl, _, (atR_in (by omega) (by rw [allRows_row 2 m r hr2]; omega) (allRows_val 2 m r hr2)).1, hK2⟩
      · rw [List.nil_append]
        refine ⟨_, rfl, ?_⟩
        have e : ((allRows 2 m).map fun r => D.int (atR r (p : Int))) = (plV 2 m p).map D.int := by unfold plV; rw [List.map_map]; rfl
        rw [e]
        refine eq_lst ⟨_, rfl, ?_⟩
        cases hb : (plV 2 m (p : Nat) == vs) with
        | true => exact ⟨_, rfl, hK hb⟩
        | false => exact hK' hb
    · rw [List.nil_append]
      refine ⟨_, _, rfl, hnx _ ?_⟩
      rw [List.map_map]
      rfl
  subst e
  have tw : ("blind" : Str) = ("two" : Str) → (2 : Nat) ≠ 1 := fun z => absurd z (by decide +kernel)
  refine seq_to (fun env' => env' = [.val (.int m), .val (.lst (vs.map D.int)), .val (.lst ((allRows 2 m).map rowD)), .val (.bl b), .val (toldD 2 m vs), .val (.lst (((spotsL 2 m vs).map fun p : Nat => (p : Int)).map D.int)), .emp, .emp, .emp, .emp]) (fun de' hnx hrt => ?_) (fun env' e => ?_)
  · refine sif_of (x := !decide (PyData.shown (.list [.bool b, .bool b]) = PyData.shown (.list [.bool b, .bool b]))) (fun K hK => ?_) (fun hb => by simp at hb) (fun hb => hnx _ rfl)
    refine ⟨_, rfl, rfl, _, rfl, .inl ⟨2, m, vs, rfl, T, fun _ => ?_, fun z => absurd rfl z⟩⟩
    refine ⟨_, rfl, rfl, 2, m, vs, _, rfl, T, man_blind, tw, ?_⟩
    rw [hte, hks]
    refine ⟨small (by simp), nilR (repr_bl2 ?_)⟩
    refine ⟨_, rfl, _, rfl, small (by simp), nilR (repr_bl2 ?_)⟩
    exact ⟨_, _, rfl, rfl, _, rfl, hK⟩
  subst e
  refine seq_to (fun env' => ∃ q, (b = true → q = keptD) ∧ (b = false → ∃ l r, l ∈ fewR "blind" 2 ∧ partO 2 m vs l = some r ∧ q = partD 2 l r) ∧ env' = [.val (.int m), .val (.lst (vs.map D.int)), .val (.lst ((allRows 2 m).map rowD)), .val (.bl b), .val (toldD 2 m vs), .val (.lst (((spotsL 2 m vs).map fun p : Nat => (p : Int)).map D.int)), .val (knownD 2 m vs), .val q, .emp, .emp]) (fun de' hnx hrt => ?_) (fun env' e => ?_)
  · refine ⟨_, rfl, rfl, 2, m, vs, rfl, T, ?_⟩
    refine ⟨_, rfl, rfl, 2, m, vs, _, rfl, T, man_blind, tw, fun hb => ?_, fun l r hl2 hpo => ?_⟩
    · rw [hks] at hb
      exact ⟨_, _, rfl, hnx _ ⟨_, fun _ => rfl, (fun z => by rw [hb] at z; cases z), rfl⟩⟩
    · refine ⟨_, _, rfl, hnx _ ⟨_, fun z => ?_, fun _ => ⟨l, r, hl2, hpo, rfl⟩, rfl⟩⟩
      exfalso
      rw [z] at hks
      have h2 := List.all_eq_true.mp hks l hl2
      rw [hpo] at h2
      cases h2
  obtain ⟨q, hq1, hq2, rfl⟩ := e
  refine seq_to (fun env' => env' = [.val (.int m), .val (.lst (vs.map D.int)), .val (.lst ((allRows 2 m).map rowD)), .val (.bl b), .val (toldD 2 m vs), .val (.lst (((spotsL 2 m vs).map fun p : Nat => (p : Int)).map D.int)), .val (knownD 2 m vs), .val q, .emp, .emp]) (fun de' hnx hrt => ?_) (fun env' e => ?_)
  · cases so with
    | none =>
      have e : knownD 2 m vs = .non := by unfold knownD; rw [hso]
      rw [e] at hnx ⊢
      refine sif_of (x := (true && false) || (false && false)) (tst_or (tst_and (fun K hK => ?_) (fun _ K hK => ?_)) (fun _ => tst_and (fun K hK => ?_) (fun hb K hK => by cases hb))) (fun hb => by cases hb) (fun _ => hnx _ rfl)
      · exact ⟨_, rfl, small (by simp), isq hK⟩
      · exact ⟨_, rfl, rfl, (fun v z => nomatch z), _, rfl, hK⟩
      · exact ⟨_, rfl, small (by simp), ist hK⟩
    | some p =>
      have e : knownD 2 m vs = placeD m p := by unfold knownD; rw [hso]
      obtain ⟨s1, s2, s3⟩ := spot_first hso
      rw [e] at hnx ⊢
      refine sif_of (x := (false && false) || (true && !(((m : Int) == m) && ((p : Int) == p)))) (tst_or (tst_and (fun K hK => ?_) (fun hb K hK => by cases hb)) (fun _ => tst_and (fun K hK => ?_) (fun hb K hK => ?_))) (fun hb => by simp at hb) (fun _ => hnx _ rfl)
      · exact ⟨_, rfl, small (by simp), isq hK⟩
      · exact ⟨_, rfl, small (by simp), ist hK⟩
      · refine ⟨_, rfl, _, rfl, _, rfl, _, s1, rfl, m, p, rfl, by omega, by omega, by omega, by omega, ?_⟩
        exact ⟨_, rfl, .inl ⟨_, rfl⟩, m, m, p, p, rfl, _, rfl, _, rfl, hK⟩
  subst e
  cases b with
  | true =>
    obtain rfl := hq1 rfl
    refine sif_of (x := true) (fun K hK => ⟨_, rfl, _, rfl, hK⟩) (fun _ => ?_) (fun hb => by cases hb)
    exact ⟨_, rfl, .ref (G.cl 7), .ref (G.cl 7), .ref (G.cl 7), true, rfl, .own _, .inr (.inr ⟨7, _, rfl, kk.i7, rfl⟩), hk7, hr⟩
  | false =>
    obtain ⟨l, r, hl2, hpo, rfl⟩ := hq2 rfl
    obtain ⟨⟨f1, f2⟩, f3, f4⟩ := fld_part fo (n := 2) (l := l) (r := r)
    refine sif_of (x := false) (fun K hK => ⟨_, rfl, _, rfl, hK⟩) (fun hb => by cases hb) (fun _ => ?_)
    refine nil_seq ?_
    dsimp only
    refine d_and (x := true) (y := true) (fun K hK => ?_) (fun _ K hK => ?_) hr
    · exact ⟨_, rfl, .ref (G.cl 8), .ref (G.cl 8), .ref (G.cl 8), true, rfl, .own _, .inr (.inr ⟨8, _, rfl, kk.i8, rfl⟩), hk8, hK⟩
    · refine ⟨_, rfl, _, rfl, _, rfl, 8, _, _, rfl, f1, f3, _, rfl, 8, _, _, rfl, f2, f4, rfl, ?_⟩
      exact ⟨m, vs, l, r, rfl, T, few_in n1 hl2, hpo, hK⟩
end
end Pg
set_option Elab.async false
set_option linter.all false
set_option maxRecDepth 100000
set_option maxHeartbeats 4100000
namespace Pg
open PySem L2 RZ Kn
section
variable {G : Gd} {P : Program} {w : World} {mg : Str → Option Value} {base : Heap} {f : Addr} {fd : FuncData}
abbrev s_law_heard : Stmt := topS 91
theorem sc_law_heard : FnScope ["ask", "caught", "error"] ["ask"] (defScope s_law_heard) := ⟨rfl, rfl, rfl, by decide +kernel, rfl, by decide +kernel, by decide +kernel⟩
/-- the errors of the law: class 4 is BadTold, 5 Misfit, 6 TellsError -/
structure XcP (G : Gd) : Prop where
  fits4 : PySem.W.exmOne G.K (.ref (G.cl 4)) (.ref (G.cl 6)) = some true
  fits5 : PySem.W.exmOne G.K (.ref (G.cl 5)) (.ref (G.cl 6)) = some true
  xc4 : XcC G.K (G.cl 4)
  xc5 : XcC G.K (G.cl 5)
  k44 : PySem.W.kitOne G.K (.ref (G.cl 4)) (.ref (G.cl 4)) = some true
  k54 : PySem.W.kitOne G.K (.ref (G.cl 5)) (.ref (G.cl 4)) = some false
  a4 : PySem.W.kitAny G.K (.ref (G.cl 4)) [.ref (G.cl 4), .ref (G.cl 5)] = some true
  a5 : PySem.W.kitAny G.K (.ref (G.cl 5)) [.ref (G.cl 4), .ref (G.cl 5)] = some true
  fl4 : G.fl 4 = [Str.ofString "part"]
  fl5 : G.fl 5 = [Str.ofString "part"]
  p4 : XfF G.K (G.cl 4) "part"
  p5 : XfF G.K (G.cl 5) "part"
/-- what is handed raises an error of class 4 or 5; a word and its part come back -/
def sHeard : LSpec := fun T R => ∃ p : D, ((∀ (Q0 : D → Prop) (ex0 : Exc → Prop), ex0 ⟨4, [p]⟩ → T Q0 ex0) ∧ R (.tup [.str "told", p])) ∨ ((∀ (Q0 : D → Prop) (ex0 : Exc → Prop), ex0 ⟨5, [p]⟩ → T Q0 ex0) ∧ R (.tup [.str "misfit", p]))
theorem ok_law_heard {g : Addr} (F : Fun G.K "_law_heard" "_law_heard" s_law_heard g fd) (bn : Bn mg) (xp : XcP G) (r_BadTold : mg "BadTold" = some (.ref (G.cl 4))) (r_Misfit : mg "Misfit" = some (.ref (G.cl 5))) (r_TellsError : mg "TellsError" = some (.ref (G.cl 6))) : FnL G P w mg base 2 g fd ["ask", "caught", "error"] "_law_heard" (defScope s_law_heard) "ask" 0 sHeard := by
  refine fnl_of (k := 1) (i := 1) (j := 2) (CV := .ref (G.cl 6)) (S := sHeard) F sc_law_heard rfl (fun cdv A outer s H => ps_set (i := 1) sc_law_heard.nd rfl (Or.inl rfl) pe_non) (fun cdv A outer s H ea pn => ps_set (i := 1) sc_law_heard.nd rfl (Or.inl rfl) (pe_var (i := 2) rfl (Or.inl rfl) (by decide) (by decide))) rfl rfl rfl (by decide) (by decide) (by decide) (Or.inl rfl) rfl r_TellsError (by decide)
    (fun cdv A outer s H hr hg => have xk := xk_def (E := E1) hr hg; (ds_cons (ds_if (dt_val (de_isiCs xk.K bn.isinstance (dv 1) (pa_cons (ps_cls r_BadTold) (pa_cons (ps_cls r_Misfit) pa_nil)) (.cons (.own _) (.cons (.own _) .nil)) (hl := by simp))) (ds_one (ds_ret (de_tup (da_cons (de_ife (dt_val (de_bi (c_isiC xk.K) bn.isinstance (da_cons (dv 1) (da_cons (de_ref r_BadTold) da_nil)))) de_str de_str) (da_cons (de_xfl xk.K (dv 1)) da_nil))))) ds_nil) (ds_one (ds_ret (de_ife (dt_cmp (o_is) (dv 1) de_non (by rfl)) de_non (de_tup (da_cons de_str (da_cons de_non da_nil)))))))) ?_
  rintro f T R ⟨p, ⟨ht, hr⟩ | ⟨ht, hr⟩⟩
  · have ty : TyD G (.exc 4 [p]) (.ref (G.cl 4)) := .inr (.inl ⟨4, _, rfl, xp.xc4, rfl⟩)
    have hf : ("part" : Str) ∈ G.fl 4 ∧ [p][(G.fl 4).idxOf ("part" : Str)]? = some p := by
      rw [xp.fl4]
      exact ⟨by decide +kernel, by rw [show ([Str.ofString "part"] : List Str).idxOf ("part" : Str) = 0 by decide +kernel]; rfl⟩
    refine ht _ _ ⟨xp.fits4, ?_⟩
    refine sif_of (x := true) (fun K hK => ⟨_, rfl, _, _, ty, xp.a4, _, rfl, hK⟩) (fun _ => ?_) (fun hb => by cases hb)
    refine ⟨_, rfl, .ref (G.cl 4), .ref (G.cl 4), .ref (G.cl 4), true, rfl, .own _, ty, xp.k44, _, rfl, ite_of (fun _ => ?_) (fun hb => by cases hb)⟩
    exact ⟨_, rfl, 4, [p], p, rfl, xp.p4, hf.1, hf.2, small (by simp), hr⟩
  · have ty : TyD G (.exc 5 [p]) (.ref (G.cl 5)) := .inr (.inl ⟨5, _, rfl, xp.xc5, rfl⟩)
    have hf : ("part" : Str) ∈ G.fl 5 ∧ [p][(G.fl 5).idxOf ("part" : Str)]? = some p := by
      rw [xp.fl5]
      exact ⟨by decide +kernel, by rw [show ([Str.ofString "part"] : List Str).idxOf ("part" : Str) = 0 by decide +kernel]; rfl⟩
    refine ht _ _ ⟨xp.fits5, ?_⟩
    refine sif_of (x := true) (fun K hK => ⟨_, rfl, _, _, ty, xp.a5, _, rfl, hK⟩) (fun _ => ?_) (fun hb => by cases hb)
    refine ⟨_, rfl, .ref (G.cl 4), .ref (G.cl 4), .ref (G.cl 5), false, rfl, .own _, ty, xp.k54, _, rfl, ite_of (fun hb => by cases hb) (fun _ => ?_)⟩
    exact ⟨_, rfl, 5, [p], p, rfl, xp.p5, hf.1, hf.2, small (by simp), hr⟩
def sTrue : FSpec := fun ds R _ => ds = [.urn] ∧ R (.bl true)
def oddL (o : D) : List D := [.non, .int 5, .bl true, .str "2 1 : 0 1", .tup [.int 2, .int 1, .tup [.int 0, .int 1]], .lst [o], placeD 1 0, .dic [] []]
theorem odd_ok {o : D} : ∀ d ∈ oddL o, oddT d := by
  intro d hd
  unfold oddL at hd
  simp only [List.mem_cons, List.not_mem_nil, or_false] at hd
  rcases hd with rfl | rfl | rfl | rfl | rfl | rfl | rfl | rfl
  · exact .inl rfl
  · exact .inl rfl
  · exact .inl rfl
  · exact .inl rfl
  · exact .inl rfl
  · exact .inl rfl
  · exact .inr ⟨_, rfl⟩
  · exact .inl rfl
theorem const_told {n m : Nat} {t : Int} (h : (decide (1 ≤ n ∧ n ≤ 5 ∧ 1 ≤ m ∧ m ≤ 4 ∧ n ^ m ≤ 256)) = true) (t0 : 0 ≤ t) (t1 : t < n) : ToldIn n m ((allRows n m).map fun _ => t) := by
  obtain ⟨h1, h2, h3, h4, h5⟩ := of_decide_eq_true h
  exact ⟨h1, h2, h3, h4, h5, by rw [List.length_map, allRows_len], fun i hi => by obtain ⟨r, _, rfl⟩ := List.mem_map.mp hi; exact ⟨t0, t1⟩⟩
def heardP : PyData := .list [.tuple [.str "told", .str "told"], .tuple [.str "misfit", .str "things"], .tuple [.str "told", .str "told"]]
abbrev s_law_refused_right : Stmt := topS 92
theorem sc_law_refused_right : FnScope ["jug", "things", "places", "thing", "other", "odd", "heard", "row"] ["jug"] (defScope s_law_refused_right) := ⟨rfl, rfl, rfl, by decide +kernel, rfl, by decide +kernel, by decide +kernel⟩
theorem ok_law_refused_right {cd : Addr} (F : FunC G.K "_law_refused_right" "_law_refused_right" s_law_refused_right f fd cd) (lt_ : LamT G base mg cd (("_law_refused_right" : Str) ++ ".<locals>." ++ "<lambda>")) (bn : Bn mg) (F__law_pick : Fk G P w mg base 2 "_law_pick" ["jug", "some"] 1 sPick) (F__law_tap : Fk G P w mg base 1 "_law_tap" ["jug", "many"] 1 sDraw) (F__law_inputs : Fk G P w mg base 1 "_law_inputs" ["things", "places"] 0 sInputsD) (C_Told : Fc G P w mg base 5 "Told" 3 ["self", "things", "places", "tells"] 0 sToldInit) (C_Place : Fc G P w mg base 6 "Place" 12 ["self", "places", "place"] 0 sPlaceI) (F_is_turned : Fk G P w mg base 4 "is_turned" ["told"] 0 sTurned) (F_known_of : Fk G P w mg base 9 "known_of" ["told", "manner"] 0 sKnownOfE) (L__law_heard : Fl G P w mg base 2 "_law_heard" ["ask", "caught", "error"] (defScope s_law_heard) "ask" 0 sHeard) : FnD G P w mg base 12 f fd ["jug"] 1024 sTrue := by
  refine FnD.more (fnd_ofC F sc_law_refused_right (fun A outer s H E hr hg => have xk := xk_def (E := E) hr hg; (ds_cons (ds_par (i := 1) (j := 2) xk.calm sc_law_refused_right.nd rfl rfl (by decide) rfl rfl (da_cons (de_call F__law_pick xk (da_cons (dv 0) (da_cons (de_lst (da_cons de_int (da_cons de_int (da_cons de_int (da_cons de_int da_nil))))) da_nil))) (da_cons (de_op (o_add xk.K) de_int (de_call F__law_tap xk (da_cons (dv 0) (da_cons de_int da_nil)))) da_nil)) (hw := (by with_unfolding_all rfl))) (ds_cons (ds_set (i := 3) sc_law_refused_right.nd rfl (Or.inr rfl) (de_call F__law_tap xk (da_cons (dv 0) (da_cons (dv 1) da_nil)))) (ds_cons (ds_set (i := 4) sc_law_refused_right.nd rfl (Or.inr rfl) (de_make C_Told xk (da_cons (dv 1) (da_cons (dv 2) (da_cons (de_comp (own := [("row", 7)]) xk sc_law_refused_right.nd (di_seq xk.K (de_call F__law_inputs xk (da_cons (dv 1) (da_cons (dv 2) da_nil)))) (blkOk_by (N := ["jug", "things", "places", "thing", "other", "odd", "heard", "row"]) (sc := defScope s_law_refused_right) (by decide +kernel)) (fun s H C cl fp => (dg_name (i := 7) sc_law_refused_right.nd rfl (Or.inl rfl))) (fun s H C cl fp => dts_nil) (fun s H C cl fp => (dv 3)) (by simp)) da_nil))))) (ds_cons (ds_set (i := 5) sc_law_refused_right.nd rfl (Or.inr rfl) (de_call F__law_pick xk (da_cons (dv 0) (da_cons (de_lst (da_cons de_non (da_cons de_int (da_cons de_bl (da_cons de_str (da_cons (de_tup (da_cons de_int (da_cons de_int (da_cons (de_tup (da_cons de_int (da_cons de_int da_nil))) da_nil)))) (da_cons (de_lst (da_cons (dv 4) da_nil)) (da_cons (de_make C_Place xk (da_cons de_int (da_cons de_int da_nil))) (da_cons de_dic0 da_nil))))))))) da_nil)))) (ds_cons (ds_own (i := 6) sc_law_refused_right.nd rfl (Or.inl rfl) (df_lst (da_cons (de_lamcall (kb := 9) L__law_heard xk lt_ rfl (LamX.lamS_by (sc := defScope s_law_refused_right) (by decide +kernel)) (fun A outer s H E2 f c2 xkl => (de_call F_is_turned xkl (da_cons (dv 5) da_nil)))) da_nil))) (ds_cons (ds_app (i := 6) rfl (de_lamcall (kb := 9) L__law_heard xk lt_ rfl (LamX.lamS_by (sc := defScope s_law_refused_right) (by decide +kernel)) (fun A outer s H E2 f c2 xkl => (de_call F_is_turned xkl (da_cons (dv 4) da_nil))))) (ds_cons (ds_app (i := 6) rfl (de_lamcall (kb := 9) L__law_heard xk lt_ rfl (LamX.lamS_by (sc := defScope s_law_refused_right) (by decide +kernel)) (fun A outer s H E2 f c2 xkl => (de_call F_known_of xkl (da_cons (dv 5) (da_cons de_str da_nil)))))) (ds_freeze (i := 6) (ds_one (ds_ret (de_cmp (o_eq xk.K xk.u64) (dv 6) (de_lst (da_cons (de_tup (da_cons de_str (da_cons de_str da_nil))) (da_cons (de_tup (da_cons de_str (da_cons de_str da_nil))) (da_cons (de_tup (da_cons de_str (da_cons de_str da_nil))) da_nil)))) (by rfl))))))))))))) ?_) (by decide)
  rintro ds R ex hl ⟨rfl, hr⟩
  refine seq_to (fun env' => ∃ n m : Nat, (decide (1 ≤ n ∧ n ≤ 5 ∧ 1 ≤ m ∧ m ≤ 4 ∧ n ^ m ≤ 256)) = true ∧ n ≠ 2 ∧ env' = [.val .urn, .val (.int n), .val (.int m), .emp, .emp, .emp, .emp, .emp]) (fun de' hnx hrt => ?_) (fun env' e => ?_)
  · refine ⟨_, rfl, small (by simp), rfl, _, _, rfl, rfl, by simp, by simp, fun i x hx => ?_⟩
    refine ⟨_, rfl, rfl, 2, rfl, by omega, by omega, fun v v0 v1 => ?_⟩
    have hm := List.mem_of_getElem? hx
    simp only [List.mem_cons, List.not_mem_nil, or_false] at hm; have hv : v = 0 ∨ v = 1 := by omega
    rcases hm with rfl | rfl | rfl | rfl <;> rcases hv with rfl | rfl
    · exact ⟨_, _, rfl, hnx _ ⟨1, 1, by decide, by decide, rfl⟩⟩
    · exact ⟨_, _, rfl, hnx _ ⟨1, 2, by decide, by decide, rfl⟩⟩
    · exact ⟨_, _, rfl, hnx _ ⟨3, 1, by decide, by decide, rfl⟩⟩
    · exact ⟨_, _, rfl, hnx _ ⟨3, 2, by decide, by decide, rfl⟩⟩
    · exact ⟨_, _, rfl, hnx _ ⟨4, 1, by decide, by decide, rfl⟩⟩
    · exact ⟨_, _, rfl, hnx _ ⟨4, 2, by decide, by decide, rfl⟩⟩
    · exact ⟨_, _, rfl, hnx _ ⟨5, 1, by decide, by decide, rfl⟩⟩
    · exact ⟨_, _, rfl, hnx _ ⟨5, 2, by decide, by decide, rfl⟩⟩
  obtain ⟨n, m, hS, n2, rfl⟩ := e
  obtain ⟨n1, n5, m1, m4, hk⟩ := of_decide_eq_true hS
  refine seq_to (fun env' => ∃ t : Int, 0 ≤ t ∧ t < n ∧ env' = [.val .urn, .val (.int n), .val (.int m), .val (.int t), .emp, .emp, .emp, .emp]) (fun de' hnx hrt => ?_) (fun env' e => ?_)
  · exact ⟨_, rfl, _, rfl, rfl, n, rfl, by omega, by omega, fun t t0 t1 => hnx _ ⟨t, t0, t1, rfl⟩⟩
  obtain ⟨t, t0, t1, rfl⟩ := e
  refine seq_to (fun env' => ∃ vs, ToldIn n m vs ∧ env' = [.val .urn, .val (.int n), .val (.int m), .val (.int t), .val (toldD n m vs), .emp, .emp, .emp]) (fun de' hnx hrt => ?_) (fun env' e => ?_)
  · refine ⟨_, rfl, _, rfl, _, rfl, _, rfl, rfl, n, m, rfl, n5, m1, by omega, ?_⟩
    refine compL_of rowD (fun _ => .int t) (fun r hr2 K hK => ⟨_, rfl, hK⟩) ?_
    rw [List.nil_append]
    have e : ((allRows n m).map fun _ => D.int t) = ((allRows n m).map fun _ => t).map D.int := by rw [List.map_map]; rfl
    rw [e]
    exact ⟨rfl, n, m, _, _, rfl, rfl, const_told hS t0 t1, hnx _ ⟨_, const_told hS t0 t1, rfl⟩⟩
  obtain ⟨vs, T, rfl⟩ := e
  refine seq_to (fun env' => ∃ d, oddT d ∧ env' = [.val .urn, .val (.int n), .val (.int m), .val (.int t), .val (toldD n m vs), .val d, .emp, .emp]) (fun de' hnx hrt => ?_) (fun env' e => ?_)
  · refine ⟨_, rfl, small (by simp), small (by simp), _, rfl, small (by simp), rfl, 1, 0, rfl, by decide, by decide, by decide, by decide, small (by simp), rfl, _, _, rfl, rfl, by simp, by simp, fun i x hx => ?_⟩
    exact hnx _ ⟨x, odd_ok (o := toldD n m vs) x (List.mem_of_getElem? hx), rfl⟩
  obtain ⟨d, ho, rfl⟩ := e
  refine seq_to (fun env' => ∃ a, env' = [.val .urn, .val (.int n), .val (.int m), .val (.int t), .val (toldD n m vs), .val d, .own a [.tup [.str "told", .str "told"]], .emp]) (fun de' hnx hrt => ?_) (fun env' e => ?_)
  · refine ⟨.str "told", .inl ⟨fun Q0 ex0 h0 => ?_, small (by simp), fun a => hnx _ ⟨a, rfl⟩⟩⟩
    exact ⟨d, rfl, rfl, d, rfl, .inr ⟨ho, h0⟩⟩
  obtain ⟨a, rfl⟩ := e
  refine seq_to (fun env' => ∃ a, env' = [.val .urn, .val (.int n), .val (.int m), .val (.int t), .val (toldD n m vs), .val d, .own a [.tup [.str "told", .str "told"], .tup [.str "misfit", .str "things"]], .emp]) (fun de' hnx hrt => ?_) (fun env' e => ?_)
  · refine ⟨a, _, rfl, .str "things", .inr ⟨fun Q0 ex0 h0 => ?_, small (by simp), hnx _ ⟨a, rfl⟩⟩⟩
    exact ⟨_, rfl, rfl, _, rfl, .inl ⟨n, m, vs, rfl, T, fun z => absurd z n2, fun _ => h0⟩⟩
  obtain ⟨a, rfl⟩ := e
  refine seq_to (fun env' => ∃ a, env' = [.val .urn, .val (.int n), .val (.int m), .val (.int t), .val (toldD n m vs), .val d, .own a [.tup [.str "told", .str "told"], .tup [.str "misfit", .str "things"], .tup [.str "told", .str "told"]], .emp]) (fun de' hnx hrt => ?_) (fun env' e => ?_)
  · refine ⟨a, _, rfl, .str "told", .inl ⟨fun Q0 ex0 h0 => ?_, small (by simp), hnx _ ⟨a, rfl⟩⟩⟩
    exact ⟨d, rfl, rfl, d, rfl, ho, h0⟩
  obtain ⟨a, rfl⟩ := e
  refine ⟨a, _, rfl, _, rfl, small (by simp), small (by simp), small (by simp), small (by simp), ?_⟩
  refine ⟨heardP, heardP, rfl, rfl, by decide +kernel, by decide +kernel, ?_⟩
  rw [show PyData.eqv heardP heardP = true by decide +kernel]
  exact hr
end
end Pg
set_option Elab.async false
set_option linter.all false
set_option maxRecDepth 100000
set_option maxHeartbeats 4100000
namespace Pg
open PySem L2 RZ Kn
open PyProof.Rows (envOfC)
section
variable {G : Gd} {P : Program} {w : World} {mg : Str → Option Value} {fa a : Addr} {fd : FuncData} {s₁ : Shared} {ns : List Int}
/-- what is asked: places, values -/
def askD (p : Nat × List Int) : D := .tup [.int p.1, .lst (p.2.map D.int)]
def AskOk (p : Nat × List Int) : Prop := ToldIn 2 p.1 p.2
def ask1 : List (Nat × List Int) := (List.range 4).map fun (k : Nat) => (1, digL (k : Int) 2)
def ask2 : List (Nat × List Int) := (List.range 16).map fun (k : Nat) => (2, digL (k : Int) 4)
def ask3 : List (Nat × List Int) := (List.range 8).map fun (k : Nat) => (3, halfL (digL (k : Int) 3))
def askI : Nat → List (Nat × List Int)
  | 0 => []
  | 1 => ask1
  | _ => ask1 ++ ask2
theorem bits_told {m : Nat} {vs : List Int} (m1 : 1 ≤ m) (m2 : m ≤ 4) (hl : vs.length = 2 ^ m) (h : ∀ v ∈ vs, 0 ≤ v ∧ v < 2) : ToldIn 2 m vs :=
  ⟨by decide, by decide, m1, m2, by (have : m = 1 ∨ m = 2 ∨ m = 3 ∨ m = 4 := by omega); rcases this with rfl | rfl | rfl | rfl <;> decide, hl, h⟩
theorem dig_bits {x : Int} {k : Nat} : (digL x k).length = k ∧ ∀ v ∈ digL x k, 0 ≤ v ∧ v < 2 :=
  ⟨by simp [digL], fun v hv => by
    obtain ⟨j, _, rfl⟩ := List.mem_map.mp hv
    omega⟩
theorem half_bits {vs : List Int} (h : ∀ v ∈ vs, 0 ≤ v ∧ v < 2) : (halfL vs).length = 2 * (vs.length + 1) ∧ ∀ v ∈ halfL vs, 0 ≤ v ∧ v < 2 := by
  have h2 : ∀ v ∈ 0 :: vs, 0 ≤ v ∧ v < 2 := fun v hv => by
    rcases List.mem_cons.mp
          hv with rfl | hv
    · omega
    · exact h v hv
  refine ⟨by unfold halfL; simp; omega, fun v hv => ?_⟩
  unfold halfL at hv
  rcases List.mem_append.mp hv with hv | hv
  · exact h2 v hv
  · obtain ⟨u, hu, rfl⟩ := List.mem_map.mp hv
    have := h2 u (List.mem_reverse.mp hu)
    omega
theorem ask123 : ∀ p ∈ ask1 ++ ask2 ++ ask3, AskOk p := fun p hp => by
  rcases List.mem_append.mp
        hp with hp | hp
  · rcases List.mem_append.mp
        hp with hp | hp
    · obtain ⟨k, hk, rfl⟩ := List.mem_map.mp hp
      exact bits_told (m := 1) (by decide) (by decide) dig_bits.1 dig_bits.2
    · obtain ⟨k, hk, rfl⟩ := List.mem_map.mp hp
      exact bits_told (m := 2) (by decide) (by decide) dig_bits.1 dig_bits.2
  · obtain ⟨k, hk, rfl⟩ := List.mem_map.mp hp
    have h := half_bits (dig_bits (x := k) (k := 3)).2
    exact bits_told (m := 3) (by decide) (by decide) (by rw [h.1, dig_bits.1]) h.2
theorem sl_to {k : Nat} {ds : List D} {Q : D → Prop} (h : Q (.lst (ds.take k))) : gSl none (some (k : Int)) (.lst ds) Q := by
  show Q (.lst (cutD ds none (some (k : Int))))
  have e : cutD ds none (some (k : Int)) = ds.take k := by
    unfold cutD
    rw [HT.sIx_none, List.drop_zero, Nat.sub_zero, HT.sIx_nat]
    rcases Nat.le_total k ds.length with h | h
    · rw [Nat.min_eq_left h]
    · rw [Nat.min_eq_right h, List.take_length, List.take_of_length_le h]
  rw [e]
  exact h
theorem cnt8 : ((List.range 256).filter fun (k : Nat) => turnL (digL (k : Int) 8)).length = 8 := by decide +kernel
def cntS (s : Int) : Nat := ((ask1 ++ ask2).filter fun p => ((p.2.length : Nat) : Int) == s && turnL p.2).length
theorem cnt24 : [(2 : Int), 4].map (fun s => ((cntS s : Nat) : Int)) = [1, 2] := by decide +kernel
/-- the facts of the law's callees, over the urn -/
structure Calls (G : Gd) (P : Program) (w : World) (mg : Str → Option Value) (base : Heap) : Prop where
  tap : Fk G P w mg base 1 "_law_tap" ["jug", "many"] 1 sDraw
  bent : Fk G P w mg base 2 "_law_bent" ["jug", "values"] 1 sBent
  dig : Fk G P w mg base 1 "_law_digits" ["number", "many"] 0 sDig
  half : Fk G P w mg base 1 "_law_half" ["half"] 0 sHalf
  trn : Fk G P w mg base 1 "_law_is_turned" ["values"] 0 sIsTurned
  right : Fk G P w mg base 10 "_law_right" ["places", "values"] 0 sRight
  refd : Fk G P w mg base 12 "_law_refused_right" ["jug"] 1024 sTrue
abbrev s_law : Stmt := topS 94
theorem sc_law : FnScope ["script", "jug", "asked", "places", "many", "turn", "half", "values", "number", "size"] ["script"] (defScope s_law) := ⟨rfl, rfl, rfl, by decide +kernel, rfl, by decide +kernel, by decide +kernel⟩
theorem ok_law {cd cr Pt : Addr} {q : Str} (hGu : G.u = none) (F : FunC G.K "law" "law" s_law fa fd cd) (hb : ∀ (s : Shared) (v : Value), BindsTo s fd ⟨[v], []⟩ [("script", v)]) (bn : Bn mg) (hlen : ns.length ≤ 63) (hr : Room 13 callerA)
    (hC : ∀ (p : Addr × Addr) (base : Heap), LamX.TabB base mg cr Pt → Calls { G with u := some (p, [(Pt, q)]) } P w mg base)
    (h0 : ∀ (base : Heap) (H : Hp), Room 12 (callerA.deeper (envOfC "law" (defScope s_law) s₁.heap.objs.size fa (.ref cd))) → PS (cxOf (L2.CX P w) P w G.K mg base ["script", "jug", "asked", "places", "many", "turn", "half", "values", "number", "size"] "law" (defScope s_law) fa (.ref cd) callerA [] s₁ H EF) ((defBody s_law).getD 0 (.Pass ⟨0, 0, 0, 0⟩)) (tAsg (tCall (spPen G.K) [] EF (tCons (tVar 0) tNil)) (gName 1))) :
    LawOkT P w G.K mg fa a ns s₁ [(cr, Pt)] := by
  refine law_of (T := [(Pt, q)]) (fun t ht => ⟨(cr, Pt), List.mem_singleton_self _, by rw [List.mem_singleton.mp ht]⟩) hGu F sc_law hb hr (by decide) rfl ?_ hlen h0 (fun p b base H tb rm => have xk := xk_def (G := { G with u := some ((p, b), [(Pt, q)]) }) (E := EF) rm rfl; have Cc := hC (p, b) base (tb (cr, Pt) (List.mem_singleton_self _)); (ds_cons (ds_own (i := 2) sc_law.nd rfl (Or.inr rfl) (df_lst da_nil)) (ds_cons (ds_for xk po_def (di_seq xk.K (de_tup (da_cons (de_tup (da_cons de_int (da_cons de_int da_nil))) (da_cons (de_tup (da_cons de_int (da_cons de_int da_nil))) da_nil)))) (dg_two (i := 3) (j := 4) xk.K xk.calm sc_law.nd rfl (Or.inr rfl) rfl (Or.inr rfl) (pg_name sc_law.nd rfl (Or.inr rfl)) (pg_name sc_law.nd rfl (Or.inr rfl))) (ds_one (ds_ext (i := 2) rfl (de_comp (own := [("number", 8)]) xk sc_law.nd (di_range1 bn.range (da_cons (de_ife (dt_cmp (o_eq xk.K xk.u64) (dv 3) de_int (by rfl)) de_int de_int) da_nil)) (blkOk_by (N := ["script", "jug", "asked", "places", "many", "turn", "half", "values", "number", "size"]) (sc := defScope s_law) (by decide +kernel)) (fun s H C cl fp => (dg_name (i := 8) sc_law.nd rfl (Or.inl rfl))) (fun s H C cl fp => dts_nil) (fun s H C cl fp => (de_tup (da_cons (dv 3) (da_cons (de_call Cc.dig (Xk.blk xk _ _ _ _ _) (da_cons (dv 8) (da_cons (dv 4) da_nil))) da_nil)))) (by simp))))) (ds_cons (ds_ext (i := 2) rfl (de_comp (own := [("number", 8)]) xk sc_law.nd (di_range1 bn.range (da_cons de_int da_nil)) (blkOk_by (N := ["script", "jug", "asked", "places", "many", "turn", "half", "values", "number", "size"]) (sc := defScope s_law) (by decide +kernel)) (fun s H C cl fp => (dg_name (i := 8) sc_law.nd rfl (Or.inl rfl))) (fun s H C cl fp => dts_nil) (fun s H C cl fp => (de_tup (da_cons de_int (da_cons (de_call Cc.half (Xk.blk xk _ _ _ _ _) (da_cons (de_call Cc.dig (Xk.blk xk _ _ _ _ _) (da_cons (dv 8) (da_cons de_int da_nil))) da_nil)) da_nil)))) (by simp))) (ds_cons (ds_for xk po_def (di_range1 bn.range (da_cons de_int da_nil)) (dg_name (i := 5) sc_law.nd rfl (Or.inl rfl)) (ds_cons (ds_set (i := 6) sc_law.nd rfl (Or.inl rfl) (de_call Cc.dig xk (da_cons (de_call Cc.tap xk (da_cons (dv 1) (da_cons de_int da_nil))) (da_cons de_int da_nil)))) (ds_cons (ds_app (i := 2) rfl (de_tup (da_cons de_int (da_cons (de_call Cc.bent xk (da_cons (dv 1) (da_cons (de_call Cc.half xk (da_cons (de_call Cc.dig xk (da_cons (de_call Cc.tap xk (da_cons (dv 1) (da_cons de_int da_nil))) (da_cons de_int da_nil))) da_nil)) da_nil))) da_nil)))) (ds_cons (ds_app (i := 2) rfl (de_tup (da_cons de_int (da_cons (de_call Cc.dig xk (da_cons (de_call Cc.tap xk (da_cons (dv 1) (da_cons de_int da_nil))) (da_cons de_int da_nil))) da_nil)))) (ds_one (ds_app (i := 2) rfl (de_tup (da_cons de_int (da_cons (de_ife (dt_cmp (o_eq xk.K xk.u64) (dv 5) de_int (by rfl)) (de_call Cc.half xk (da_cons (dv 6) da_nil)) (de_call Cc.bent xk (da_cons (dv 1) (da_cons (de_call Cc.half xk (da_cons (dv 6) da_nil)) da_nil)))) da_nil))))))))) (ds_freeze (i := 2) (ds_cons (ds_for xk po_def (di_seq xk.K (dv 2)) (dg_two (i := 3) (j := 7) xk.K xk.calm sc_law.nd rfl (Or.inr rfl) rfl (Or.inl rfl) (pg_name sc_law.nd rfl (Or.inr rfl)) (pg_name sc_law.nd rfl (Or.inl rfl))) (ds_one (ds_if (dt_not (dt_val (de_call Cc.right xk (da_cons (dv 3) (da_cons (dv 7) da_nil))))) (ds_one (ds_ret de_bl)) ds_nil))) (ds_cons (ds_own (i := 4) sc_law.nd rfl (Or.inr rfl) (df_lst (da_cons (de_bi (c_len xk.K) bn.len (da_cons (de_comp (own := [("number", 8)]) xk sc_law.nd (di_range1 bn.range (da_cons de_int da_nil)) (blkOk_by (N := ["script", "jug", "asked", "places", "many", "turn", "half", "values", "number", "size"]) (sc := defScope s_law) (by decide +kernel)) (fun s H C cl fp => (dg_name (i := 8) sc_law.nd rfl (Or.inl rfl))) (fun s H C cl fp => (dts_one (dt_val (de_call Cc.trn (Xk.blk xk _ _ _ _ _) (da_cons (de_call Cc.dig (Xk.blk xk _ _ _ _ _) (da_cons (dv 8) (da_cons de_int da_nil))) da_nil))))) (fun s H C cl fp => de_int) (by simp)) da_nil)) da_nil))) (ds_cons (ds_ext (i := 4) rfl (de_comp (own := [("size", 9)]) xk sc_law.nd (di_seq xk.K (de_tup (da_cons de_int (da_cons de_int da_nil)))) (blkOk_by (N := ["script", "jug", "asked", "places", "many", "turn", "half", "values", "number", "size"]) (sc := defScope s_law) (by decide +kernel)) (fun s H C cl fp => (dg_name (i := 9) sc_law.nd rfl (Or.inr rfl))) (fun s H C cl fp => dts_nil) (fun s H C cl fp => (de_bi (c_len (Xk.blk xk _ _ _ _ _).K) bn.len (da_cons (de_comp (own := [("values", 7)]) (Xk.blk xk _ _ _ _ _) sc_law.nd (di_seq (Xk.blk xk _ _ _ _ _).K (de_sl (Xk.blk xk _ _ _ _ _).K (dv 2) do_none (do_some de_int))) (by refine blkOk_by ?_; kernel_rfl) (fun s H C cl fp => (dg_name (i := 7) sc_law.nd rfl (Or.inl rfl))) (fun s H C cl fp => (dts_one (dt_w (dw_and (dt_cmp (o_eq (Xk.blk (Xk.blk xk _ _ _ _ _) _ _ _ _ _).K (Xk.blk (Xk.blk xk _ _ _ _ _) _ _ _ _ _).u64) (de_bi (c_len (Xk.blk (Xk.blk xk _ _ _ _ _) _ _ _ _ _).K) bn.len (da_cons (de_ix (Xk.blk (Xk.blk xk _ _ _ _ _) _ _ _ _ _).K (dv 7) de_int (fun _ _ => rfl)) da_nil)) (dv 9) (by rfl)) (dw_and1 (dt_val (de_call Cc.trn (Xk.blk (Xk.blk xk _ _ _ _ _) _ _ _ _ _) (da_cons (de_ix (Xk.blk (Xk.blk xk _ _ _ _ _) _ _ _ _ _).K (dv 7) de_int (fun _ _ => rfl)) da_nil)))))))) (fun s H C cl fp => de_int) (by simp)) da_nil))) (by simp))) (ds_freeze (i := 4) (ds_one (ds_ret (de_and (de_cmp (o_eq xk.K xk.u64) (dv 4) (de_lst (da_cons de_int (da_cons de_int (da_cons de_int da_nil)))) (by rfl)) (de_one (de_call Cc.refd xk (da_cons (dv 1) da_nil)))))))))))))))) ?_
  · decide
  refine seq_to (fun env' => ∃ a, env' = [.emp, .val .urn, .own a [], .emp, .emp, .emp, .emp, .emp, .emp, .emp]) (fun de' hnx hrt => ?_) (fun env' e => ?_)
  · exact ⟨small (by simp), fun a => hnx _ ⟨a, rfl⟩⟩
  obtain ⟨a0, rfl⟩ := e
  refine seq_to (fun env' => ∃ a s3 s4 s8 s9, env' = [.emp, .val .urn, .own a ((ask1 ++ ask2).map askD), s3, s4, .emp, .emp, .emp, s8, s9]) (fun de' hnx hrt => ?_) (fun env' e => ?_)
  · refine ⟨small (by simp), small (by simp), small (by simp), ?_⟩
    refine sForL_of (fun p : Nat × Nat => .tup [.int p.1, .int p.2]) (xs := [(1, 2), (2, 4)]) (fun i env => ∃ a s3 s4 s8 s9, env = [.emp, .val .urn, .own a ((askI i).map askD), s3, s4, .emp, .emp, .emp, s8, s9]) ⟨a0, .emp, .emp, .emp, .emp, rfl⟩ (fun i p env hi hI nx hn2 => ?_) (fun env hI => ?_)
    · obtain ⟨a, s3, s4, s8, s9, rfl⟩ := hI
      match i, hi with
      | 0, hi =>
        cases hi
        refine tg_two ?_
        refine ⟨a, _, rfl, _, rfl, eqC (eq_int ⟨_, rfl, ite_of (fun hb => ?_) (fun hb => by simp at hb)⟩)⟩
        refine ⟨4, rfl, by omega, by omega, ?_⟩
        rw [show rangeD 0 (Int.toNat 4) = (List.range 4).map fun (k : Nat) => D.int (k : Int) from rng_nat 4]
        refine compL_of (fun k : Nat => D.int (k : Int)) (fun k : Nat => askD (1, digL (k : Int) 2)) (fun k hk K hK => ?_) ?_
        · exact ⟨_, rfl, _, rfl, _, rfl, rfl, k, 2, rfl, by omega, small (by simp), hK⟩
        · rw [List.nil_append]
          refine ⟨_, rfl, small (by simp [askI]), hn2 _ ⟨a, .val (.int 1), .val (.int 2), s8, s9, ?_⟩⟩
          show _ = [Sl.emp, .val .urn, .own a (ask1.map askD), _, _, _, _, _, _, _]
          unfold ask1
          rw [List.map_map]
          rfl
      | 1, hi =>
        cases hi
        refine tg_two ?_
        refine ⟨a, _, rfl, _, rfl, eqC (eq_int ⟨_, rfl, ite_of (fun hb => by simp at hb) (fun hb => ?_)⟩)⟩
        refine ⟨16, rfl, by omega, by omega, ?_⟩
        rw [show rangeD 0 (Int.toNat 16) = (List.range 16).map fun (k : Nat) => D.int (k : Int) from rng_nat 16]
        refine compL_of (fun k : Nat => D.int (k : Int)) (fun k : Nat => askD (2, digL (k : Int) 4)) (fun k hk K hK => ?_) ?_
        · exact ⟨_, rfl, _, rfl, _, rfl, rfl, k, 4, rfl, by omega, small (by simp), hK⟩
        · rw [List.nil_append]
          refine ⟨_, rfl, small (by simp [askI, ask1]), hn2 _ ⟨a, .val (.int 2), .val (.int 4), s8, s9, ?_⟩⟩
          show _ = [Sl.emp, .val .urn, .own a ((ask1 ++ ask2).map askD), _, _, _, _, _, _, _]
          have e : (ask1 ++ ask2).map askD = ask1.map askD ++ (List.range 16).map fun k : Nat => askD (2, digL (k : Int) 4) := by
            rw [List.map_append]
            unfold ask2
            rw [List.map_map]
            rfl
          rw [e]
          rfl
    · obtain ⟨a, s3, s4, s8, s9, rfl⟩ := hI
      exact hnx _ ⟨a, s3, s4, s8, s9, rfl⟩
  obtain ⟨a, s3, s4, s8, s9, rfl⟩ := e
  refine seq_to (fun env' => ∃ a s8 s9, env' = [.emp, .val .urn, .own a ((ask1 ++ ask2 ++ ask3).map askD), s3, s4, .emp, .emp, .emp, s8, s9]) (fun de' hnx hrt => ?_) (fun env' e => ?_)
  · refine ⟨a, _, rfl, 8, rfl, by omega, by omega, ?_⟩
    rw [show rangeD 0 (Int.toNat 8) = (List.range 8).map fun (k : Nat) => D.int (k : Int) from rng_nat 8]
    refine compL_of (fun k : Nat => D.int (k : Int)) (fun k : Nat => askD (3, halfL (digL (k : Int) 3))) (fun k hk K hK => ?_) ?_
    · exact ⟨_, rfl, rfl, k, 3, rfl, by omega, rfl, digL (k : Int) 3, rfl, by simp [digL], small (by simp), hK⟩
    · rw [List.nil_append]
      refine ⟨_, rfl, small (by simp [ask1, ask2]), hnx _ ⟨a, s8, s9, ?_⟩⟩
      have e : (ask1 ++ ask2 ++ ask3).map askD = (ask1 ++ ask2).map askD ++ (List.range 8).map fun k : Nat => askD (3, halfL (digL (k : Int) 3)) := by
        rw [List.map_append]
        unfold ask3
        rw [List.map_map]
        rfl
      rw [e]
      rfl
  obtain ⟨a, s8, s9, rfl⟩ := e
  refine seq_to (fun env' => ∃ a s5 s6 s8 s9, ∃ xs : List (Nat × List Int), (∀ p ∈ ask1 ++ ask2 ++ ask3 ++ xs, AskOk p) ∧ env' = [.emp, .val .urn, .own a ((ask1 ++ ask2 ++ ask3 ++ xs).map askD), s3, s4, s5, s6, .emp, s8, s9]) (fun de' hnx hrt => ?_) (fun env' e => ?_)
  · refine ⟨3, rfl, by omega, by omega, ?_⟩
    refine sForL_rng (fun i env => ∃ a s5 s6 s8 s9, ∃ xs : List (Nat × List Int), (∀ p ∈ ask1 ++ ask2 ++ ask3 ++ xs, AskOk p) ∧ xs.length = 3 * i ∧ env = [.emp, .val .urn, .own a ((ask1 ++ ask2 ++ ask3 ++ xs).map askD), s3, s4, s5, s6, .emp, s8, s9]) ⟨a, .emp, .emp, s8, s9, [], by rw [List.append_nil]; exact ask123, rfl, by rw [List.append_nil]⟩ (fun i env hi hI nx hn2 => ?_) (fun env hI => ?_)
    · obtain ⟨a, s5, s6, s8, s9, xs, hxs, hxl, rfl⟩ := hI
      have hi3 : i < 3 := hi
      have hadd : ∀ (ys : List (Nat × List Int)) (p : Nat × List Int), (∀ p ∈ ask1 ++ ask2 ++ ask3 ++ ys, AskOk p) → AskOk p → ∀ q ∈ ask1 ++ ask2 ++ ask3 ++ (ys ++ [p]), AskOk q := fun ys p h1 h2 q hq => by
        rw [← List.append_assoc] at hq; rcases List.mem_append.mp hq with hq | hq
        · exact h1 q hq
        · rw [List.mem_singleton.mp hq]; exact h2
      have hmap : ∀ (ys : List (Nat × List Int)) (p : Nat × List Int), (ask1 ++ ask2 ++ ask3 ++ (ys ++ [p])).map askD = (ask1 ++ ask2 ++ ask3 ++ ys).map askD ++ [askD p] := fun ys p => by rw [← List.append_assoc, List.map_append]; rfl
      have hlen : ∀ (ys : List (Nat × List Int)), ys.length ≤ 100 → ((ask1 ++ ask2 ++ ask3 ++ ys).map askD).length + 1 ≤ sizeLine := fun ys h => small (by simp [ask1, ask2, ask3]; omega)
      refine seq_to (fun env' => ∃ h : List Int, h.length = 7 ∧ (∀ v ∈ h, 0 ≤ v ∧ v < 2) ∧ env' = [.emp, .val .urn, .own a ((ask1 ++ ask2 ++ ask3 ++ xs).map askD), s3, s4, .val (.int i), .val (.lst (h.map D.int)), .emp, s8, s9]) (fun de2 hnx2 hrt2 => ?_) (fun env' e => ?_)
      · exact ⟨_, rfl, rfl, 128, rfl, by omega, by omega, fun v _ _ => ⟨rfl, v, 7, rfl, by omega, hnx2 _ ⟨digL v 7, dig_bits.1, dig_bits.2, rfl⟩⟩⟩
      obtain ⟨h, h7, hb, rfl⟩ := e
      refine seq_to (fun env' => ∃ a us, us.length = 8 ∧ (∀ v ∈ us, 0 ≤ v ∧ v < 2) ∧ env' = [.emp, .val .urn, .own a ((ask1 ++ ask2 ++ ask3 ++ (xs ++ [(3, us)])).map askD), s3, s4, .val (.int i), .val (.lst (h.map D.int)), .emp, s8, s9]) (fun de2 hnx2 hrt2 => ?_) (fun env' e => ?_)
      · refine ⟨a, _, rfl, _, rfl, _, rfl, rfl, 8, rfl, by omega, by omega, fun v _ _ => ⟨rfl, v, 3, rfl, by omega, rfl, digL v 3, rfl, by simp [digL], ?_⟩⟩
        have hh := half_bits (dig_bits (x := v) (k := 3)).2
        rw [dig_bits.1] at hh
        refine ⟨rfl, _, rfl, by omega, by omega, hh.2, fun us ul ub => ⟨small (by simp), hlen xs (by omega), hnx2 _ ⟨a, us, ul.trans hh.1, ub, ?_⟩⟩⟩
        rw [hmap]
        rfl
      obtain ⟨a, us, ul, ub, rfl⟩ := e
      have T1 : AskOk (3, us) := bits_told (m := 3) (by decide) (by decide) ul ub
      have hx1 := hadd xs _ hxs T1
      refine seq_to (fun env' => ∃ a us2, us2.length = 8 ∧ (∀ v ∈ us2, 0 ≤ v ∧ v < 2) ∧ env' = [.emp, .val .urn, .own a ((ask1 ++ ask2 ++ ask3 ++ (xs ++ [(3, us)] ++ [(3, us2)])).map askD), s3, s4, .val (.int i), .val (.lst (h.map D.int)), .emp, s8, s9]) (fun de2 hnx2 hrt2 => ?_) (fun env' e => ?_)
      · refine ⟨a, _, rfl, _, rfl, rfl, 256, rfl, by omega, by omega, fun v _ _ => ⟨rfl, v, 8, rfl, by omega, small (by simp), hlen _ (by simp; omega), hnx2 _ ⟨a, digL v 8, dig_bits.1, dig_bits.2, ?_⟩⟩⟩
        rw [hmap (xs ++ [(3, us)])]
        rfl
      obtain ⟨a, us2, ul2, ub2, rfl⟩ := e
      have T2 : AskOk (3, us2) := bits_told (m := 3) (by decide) (by decide) ul2 ub2
      have hx2 := hadd _ _ hx1 T2
      have hh := half_bits hb
      rw [h7] at hh
      have fin : ∀ us3 : List Int, us3.length = 16 → (∀ v ∈ us3, 0 ≤ v ∧ v < 2) → nx [.emp, .val .urn, .own a ((ask1 ++ ask2 ++ ask3 ++ (xs ++ [(3, us)] ++ [(3, us2)])).map askD ++ [askD (4, us3)]), s3, s4, .val (.int i), .val (.lst (h.map D.int)), .emp, s8, s9] := fun us3 l3 b3 => by
        have e3 : (xs ++ [(3, us)] ++ [(3, us2)] ++ [(4, us3)]).length = 3 * (i + 1) := by simp; omega
        refine hn2 _ ⟨a, .val (.int i), .val (.lst (h.map D.int)), s8, s9, xs ++ [(3, us)] ++ [(3, us2)] ++ [(4, us3)], hadd _ _ hx2 (bits_told (m := 4) (by decide) (by decide) l3 b3), e3, ?_⟩
        rw [hmap (xs ++ [(3, us)] ++ [(3, us2)])]
      refine ⟨a, _, rfl, ?_⟩
      refine ⟨_, rfl, eqC (eq_int ⟨_, rfl, ite_of (fun hb2 => ?_) (fun hb2 => ?_)⟩)⟩
      · exact ⟨_, rfl, rfl, h, rfl, by omega, small (by simp), hlen _ (by simp; omega), fin _ hh.1 hh.2⟩
      · exact ⟨_, rfl, _, rfl, rfl, h, rfl, by omega, rfl, _, rfl, by omega, by omega, hh.2, fun us3 l3 b3 => ⟨small (by simp), hlen _ (by simp; omega), fin us3 (l3.trans hh.1) b3⟩⟩
    · obtain ⟨a, s5, s6, s8, s9, xs, hxs, hxl, rfl⟩ := hI
      exact hnx _ ⟨a, s5, s6, s8, s9, xs, hxs, rfl⟩
  obtain ⟨a, s5, s6, s8, s9, xs, hxs, rfl⟩ := e
  refine ⟨a, _, rfl, ?_⟩
  dsimp only [List.set]
  refine seq_to (fun env' => ∃ s3 s7, env' = [.emp, .val .urn, .val (.lst ((ask1 ++ ask2 ++ ask3 ++ xs).map askD)), s3, s4, s5, s6, s7, s8, s9]) (fun de' hnx hrt => ?_) (fun env' e => ?_)
  · refine ⟨_, rfl, ?_⟩
    refine sForL_of askD (fun i env => ∃ s3 s7, env = [.emp, .val .urn, .val (.lst ((ask1 ++ ask2 ++ ask3 ++ xs).map askD)), s3, s4, s5, s6, s7, s8, s9]) ⟨s3, .emp, rfl⟩ (fun i p env hi hI nx hn2 => ?_) (fun env hI => hnx _ hI)
    obtain ⟨s3, s7, rfl⟩ := hI
    have T : AskOk p := hxs p (List.mem_of_getElem? hi)
    refine tg_two ?_
    exact sif_of (x := !true) (fun K hK => ⟨_, rfl, _, rfl, rfl, p.1, p.2, rfl, T, true, rfl, hK⟩) (fun hb => by simp at hb) fun hb => hn2 _ ⟨_, _, rfl⟩
  obtain ⟨s3, s7, rfl⟩ := e
  refine seq_to (fun env' => ∃ a, env' = [.emp, .val .urn, .val (.lst ((ask1 ++ ask2 ++ ask3 ++ xs).map askD)), s3, .own a [.int 8], s5, s6, s7, s8, s9]) (fun de' hnx hrt => ?_) (fun env' e => ?_)
  · refine ⟨256, rfl, by omega, by omega, ?_⟩
    rw [show rangeD 0 (Int.toNat 256) = (List.range 256).map fun (k : Nat) => D.int (k : Int) from rng_nat 256]
    refine compL_ofF (fun k : Nat => D.int (k : Int)) (fun _ => .int 1) (fun k : Nat => turnL (digL (k : Int) 8)) (fun k hk K K' hK hK' => ?_) ?_
    · exact ⟨_, rfl, rfl, k, 8, rfl, by omega, rfl, digL (k : Int) 8, rfl, by simp [digL], _, rfl, ite_of (fun hb => hK hb) (fun hb => hK' hb)⟩
    · rw [List.nil_append]
      refine nilLen ?_
      rw [List.length_map, cnt8]
      exact ⟨small (by simp), fun a => hnx _ ⟨a, rfl⟩⟩
  obtain ⟨a, rfl⟩ := e
  refine seq_to (fun env' => ∃ a, env' = [.emp, .val .urn, .val (.lst ((ask1 ++ ask2 ++ ask3 ++ xs).map askD)), s3, .own a [.int 8, .int 1, .int 2], s5, s6, s7, s8, s9]) (fun de' hnx hrt => ?_) (fun env' e => ?_)
  · refine ⟨a, _, rfl, small (by simp), ?_⟩
    refine compL_of (xs := [(2 : Int), 4]) D.int (fun s => .int (cntS s : Nat)) (fun s hs K hK => ?_) ?_
    · refine ⟨_, rfl, 20, rfl, ?_⟩
      refine sl_to (k := 20) ?_
      have e20 : ((ask1 ++ ask2 ++ ask3 ++ xs).map askD).take 20 = (ask1 ++ ask2).map askD := by
        rw [← List.map_take, List.append_assoc (ask1 ++ ask2), List.take_append_of_le_length (by simp [ask1, ask2])]
        rw [List.take_of_length_le (by simp [ask1, ask2])]
      rw [e20]
      refine compL_ofF askD (fun _ => .int 1) (fun p => ((p.2.length : Nat) : Int) == s && turnL p.2) (fun p hp K2 K2' h1 h2 => ?_) ?_
      · have T : AskOk p := ask123 p (List.mem_append_left _ hp)
        have hpos := pos2 T
        refine tst_and (x := ((p.2.length : Nat) : Int) == s) (y := turnL p.2) (fun K3 hK3 => ?_) (fun _ K3 hK3 => ?_) _ ?_
        · refine ⟨_, rfl, _, rfl, nilLen ?_⟩
          rw [List.length_map]
          exact ⟨_, rfl, eq_int ⟨_, rfl, hK3⟩⟩
        · exact ⟨_, rfl, _, rfl, rfl, p.2, rfl, hpos, _, rfl, hK3⟩
        · exact ite_of (fun hb => h1 hb) (fun hb => h2 hb)
      · rw [List.nil_append]
        refine nilLen ?_
        rw [List.length_map]
        exact hK
    · have e : ([(2 : Int), 4].map fun s => D.int ((cntS s : Nat) : Int)) = [.int 1, .int 2] := by
        have h := congrArg (List.map D.int) cnt24
        rw [List.map_map] at h
        exact h
      rw [List.nil_append, e]
      exact ⟨_, rfl, small (by simp), hnx _ ⟨a, rfl⟩⟩
  obtain ⟨a, rfl⟩ := e
  refine ⟨a, _, rfl, ?_⟩
  dsimp only [List.set]
  refine d_and (x := true) (y := true) (fun K hK => ?_) (fun _ K hK => ⟨_, rfl, rfl, rfl, hK⟩) rfl
  refine ⟨_, rfl, small (by simp), ?_⟩
  refine eq_lst (is := [8, 1, 2]) (js := [8, 1, 2]) ?_
  simpa using hK
end
end Pg
set_option Elab.async false
set_option linter.all false
set_option maxRecDepth 100000
set_option maxHeartbeats 4100000
namespace Pg
open PySem L2 RZ Kn
/-- the classes that the law reaches: their addresses, their fields -/
def clK (a1 a2 a3 a4 a5 a6 a7 a8 a9 a10 a11 a12 a13 : Addr) : Nat → Addr
  | 1 => a1
  | 2 => a2
  | 3 => a3
  | 4 => a4
  | 5 => a5
  | 6 => a6
  | 7 => a7
  | 8 => a8
  | 9 => a9
  | 10 => a10
  | 11 => a11
  | 12 => a12
  | 13 => a13
  | _ => 0
def flK : Nat → List Str
  | 1 => ["begin", "into", "row"]
  | 2 => ["words", "taken"]
  | 3 => ["things", "places", "tells"]
  | 4 => ["part"]
  | 5 => ["part"]
  | 6 => []
  | 7 => ["word", "parts"]
  | 8 => ["word", "parts", "lead", "row"]
  | 9 => []
  | 10 => []
  | 11 => []
  | 12 => ["places", "place"]
  | 13 => []
  | _ => []
section
variable {K : PySem.W.Frag} {a1 a2 a3 a4 a5 a6 a7 a8 a9 a10 a11 a12 a13 : Addr} {u : Option Ur} {f : Str}
theorem fld_ok (h1 : f ∈ (["begin", "into", "row"] : List Str) → Cls K a1 ∧ NoAttr K a1 f) (h2 : f ∈ (["words", "taken"] : List Str) → Cls K a2 ∧ NoAttr K a2 f) (h3 : f ∈ (["things", "places", "tells"] : List Str) → Cls K a3 ∧ NoAttr K a3 f) (h4 : f ∈ (["part"] : List Str) → Cls K a4 ∧ NoAttr K a4 f) (h5 : f ∈ (["part"] : List Str) → Cls K a5 ∧ NoAttr K a5 f) (h6 : f ∈ ([] : List Str) → Cls K a6 ∧ NoAttr K a6 f) (h7 : f ∈ (["word", "parts"] : List Str) → Cls K a7 ∧ NoAttr K a7 f) (h8 : f ∈ (["word", "parts", "lead", "row"] : List Str) → Cls K a8 ∧ NoAttr K a8 f) (h9 : f ∈ ([] : List Str) → Cls K a9 ∧ NoAttr K a9 f) (h10 : f ∈ ([] : List Str) → Cls K a10 ∧ NoAttr K a10 f) (h11 : f ∈ ([] : List Str) → Cls K a11 ∧ NoAttr K a11 f) (h12 : f ∈ (["places", "place"] : List Str) → Cls K a12 ∧ NoAttr K a12 f) (h13 : f ∈ ([] : List Str) → Cls K a13 ∧ NoAttr K a13 f) : FldOk ⟨K, clK a1 a2 a3 a4 a5 a6 a7 a8 a9 a10 a11 a12 a13, flK, u⟩ f := ⟨fun c hc => by
  match c with
  | 0 => cases hc
  | 1 => exact h1 hc
  | 2 => exact h2 hc
  | 3 => exact h3 hc
  | 4 => exact h4 hc
  | 5 => exact h5 hc
  | 6 => exact h6 hc
  | 7 => exact h7 hc
  | 8 => exact h8 hc
  | 9 => exact h9 hc
  | 10 => exact h10 hc
  | 11 => exact h11 hc
  | 12 => exact h12 hc
  | 13 => exact h13 hc
  | n + 14 => cases hc⟩
theorem flK_nd (c : Nat) : (flK c).Nodup := by
  match c with
  | 0 => exact List.nodup_nil
  | 1 => decide +kernel
  | 2 => decide +kernel
  | 3 => decide +kernel
  | 4 => decide +kernel
  | 5 => decide +kernel
  | 6 => decide +kernel
  | 7 => decide +kernel
  | 8 => decide +kernel
  | 9 => decide +kernel
  | 10 => decide +kernel
  | 11 => decide +kernel
  | 12 => decide +kernel
  | 13 => decide +kernel
  | n + 14 => exact List.nodup_nil
theorem flK_sm (c : Nat) : (flK c).length ≤ 100 := by
  match c with
  | 0 => exact Nat.zero_le _
  | 1 => decide
  | 2 => decide
  | 3 => decide
  | 4 => decide
  | 5 => decide
  | 6 => decide
  | 7 => decide
  | 8 => decide
  | 9 => decide
  | 10 => decide
  | 11 => decide
  | 12 => decide
  | 13 => decide
  | n + 14 => exact Nat.zero_le _
end
def qL : Str := ("_law_refused_right" : Str) ++ ".<locals>." ++ "<lambda>"
/-- a class whose __init__ is never asked for -/
theorem initd_never {G : Gd} {P : Program} {w : World} {mg : Str → Option Value} {base : Heap} {k : Nat} {f : Addr} {fd : FuncData} {ps : List Str} {c cid : Nat} : InitD G P w mg base k f fd ps c cid (fun _ _ _ => False) := ⟨fun A outer s H args us vs Q E hr hgd e0 hb hv hl hsp => by
  obtain ⟨u, n, B, ds, R, ex, x, dx, vs', _, _, _, _, _, _, _, _, _, _, _, _, hF, _⟩ := hsp
  exact hF.elim⟩
end Pg
set_option Elab.async false
set_option linter.all false
set_option maxRecDepth 100000
set_option maxHeartbeats 2100000
namespace Pg
open PySem
open PySem.Spec PyProof.Rows L2
theorem refsB_ok : ∀ {l : List Value}, refsB l = true → PySem.HandSPX.refsVE l = true
  | [], h => by cases h
  | .ref c :: r, h => refsB_ok (l := r) h
  | .none :: r, h | .ellipsis :: r, h | .notImplemented :: r, h | .bool _ :: r, h | .int _ _ :: r, h | .float _ _ :: r, h | .str _ _ :: r, h | .bytes _ _ :: r, h | .type _ :: r, h | .builtin _ :: r, h => by
    have e := of_decide_eq_true h
    show (_ == _) = true
    rw [e]
    decide +kernel
theorem excB_ok {K : PySem.W.Frag} {C : Addr} (h : excB K C = true) : ∃ nm q N bs bm sn sub ab col dd k0 k1 k2 k3 k5, K.lookup C = some (excClassObj nm q C N bs bm true sn sub ab col dd k0 k1 k2 k3 k5 "ValueError.__new__") ∧ PySem.HandSPX.refsVE bm = true := by
  unfold excB at h
  cases e : K.lookup C with
  | none =>
        rw [e] at h; cases h
  | some o =>
    obtain ⟨oc, od, dt, sl⟩ := o
    rw [e] at h
    cases oc with
    | type t =>
      cases dt with
      | cls cd =>
        obtain ⟨nm, bs, mro, ns, q, hd, sn, sub, ab, col, hdel⟩ := cd
        dsimp only at h
        simp only [Bool.and_eq_true, Bool.not_eq_true'] at h; obtain ⟨h1, h2, h3, h4, h5⟩ := h
        have h1 := of_decide_eq_true h1
        subst h1 h2 h3
        split at h4
        · rename_i c bm
          obtain ⟨h6, h7⟩ := Bool.and_eq_true_iff.mp h4
          have h6 := of_decide_eq_true h6
          subst h6
          split at h5
          · rename_i k0 k1 k2 k3 n k5 hsl
            have h5 := of_decide_eq_true h5
            subst h5
            have hs : sl = #[k0, k1, k2, k3, some (.builtin "ValueError.__new__"), k5] := by
              have := congrArg List.toArray hsl
              simpa using this
            subst hs
            exact ⟨nm, q, ns, bs, bm, sn, sub, ab, col, od, k0, k1, k2, k3, k5, rfl, refsB_ok h7⟩
          · cases h5
        · cases h4
      | _ => cases h
    | _ => cases dt <;> cases h
theorem tab_in {K : PySem.W.Frag} {x : Str} {f c Pt : Addr} {oc oc2 : Value} {od od2 : Option Addr} {fd : FuncData} {sl sl2 : Array (Option Value)} {vs : Array Value} (h1 : PySem.W.nsIn K mainGlobals x = some (some (.ref f))) (h2 : K.lookup f = some ⟨oc, od, .func fd, sl⟩) (h3 : fd.code = .ref c) (h4 : K.lookup c = some ⟨oc2, od2, .fields vs, sl2⟩) (h5 : (vs[11]? : Option Value) = some (.ref Pt)) : PySem.W.tabIn K x = some (c, Pt) := by
  unfold PySem.W.tabIn
  simp only [h1, h2, h3, h4, h5]
end Pg
set_option Elab.async false
set_option linter.all false
set_option maxRecDepth 100000
set_option maxHeartbeats 4100000
namespace Pg
open PySem PySem.Spec PyProof.Rows L2 Kn
open RZ
theorem close {q : Program} {l : PySem.W.OpenLaw} {w : World} {K : PySem.W.Frag} {h : Heap} {mg : Str → Option Value} {fa a : Addr} {s : Shared} {ns : List Int} (X : K.In h) (Gh : h.Ns mainGlobals mg) (hfa : mg "law" = some (.ref fa)) (hlen : ns.length ≤ 63)
    {C_Lead : Addr}
    {C_Items : Addr}
    {C_Told : Addr}
    {C_Kept : Addr}
    {C_Parting : Addr}
    {C_Paper : Addr}
    {C_Denial : Addr}
    {C_Worker : Addr}
    {C_Place : Addr}
    {C_Thing : Addr}
    {f_law : Addr} {oc_law kV_law dc_law pm_law ct_law : Value} {od_law an_law : Option Addr} {sl_law : Array (Option Value)}
    {cd_law : Addr}
    {f_is_integer : Addr} {oc_is_integer kV_is_integer dc_is_integer pm_is_integer ct_is_integer : Value} {od_is_integer an_is_integer : Option Addr} {sl_is_integer : Array (Option Value)}
    {cd_is_integer : Value}
    {f_are_numbers : Addr} {oc_are_numbers kV_are_numbers dc_are_numbers pm_are_numbers ct_are_numbers : Value} {od_are_numbers an_are_numbers : Option Addr} {sl_are_numbers : Array (Option Value)}
    {cd_are_numbers : Value}
    {f_is_within : Addr} {oc_is_within kV_is_within dc_is_within pm_is_within ct_is_within : Value} {od_is_within an_is_within : Option Addr} {sl_is_within : Array (Option Value)}
    {cd_is_within : Value}
    {f_demand_number : Addr} {oc_demand_number kV_demand_number dc_demand_number pm_demand_number ct_demand_number : Value} {od_demand_number an_demand_number : Option Addr} {sl_demand_number : Array (Option Value)}
    {cd_demand_number : Value}
    {f_demand_world : Addr} {oc_demand_world kV_demand_world dc_demand_world pm_demand_world ct_demand_world : Value} {od_demand_world an_demand_world : Option Addr} {sl_demand_world : Array (Option Value)}
    {cd_demand_world : Value}
    {f_demand_numbers : Addr} {oc_demand_numbers kV_demand_numbers dc_demand_numbers pm_demand_numbers ct_demand_numbers : Value} {od_demand_numbers an_demand_numbers : Option Addr} {sl_demand_numbers : Array (Option Value)}
    {cd_demand_numbers : Value}
    {f_demand_things : Addr} {oc_demand_things kV_demand_things dc_demand_things pm_demand_things ct_demand_things : Value} {od_demand_things an_demand_things : Option Addr} {sl_demand_things : Array (Option Value)}
    {cd_demand_things : Value}
    {f_Lead___init__ : Addr} {oc_Lead___init__ kV_Lead___init__ dc_Lead___init__ pm_Lead___init__ ct_Lead___init__ : Value} {od_Lead___init__ an_Lead___init__ : Option Addr} {sl_Lead___init__ : Array (Option Value)}
    {cd_Lead___init__ : Value}
    {f_all_rows : Addr} {oc_all_rows kV_all_rows dc_all_rows pm_all_rows ct_all_rows : Value} {od_all_rows an_all_rows : Option Addr} {sl_all_rows : Array (Option Value)}
    {cd_all_rows : Value}
    {f_many_rows : Addr} {oc_many_rows kV_many_rows dc_many_rows pm_many_rows ct_many_rows : Value} {od_many_rows an_many_rows : Option Addr} {sl_many_rows : Array (Option Value)}
    {cd_many_rows : Value}
    {f_row_index : Addr} {oc_row_index kV_row_index dc_row_index pm_row_index ct_row_index : Value} {od_row_index an_row_index : Option Addr} {sl_row_index : Array (Option Value)}
    {cd_row_index : Value}
    {f_demand_many_places : Addr} {oc_demand_many_places kV_demand_many_places dc_demand_many_places pm_demand_many_places ct_demand_many_places : Value} {od_demand_many_places an_demand_many_places : Option Addr} {sl_demand_many_places : Array (Option Value)}
    {cd_demand_many_places : Value}
    {f_demand_many_numbers : Addr} {oc_demand_many_numbers kV_demand_many_numbers dc_demand_many_numbers pm_demand_many_numbers ct_demand_many_numbers : Value} {od_demand_many_numbers an_demand_many_numbers : Option Addr} {sl_demand_many_numbers : Array (Option Value)}
    {cd_demand_many_numbers : Value}
    {f_demand_few_values : Addr} {oc_demand_few_values kV_demand_few_values dc_demand_few_values pm_demand_few_values ct_demand_few_values : Value} {od_demand_few_values an_demand_few_values : Option Addr} {sl_demand_few_values : Array (Option Value)}
    {cd_demand_few_values : Value}
    {f_inputs : Addr} {oc_inputs kV_inputs dc_inputs pm_inputs ct_inputs : Value} {od_inputs an_inputs : Option Addr} {sl_inputs : Array (Option Value)}
    {cd_inputs : Value}
    {f_Told___init__ : Addr} {oc_Told___init__ kV_Told___init__ dc_Told___init__ pm_Told___init__ ct_Told___init__ : Value} {od_Told___init__ an_Told___init__ : Option Addr} {sl_Told___init__ : Array (Option Value)}
    {cd_Told___init__ : Value}
    {f_Told___eq__ : Addr} {oc_Told___eq__ kV_Told___eq__ dc_Told___eq__ pm_Told___eq__ ct_Told___eq__ : Value} {od_Told___eq__ an_Told___eq__ : Option Addr} {sl_Told___eq__ : Array (Option Value)}
    {cd_Told___eq__ : Value}
    {f_never_falls : Addr} {oc_never_falls kV_never_falls dc_never_falls pm_never_falls ct_never_falls : Value} {od_never_falls an_never_falls : Option Addr} {sl_never_falls : Array (Option Value)}
    {cd_never_falls : Value}
    {f_never_rises : Addr} {oc_never_rises kV_never_rises dc_never_rises pm_never_rises ct_never_rises : Value} {od_never_rises an_never_rises : Option Addr} {sl_never_rises : Array (Option Value)}
    {cd_never_rises : Value}
    {f_rises : Addr} {oc_rises kV_rises dc_rises pm_rises ct_rises : Value} {od_rises an_rises : Option Addr} {sl_rises : Array (Option Value)}
    {cd_rises : Value}
    {f_row_is_of : Addr} {oc_row_is_of kV_row_is_of dc_row_is_of pm_row_is_of ct_row_is_of : Value} {od_row_is_of an_row_is_of : Option Addr} {sl_row_is_of : Array (Option Value)}
    {cd_row_is_of : Value}
    {f_demand_manner : Addr} {oc_demand_manner kV_demand_manner dc_demand_manner pm_demand_manner ct_demand_manner : Value} {od_demand_manner an_demand_manner : Option Addr} {sl_demand_manner : Array (Option Value)}
    {cd_demand_manner : Value}
    {f_demand_two : Addr} {oc_demand_two kV_demand_two dc_demand_two pm_demand_two ct_demand_two : Value} {od_demand_two an_demand_two : Option Addr} {sl_demand_two : Array (Option Value)}
    {cd_demand_two : Value}
    {f_row_at : Addr} {oc_row_at kV_row_at dc_row_at pm_row_at ct_row_at : Value} {od_row_at an_row_at : Option Addr} {sl_row_at : Array (Option Value)}
    {cd_row_at : Value}
    {f_led_indices : Addr} {oc_led_indices kV_led_indices dc_led_indices pm_led_indices ct_led_indices : Value} {od_led_indices an_led_indices : Option Addr} {sl_led_indices : Array (Option Value)}
    {cd_led_indices : Value}
    {f_demand_told : Addr} {oc_demand_told kV_demand_told dc_demand_told pm_demand_told ct_demand_told : Value} {od_demand_told an_demand_told : Option Addr} {sl_demand_told : Array (Option Value)}
    {cd_demand_told : Value}
    {f_first_parting : Addr} {oc_first_parting kV_first_parting dc_first_parting pm_first_parting ct_first_parting : Value} {od_first_parting an_first_parting : Option Addr} {sl_first_parting : Array (Option Value)}
    {cd_first_parting : Value}
    {f_put_row : Addr} {oc_put_row kV_put_row dc_put_row pm_put_row ct_put_row : Value} {od_put_row an_put_row : Option Addr} {sl_put_row : Array (Option Value)}
    {cd_put_row : Value}
    {f_exchange_row : Addr} {oc_exchange_row kV_exchange_row dc_exchange_row pm_exchange_row ct_exchange_row : Value} {od_exchange_row an_exchange_row : Option Addr} {sl_exchange_row : Array (Option Value)}
    {cd_exchange_row : Value}
    {f_candidate_rows : Addr} {oc_candidate_rows kV_candidate_rows dc_candidate_rows pm_candidate_rows ct_candidate_rows : Value} {od_candidate_rows an_candidate_rows : Option Addr} {sl_candidate_rows : Array (Option Value)}
    {cd_candidate_rows : Value}
    {f_few_rows : Addr} {oc_few_rows kV_few_rows dc_few_rows pm_few_rows ct_few_rows : Value} {od_few_rows an_few_rows : Option Addr} {sl_few_rows : Array (Option Value)}
    {cd_few_rows : Value}
    {f_fixed : Addr} {oc_fixed kV_fixed dc_fixed pm_fixed ct_fixed : Value} {od_fixed an_fixed : Option Addr} {sl_fixed : Array (Option Value)}
    {cd_fixed : Value}
    {f_Paper___init__ : Addr} {oc_Paper___init__ kV_Paper___init__ dc_Paper___init__ pm_Paper___init__ ct_Paper___init__ : Value} {od_Paper___init__ an_Paper___init__ : Option Addr} {sl_Paper___init__ : Array (Option Value)}
    {cd_Paper___init__ : Value}
    {f_Denial___init__ : Addr} {oc_Denial___init__ kV_Denial___init__ dc_Denial___init__ pm_Denial___init__ ct_Denial___init__ : Value} {od_Denial___init__ an_Denial___init__ : Option Addr} {sl_Denial___init__ : Array (Option Value)}
    {cd_Denial___init__ : Value}
    {f_Kept___init__ : Addr} {oc_Kept___init__ kV_Kept___init__ dc_Kept___init__ pm_Kept___init__ ct_Kept___init__ : Value} {od_Kept___init__ an_Kept___init__ : Option Addr} {sl_Kept___init__ : Array (Option Value)}
    {cd_Kept___init__ : Value}
    {f_Parting___init__ : Addr} {oc_Parting___init__ kV_Parting___init__ dc_Parting___init__ pm_Parting___init__ ct_Parting___init__ : Value} {od_Parting___init__ an_Parting___init__ : Option Addr} {sl_Parting___init__ : Array (Option Value)}
    {cd_Parting___init__ : Value}
    {f_Paper___bool__ : Addr} {oc_Paper___bool__ kV_Paper___bool__ dc_Paper___bool__ pm_Paper___bool__ ct_Paper___bool__ : Value} {od_Paper___bool__ an_Paper___bool__ : Option Addr} {sl_Paper___bool__ : Array (Option Value)}
    {cd_Paper___bool__ : Value}
    {f_Denial___bool__ : Addr} {oc_Denial___bool__ kV_Denial___bool__ dc_Denial___bool__ pm_Denial___bool__ ct_Denial___bool__ : Value} {od_Denial___bool__ an_Denial___bool__ : Option Addr} {sl_Denial___bool__ : Array (Option Value)}
    {cd_Denial___bool__ : Value}
    {f_demand_told_manner : Addr} {oc_demand_told_manner kV_demand_told_manner dc_demand_told_manner pm_demand_told_manner ct_demand_told_manner : Value} {od_demand_told_manner an_demand_told_manner : Option Addr} {sl_demand_told_manner : Array (Option Value)}
    {cd_demand_told_manner : Value}
    {f_kept : Addr} {oc_kept kV_kept dc_kept pm_kept ct_kept : Value} {od_kept an_kept : Option Addr} {sl_kept : Array (Option Value)}
    {cd_kept : Value}
    {f_keeps : Addr} {oc_keeps kV_keeps dc_keeps pm_keeps ct_keeps : Value} {od_keeps an_keeps : Option Addr} {sl_keeps : Array (Option Value)}
    {cd_keeps : Value}
    {f_demand_place : Addr} {oc_demand_place kV_demand_place dc_demand_place pm_demand_place ct_demand_place : Value} {od_demand_place an_demand_place : Option Addr} {sl_demand_place : Array (Option Value)}
    {cd_demand_place : Value}
    {f_Worker___init__ : Addr} {oc_Worker___init__ kV_Worker___init__ dc_Worker___init__ pm_Worker___init__ ct_Worker___init__ : Value} {od_Worker___init__ an_Worker___init__ : Option Addr} {sl_Worker___init__ : Array (Option Value)}
    {cd_Worker___init__ : Value}
    {f_Place___init__ : Addr} {oc_Place___init__ kV_Place___init__ dc_Place___init__ pm_Place___init__ ct_Place___init__ : Value} {od_Place___init__ an_Place___init__ : Option Addr} {sl_Place___init__ : Array (Option Value)}
    {cd_Place___init__ : Value}
    {f_Place_over : Addr} {oc_Place_over kV_Place_over dc_Place_over pm_Place_over ct_Place_over : Value} {od_Place_over an_Place_over : Option Addr} {sl_Place_over : Array (Option Value)}
    {cd_Place_over : Value}
    {f_demand_known_manner : Addr} {oc_demand_known_manner kV_demand_known_manner dc_demand_known_manner pm_demand_known_manner ct_demand_known_manner : Value} {od_demand_known_manner an_demand_known_manner : Option Addr} {sl_demand_known_manner : Array (Option Value)}
    {cd_demand_known_manner : Value}
    {f_all_known : Addr} {oc_all_known kV_all_known dc_all_known pm_all_known ct_all_known : Value} {od_all_known an_all_known : Option Addr} {sl_all_known : Array (Option Value)}
    {cd_all_known : Value}
    {f_known_of : Addr} {oc_known_of kV_known_of dc_known_of pm_known_of ct_known_of : Value} {od_known_of an_known_of : Option Addr} {sl_known_of : Array (Option Value)}
    {cd_known_of : Value}
    {f_law_jug : Addr} {oc_law_jug kV_law_jug dc_law_jug pm_law_jug ct_law_jug : Value} {od_law_jug an_law_jug : Option Addr} {sl_law_jug : Array (Option Value)}
    {cd_law_jug : Value}
    {f_law_tap : Addr} {oc_law_tap kV_law_tap dc_law_tap pm_law_tap ct_law_tap : Value} {od_law_tap an_law_tap : Option Addr} {sl_law_tap : Array (Option Value)}
    {cd_law_tap : Value}
    {f_law_pick : Addr} {oc_law_pick kV_law_pick dc_law_pick pm_law_pick ct_law_pick : Value} {od_law_pick an_law_pick : Option Addr} {sl_law_pick : Array (Option Value)}
    {cd_law_pick : Value}
    {f_law_inputs : Addr} {oc_law_inputs kV_law_inputs dc_law_inputs pm_law_inputs ct_law_inputs : Value} {od_law_inputs an_law_inputs : Option Addr} {sl_law_inputs : Array (Option Value)}
    {cd_law_inputs : Value}
    {f_is_turned : Addr} {oc_is_turned kV_is_turned dc_is_turned pm_is_turned ct_is_turned : Value} {od_is_turned an_is_turned : Option Addr} {sl_is_turned : Array (Option Value)}
    {cd_is_turned : Value}
    {f_Place___eq__ : Addr} {oc_Place___eq__ kV_Place___eq__ dc_Place___eq__ pm_Place___eq__ ct_Place___eq__ : Value} {od_Place___eq__ an_Place___eq__ : Option Addr} {sl_Place___eq__ : Array (Option Value)}
    {cd_Place___eq__ : Value}
    {f_law_goes : Addr} {oc_law_goes kV_law_goes dc_law_goes pm_law_goes ct_law_goes : Value} {od_law_goes an_law_goes : Option Addr} {sl_law_goes : Array (Option Value)}
    {cd_law_goes : Value}
    {f_law_is_turned : Addr} {oc_law_is_turned kV_law_is_turned dc_law_is_turned pm_law_is_turned ct_law_is_turned : Value} {od_law_is_turned an_law_is_turned : Option Addr} {sl_law_is_turned : Array (Option Value)}
    {cd_law_is_turned : Value}
    {f_law_digits : Addr} {oc_law_digits kV_law_digits dc_law_digits pm_law_digits ct_law_digits : Value} {od_law_digits an_law_digits : Option Addr} {sl_law_digits : Array (Option Value)}
    {cd_law_digits : Value}
    {f_law_half : Addr} {oc_law_half kV_law_half dc_law_half pm_law_half ct_law_half : Value} {od_law_half an_law_half : Option Addr} {sl_law_half : Array (Option Value)}
    {cd_law_half : Value}
    {f_law_bent : Addr} {oc_law_bent kV_law_bent dc_law_bent pm_law_bent ct_law_bent : Value} {od_law_bent an_law_bent : Option Addr} {sl_law_bent : Array (Option Value)}
    {cd_law_bent : Value}
    {f_law_parts : Addr} {oc_law_parts kV_law_parts dc_law_parts pm_law_parts ct_law_parts : Value} {od_law_parts an_law_parts : Option Addr} {sl_law_parts : Array (Option Value)}
    {cd_law_parts : Value}
    {f_law_right : Addr} {oc_law_right kV_law_right dc_law_right pm_law_right ct_law_right : Value} {od_law_right an_law_right : Option Addr} {sl_law_right : Array (Option Value)}
    {cd_law_right : Value}
    {f_law_heard : Addr} {oc_law_heard kV_law_heard dc_law_heard pm_law_heard ct_law_heard : Value} {od_law_heard an_law_heard : Option Addr} {sl_law_heard : Array (Option Value)}
    {cd_law_heard : Value}
    {f_law_refused_right : Addr} {oc_law_refused_right kV_law_refused_right dc_law_refused_right pm_law_refused_right ct_law_refused_right : Value} {od_law_refused_right an_law_refused_right : Option Addr} {sl_law_refused_right : Array (Option Value)}
    {cd_law_refused_right : Addr}
    {f_Thing___init__ : Addr} {oc_Thing___init__ kV_Thing___init__ dc_Thing___init__ pm_Thing___init__ ct_Thing___init__ : Value} {od_Thing___init__ an_Thing___init__ : Option Addr} {sl_Thing___init__ : Array (Option Value)}
    {cd_Thing___init__ : Value}
    {f_BadTold___init__ : Addr} {oc_BadTold___init__ kV_BadTold___init__ dc_BadTold___init__ pm_BadTold___init__ ct_BadTold___init__ : Value} {od_BadTold___init__ an_BadTold___init__ : Option Addr} {sl_BadTold___init__ : Array (Option Value)}
    {cd_BadTold___init__ : Value}
    {f_Misfit___init__ : Addr} {oc_Misfit___init__ kV_Misfit___init__ dc_Misfit___init__ pm_Misfit___init__ ct_Misfit___init__ : Value} {od_Misfit___init__ an_Misfit___init__ : Option Addr} {sl_Misfit___init__ : Array (Option Value)}
    {cd_Misfit___init__ : Value}
    {t_MOST_THINGS : Tok}
    {t_MOST_PLACES : Tok}
    {t_MOST_VALUES : Tok}
    {a_MANNERS : Addr}
    {C_BadTold C_Misfit C_TellsError Pt_law_refused_right : Addr}
    {t_KT : Addr} {es_KT : Array DictEntry} {n_KT : Nat} {tk_KT : Tok}
    (aC_Lead : PySem.W.nsIn K mainGlobals "Lead" = some (some (.ref C_Lead)))
    (pg_Lead : PySem.W.plainGet K C_Lead Str.empty = true)
    (hd_Lead : PySem.W.hasDictIn K C_Lead = true)
    (po_Lead : PySem.W.plainOver K C_Lead = true)
    (sa_Lead : PySem.W.findIn K (.ref C_Lead) "__setattr__" = some (some (.builtin "object.__setattr__")))
    (mk_Lead : PySem.W.makesIn K C_Lead = true)
    (kc_Lead : PySem.W.keepIn K (.ref C_Lead) = true)
    (n_Lead_begin : PySem.W.findIn K (.ref C_Lead) "begin" = some none)
    (n_Lead_into : PySem.W.findIn K (.ref C_Lead) "into" = some none)
    (n_Lead_row : PySem.W.findIn K (.ref C_Lead) "row" = some none)
    (aC_Items : PySem.W.nsIn K mainGlobals "Items" = some (some (.ref C_Items)))
    (pg_Items : PySem.W.plainGet K C_Items Str.empty = true)
    (hd_Items : PySem.W.hasDictIn K C_Items = true)
    (po_Items : PySem.W.plainOver K C_Items = true)
    (sa_Items : PySem.W.findIn K (.ref C_Items) "__setattr__" = some (some (.builtin "object.__setattr__")))
    (mk_Items : PySem.W.makesIn K C_Items = true)
    (kc_Items : PySem.W.keepIn K (.ref C_Items) = true)
    (n_Items_words : PySem.W.findIn K (.ref C_Items) "words" = some none)
    (n_Items_taken : PySem.W.findIn K (.ref C_Items) "taken" = some none)
    (aC_Told : PySem.W.nsIn K mainGlobals "Told" = some (some (.ref C_Told)))
    (pg_Told : PySem.W.plainGet K C_Told Str.empty = true)
    (hd_Told : PySem.W.hasDictIn K C_Told = true)
    (po_Told : PySem.W.plainOver K C_Told = true)
    (sa_Told : PySem.W.findIn K (.ref C_Told) "__setattr__" = some (some (.builtin "object.__setattr__")))
    (mo_Told : PySem.W.mroIn K C_Told (.type "object") = some true)
    (ne_Told : PySem.W.findIn K (.ref C_Told) "__ne__" = some (some (.builtin "object.__ne__")))
    (mk_Told : PySem.W.makesIn K C_Told = true)
    (kc_Told : PySem.W.keepIn K (.ref C_Told) = true)
    (n_Told_things : PySem.W.findIn K (.ref C_Told) "things" = some none)
    (n_Told_places : PySem.W.findIn K (.ref C_Told) "places" = some none)
    (n_Told_tells : PySem.W.findIn K (.ref C_Told) "tells" = some none)
    (aC_Kept : PySem.W.nsIn K mainGlobals "Kept" = some (some (.ref C_Kept)))
    (pg_Kept : PySem.W.plainGet K C_Kept Str.empty = true)
    (hd_Kept : PySem.W.hasDictIn K C_Kept = true)
    (po_Kept : PySem.W.plainOver K C_Kept = true)
    (sa_Kept : PySem.W.findIn K (.ref C_Kept) "__setattr__" = some (some (.builtin "object.__setattr__")))
    (mk_Kept : PySem.W.makesIn K C_Kept = true)
    (kc_Kept : PySem.W.keepIn K (.ref C_Kept) = true)
    (n_Kept_word : PySem.W.findIn K (.ref C_Kept) "word" = some none)
    (n_Kept_parts : PySem.W.findIn K (.ref C_Kept) "parts" = some none)
    (aC_Parting : PySem.W.nsIn K mainGlobals "Parting" = some (some (.ref C_Parting)))
    (pg_Parting : PySem.W.plainGet K C_Parting Str.empty = true)
    (hd_Parting : PySem.W.hasDictIn K C_Parting = true)
    (po_Parting : PySem.W.plainOver K C_Parting = true)
    (sa_Parting : PySem.W.findIn K (.ref C_Parting) "__setattr__" = some (some (.builtin "object.__setattr__")))
    (mk_Parting : PySem.W.makesIn K C_Parting = true)
    (kc_Parting : PySem.W.keepIn K (.ref C_Parting) = true)
    (n_Parting_word : PySem.W.findIn K (.ref C_Parting) "word" = some none)
    (n_Parting_parts : PySem.W.findIn K (.ref C_Parting) "parts" = some none)
    (n_Parting_lead : PySem.W.findIn K (.ref C_Parting) "lead" = some none)
    (n_Parting_row : PySem.W.findIn K (.ref C_Parting) "row" = some none)
    (aC_Paper : PySem.W.nsIn K mainGlobals "Paper" = some (some (.ref C_Paper)))
    (pg_Paper : PySem.W.plainGet K C_Paper Str.empty = true)
    (hd_Paper : PySem.W.hasDictIn K C_Paper = true)
    (po_Paper : PySem.W.plainOver K C_Paper = true)
    (sa_Paper : PySem.W.findIn K (.ref C_Paper) "__setattr__" = some (some (.builtin "object.__setattr__")))
    (rd_Paper : PySem.W.readsIn K C_Paper (.type "type") = true)
    (ga_Paper : PySem.W.specialIn K (.ref C_Paper) "__getattribute__" = some (some (.builtin "type.__getattribute__")))
    (mk_Paper : PySem.W.makesIn K C_Paper = true)
    (kc_Paper : PySem.W.keepIn K (.ref C_Paper) = true)
    (aC_Denial : PySem.W.nsIn K mainGlobals "Denial" = some (some (.ref C_Denial)))
    (pg_Denial : PySem.W.plainGet K C_Denial Str.empty = true)
    (hd_Denial : PySem.W.hasDictIn K C_Denial = true)
    (po_Denial : PySem.W.plainOver K C_Denial = true)
    (sa_Denial : PySem.W.findIn K (.ref C_Denial) "__setattr__" = some (some (.builtin "object.__setattr__")))
    (rd_Denial : PySem.W.readsIn K C_Denial (.type "type") = true)
    (ga_Denial : PySem.W.specialIn K (.ref C_Denial) "__getattribute__" = some (some (.builtin "type.__getattribute__")))
    (mk_Denial : PySem.W.makesIn K C_Denial = true)
    (kc_Denial : PySem.W.keepIn K (.ref C_Denial) = true)
    (aC_Worker : PySem.W.nsIn K mainGlobals "Worker" = some (some (.ref C_Worker)))
    (pg_Worker : PySem.W.plainGet K C_Worker Str.empty = true)
    (hd_Worker : PySem.W.hasDictIn K C_Worker = true)
    (po_Worker : PySem.W.plainOver K C_Worker = true)
    (sa_Worker : PySem.W.findIn K (.ref C_Worker) "__setattr__" = some (some (.builtin "object.__setattr__")))
    (rd_Worker : PySem.W.readsIn K C_Worker (.type "type") = true)
    (ga_Worker : PySem.W.specialIn K (.ref C_Worker) "__getattribute__" = some (some (.builtin "type.__getattribute__")))
    (mk_Worker : PySem.W.makesIn K C_Worker = true)
    (kc_Worker : PySem.W.keepIn K (.ref C_Worker) = true)
    (aC_Place : PySem.W.nsIn K mainGlobals "Place" = some (some (.ref C_Place)))
    (pg_Place : PySem.W.plainGet K C_Place Str.empty = true)
    (hd_Place : PySem.W.hasDictIn K C_Place = true)
    (po_Place : PySem.W.plainOver K C_Place = true)
    (sa_Place : PySem.W.findIn K (.ref C_Place) "__setattr__" = some (some (.builtin "object.__setattr__")))
    (mo_Place : PySem.W.mroIn K C_Place (.type "object") = some true)
    (ne_Place : PySem.W.findIn K (.ref C_Place) "__ne__" = some (some (.builtin "object.__ne__")))
    (mk_Place : PySem.W.makesIn K C_Place = true)
    (kc_Place : PySem.W.keepIn K (.ref C_Place) = true)
    (n_Place_places : PySem.W.findIn K (.ref C_Place) "places" = some none)
    (n_Place_place : PySem.W.findIn K (.ref C_Place) "place" = some none)
    (aC_Thing : PySem.W.nsIn K mainGlobals "Thing" = some (some (.ref C_Thing)))
    (pg_Thing : PySem.W.plainGet K C_Thing Str.empty = true)
    (hd_Thing : PySem.W.hasDictIn K C_Thing = true)
    (po_Thing : PySem.W.plainOver K C_Thing = true)
    (sa_Thing : PySem.W.findIn K (.ref C_Thing) "__setattr__" = some (some (.builtin "object.__setattr__")))
    (mk_Thing : PySem.W.makesIn K C_Thing = true)
    (kc_Thing : PySem.W.keepIn K (.ref C_Thing) = true)
    (a_law : PySem.W.nsIn K mainGlobals "law" = some (some (.ref f_law)))
    (l_law : K.lookup f_law = some ⟨oc_law, od_law, .func (PySem.W.fnOf "law" "law" (defArgs (topS 94)) (defBody (topS 94)) (defScope (topS 94)) .none kV_law dc_law pm_law an_law (.ref cd_law) ct_law), sl_law⟩)
    (c_law : PySem.W.codeIn K (.ref cd_law) "law" = true)
    (k_law : PySem.W.keepIn K (.ref f_law) = true)
    (a_is_integer : PySem.W.nsIn K mainGlobals "is_integer" = some (some (.ref f_is_integer)))
    (l_is_integer : K.lookup f_is_integer = some ⟨oc_is_integer, od_is_integer, .func (PySem.W.fnOf "is_integer" "is_integer" (defArgs (topS 6)) (defBody (topS 6)) (defScope (topS 6)) .none kV_is_integer dc_is_integer pm_is_integer an_is_integer cd_is_integer ct_is_integer), sl_is_integer⟩)
    (c_is_integer : PySem.W.codeIn K cd_is_integer "is_integer" = true)
    (k_is_integer : PySem.W.keepIn K (.ref f_is_integer) = true)
    (a_are_numbers : PySem.W.nsIn K mainGlobals "are_numbers" = some (some (.ref f_are_numbers)))
    (l_are_numbers : K.lookup f_are_numbers = some ⟨oc_are_numbers, od_are_numbers, .func (PySem.W.fnOf "are_numbers" "are_numbers" (defArgs (topS 8)) (defBody (topS 8)) (defScope (topS 8)) .none kV_are_numbers dc_are_numbers pm_are_numbers an_are_numbers cd_are_numbers ct_are_numbers), sl_are_numbers⟩)
    (c_are_numbers : PySem.W.codeIn K cd_are_numbers "are_numbers" = true)
    (k_are_numbers : PySem.W.keepIn K (.ref f_are_numbers) = true)
    (a_is_within : PySem.W.nsIn K mainGlobals "is_within" = some (some (.ref f_is_within)))
    (l_is_within : K.lookup f_is_within = some ⟨oc_is_within, od_is_within, .func (PySem.W.fnOf "is_within" "is_within" (defArgs (topS 7)) (defBody (topS 7)) (defScope (topS 7)) .none kV_is_within dc_is_within pm_is_within an_is_within cd_is_within ct_is_within), sl_is_within⟩)
    (c_is_within : PySem.W.codeIn K cd_is_within "is_within" = true)
    (k_is_within : PySem.W.keepIn K (.ref f_is_within) = true)
    (a_demand_number : PySem.W.nsIn K mainGlobals "demand_number" = some (some (.ref f_demand_number)))
    (l_demand_number : K.lookup f_demand_number = some ⟨oc_demand_number, od_demand_number, .func (PySem.W.fnOf "demand_number" "demand_number" (defArgs (topS 24)) (defBody (topS 24)) (defScope (topS 24)) .none kV_demand_number dc_demand_number pm_demand_number an_demand_number cd_demand_number ct_demand_number), sl_demand_number⟩)
    (c_demand_number : PySem.W.codeIn K cd_demand_number "demand_number" = true)
    (k_demand_number : PySem.W.keepIn K (.ref f_demand_number) = true)
    (a_demand_world : PySem.W.nsIn K mainGlobals "demand_world" = some (some (.ref f_demand_world)))
    (l_demand_world : K.lookup f_demand_world = some ⟨oc_demand_world, od_demand_world, .func (PySem.W.fnOf "demand_world" "demand_world" (defArgs (topS 25)) (defBody (topS 25)) (defScope (topS 25)) .none kV_demand_world dc_demand_world pm_demand_world an_demand_world cd_demand_world ct_demand_world), sl_demand_world⟩)
    (c_demand_world : PySem.W.codeIn K cd_demand_world "demand_world" = true)
    (k_demand_world : PySem.W.keepIn K (.ref f_demand_world) = true)
    (a_demand_numbers : PySem.W.nsIn K mainGlobals "demand_numbers" = some (some (.ref f_demand_numbers)))
    (l_demand_numbers : K.lookup f_demand_numbers = some ⟨oc_demand_numbers, od_demand_numbers, .func (PySem.W.fnOf "demand_numbers" "demand_numbers" (defArgs (topS 27)) (defBody (topS 27)) (defScope (topS 27)) .none kV_demand_numbers dc_demand_numbers pm_demand_numbers an_demand_numbers cd_demand_numbers ct_demand_numbers), sl_demand_numbers⟩)
    (c_demand_numbers : PySem.W.codeIn K cd_demand_numbers "demand_numbers" = true)
    (k_demand_numbers : PySem.W.keepIn K (.ref f_demand_numbers) = true)
    (a_demand_things : PySem.W.nsIn K mainGlobals "demand_things" = some (some (.ref f_demand_things)))
    (l_demand_things : K.lookup f_demand_things = some ⟨oc_demand_things, od_demand_things, .func (PySem.W.fnOf "demand_things" "demand_things" (defArgs (topS 29)) (defBody (topS 29)) (defScope (topS 29)) .none kV_demand_things dc_demand_things pm_demand_things an_demand_things cd_demand_things ct_demand_things), sl_demand_things⟩)
    (c_demand_things : PySem.W.codeIn K cd_demand_things "demand_things" = true)
    (k_demand_things : PySem.W.keepIn K (.ref f_demand_things) = true)
    (a_Lead___init__ : PySem.W.findIn K (.ref C_Lead) "__init__" = some (some (.ref f_Lead___init__)))
    (i_Lead___init__ : PySem.W.isFn K (.ref f_Lead___init__) = true)
    (l_Lead___init__ : K.lookup f_Lead___init__ = some ⟨oc_Lead___init__, od_Lead___init__, .func (PySem.W.fnOf "__init__" "Lead.__init__" (defArgs (inClass (topS 35) 0)) (defBody (inClass (topS 35) 0)) (defScope (inClass (topS 35) 0)) .none kV_Lead___init__ dc_Lead___init__ pm_Lead___init__ an_Lead___init__ cd_Lead___init__ ct_Lead___init__), sl_Lead___init__⟩)
    (c_Lead___init__ : PySem.W.codeIn K cd_Lead___init__ "Lead.__init__" = true)
    (k_Lead___init__ : PySem.W.keepIn K (.ref f_Lead___init__) = true)
    (a_all_rows : PySem.W.nsIn K mainGlobals "all_rows" = some (some (.ref f_all_rows)))
    (l_all_rows : K.lookup f_all_rows = some ⟨oc_all_rows, od_all_rows, .func (PySem.W.fnOf "all_rows" "all_rows" (defArgs (topS 38)) (defBody (topS 38)) (defScope (topS 38)) .none kV_all_rows dc_all_rows pm_all_rows an_all_rows cd_all_rows ct_all_rows), sl_all_rows⟩)
    (c_all_rows : PySem.W.codeIn K cd_all_rows "all_rows" = true)
    (k_all_rows : PySem.W.keepIn K (.ref f_all_rows) = true)
    (a_many_rows : PySem.W.nsIn K mainGlobals "many_rows" = some (some (.ref f_many_rows)))
    (l_many_rows : K.lookup f_many_rows = some ⟨oc_many_rows, od_many_rows, .func (PySem.W.fnOf "many_rows" "many_rows" (defArgs (topS 37)) (defBody (topS 37)) (defScope (topS 37)) .none kV_many_rows dc_many_rows pm_many_rows an_many_rows cd_many_rows ct_many_rows), sl_many_rows⟩)
    (c_many_rows : PySem.W.codeIn K cd_many_rows "many_rows" = true)
    (k_many_rows : PySem.W.keepIn K (.ref f_many_rows) = true)
    (a_row_index : PySem.W.nsIn K mainGlobals "row_index" = some (some (.ref f_row_index)))
    (l_row_index : K.lookup f_row_index = some ⟨oc_row_index, od_row_index, .func (PySem.W.fnOf "row_index" "row_index" (defArgs (topS 39)) (defBody (topS 39)) (defScope (topS 39)) .none kV_row_index dc_row_index pm_row_index an_row_index cd_row_index ct_row_index), sl_row_index⟩)
    (c_row_index : PySem.W.codeIn K cd_row_index "row_index" = true)
    (k_row_index : PySem.W.keepIn K (.ref f_row_index) = true)
    (a_demand_many_places : PySem.W.nsIn K mainGlobals "demand_many_places" = some (some (.ref f_demand_many_places)))
    (l_demand_many_places : K.lookup f_demand_many_places = some ⟨oc_demand_many_places, od_demand_many_places, .func (PySem.W.fnOf "demand_many_places" "demand_many_places" (defArgs (topS 26)) (defBody (topS 26)) (defScope (topS 26)) .none kV_demand_many_places dc_demand_many_places pm_demand_many_places an_demand_many_places cd_demand_many_places ct_demand_many_places), sl_demand_many_places⟩)
    (c_demand_many_places : PySem.W.codeIn K cd_demand_many_places "demand_many_places" = true)
    (k_demand_many_places : PySem.W.keepIn K (.ref f_demand_many_places) = true)
    (a_demand_many_numbers : PySem.W.nsIn K mainGlobals "demand_many_numbers" = some (some (.ref f_demand_many_numbers)))
    (l_demand_many_numbers : K.lookup f_demand_many_numbers = some ⟨oc_demand_many_numbers, od_demand_many_numbers, .func (PySem.W.fnOf "demand_many_numbers" "demand_many_numbers" (defArgs (topS 28)) (defBody (topS 28)) (defScope (topS 28)) .none kV_demand_many_numbers dc_demand_many_numbers pm_demand_many_numbers an_demand_many_numbers cd_demand_many_numbers ct_demand_many_numbers), sl_demand_many_numbers⟩)
    (c_demand_many_numbers : PySem.W.codeIn K cd_demand_many_numbers "demand_many_numbers" = true)
    (k_demand_many_numbers : PySem.W.keepIn K (.ref f_demand_many_numbers) = true)
    (a_demand_few_values : PySem.W.nsIn K mainGlobals "demand_few_values" = some (some (.ref f_demand_few_values)))
    (l_demand_few_values : K.lookup f_demand_few_values = some ⟨oc_demand_few_values, od_demand_few_values, .func (PySem.W.fnOf "demand_few_values" "demand_few_values" (defArgs (topS 56)) (defBody (topS 56)) (defScope (topS 56)) .none kV_demand_few_values dc_demand_few_values pm_demand_few_values an_demand_few_values cd_demand_few_values ct_demand_few_values), sl_demand_few_values⟩)
    (c_demand_few_values : PySem.W.codeIn K cd_demand_few_values "demand_few_values" = true)
    (k_demand_few_values : PySem.W.keepIn K (.ref f_demand_few_values) = true)
    (a_inputs : PySem.W.nsIn K mainGlobals "inputs" = some (some (.ref f_inputs)))
    (l_inputs : K.lookup f_inputs = some ⟨oc_inputs, od_inputs, .func (PySem.W.fnOf "inputs" "inputs" (defArgs (topS 57)) (defBody (topS 57)) (defScope (topS 57)) .none kV_inputs dc_inputs pm_inputs an_inputs cd_inputs ct_inputs), sl_inputs⟩)
    (c_inputs : PySem.W.codeIn K cd_inputs "inputs" = true)
    (k_inputs : PySem.W.keepIn K (.ref f_inputs) = true)
    (a_Told___init__ : PySem.W.findIn K (.ref C_Told) "__init__" = some (some (.ref f_Told___init__)))
    (i_Told___init__ : PySem.W.isFn K (.ref f_Told___init__) = true)
    (l_Told___init__ : K.lookup f_Told___init__ = some ⟨oc_Told___init__, od_Told___init__, .func (PySem.W.fnOf "__init__" "Told.__init__" (defArgs (inClass (topS 59) 0)) (defBody (inClass (topS 59) 0)) (defScope (inClass (topS 59) 0)) .none kV_Told___init__ dc_Told___init__ pm_Told___init__ an_Told___init__ cd_Told___init__ ct_Told___init__), sl_Told___init__⟩)
    (c_Told___init__ : PySem.W.codeIn K cd_Told___init__ "Told.__init__" = true)
    (k_Told___init__ : PySem.W.keepIn K (.ref f_Told___init__) = true)
    (a_Told___eq__ : PySem.W.findIn K (.ref C_Told) "__eq__" = some (some (.ref f_Told___eq__)))
    (i_Told___eq__ : PySem.W.isFn K (.ref f_Told___eq__) = true)
    (l_Told___eq__ : K.lookup f_Told___eq__ = some ⟨oc_Told___eq__, od_Told___eq__, .func (PySem.W.fnOf "__eq__" "Told.__eq__" (defArgs (inClass (topS 59) 1)) (defBody (inClass (topS 59) 1)) (defScope (inClass (topS 59) 1)) .none kV_Told___eq__ dc_Told___eq__ pm_Told___eq__ an_Told___eq__ cd_Told___eq__ ct_Told___eq__), sl_Told___eq__⟩)
    (c_Told___eq__ : PySem.W.codeIn K cd_Told___eq__ "Told.__eq__" = true)
    (k_Told___eq__ : PySem.W.keepIn K (.ref f_Told___eq__) = true)
    (a_never_falls : PySem.W.nsIn K mainGlobals "never_falls" = some (some (.ref f_never_falls)))
    (l_never_falls : K.lookup f_never_falls = some ⟨oc_never_falls, od_never_falls, .func (PySem.W.fnOf "never_falls" "never_falls" (defArgs (topS 46)) (defBody (topS 46)) (defScope (topS 46)) .none kV_never_falls dc_never_falls pm_never_falls an_never_falls cd_never_falls ct_never_falls), sl_never_falls⟩)
    (c_never_falls : PySem.W.codeIn K cd_never_falls "never_falls" = true)
    (k_never_falls : PySem.W.keepIn K (.ref f_never_falls) = true)
    (a_never_rises : PySem.W.nsIn K mainGlobals "never_rises" = some (some (.ref f_never_rises)))
    (l_never_rises : K.lookup f_never_rises = some ⟨oc_never_rises, od_never_rises, .func (PySem.W.fnOf "never_rises" "never_rises" (defArgs (topS 47)) (defBody (topS 47)) (defScope (topS 47)) .none kV_never_rises dc_never_rises pm_never_rises an_never_rises cd_never_rises ct_never_rises), sl_never_rises⟩)
    (c_never_rises : PySem.W.codeIn K cd_never_rises "never_rises" = true)
    (k_never_rises : PySem.W.keepIn K (.ref f_never_rises) = true)
    (a_rises : PySem.W.nsIn K mainGlobals "rises" = some (some (.ref f_rises)))
    (l_rises : K.lookup f_rises = some ⟨oc_rises, od_rises, .func (PySem.W.fnOf "rises" "rises" (defArgs (topS 48)) (defBody (topS 48)) (defScope (topS 48)) .none kV_rises dc_rises pm_rises an_rises cd_rises ct_rises), sl_rises⟩)
    (c_rises : PySem.W.codeIn K cd_rises "rises" = true)
    (k_rises : PySem.W.keepIn K (.ref f_rises) = true)
    (a_row_is_of : PySem.W.nsIn K mainGlobals "row_is_of" = some (some (.ref f_row_is_of)))
    (l_row_is_of : K.lookup f_row_is_of = some ⟨oc_row_is_of, od_row_is_of, .func (PySem.W.fnOf "row_is_of" "row_is_of" (defArgs (topS 49)) (defBody (topS 49)) (defScope (topS 49)) .none kV_row_is_of dc_row_is_of pm_row_is_of an_row_is_of cd_row_is_of ct_row_is_of), sl_row_is_of⟩)
    (c_row_is_of : PySem.W.codeIn K cd_row_is_of "row_is_of" = true)
    (k_row_is_of : PySem.W.keepIn K (.ref f_row_is_of) = true)
    (a_demand_manner : PySem.W.nsIn K mainGlobals "demand_manner" = some (some (.ref f_demand_manner)))
    (l_demand_manner : K.lookup f_demand_manner = some ⟨oc_demand_manner, od_demand_manner, .func (PySem.W.fnOf "demand_manner" "demand_manner" (defArgs (topS 44)) (defBody (topS 44)) (defScope (topS 44)) .none kV_demand_manner dc_demand_manner pm_demand_manner an_demand_manner cd_demand_manner ct_demand_manner), sl_demand_manner⟩)
    (c_demand_manner : PySem.W.codeIn K cd_demand_manner "demand_manner" = true)
    (k_demand_manner : PySem.W.keepIn K (.ref f_demand_manner) = true)
    (a_demand_two : PySem.W.nsIn K mainGlobals "demand_two" = some (some (.ref f_demand_two)))
    (l_demand_two : K.lookup f_demand_two = some ⟨oc_demand_two, od_demand_two, .func (PySem.W.fnOf "demand_two" "demand_two" (defArgs (topS 45)) (defBody (topS 45)) (defScope (topS 45)) .none kV_demand_two dc_demand_two pm_demand_two an_demand_two cd_demand_two ct_demand_two), sl_demand_two⟩)
    (c_demand_two : PySem.W.codeIn K cd_demand_two "demand_two" = true)
    (k_demand_two : PySem.W.keepIn K (.ref f_demand_two) = true)
    (a_row_at : PySem.W.nsIn K mainGlobals "row_at" = some (some (.ref f_row_at)))
    (l_row_at : K.lookup f_row_at = some ⟨oc_row_at, od_row_at, .func (PySem.W.fnOf "row_at" "row_at" (defArgs (topS 40)) (defBody (topS 40)) (defScope (topS 40)) .none kV_row_at dc_row_at pm_row_at an_row_at cd_row_at ct_row_at), sl_row_at⟩)
    (c_row_at : PySem.W.codeIn K cd_row_at "row_at" = true)
    (k_row_at : PySem.W.keepIn K (.ref f_row_at) = true)
    (a_led_indices : PySem.W.nsIn K mainGlobals "led_indices" = some (some (.ref f_led_indices)))
    (l_led_indices : K.lookup f_led_indices = some ⟨oc_led_indices, od_led_indices, .func (PySem.W.fnOf "led_indices" "led_indices" (defArgs (topS 41)) (defBody (topS 41)) (defScope (topS 41)) .none kV_led_indices dc_led_indices pm_led_indices an_led_indices cd_led_indices ct_led_indices), sl_led_indices⟩)
    (c_led_indices : PySem.W.codeIn K cd_led_indices "led_indices" = true)
    (k_led_indices : PySem.W.keepIn K (.ref f_led_indices) = true)
    (a_demand_told : PySem.W.nsIn K mainGlobals "demand_told" = some (some (.ref f_demand_told)))
    (l_demand_told : K.lookup f_demand_told = some ⟨oc_demand_told, od_demand_told, .func (PySem.W.fnOf "demand_told" "demand_told" (defArgs (topS 60)) (defBody (topS 60)) (defScope (topS 60)) .none kV_demand_told dc_demand_told pm_demand_told an_demand_told cd_demand_told ct_demand_told), sl_demand_told⟩)
    (c_demand_told : PySem.W.codeIn K cd_demand_told "demand_told" = true)
    (k_demand_told : PySem.W.keepIn K (.ref f_demand_told) = true)
    (a_first_parting : PySem.W.nsIn K mainGlobals "first_parting" = some (some (.ref f_first_parting)))
    (l_first_parting : K.lookup f_first_parting = some ⟨oc_first_parting, od_first_parting, .func (PySem.W.fnOf "first_parting" "first_parting" (defArgs (topS 76)) (defBody (topS 76)) (defScope (topS 76)) .none kV_first_parting dc_first_parting pm_first_parting an_first_parting cd_first_parting ct_first_parting), sl_first_parting⟩)
    (c_first_parting : PySem.W.codeIn K cd_first_parting "first_parting" = true)
    (k_first_parting : PySem.W.keepIn K (.ref f_first_parting) = true)
    (a_put_row : PySem.W.nsIn K mainGlobals "put_row" = some (some (.ref f_put_row)))
    (l_put_row : K.lookup f_put_row = some ⟨oc_put_row, od_put_row, .func (PySem.W.fnOf "put_row" "put_row" (defArgs (topS 50)) (defBody (topS 50)) (defScope (topS 50)) .none kV_put_row dc_put_row pm_put_row an_put_row cd_put_row ct_put_row), sl_put_row⟩)
    (c_put_row : PySem.W.codeIn K cd_put_row "put_row" = true)
    (k_put_row : PySem.W.keepIn K (.ref f_put_row) = true)
    (a_exchange_row : PySem.W.nsIn K mainGlobals "exchange_row" = some (some (.ref f_exchange_row)))
    (l_exchange_row : K.lookup f_exchange_row = some ⟨oc_exchange_row, od_exchange_row, .func (PySem.W.fnOf "exchange_row" "exchange_row" (defArgs (topS 51)) (defBody (topS 51)) (defScope (topS 51)) .none kV_exchange_row dc_exchange_row pm_exchange_row an_exchange_row cd_exchange_row ct_exchange_row), sl_exchange_row⟩)
    (c_exchange_row : PySem.W.codeIn K cd_exchange_row "exchange_row" = true)
    (k_exchange_row : PySem.W.keepIn K (.ref f_exchange_row) = true)
    (a_candidate_rows : PySem.W.nsIn K mainGlobals "candidate_rows" = some (some (.ref f_candidate_rows)))
    (l_candidate_rows : K.lookup f_candidate_rows = some ⟨oc_candidate_rows, od_candidate_rows, .func (PySem.W.fnOf "candidate_rows" "candidate_rows" (defArgs (topS 52)) (defBody (topS 52)) (defScope (topS 52)) .none kV_candidate_rows dc_candidate_rows pm_candidate_rows an_candidate_rows cd_candidate_rows ct_candidate_rows), sl_candidate_rows⟩)
    (c_candidate_rows : PySem.W.codeIn K cd_candidate_rows "candidate_rows" = true)
    (k_candidate_rows : PySem.W.keepIn K (.ref f_candidate_rows) = true)
    (a_few_rows : PySem.W.nsIn K mainGlobals "few_rows" = some (some (.ref f_few_rows)))
    (l_few_rows : K.lookup f_few_rows = some ⟨oc_few_rows, od_few_rows, .func (PySem.W.fnOf "few_rows" "few_rows" (defArgs (topS 53)) (defBody (topS 53)) (defScope (topS 53)) .none kV_few_rows dc_few_rows pm_few_rows an_few_rows cd_few_rows ct_few_rows), sl_few_rows⟩)
    (c_few_rows : PySem.W.codeIn K cd_few_rows "few_rows" = true)
    (k_few_rows : PySem.W.keepIn K (.ref f_few_rows) = true)
    (a_fixed : PySem.W.nsIn K mainGlobals "fixed" = some (some (.ref f_fixed)))
    (l_fixed : K.lookup f_fixed = some ⟨oc_fixed, od_fixed, .func (PySem.W.fnOf "fixed" "fixed" (defArgs (topS 2)) (defBody (topS 2)) (defScope (topS 2)) .none kV_fixed dc_fixed pm_fixed an_fixed cd_fixed ct_fixed), sl_fixed⟩)
    (c_fixed : PySem.W.codeIn K cd_fixed "fixed" = true)
    (k_fixed : PySem.W.keepIn K (.ref f_fixed) = true)
    (a_Paper___init__ : PySem.W.findIn K (.ref C_Paper) "__init__" = some (some (.ref f_Paper___init__)))
    (i_Paper___init__ : PySem.W.isFn K (.ref f_Paper___init__) = true)
    (l_Paper___init__ : K.lookup f_Paper___init__ = some ⟨oc_Paper___init__, od_Paper___init__, .func (PySem.W.fnOf "__init__" "Paper.__init__" (defArgs (inClass (topS 3) 0)) (defBody (inClass (topS 3) 0)) (defScope (inClass (topS 3) 0)) .none kV_Paper___init__ dc_Paper___init__ pm_Paper___init__ an_Paper___init__ cd_Paper___init__ ct_Paper___init__), sl_Paper___init__⟩)
    (c_Paper___init__ : PySem.W.codeIn K cd_Paper___init__ "Paper.__init__" = true)
    (k_Paper___init__ : PySem.W.keepIn K (.ref f_Paper___init__) = true)
    (a_Denial___init__ : PySem.W.findIn K (.ref C_Denial) "__init__" = some (some (.ref f_Denial___init__)))
    (i_Denial___init__ : PySem.W.isFn K (.ref f_Denial___init__) = true)
    (l_Denial___init__ : K.lookup f_Denial___init__ = some ⟨oc_Denial___init__, od_Denial___init__, .func (PySem.W.fnOf "__init__" "Denial.__init__" (defArgs (inClass (topS 4) 0)) (defBody (inClass (topS 4) 0)) (defScope (inClass (topS 4) 0)) .none kV_Denial___init__ dc_Denial___init__ pm_Denial___init__ an_Denial___init__ cd_Denial___init__ ct_Denial___init__), sl_Denial___init__⟩)
    (c_Denial___init__ : PySem.W.codeIn K cd_Denial___init__ "Denial.__init__" = true)
    (k_Denial___init__ : PySem.W.keepIn K (.ref f_Denial___init__) = true)
    (a_Kept___init__ : PySem.W.findIn K (.ref C_Kept) "__init__" = some (some (.ref f_Kept___init__)))
    (i_Kept___init__ : PySem.W.isFn K (.ref f_Kept___init__) = true)
    (l_Kept___init__ : K.lookup f_Kept___init__ = some ⟨oc_Kept___init__, od_Kept___init__, .func (PySem.W.fnOf "__init__" "Kept.__init__" (defArgs (inClass (topS 74) 0)) (defBody (inClass (topS 74) 0)) (defScope (inClass (topS 74) 0)) .none kV_Kept___init__ dc_Kept___init__ pm_Kept___init__ an_Kept___init__ cd_Kept___init__ ct_Kept___init__), sl_Kept___init__⟩)
    (c_Kept___init__ : PySem.W.codeIn K cd_Kept___init__ "Kept.__init__" = true)
    (k_Kept___init__ : PySem.W.keepIn K (.ref f_Kept___init__) = true)
    (a_Parting___init__ : PySem.W.findIn K (.ref C_Parting) "__init__" = some (some (.ref f_Parting___init__)))
    (i_Parting___init__ : PySem.W.isFn K (.ref f_Parting___init__) = true)
    (l_Parting___init__ : K.lookup f_Parting___init__ = some ⟨oc_Parting___init__, od_Parting___init__, .func (PySem.W.fnOf "__init__" "Parting.__init__" (defArgs (inClass (topS 75) 0)) (defBody (inClass (topS 75) 0)) (defScope (inClass (topS 75) 0)) .none kV_Parting___init__ dc_Parting___init__ pm_Parting___init__ an_Parting___init__ cd_Parting___init__ ct_Parting___init__), sl_Parting___init__⟩)
    (c_Parting___init__ : PySem.W.codeIn K cd_Parting___init__ "Parting.__init__" = true)
    (k_Parting___init__ : PySem.W.keepIn K (.ref f_Parting___init__) = true)
    (a_Paper___bool__ : PySem.W.findIn K (.ref C_Paper) "__bool__" = some (some (.ref f_Paper___bool__)))
    (i_Paper___bool__ : PySem.W.isFn K (.ref f_Paper___bool__) = true)
    (l_Paper___bool__ : K.lookup f_Paper___bool__ = some ⟨oc_Paper___bool__, od_Paper___bool__, .func (PySem.W.fnOf "__bool__" "Paper.__bool__" (defArgs (inClass (topS 3) 2)) (defBody (inClass (topS 3) 2)) (defScope (inClass (topS 3) 2)) .none kV_Paper___bool__ dc_Paper___bool__ pm_Paper___bool__ an_Paper___bool__ cd_Paper___bool__ ct_Paper___bool__), sl_Paper___bool__⟩)
    (c_Paper___bool__ : PySem.W.codeIn K cd_Paper___bool__ "Paper.__bool__" = true)
    (k_Paper___bool__ : PySem.W.keepIn K (.ref f_Paper___bool__) = true)
    (a_Denial___bool__ : PySem.W.findIn K (.ref C_Denial) "__bool__" = some (some (.ref f_Denial___bool__)))
    (i_Denial___bool__ : PySem.W.isFn K (.ref f_Denial___bool__) = true)
    (l_Denial___bool__ : K.lookup f_Denial___bool__ = some ⟨oc_Denial___bool__, od_Denial___bool__, .func (PySem.W.fnOf "__bool__" "Denial.__bool__" (defArgs (inClass (topS 4) 2)) (defBody (inClass (topS 4) 2)) (defScope (inClass (topS 4) 2)) .none kV_Denial___bool__ dc_Denial___bool__ pm_Denial___bool__ an_Denial___bool__ cd_Denial___bool__ ct_Denial___bool__), sl_Denial___bool__⟩)
    (c_Denial___bool__ : PySem.W.codeIn K cd_Denial___bool__ "Denial.__bool__" = true)
    (k_Denial___bool__ : PySem.W.keepIn K (.ref f_Denial___bool__) = true)
    (a_demand_told_manner : PySem.W.nsIn K mainGlobals "demand_told_manner" = some (some (.ref f_demand_told_manner)))
    (l_demand_told_manner : K.lookup f_demand_told_manner = some ⟨oc_demand_told_manner, od_demand_told_manner, .func (PySem.W.fnOf "demand_told_manner" "demand_told_manner" (defArgs (topS 77)) (defBody (topS 77)) (defScope (topS 77)) .none kV_demand_told_manner dc_demand_told_manner pm_demand_told_manner an_demand_told_manner cd_demand_told_manner ct_demand_told_manner), sl_demand_told_manner⟩)
    (c_demand_told_manner : PySem.W.codeIn K cd_demand_told_manner "demand_told_manner" = true)
    (k_demand_told_manner : PySem.W.keepIn K (.ref f_demand_told_manner) = true)
    (a_kept : PySem.W.nsIn K mainGlobals "kept" = some (some (.ref f_kept)))
    (l_kept : K.lookup f_kept = some ⟨oc_kept, od_kept, .func (PySem.W.fnOf "kept" "kept" (defArgs (topS 78)) (defBody (topS 78)) (defScope (topS 78)) .none kV_kept dc_kept pm_kept an_kept cd_kept ct_kept), sl_kept⟩)
    (c_kept : PySem.W.codeIn K cd_kept "kept" = true)
    (k_kept : PySem.W.keepIn K (.ref f_kept) = true)
    (a_keeps : PySem.W.nsIn K mainGlobals "keeps" = some (some (.ref f_keeps)))
    (l_keeps : K.lookup f_keeps = some ⟨oc_keeps, od_keeps, .func (PySem.W.fnOf "keeps" "keeps" (defArgs (topS 79)) (defBody (topS 79)) (defScope (topS 79)) .none kV_keeps dc_keeps pm_keeps an_keeps cd_keeps ct_keeps), sl_keeps⟩)
    (c_keeps : PySem.W.codeIn K cd_keeps "keeps" = true)
    (k_keeps : PySem.W.keepIn K (.ref f_keeps) = true)
    (a_demand_place : PySem.W.nsIn K mainGlobals "demand_place" = some (some (.ref f_demand_place)))
    (l_demand_place : K.lookup f_demand_place = some ⟨oc_demand_place, od_demand_place, .func (PySem.W.fnOf "demand_place" "demand_place" (defArgs (topS 30)) (defBody (topS 30)) (defScope (topS 30)) .none kV_demand_place dc_demand_place pm_demand_place an_demand_place cd_demand_place ct_demand_place), sl_demand_place⟩)
    (c_demand_place : PySem.W.codeIn K cd_demand_place "demand_place" = true)
    (k_demand_place : PySem.W.keepIn K (.ref f_demand_place) = true)
    (a_Worker___init__ : PySem.W.findIn K (.ref C_Worker) "__init__" = some (some (.ref f_Worker___init__)))
    (i_Worker___init__ : PySem.W.isFn K (.ref f_Worker___init__) = true)
    (l_Worker___init__ : K.lookup f_Worker___init__ = some ⟨oc_Worker___init__, od_Worker___init__, .func (PySem.W.fnOf "__init__" "Worker.__init__" (defArgs (inClass (topS 64) 0)) (defBody (inClass (topS 64) 0)) (defScope (inClass (topS 64) 0)) .none kV_Worker___init__ dc_Worker___init__ pm_Worker___init__ an_Worker___init__ cd_Worker___init__ ct_Worker___init__), sl_Worker___init__⟩)
    (c_Worker___init__ : PySem.W.codeIn K cd_Worker___init__ "Worker.__init__" = true)
    (k_Worker___init__ : PySem.W.keepIn K (.ref f_Worker___init__) = true)
    (a_Place___init__ : PySem.W.findIn K (.ref C_Place) "__init__" = some (some (.ref f_Place___init__)))
    (i_Place___init__ : PySem.W.isFn K (.ref f_Place___init__) = true)
    (l_Place___init__ : K.lookup f_Place___init__ = some ⟨oc_Place___init__, od_Place___init__, .func (PySem.W.fnOf "__init__" "Place.__init__" (defArgs (inClass (topS 65) 0)) (defBody (inClass (topS 65) 0)) (defScope (inClass (topS 65) 0)) .none kV_Place___init__ dc_Place___init__ pm_Place___init__ an_Place___init__ cd_Place___init__ ct_Place___init__), sl_Place___init__⟩)
    (c_Place___init__ : PySem.W.codeIn K cd_Place___init__ "Place.__init__" = true)
    (k_Place___init__ : PySem.W.keepIn K (.ref f_Place___init__) = true)
    (a_Place_over : PySem.W.findIn K (.ref C_Place) "over" = some (some (.ref f_Place_over)))
    (i_Place_over : PySem.W.isFn K (.ref f_Place_over) = true)
    (l_Place_over : K.lookup f_Place_over = some ⟨oc_Place_over, od_Place_over, .func (PySem.W.fnOf "over" "Place.over" (defArgs (inClass (topS 65) 3)) (defBody (inClass (topS 65) 3)) (defScope (inClass (topS 65) 3)) .none kV_Place_over dc_Place_over pm_Place_over an_Place_over cd_Place_over ct_Place_over), sl_Place_over⟩)
    (c_Place_over : PySem.W.codeIn K cd_Place_over "Place.over" = true)
    (k_Place_over : PySem.W.keepIn K (.ref f_Place_over) = true)
    (a_demand_known_manner : PySem.W.nsIn K mainGlobals "demand_known_manner" = some (some (.ref f_demand_known_manner)))
    (l_demand_known_manner : K.lookup f_demand_known_manner = some ⟨oc_demand_known_manner, od_demand_known_manner, .func (PySem.W.fnOf "demand_known_manner" "demand_known_manner" (defArgs (topS 69)) (defBody (topS 69)) (defScope (topS 69)) .none kV_demand_known_manner dc_demand_known_manner pm_demand_known_manner an_demand_known_manner cd_demand_known_manner ct_demand_known_manner), sl_demand_known_manner⟩)
    (c_demand_known_manner : PySem.W.codeIn K cd_demand_known_manner "demand_known_manner" = true)
    (k_demand_known_manner : PySem.W.keepIn K (.ref f_demand_known_manner) = true)
    (a_all_known : PySem.W.nsIn K mainGlobals "all_known" = some (some (.ref f_all_known)))
    (l_all_known : K.lookup f_all_known = some ⟨oc_all_known, od_all_known, .func (PySem.W.fnOf "all_known" "all_known" (defArgs (topS 70)) (defBody (topS 70)) (defScope (topS 70)) .none kV_all_known dc_all_known pm_all_known an_all_known cd_all_known ct_all_known), sl_all_known⟩)
    (c_all_known : PySem.W.codeIn K cd_all_known "all_known" = true)
    (k_all_known : PySem.W.keepIn K (.ref f_all_known) = true)
    (a_known_of : PySem.W.nsIn K mainGlobals "known_of" = some (some (.ref f_known_of)))
    (l_known_of : K.lookup f_known_of = some ⟨oc_known_of, od_known_of, .func (PySem.W.fnOf "known_of" "known_of" (defArgs (topS 71)) (defBody (topS 71)) (defScope (topS 71)) .none kV_known_of dc_known_of pm_known_of an_known_of cd_known_of ct_known_of), sl_known_of⟩)
    (c_known_of : PySem.W.codeIn K cd_known_of "known_of" = true)
    (k_known_of : PySem.W.keepIn K (.ref f_known_of) = true)
    (a_law_jug : PySem.W.nsIn K mainGlobals "_law_jug" = some (some (.ref f_law_jug)))
    (l_law_jug : K.lookup f_law_jug = some ⟨oc_law_jug, od_law_jug, .func (PySem.W.fnOf "_law_jug" "_law_jug" (defArgs (topS 81)) (defBody (topS 81)) (defScope (topS 81)) .none kV_law_jug dc_law_jug pm_law_jug an_law_jug cd_law_jug ct_law_jug), sl_law_jug⟩)
    (c_law_jug : PySem.W.codeIn K cd_law_jug "_law_jug" = true)
    (k_law_jug : PySem.W.keepIn K (.ref f_law_jug) = true)
    (a_law_tap : PySem.W.nsIn K mainGlobals "_law_tap" = some (some (.ref f_law_tap)))
    (l_law_tap : K.lookup f_law_tap = some ⟨oc_law_tap, od_law_tap, .func (PySem.W.fnOf "_law_tap" "_law_tap" (defArgs (topS 82)) (defBody (topS 82)) (defScope (topS 82)) .none kV_law_tap dc_law_tap pm_law_tap an_law_tap cd_law_tap ct_law_tap), sl_law_tap⟩)
    (c_law_tap : PySem.W.codeIn K cd_law_tap "_law_tap" = true)
    (k_law_tap : PySem.W.keepIn K (.ref f_law_tap) = true)
    (a_law_pick : PySem.W.nsIn K mainGlobals "_law_pick" = some (some (.ref f_law_pick)))
    (l_law_pick : K.lookup f_law_pick = some ⟨oc_law_pick, od_law_pick, .func (PySem.W.fnOf "_law_pick" "_law_pick" (defArgs (topS 83)) (defBody (topS 83)) (defScope (topS 83)) .none kV_law_pick dc_law_pick pm_law_pick an_law_pick cd_law_pick ct_law_pick), sl_law_pick⟩)
    (c_law_pick : PySem.W.codeIn K cd_law_pick "_law_pick" = true)
    (k_law_pick : PySem.W.keepIn K (.ref f_law_pick) = true)
    (a_law_inputs : PySem.W.nsIn K mainGlobals "_law_inputs" = some (some (.ref f_law_inputs)))
    (l_law_inputs : K.lookup f_law_inputs = some ⟨oc_law_inputs, od_law_inputs, .func (PySem.W.fnOf "_law_inputs" "_law_inputs" (defArgs (topS 84)) (defBody (topS 84)) (defScope (topS 84)) .none kV_law_inputs dc_law_inputs pm_law_inputs an_law_inputs cd_law_inputs ct_law_inputs), sl_law_inputs⟩)
    (c_law_inputs : PySem.W.codeIn K cd_law_inputs "_law_inputs" = true)
    (k_law_inputs : PySem.W.keepIn K (.ref f_law_inputs) = true)
    (a_is_turned : PySem.W.nsIn K mainGlobals "is_turned" = some (some (.ref f_is_turned)))
    (l_is_turned : K.lookup f_is_turned = some ⟨oc_is_turned, od_is_turned, .func (PySem.W.fnOf "is_turned" "is_turned" (defArgs (topS 72)) (defBody (topS 72)) (defScope (topS 72)) .none kV_is_turned dc_is_turned pm_is_turned an_is_turned cd_is_turned ct_is_turned), sl_is_turned⟩)
    (c_is_turned : PySem.W.codeIn K cd_is_turned "is_turned" = true)
    (k_is_turned : PySem.W.keepIn K (.ref f_is_turned) = true)
    (a_Place___eq__ : PySem.W.findIn K (.ref C_Place) "__eq__" = some (some (.ref f_Place___eq__)))
    (i_Place___eq__ : PySem.W.isFn K (.ref f_Place___eq__) = true)
    (l_Place___eq__ : K.lookup f_Place___eq__ = some ⟨oc_Place___eq__, od_Place___eq__, .func (PySem.W.fnOf "__eq__" "Place.__eq__" (defArgs (inClass (topS 65) 1)) (defBody (inClass (topS 65) 1)) (defScope (inClass (topS 65) 1)) .none kV_Place___eq__ dc_Place___eq__ pm_Place___eq__ an_Place___eq__ cd_Place___eq__ ct_Place___eq__), sl_Place___eq__⟩)
    (c_Place___eq__ : PySem.W.codeIn K cd_Place___eq__ "Place.__eq__" = true)
    (k_Place___eq__ : PySem.W.keepIn K (.ref f_Place___eq__) = true)
    (a_law_goes : PySem.W.nsIn K mainGlobals "_law_goes" = some (some (.ref f_law_goes)))
    (l_law_goes : K.lookup f_law_goes = some ⟨oc_law_goes, od_law_goes, .func (PySem.W.fnOf "_law_goes" "_law_goes" (defArgs (topS 85)) (defBody (topS 85)) (defScope (topS 85)) .none kV_law_goes dc_law_goes pm_law_goes an_law_goes cd_law_goes ct_law_goes), sl_law_goes⟩)
    (c_law_goes : PySem.W.codeIn K cd_law_goes "_law_goes" = true)
    (k_law_goes : PySem.W.keepIn K (.ref f_law_goes) = true)
    (a_law_is_turned : PySem.W.nsIn K mainGlobals "_law_is_turned" = some (some (.ref f_law_is_turned)))
    (l_law_is_turned : K.lookup f_law_is_turned = some ⟨oc_law_is_turned, od_law_is_turned, .func (PySem.W.fnOf "_law_is_turned" "_law_is_turned" (defArgs (topS 86)) (defBody (topS 86)) (defScope (topS 86)) .none kV_law_is_turned dc_law_is_turned pm_law_is_turned an_law_is_turned cd_law_is_turned ct_law_is_turned), sl_law_is_turned⟩)
    (c_law_is_turned : PySem.W.codeIn K cd_law_is_turned "_law_is_turned" = true)
    (k_law_is_turned : PySem.W.keepIn K (.ref f_law_is_turned) = true)
    (a_law_digits : PySem.W.nsIn K mainGlobals "_law_digits" = some (some (.ref f_law_digits)))
    (l_law_digits : K.lookup f_law_digits = some ⟨oc_law_digits, od_law_digits, .func (PySem.W.fnOf "_law_digits" "_law_digits" (defArgs (topS 87)) (defBody (topS 87)) (defScope (topS 87)) .none kV_law_digits dc_law_digits pm_law_digits an_law_digits cd_law_digits ct_law_digits), sl_law_digits⟩)
    (c_law_digits : PySem.W.codeIn K cd_law_digits "_law_digits" = true)
    (k_law_digits : PySem.W.keepIn K (.ref f_law_digits) = true)
    (a_law_half : PySem.W.nsIn K mainGlobals "_law_half" = some (some (.ref f_law_half)))
    (l_law_half : K.lookup f_law_half = some ⟨oc_law_half, od_law_half, .func (PySem.W.fnOf "_law_half" "_law_half" (defArgs (topS 88)) (defBody (topS 88)) (defScope (topS 88)) .none kV_law_half dc_law_half pm_law_half an_law_half cd_law_half ct_law_half), sl_law_half⟩)
    (c_law_half : PySem.W.codeIn K cd_law_half "_law_half" = true)
    (k_law_half : PySem.W.keepIn K (.ref f_law_half) = true)
    (a_law_bent : PySem.W.nsIn K mainGlobals "_law_bent" = some (some (.ref f_law_bent)))
    (l_law_bent : K.lookup f_law_bent = some ⟨oc_law_bent, od_law_bent, .func (PySem.W.fnOf "_law_bent" "_law_bent" (defArgs (topS 93)) (defBody (topS 93)) (defScope (topS 93)) .none kV_law_bent dc_law_bent pm_law_bent an_law_bent cd_law_bent ct_law_bent), sl_law_bent⟩)
    (c_law_bent : PySem.W.codeIn K cd_law_bent "_law_bent" = true)
    (k_law_bent : PySem.W.keepIn K (.ref f_law_bent) = true)
    (a_law_parts : PySem.W.nsIn K mainGlobals "_law_parts" = some (some (.ref f_law_parts)))
    (l_law_parts : K.lookup f_law_parts = some ⟨oc_law_parts, od_law_parts, .func (PySem.W.fnOf "_law_parts" "_law_parts" (defArgs (topS 89)) (defBody (topS 89)) (defScope (topS 89)) .none kV_law_parts dc_law_parts pm_law_parts an_law_parts cd_law_parts ct_law_parts), sl_law_parts⟩)
    (c_law_parts : PySem.W.codeIn K cd_law_parts "_law_parts" = true)
    (k_law_parts : PySem.W.keepIn K (.ref f_law_parts) = true)
    (a_law_right : PySem.W.nsIn K mainGlobals "_law_right" = some (some (.ref f_law_right)))
    (l_law_right : K.lookup f_law_right = some ⟨oc_law_right, od_law_right, .func (PySem.W.fnOf "_law_right" "_law_right" (defArgs (topS 90)) (defBody (topS 90)) (defScope (topS 90)) .none kV_law_right dc_law_right pm_law_right an_law_right cd_law_right ct_law_right), sl_law_right⟩)
    (c_law_right : PySem.W.codeIn K cd_law_right "_law_right" = true)
    (k_law_right : PySem.W.keepIn K (.ref f_law_right) = true)
    (a_law_heard : PySem.W.nsIn K mainGlobals "_law_heard" = some (some (.ref f_law_heard)))
    (l_law_heard : K.lookup f_law_heard = some ⟨oc_law_heard, od_law_heard, .func (PySem.W.fnOf "_law_heard" "_law_heard" (defArgs (topS 91)) (defBody (topS 91)) (defScope (topS 91)) .none kV_law_heard dc_law_heard pm_law_heard an_law_heard cd_law_heard ct_law_heard), sl_law_heard⟩)
    (c_law_heard : PySem.W.codeIn K cd_law_heard "_law_heard" = true)
    (k_law_heard : PySem.W.keepIn K (.ref f_law_heard) = true)
    (a_law_refused_right : PySem.W.nsIn K mainGlobals "_law_refused_right" = some (some (.ref f_law_refused_right)))
    (l_law_refused_right : K.lookup f_law_refused_right = some ⟨oc_law_refused_right, od_law_refused_right, .func (PySem.W.fnOf "_law_refused_right" "_law_refused_right" (defArgs (topS 92)) (defBody (topS 92)) (defScope (topS 92)) .none kV_law_refused_right dc_law_refused_right pm_law_refused_right an_law_refused_right (.ref cd_law_refused_right) ct_law_refused_right), sl_law_refused_right⟩)
    (c_law_refused_right : PySem.W.codeIn K (.ref cd_law_refused_right) "_law_refused_right" = true)
    (k_law_refused_right : PySem.W.keepIn K (.ref f_law_refused_right) = true)
    (a_Thing___init__ : PySem.W.findIn K (.ref C_Thing) "__init__" = some (some (.ref f_Thing___init__)))
    (i_Thing___init__ : PySem.W.isFn K (.ref f_Thing___init__) = true)
    (l_Thing___init__ : K.lookup f_Thing___init__ = some ⟨oc_Thing___init__, od_Thing___init__, .func (PySem.W.fnOf "__init__" "Thing.__init__" (defArgs (inClass (topS 66) 0)) (defBody (inClass (topS 66) 0)) (defScope (inClass (topS 66) 0)) .none kV_Thing___init__ dc_Thing___init__ pm_Thing___init__ an_Thing___init__ cd_Thing___init__ ct_Thing___init__), sl_Thing___init__⟩)
    (c_Thing___init__ : PySem.W.codeIn K cd_Thing___init__ "Thing.__init__" = true)
    (k_Thing___init__ : PySem.W.keepIn K (.ref f_Thing___init__) = true)
    (a_BadTold___init__ : PySem.W.findIn K (.ref C_BadTold) "__init__" = some (some (.ref f_BadTold___init__)))
    (i_BadTold___init__ : PySem.W.isFn K (.ref f_BadTold___init__) = true)
    (l_BadTold___init__ : K.lookup f_BadTold___init__ = some ⟨oc_BadTold___init__, od_BadTold___init__, .func (PySem.W.fnOf "__init__" "BadTold.__init__" (defArgs (inClass (topS 13) 0)) (defBody (inClass (topS 13) 0)) (defScope (inClass (topS 13) 0)) .none kV_BadTold___init__ dc_BadTold___init__ pm_BadTold___init__ an_BadTold___init__ cd_BadTold___init__ ct_BadTold___init__), sl_BadTold___init__⟩)
    (c_BadTold___init__ : PySem.W.codeIn K cd_BadTold___init__ "BadTold.__init__" = true)
    (k_BadTold___init__ : PySem.W.keepIn K (.ref f_BadTold___init__) = true)
    (a_Misfit___init__ : PySem.W.findIn K (.ref C_Misfit) "__init__" = some (some (.ref f_Misfit___init__)))
    (i_Misfit___init__ : PySem.W.isFn K (.ref f_Misfit___init__) = true)
    (l_Misfit___init__ : K.lookup f_Misfit___init__ = some ⟨oc_Misfit___init__, od_Misfit___init__, .func (PySem.W.fnOf "__init__" "Misfit.__init__" (defArgs (inClass (topS 15) 0)) (defBody (inClass (topS 15) 0)) (defScope (inClass (topS 15) 0)) .none kV_Misfit___init__ dc_Misfit___init__ pm_Misfit___init__ an_Misfit___init__ cd_Misfit___init__ ct_Misfit___init__), sl_Misfit___init__⟩)
    (c_Misfit___init__ : PySem.W.codeIn K cd_Misfit___init__ "Misfit.__init__" = true)
    (k_Misfit___init__ : PySem.W.keepIn K (.ref f_Misfit___init__) = true)
    (v_MOST_THINGS : PySem.W.nsIn K mainGlobals "MOST_THINGS" = some (some (.int 5 t_MOST_THINGS)))
    (v_MOST_PLACES : PySem.W.nsIn K mainGlobals "MOST_PLACES" = some (some (.int 4 t_MOST_PLACES)))
    (v_MOST_VALUES : PySem.W.nsIn K mainGlobals "MOST_VALUES" = some (some (.int 256 t_MOST_VALUES)))
    (aM_MANNERS : PySem.W.nsIn K mainGlobals "MANNERS" = some (some (.ref a_MANNERS)))
    (gK_MANNERS : Kn.KTup K a_MANNERS (manners.map V.str))
    (z_len : PySem.W.nsIn K mainGlobals "len" = some none)
    (z_all : PySem.W.nsIn K mainGlobals "all" = some none)
    (z_any : PySem.W.nsIn K mainGlobals "any" = some none)
    (z_isinstance : PySem.W.nsIn K mainGlobals "isinstance" = some none)
    (z_int : PySem.W.nsIn K mainGlobals "int" = some none)
    (z_bool : PySem.W.nsIn K mainGlobals "bool" = some none)
    (z_list : PySem.W.nsIn K mainGlobals "list" = some none)
    (z_tuple : PySem.W.nsIn K mainGlobals "tuple" = some none)
    (z_str : PySem.W.nsIn K mainGlobals "str" = some none)
    (z_range : PySem.W.nsIn K mainGlobals "range" = some none)
    (z_zip : PySem.W.nsIn K mainGlobals "zip" = some none)
    (z_sorted : PySem.W.nsIn K mainGlobals "sorted" = some none)
    (z_type : PySem.W.nsIn K mainGlobals "type" = some none)
    (z_max : PySem.W.nsIn K mainGlobals "max" = some none)
    (z_min : PySem.W.nsIn K mainGlobals "min" = some none)
    (z_abs : PySem.W.nsIn K mainGlobals "abs" = some none)
    (z_repr : PySem.W.nsIn K mainGlobals "repr" = some none)
    (z_set : PySem.W.nsIn K mainGlobals "set" = some none)
    (z_enumerate : PySem.W.nsIn K mainGlobals "enumerate" = some none)
    (z_dict : PySem.W.nsIn K mainGlobals "dict" = some none)
    (z_sum : PySem.W.nsIn K mainGlobals "sum" = some none)
    (g_KT : PySem.W.nsIn K mainGlobals "KNOWN_THINGS" = some (some (.ref t_KT)))
    (d_KT : K.lookup t_KT = some ⟨.type "dict", none, .dict es_KT n_KT, #[]⟩)
    (y_KT : PySem.W.KeysLit w.params es_KT.toList)
    (s_KT : (t_KT == sysModules) = false)
    (v_KT : PySem.W.nsIn K t_KT "blind" = some (some (.int 0 tk_KT)))
    (x_gn : PySem.W.specialIn K (.builtin "object.__class__") "__get__" = some (some (.builtin "getset_descriptor.__get__")))
    (x_tk : PySem.W.takesIn K (.builtin "object.__class__") = some true)
    (x_ca_Lead : PySem.W.findIn K (.ref C_Lead) "__class__" = some (some (.builtin "object.__class__")))
    (x_mr_Lead : PySem.W.mroIn K C_Lead (.type "object") = some true)
    (x_ca_Kept : PySem.W.findIn K (.ref C_Kept) "__class__" = some (some (.builtin "object.__class__")))
    (x_mr_Kept : PySem.W.mroIn K C_Kept (.type "object") = some true)
    (x_ca_Parting : PySem.W.findIn K (.ref C_Parting) "__class__" = some (some (.builtin "object.__class__")))
    (x_mr_Parting : PySem.W.mroIn K C_Parting (.type "object") = some true)
    (x_no : PySem.W.kitAny K (.ref C_Lead) [.type "list", .type "tuple"] = some false)
    (x_k7 : PySem.W.kitOne K (.ref C_Kept) (.ref C_Kept) = some true)
    (x_k8 : PySem.W.kitOne K (.ref C_Parting) (.ref C_Parting) = some true)
    (fb_Kept : PySem.W.findIn K (.ref C_Kept) "__bool__" = some (some (.ref f_Paper___bool__)))
    (fb_Parting : PySem.W.findIn K (.ref C_Parting) "__bool__" = some (some (.ref f_Denial___bool__)))
    (fc_Paper : PySem.W.findCls K (.ref C_Paper) (.type "type") "__init__" = some (.val (.ref f_Paper___init__)))
    (fc_Denial : PySem.W.findCls K (.ref C_Denial) (.type "type") "__init__" = some (.val (.ref f_Denial___init__)))
    (fc_Worker : PySem.W.findCls K (.ref C_Worker) (.type "type") "__init__" = some (.val (.ref f_Worker___init__)))
    (aC_BadTold : PySem.W.nsIn K mainGlobals "BadTold" = some (some (.ref C_BadTold)))
    (aC_Misfit : PySem.W.nsIn K mainGlobals "Misfit" = some (some (.ref C_Misfit)))
    (aC_TellsError : PySem.W.nsIn K mainGlobals "TellsError" = some (some (.ref C_TellsError)))
    (x_eB_BadTold : Pg.excB K C_BadTold = true)
    (x_sa_BadTold : PySem.W.findIn K (.ref C_BadTold) "__setattr__" = some (some (.builtin "object.__setattr__")))
    (x_ex_BadTold : PySem.W.subIn K (.ref C_BadTold) (.type "BaseException") = some true)
    (x_ty_BadTold : PySem.W.typeIn K (.ref C_BadTold) = some (.type "type"))
    (x_k_BadTold : PySem.W.keepIn K (.ref C_BadTold) = true)
    (x_part_BadTold : PySem.W.findIn K (.ref C_BadTold) "part" = some none)
    (x_hd_BadTold : PySem.W.hasDictIn K C_BadTold = true)
    (x_ci_BadTold : (PySem.W.clsIn K C_BadTold).isSome = true)
    (x_ga_BadTold : PySem.W.findIn K (.ref C_BadTold) "__getattribute__" = some (some (.builtin "BaseException.__getattribute__")))
    (x_gg_BadTold : PySem.W.findIn K (.ref C_BadTold) "__getattr__" = some none)
    (x_ca_BadTold : PySem.W.findIn K (.ref C_BadTold) "__class__" = some (some (.builtin "object.__class__")))
    (x_mr_BadTold : PySem.W.mroIn K C_BadTold (.type "object") = some true)
    (x_tf_BadTold : PySem.W.typeIn K (.ref f_BadTold___init__) = some (.type "function"))
    (x_fit_BadTold : PySem.W.exmOne K (.ref C_BadTold) (.ref C_TellsError) = some true)
    (x_eB_Misfit : Pg.excB K C_Misfit = true)
    (x_sa_Misfit : PySem.W.findIn K (.ref C_Misfit) "__setattr__" = some (some (.builtin "object.__setattr__")))
    (x_ex_Misfit : PySem.W.subIn K (.ref C_Misfit) (.type "BaseException") = some true)
    (x_ty_Misfit : PySem.W.typeIn K (.ref C_Misfit) = some (.type "type"))
    (x_k_Misfit : PySem.W.keepIn K (.ref C_Misfit) = true)
    (x_part_Misfit : PySem.W.findIn K (.ref C_Misfit) "part" = some none)
    (x_hd_Misfit : PySem.W.hasDictIn K C_Misfit = true)
    (x_ci_Misfit : (PySem.W.clsIn K C_Misfit).isSome = true)
    (x_ga_Misfit : PySem.W.findIn K (.ref C_Misfit) "__getattribute__" = some (some (.builtin "BaseException.__getattribute__")))
    (x_gg_Misfit : PySem.W.findIn K (.ref C_Misfit) "__getattr__" = some none)
    (x_ca_Misfit : PySem.W.findIn K (.ref C_Misfit) "__class__" = some (some (.builtin "object.__class__")))
    (x_mr_Misfit : PySem.W.mroIn K C_Misfit (.type "object") = some true)
    (x_tf_Misfit : PySem.W.typeIn K (.ref f_Misfit___init__) = some (.type "function"))
    (x_fit_Misfit : PySem.W.exmOne K (.ref C_Misfit) (.ref C_TellsError) = some true)
    (x_k44 : PySem.W.kitOne K (.ref C_BadTold) (.ref C_BadTold) = some true)
    (x_k54 : PySem.W.kitOne K (.ref C_Misfit) (.ref C_BadTold) = some false)
    (x_a4 : PySem.W.kitAny K (.ref C_BadTold) [.ref C_BadTold, .ref C_Misfit] = some true)
    (x_a5 : PySem.W.kitAny K (.ref C_Misfit) [.ref C_BadTold, .ref C_Misfit] = some true)
    (x_ne : C_Place ≠ C_Told)
    (tb_law_refused_right : Pg.tabB K cd_law_refused_right Pt_law_refused_right = true)
    (r_tab : ((PyProof.Rows.recsOf q).find? (fun e => e.name == ("_law_refused_right" : Str))).isSome = true) :
    ∃ cs : List (Str × Addr × Addr), (∀ x ∈ cs, ((PyProof.Rows.recsOf q).find? (fun e => e.name == x.1)).isSome = true ∧ PySem.W.tabIn K x.1 = some x.2 ∧ K.lookup x.2.2 = none) ∧ LawOkT l.prog w K mg fa a ns s (cs.map (·.2)) := by
  cases hfa.symm.trans (PySem.W.mg_of X Gh a_law)
  have F_law := fun_mk (st := (topS 94)) l_law c_law k_law
  have FC_law : FunC K "law" "law" (topS 94) _ _ cd_law := ⟨⟨_, _, _, _, _, _, _, _, rfl, l_law, c_law⟩, k_law⟩
  have b_law := F_law.binds (ps := ["script"]) fun _ _ _ _ _ _ us hl => match us, hl with | [_], _ => rfl
  have F_is_integer := fun_mk (st := (topS 6)) l_is_integer c_is_integer k_is_integer
  have b_is_integer := F_is_integer.binds (ps := ["value"]) fun _ _ _ _ _ _ us hl => match us, hl with | [_], _ => rfl
  have F_are_numbers := fun_mk (st := (topS 8)) l_are_numbers c_are_numbers k_are_numbers
  have b_are_numbers := F_are_numbers.binds (ps := ["value"]) fun _ _ _ _ _ _ us hl => match us, hl with | [_], _ => rfl
  have F_is_within := fun_mk (st := (topS 7)) l_is_within c_is_within k_is_within
  have b_is_within := F_is_within.binds (ps := ["value", "least", "most"]) fun _ _ _ _ _ _ us hl => match us, hl with | [_, _, _], _ => rfl
  have F_demand_number := fun_mk (st := (topS 24)) l_demand_number c_demand_number k_demand_number
  have b_demand_number := F_demand_number.binds (ps := ["value", "least", "most", "part"]) fun _ _ _ _ _ _ us hl => match us, hl with | [_, _, _, _], _ => rfl
  have F_demand_world := fun_mk (st := (topS 25)) l_demand_world c_demand_world k_demand_world
  have b_demand_world := F_demand_world.binds (ps := ["things", "part"]) fun _ _ _ _ _ _ us hl => match us, hl with | [_, _], _ => rfl
  have F_demand_numbers := fun_mk (st := (topS 27)) l_demand_numbers c_demand_numbers k_demand_numbers
  have b_demand_numbers := F_demand_numbers.binds (ps := ["values", "part"]) fun _ _ _ _ _ _ us hl => match us, hl with | [_, _], _ => rfl
  have F_demand_things := fun_mk (st := (topS 29)) l_demand_things c_demand_things k_demand_things
  have b_demand_things := F_demand_things.binds (ps := ["values", "things"]) fun _ _ _ _ _ _ us hl => match us, hl with | [_, _], _ => rfl
  have F_Lead___init__ := fun_mk (st := (inClass (topS 35) 0)) l_Lead___init__ c_Lead___init__ k_Lead___init__
  have b_Lead___init__ := F_Lead___init__.binds (ps := ["self", "into", "row"]) fun _ _ _ _ _ _ us hl => match us, hl with | [_, _, _], _ => rfl
  have F_all_rows := fun_mk (st := (topS 38)) l_all_rows c_all_rows k_all_rows
  have b_all_rows := F_all_rows.binds (ps := ["things", "many"]) fun _ _ _ _ _ _ us hl => match us, hl with | [_, _], _ => rfl
  have F_many_rows := fun_mk (st := (topS 37)) l_many_rows c_many_rows k_many_rows
  have b_many_rows := F_many_rows.binds (ps := ["things", "many"]) fun _ _ _ _ _ _ us hl => match us, hl with | [_, _], _ => rfl
  have F_row_index := fun_mk (st := (topS 39)) l_row_index c_row_index k_row_index
  have b_row_index := F_row_index.binds (ps := ["row", "things"]) fun _ _ _ _ _ _ us hl => match us, hl with | [_, _], _ => rfl
  have F_demand_many_places := fun_mk (st := (topS 26)) l_demand_many_places c_demand_many_places k_demand_many_places
  have b_demand_many_places := F_demand_many_places.binds (ps := ["places"]) fun _ _ _ _ _ _ us hl => match us, hl with | [_], _ => rfl
  have F_demand_many_numbers := fun_mk (st := (topS 28)) l_demand_many_numbers c_demand_many_numbers k_demand_many_numbers
  have b_demand_many_numbers := F_demand_many_numbers.binds (ps := ["values", "many", "part"]) fun _ _ _ _ _ _ us hl => match us, hl with | [_, _, _], _ => rfl
  have F_demand_few_values := fun_mk (st := (topS 56)) l_demand_few_values c_demand_few_values k_demand_few_values
  have b_demand_few_values := F_demand_few_values.binds (ps := ["things", "places"]) fun _ _ _ _ _ _ us hl => match us, hl with | [_, _], _ => rfl
  have F_inputs := fun_mk (st := (topS 57)) l_inputs c_inputs k_inputs
  have b_inputs := F_inputs.binds (ps := ["things", "places"]) fun _ _ _ _ _ _ us hl => match us, hl with | [_, _], _ => rfl
  have F_Told___init__ := fun_mk (st := (inClass (topS 59) 0)) l_Told___init__ c_Told___init__ k_Told___init__
  have b_Told___init__ := F_Told___init__.binds (ps := ["self", "things", "places", "tells"]) fun _ _ _ _ _ _ us hl => match us, hl with | [_, _, _, _], _ => rfl
  have F_Told___eq__ := fun_mk (st := (inClass (topS 59) 1)) l_Told___eq__ c_Told___eq__ k_Told___eq__
  have b_Told___eq__ := F_Told___eq__.binds (ps := ["self", "other"]) fun _ _ _ _ _ _ us hl => match us, hl with | [_, _], _ => rfl
  have F_never_falls := fun_mk (st := (topS 46)) l_never_falls c_never_falls k_never_falls
  have b_never_falls := F_never_falls.binds (ps := ["row"]) fun _ _ _ _ _ _ us hl => match us, hl with | [_], _ => rfl
  have F_never_rises := fun_mk (st := (topS 47)) l_never_rises c_never_rises k_never_rises
  have b_never_rises := F_never_rises.binds (ps := ["row"]) fun _ _ _ _ _ _ us hl => match us, hl with | [_], _ => rfl
  have F_rises := fun_mk (st := (topS 48)) l_rises c_rises k_rises
  have b_rises := F_rises.binds (ps := ["row"]) fun _ _ _ _ _ _ us hl => match us, hl with | [_], _ => rfl
  have F_row_is_of := fun_mk (st := (topS 49)) l_row_is_of c_row_is_of k_row_is_of
  have b_row_is_of := F_row_is_of.binds (ps := ["row", "into", "manner"]) fun _ _ _ _ _ _ us hl => match us, hl with | [_, _, _], _ => rfl
  have F_demand_manner := fun_mk (st := (topS 44)) l_demand_manner c_demand_manner k_demand_manner
  have b_demand_manner := F_demand_manner.binds (ps := ["manner", "part"]) fun _ _ _ _ _ _ us hl => match us, hl with | [_, _], _ => rfl
  have F_demand_two := fun_mk (st := (topS 45)) l_demand_two c_demand_two k_demand_two
  have b_demand_two := F_demand_two.binds (ps := ["manner", "worlds"]) fun _ _ _ _ _ _ us hl => match us, hl with | [_, _], _ => rfl
  have F_row_at := fun_mk (st := (topS 40)) l_row_at c_row_at k_row_at
  have b_row_at := F_row_at.binds (ps := ["index", "things", "many"]) fun _ _ _ _ _ _ us hl => match us, hl with | [_, _, _], _ => rfl
  have F_led_indices := fun_mk (st := (topS 41)) l_led_indices c_led_indices k_led_indices
  have b_led_indices := F_led_indices.binds (ps := ["row", "into", "many"]) fun _ _ _ _ _ _ us hl => match us, hl with | [_, _, _], _ => rfl
  have F_demand_told := fun_mk (st := (topS 60)) l_demand_told c_demand_told k_demand_told
  have b_demand_told := F_demand_told.binds (ps := ["told"]) fun _ _ _ _ _ _ us hl => match us, hl with | [_], _ => rfl
  have F_first_parting := fun_mk (st := (topS 76)) l_first_parting c_first_parting k_first_parting
  have b_first_parting := F_first_parting.binds (ps := ["begin", "into", "lead_row"]) fun _ _ _ _ _ _ us hl => match us, hl with | [_, _, _], _ => rfl
  have F_put_row := fun_mk (st := (topS 50)) l_put_row c_put_row k_put_row
  have b_put_row := F_put_row.binds (ps := ["things", "thing", "other"]) fun _ _ _ _ _ _ us hl => match us, hl with | [_, _, _], _ => rfl
  have F_exchange_row := fun_mk (st := (topS 51)) l_exchange_row c_exchange_row k_exchange_row
  have b_exchange_row := F_exchange_row.binds (ps := ["things", "thing", "other"]) fun _ _ _ _ _ _ us hl => match us, hl with | [_, _, _], _ => rfl
  have F_candidate_rows := fun_mk (st := (topS 52)) l_candidate_rows c_candidate_rows k_candidate_rows
  have b_candidate_rows := F_candidate_rows.binds (ps := ["manner", "things"]) fun _ _ _ _ _ _ us hl => match us, hl with | [_, _], _ => rfl
  have F_few_rows := fun_mk (st := (topS 53)) l_few_rows c_few_rows k_few_rows
  have b_few_rows := F_few_rows.binds (ps := ["manner", "things"]) fun _ _ _ _ _ _ us hl => match us, hl with | [_, _], _ => rfl
  have F_fixed := fun_mk (st := (topS 2)) l_fixed c_fixed k_fixed
  have b_fixed := F_fixed.binds (ps := ["value"]) fun _ _ _ _ _ _ us hl => match us, hl with | [_], _ => rfl
  have F_Paper___init__ := fun_mk (st := (inClass (topS 3) 0)) l_Paper___init__ c_Paper___init__ k_Paper___init__
  have F_Denial___init__ := fun_mk (st := (inClass (topS 4) 0)) l_Denial___init__ c_Denial___init__ k_Denial___init__
  have F_Kept___init__ := fun_mk (st := (inClass (topS 74) 0)) l_Kept___init__ c_Kept___init__ k_Kept___init__
  have b_Kept___init__ := F_Kept___init__.binds (ps := ["self"]) fun _ _ _ _ _ _ us hl => match us, hl with | [_], _ => rfl
  have F_Parting___init__ := fun_mk (st := (inClass (topS 75) 0)) l_Parting___init__ c_Parting___init__ k_Parting___init__
  have b_Parting___init__ := F_Parting___init__.binds (ps := ["self", "lead", "row"]) fun _ _ _ _ _ _ us hl => match us, hl with | [_, _, _], _ => rfl
  have F_Paper___bool__ := fun_mk (st := (inClass (topS 3) 2)) l_Paper___bool__ c_Paper___bool__ k_Paper___bool__
  have b_Paper___bool__ := F_Paper___bool__.binds (ps := ["self"]) fun _ _ _ _ _ _ us hl => match us, hl with | [_], _ => rfl
  have F_Denial___bool__ := fun_mk (st := (inClass (topS 4) 2)) l_Denial___bool__ c_Denial___bool__ k_Denial___bool__
  have b_Denial___bool__ := F_Denial___bool__.binds (ps := ["self"]) fun _ _ _ _ _ _ us hl => match us, hl with | [_], _ => rfl
  have F_demand_told_manner := fun_mk (st := (topS 77)) l_demand_told_manner c_demand_told_manner k_demand_told_manner
  have b_demand_told_manner := F_demand_told_manner.binds (ps := ["told", "manner"]) fun _ _ _ _ _ _ us hl => match us, hl with | [_, _], _ => rfl
  have F_kept := fun_mk (st := (topS 78)) l_kept c_kept k_kept
  have b_kept := F_kept.binds (ps := ["told", "manner"]) fun _ _ _ _ _ _ us hl => match us, hl with | [_, _], _ => rfl
  have F_keeps := fun_mk (st := (topS 79)) l_keeps c_keeps k_keeps
  have b_keeps := F_keeps.binds (ps := ["told", "manner"]) fun _ _ _ _ _ _ us hl => match us, hl with | [_, _], _ => rfl
  have F_demand_place := fun_mk (st := (topS 30)) l_demand_place c_demand_place k_demand_place
  have b_demand_place := F_demand_place.binds (ps := ["value", "places"]) fun _ _ _ _ _ _ us hl => match us, hl with | [_, _], _ => rfl
  have F_Worker___init__ := fun_mk (st := (inClass (topS 64) 0)) l_Worker___init__ c_Worker___init__ k_Worker___init__
  have b_Worker___init__ := F_Worker___init__.binds (ps := ["self", "places"]) fun _ _ _ _ _ _ us hl => match us, hl with | [_, _], _ => rfl
  have F_Place___init__ := fun_mk (st := (inClass (topS 65) 0)) l_Place___init__ c_Place___init__ k_Place___init__
  have b_Place___init__ := F_Place___init__.binds (ps := ["self", "places", "place"]) fun _ _ _ _ _ _ us hl => match us, hl with | [_, _, _], _ => rfl
  have F_Place_over := fun_mk (st := (inClass (topS 65) 3)) l_Place_over c_Place_over k_Place_over
  have b_Place_over := F_Place_over.binds (ps := ["self", "things"]) fun _ _ _ _ _ _ us hl => match us, hl with | [_, _], _ => rfl
  have F_demand_known_manner := fun_mk (st := (topS 69)) l_demand_known_manner c_demand_known_manner k_demand_known_manner
  have b_demand_known_manner := F_demand_known_manner.binds (ps := ["manner"]) fun _ _ _ _ _ _ us hl => match us, hl with | [_], _ => rfl
  have F_all_known := fun_mk (st := (topS 70)) l_all_known c_all_known k_all_known
  have b_all_known := F_all_known.binds (ps := ["places", "manner"]) fun _ _ _ _ _ _ us hl => match us, hl with | [_, _], _ => rfl
  have F_known_of := fun_mk (st := (topS 71)) l_known_of c_known_of k_known_of
  have b_known_of := F_known_of.binds (ps := ["told", "manner"]) fun _ _ _ _ _ _ us hl => match us, hl with | [_, _], _ => rfl
  have F_law_jug := fun_mk (st := (topS 81)) l_law_jug c_law_jug k_law_jug
  have b_law_jug := F_law_jug.binds (ps := ["script"]) fun _ _ _ _ _ _ us hl => match us, hl with | [_], _ => rfl
  have F_law_tap := fun_mk (st := (topS 82)) l_law_tap c_law_tap k_law_tap
  have b_law_tap := F_law_tap.binds (ps := ["jug", "many"]) fun _ _ _ _ _ _ us hl => match us, hl with | [_, _], _ => rfl
  have F_law_pick := fun_mk (st := (topS 83)) l_law_pick c_law_pick k_law_pick
  have b_law_pick := F_law_pick.binds (ps := ["jug", "some"]) fun _ _ _ _ _ _ us hl => match us, hl with | [_, _], _ => rfl
  have F_law_inputs := fun_mk (st := (topS 84)) l_law_inputs c_law_inputs k_law_inputs
  have b_law_inputs := F_law_inputs.binds (ps := ["things", "places"]) fun _ _ _ _ _ _ us hl => match us, hl with | [_, _], _ => rfl
  have F_is_turned := fun_mk (st := (topS 72)) l_is_turned c_is_turned k_is_turned
  have b_is_turned := F_is_turned.binds (ps := ["told"]) fun _ _ _ _ _ _ us hl => match us, hl with | [_], _ => rfl
  have F_Place___eq__ := fun_mk (st := (inClass (topS 65) 1)) l_Place___eq__ c_Place___eq__ k_Place___eq__
  have b_Place___eq__ := F_Place___eq__.binds (ps := ["self", "other"]) fun _ _ _ _ _ _ us hl => match us, hl with | [_, _], _ => rfl
  have F_law_goes := fun_mk (st := (topS 85)) l_law_goes c_law_goes k_law_goes
  have b_law_goes := F_law_goes.binds (ps := ["places", "values"]) fun _ _ _ _ _ _ us hl => match us, hl with | [_, _], _ => rfl
  have F_law_is_turned := fun_mk (st := (topS 86)) l_law_is_turned c_law_is_turned k_law_is_turned
  have b_law_is_turned := F_law_is_turned.binds (ps := ["values"]) fun _ _ _ _ _ _ us hl => match us, hl with | [_], _ => rfl
  have F_law_digits := fun_mk (st := (topS 87)) l_law_digits c_law_digits k_law_digits
  have b_law_digits := F_law_digits.binds (ps := ["number", "many"]) fun _ _ _ _ _ _ us hl => match us, hl with | [_, _], _ => rfl
  have F_law_half := fun_mk (st := (topS 88)) l_law_half c_law_half k_law_half
  have b_law_half := F_law_half.binds (ps := ["half"]) fun _ _ _ _ _ _ us hl => match us, hl with | [_], _ => rfl
  have F_law_bent := fun_mk (st := (topS 93)) l_law_bent c_law_bent k_law_bent
  have b_law_bent := F_law_bent.binds (ps := ["jug", "values"]) fun _ _ _ _ _ _ us hl => match us, hl with | [_, _], _ => rfl
  have F_law_parts := fun_mk (st := (topS 89)) l_law_parts c_law_parts k_law_parts
  have b_law_parts := F_law_parts.binds (ps := ["values", "rows", "lead", "row"]) fun _ _ _ _ _ _ us hl => match us, hl with | [_, _, _, _], _ => rfl
  have F_law_right := fun_mk (st := (topS 90)) l_law_right c_law_right k_law_right
  have b_law_right := F_law_right.binds (ps := ["places", "values"]) fun _ _ _ _ _ _ us hl => match us, hl with | [_, _], _ => rfl
  have F_law_heard := fun_mk (st := (topS 91)) l_law_heard c_law_heard k_law_heard
  have b_law_heard := F_law_heard.binds (ps := ["ask"]) fun _ _ _ _ _ _ us hl => match us, hl with | [_], _ => rfl
  have F_law_refused_right := fun_mk (st := (topS 92)) l_law_refused_right c_law_refused_right k_law_refused_right
  have FC_law_refused_right : FunC K "_law_refused_right" "_law_refused_right" (topS 92) _ _ cd_law_refused_right := ⟨⟨_, _, _, _, _, _, _, _, rfl, l_law_refused_right, c_law_refused_right⟩, k_law_refused_right⟩
  have b_law_refused_right := F_law_refused_right.binds (ps := ["jug"]) fun _ _ _ _ _ _ us hl => match us, hl with | [_], _ => rfl
  have F_Thing___init__ := fun_mk (st := (inClass (topS 66) 0)) l_Thing___init__ c_Thing___init__ k_Thing___init__
  have b_Thing___init__ := F_Thing___init__.binds (ps := ["self", "places", "thing"]) fun _ _ _ _ _ _ us hl => match us, hl with | [_, _, _], _ => rfl
  have F_BadTold___init__ := fun_mk (st := (inClass (topS 13) 0)) l_BadTold___init__ c_BadTold___init__ k_BadTold___init__
  have b_BadTold___init__ := F_BadTold___init__.binds (ps := ["self", "part"]) fun _ _ _ _ _ _ us hl => match us, hl with | [_, _], _ => rfl
  have F_Misfit___init__ := fun_mk (st := (inClass (topS 15) 0)) l_Misfit___init__ c_Misfit___init__ k_Misfit___init__
  have b_Misfit___init__ := F_Misfit___init__.binds (ps := ["self", "part"]) fun _ _ _ _ _ _ us hl => match us, hl with | [_, _], _ => rfl
  have bn : Bn mg := ⟨PySem.W.mg_none_of X Gh z_len, PySem.W.mg_none_of X Gh z_all, PySem.W.mg_none_of X Gh z_any, PySem.W.mg_none_of X Gh z_isinstance, PySem.W.mg_none_of X Gh z_int, PySem.W.mg_none_of X Gh z_bool, PySem.W.mg_none_of X Gh z_list, PySem.W.mg_none_of X Gh z_tuple, PySem.W.mg_none_of X Gh z_str, PySem.W.mg_none_of X Gh z_range, PySem.W.mg_none_of X Gh z_zip, PySem.W.mg_none_of X Gh z_sorted, PySem.W.mg_none_of X Gh z_type, PySem.W.mg_none_of X Gh z_max, PySem.W.mg_none_of X Gh z_min, PySem.W.mg_none_of X Gh z_abs, PySem.W.mg_none_of X Gh z_repr, PySem.W.mg_none_of X Gh z_set, PySem.W.mg_none_of X Gh z_enumerate, PySem.W.mg_none_of X Gh z_dict, PySem.W.mg_none_of X Gh z_sum⟩
  have cls_Lead : Cls K C_Lead := ⟨pg_Lead, hd_Lead, po_Lead, sa_Lead⟩
  have cls_Items : Cls K C_Items := ⟨pg_Items, hd_Items, po_Items, sa_Items⟩
  have cls_Told : Cls K C_Told := ⟨pg_Told, hd_Told, po_Told, sa_Told⟩
  have cls_Kept : Cls K C_Kept := ⟨pg_Kept, hd_Kept, po_Kept, sa_Kept⟩
  have cls_Parting : Cls K C_Parting := ⟨pg_Parting, hd_Parting, po_Parting, sa_Parting⟩
  have cls_Paper : Cls K C_Paper := ⟨pg_Paper, hd_Paper, po_Paper, sa_Paper⟩
  have cls_Denial : Cls K C_Denial := ⟨pg_Denial, hd_Denial, po_Denial, sa_Denial⟩
  have cls_Worker : Cls K C_Worker := ⟨pg_Worker, hd_Worker, po_Worker, sa_Worker⟩
  have cls_Place : Cls K C_Place := ⟨pg_Place, hd_Place, po_Place, sa_Place⟩
  have cls_Thing : Cls K C_Thing := ⟨pg_Thing, hd_Thing, po_Thing, sa_Thing⟩
  let Gd0 : Option Ur → Gd := fun u => ⟨K, clK C_Lead C_Items C_Told C_BadTold C_Misfit C_TellsError C_Kept C_Parting C_Paper C_Denial C_Worker C_Place C_Thing, flK, u⟩
  have gt_MANNERS : ∀ u, GTup (Gd0 u) mg "MANNERS" manners := fun u => ⟨_, PySem.W.mg_of X Gh aM_MANNERS, gK_MANNERS, small (n := 9) (by decide)⟩
  have all : ∀ (u : Option Ur) (base : Heap) (lt : LamT (Gd0 u) base mg cd_law_refused_right qL), Calls (Gd0 u) l.prog w mg base := by
    intro u base lt
    have fo : Gk (Gd0 u) := ⟨rfl, rfl, rfl, rfl, rfl, rfl, rfl, rfl, fld_ok (fun _ => ⟨cls_Lead, n_Lead_begin⟩) (fun h => absurd h (by decide +kernel)) (fun h => absurd h (by decide +kernel)) (fun h => absurd h (by decide +kernel)) (fun h => absurd h (by decide +kernel)) (fun h => absurd h (by decide +kernel)) (fun h => absurd h (by decide +kernel)) (fun h => absurd h (by decide +kernel)) (fun h => absurd h (by decide +kernel)) (fun h => absurd h (by decide +kernel)) (fun h => absurd h (by decide +kernel)) (fun h => absurd h (by decide +kernel)) (fun h => absurd h (by decide +kernel)), fld_ok (fun _ => ⟨cls_Lead, n_Lead_into⟩) (fun h => absurd h (by decide +kernel)) (fun h => absurd h (by decide +kernel)) (fun h => absurd h (by decide +kernel)) (fun h => absurd h (by decide +kernel)) (fun h => absurd h (by decide +kernel)) (fun h => absurd h (by decide +kernel)) (fun h => absurd h (by decide +kernel)) (fun h => absurd h (by decide +kernel)) (fun h => absurd h (by decide +kernel)) (fun h => absurd h (by decide +kernel)) (fun h => absurd h (by decide +kernel)) (fun h => absurd h (by decide +kernel)), fld_ok (fun _ => ⟨cls_Lead, n_Lead_row⟩) (fun h => absurd h (by decide +kernel)) (fun h => absurd h (by decide +kernel)) (fun h => absurd h (by decide +kernel)) (fun h => absurd h (by decide +kernel)) (fun h => absurd h (by decide +kernel)) (fun h => absurd h (by decide +kernel)) (fun _ => ⟨cls_Parting, n_Parting_row⟩) (fun h => absurd h (by decide +kernel)) (fun h => absurd h (by decide +kernel)) (fun h => absurd h (by decide +kernel)) (fun h => absurd h (by decide +kernel)) (fun h => absurd h (by decide +kernel)), fld_ok (fun h => absurd h (by decide +kernel)) (fun _ => ⟨cls_Items, n_Items_words⟩) (fun h => absurd h (by decide +kernel)) (fun h => absurd h (by decide +kernel)) (fun h => absurd h (by decide +kernel)) (fun h => absurd h (by decide +kernel)) (fun h => absurd h (by decide +kernel)) (fun h => absurd h (by decide +kernel)) (fun h => absurd h (by decide +kernel)) (fun h => absurd h (by decide +kernel)) (fun h => absurd h (by decide +kernel)) (fun h => absurd h (by decide +kernel)) (fun h => absurd h (by decide +kernel)), fld_ok (fun h => absurd h (by decide +kernel)) (fun _ => ⟨cls_Items, n_Items_taken⟩) (fun h => absurd h (by decide +kernel)) (fun h => absurd h (by decide +kernel)) (fun h => absurd h (by decide +kernel)) (fun h => absurd h (by decide +kernel)) (fun h => absurd h (by decide +kernel)) (fun h => absurd h (by decide +kernel)) (fun h => absurd h (by decide +kernel)) (fun h => absurd h (by decide +kernel)) (fun h => absurd h (by decide +kernel)) (fun h => absurd h (by decide +kernel)) (fun h => absurd h (by decide +kernel)), fld_ok (fun h => absurd h (by decide +kernel)) (fun h => absurd h (by decide +kernel)) (fun _ => ⟨cls_Told, n_Told_things⟩) (fun h => absurd h (by decide +kernel)) (fun h => absurd h (by decide +kernel)) (fun h => absurd h (by decide +kernel)) (fun h => absurd h (by decide +kernel)) (fun h => absurd h (by decide +kernel)) (fun h => absurd h (by decide +kernel)) (fun h => absurd h (by decide +kernel)) (fun h => absurd h (by decide +kernel)) (fun h => absurd h (by decide +kernel)) (fun h => absurd h (by decide +kernel)), fld_ok (fun h => absurd h (by decide +kernel)) (fun h => absurd h (by decide +kernel)) (fun _ => ⟨cls_Told, n_Told_places⟩) (fun h => absurd h (by decide +kernel)) (fun h => absurd h (by decide +kernel)) (fun h => absurd h (by decide +kernel)) (fun h => absurd h (by decide +kernel)) (fun h => absurd h (by decide +kernel)) (fun h => absurd h (by decide +kernel)) (fun h => absurd h (by decide +kernel)) (fun h => absurd h (by decide +kernel)) (fun _ => ⟨cls_Place, n_Place_places⟩) (fun h => absurd h (by decide +kernel)), fld_ok (fun h => absurd h (by decide +kernel)) (fun h => absurd h (by decide +kernel)) (fun _ => ⟨cls_Told, n_Told_tells⟩) (fun h => absurd h (by decide +kernel)) (fun h => absurd h (by decide +kernel)) (fun h => absurd h (by decide +kernel)) (fun h => absurd h (by decide +kernel)) (fun h => absurd h (by decide +kernel)) (fun h => absurd h (by decide +kernel)) (fun h => absurd h (by decide +kernel)) (fun h => absurd h (by decide +kernel)) (fun h => absurd h (by decide +kernel)) (fun h => absurd h (by decide +kernel)), fld_ok (fun h => absurd h (by decide +kernel)) (fun h => absurd h (by decide +kernel)) (fun h => absurd h (by decide +kernel)) (fun h => absurd h (by decide +kernel)) (fun h => absurd h (by decide +kernel)) (fun h => absurd h (by decide +kernel)) (fun _ => ⟨cls_Kept, n_Kept_word⟩) (fun _ => ⟨cls_Parting, n_Parting_word⟩) (fun h => absurd h (by decide +kernel)) (fun h => absurd h (by decide +kernel)) (fun h => absurd h (by decide +kernel)) (fun h => absurd h (by decide +kernel)) (fun h => absurd h (by decide +kernel)), fld_ok (fun h => absurd h (by decide +kernel)) (fun h => absurd h (by decide +kernel)) (fun h => absurd h (by decide +kernel)) (fun h => absurd h (by decide +kernel)) (fun h => absurd h (by decide +kernel)) (fun h => absurd h (by decide +kernel)) (fun _ => ⟨cls_Kept, n_Kept_parts⟩) (fun _ => ⟨cls_Parting, n_Parting_parts⟩) (fun h => absurd h (by decide +kernel)) (fun h => absurd h (by decide +kernel)) (fun h => absurd h (by decide +kernel)) (fun h => absurd h (by decide +kernel)) (fun h => absurd h (by decide +kernel)), fld_ok (fun h => absurd h (by decide +kernel)) (fun h => absurd h (by decide +kernel)) (fun h => absurd h (by decide +kernel)) (fun h => absurd h (by decide +kernel)) (fun h => absurd h (by decide +kernel)) (fun h => absurd h (by decide +kernel)) (fun h => absurd h (by decide +kernel)) (fun _ => ⟨cls_Parting, n_Parting_lead⟩) (fun h => absurd h (by decide +kernel)) (fun h => absurd h (by decide +kernel)) (fun h => absurd h (by decide +kernel)) (fun h => absurd h (by decide +kernel)) (fun h => absurd h (by decide +kernel)), fld_ok (fun h => absurd h (by decide +kernel)) (fun h => absurd h (by decide +kernel)) (fun h => absurd h (by decide +kernel)) (fun h => absurd h (by decide +kernel)) (fun h => absurd h (by decide +kernel)) (fun h => absurd h (by decide +kernel)) (fun h => absurd h (by decide +kernel)) (fun h => absurd h (by decide +kernel)) (fun h => absurd h (by decide +kernel)) (fun h => absurd h (by decide +kernel)) (fun h => absurd h (by decide +kernel)) (fun _ => ⟨cls_Place, n_Place_place⟩) (fun h => absurd h (by decide +kernel)), flK_nd, flK_sm⟩
    have lf : LfC (Gd0 u) := ⟨⟨cls_Lead, x_ca_Lead, x_gn, x_tk, x_mr_Lead⟩, x_no⟩
    have kk : KinK (Gd0 u) := ⟨⟨cls_Kept, x_ca_Kept, x_gn, x_tk, x_mr_Kept⟩, x_k7, ⟨cls_Parting, x_ca_Parting, x_gn, x_tk, x_mr_Parting⟩, x_k8⟩
    have D_KNOWN_THINGS : GDct (Gd0 u) w mg "KNOWN_THINGS" KN := ⟨t_KT, PySem.W.mg_of X Gh g_KT, ⟨⟨es_KT, n_KT, d_KT, y_KT⟩, s_KT⟩, fun p hp => by rw [List.mem_singleton.mp hp]; exact ⟨_, v_KT⟩⟩
    have C_Thing : Fc (Gd0 u) l.prog w mg base 1 "Thing" 13 ["self", "places", "thing"] 0 (fun _ _ _ => False) := ⟨_, _, initd_never, PySem.W.mg_of X Gh aC_Thing, ⟨mk_Thing, a_Thing___init__, i_Thing___init__, kc_Thing⟩, b_Thing___init__, by decide⟩
    have T_BadTold : OexC K C_BadTold := ⟨Pg.excB_ok x_eB_BadTold, x_sa_BadTold, x_ex_BadTold, x_ty_BadTold, x_k_BadTold⟩
    have xc_BadTold : XcC K C_BadTold := ⟨x_ci_BadTold, x_ga_BadTold, x_gg_BadTold, x_ex_BadTold, x_ca_BadTold, x_gn, x_tk, x_mr_BadTold⟩
    have X_BadTold : Fx (Gd0 u) l.prog w mg base 1 "BadTold" 4 1 := ⟨_, _, _, ok_BadTold___init__ F_BadTold___init__ T_BadTold x_part_BadTold, T_BadTold, a_BadTold___init__, x_tf_BadTold, b_BadTold___init__, PySem.W.mg_of X Gh aC_BadTold, rfl⟩
    have T_Misfit : OexC K C_Misfit := ⟨Pg.excB_ok x_eB_Misfit, x_sa_Misfit, x_ex_Misfit, x_ty_Misfit, x_k_Misfit⟩
    have xc_Misfit : XcC K C_Misfit := ⟨x_ci_Misfit, x_ga_Misfit, x_gg_Misfit, x_ex_Misfit, x_ca_Misfit, x_gn, x_tk, x_mr_Misfit⟩
    have X_Misfit : Fx (Gd0 u) l.prog w mg base 1 "Misfit" 5 1 := ⟨_, _, _, ok_Misfit___init__ F_Misfit___init__ T_Misfit x_part_Misfit, T_Misfit, a_Misfit___init__, x_tf_Misfit, b_Misfit___init__, PySem.W.mg_of X Gh aC_Misfit, rfl⟩
    have xp : XcP (Gd0 u) := ⟨x_fit_BadTold, x_fit_Misfit, xc_BadTold, xc_Misfit, x_k44, x_k54, x_a4, x_a5, rfl, rfl, ⟨xc_BadTold, x_hd_BadTold, x_part_BadTold⟩, ⟨xc_Misfit, x_hd_Misfit, x_part_Misfit⟩⟩
    have od : OdC (Gd0 u) := ⟨x_ne, mk_Place, mk_Told⟩
    have A_is_integer := ok_is_integer (G := Gd0 u) (P := l.prog) (w := w) (base := base) F_is_integer bn
    have A_are_numbers := ok_are_numbers (G := Gd0 u) (P := l.prog) (w := w) (base := base) F_are_numbers bn ⟨_, _, A_is_integer, PySem.W.mg_of X Gh a_is_integer, k_is_integer, b_is_integer⟩
    have A_is_within := ok_is_within (G := Gd0 u) (P := l.prog) (w := w) (base := base) F_is_within bn ⟨_, _, A_is_integer, PySem.W.mg_of X Gh a_is_integer, k_is_integer, b_is_integer⟩
    have A_demand_number := ok_demand_number (G := Gd0 u) (P := l.prog) (w := w) (base := base) F_demand_number bn ⟨_, _, A_is_within, PySem.W.mg_of X Gh a_is_within, k_is_within, b_is_within⟩
    have A_demand_world := ok_demand_world (G := Gd0 u) (P := l.prog) (w := w) (base := base) F_demand_world bn ⟨_, _, A_demand_number, PySem.W.mg_of X Gh a_demand_number, k_demand_number, b_demand_number⟩ ⟨_, PySem.W.mg_of X Gh v_MOST_THINGS⟩
    have A_demand_numbers := ok_demand_numbers (G := Gd0 u) (P := l.prog) (w := w) (base := base) F_demand_numbers bn ⟨_, _, A_are_numbers, PySem.W.mg_of X Gh a_are_numbers, k_are_numbers, b_are_numbers⟩
    have A_demand_things := ok_demand_things (G := Gd0 u) (P := l.prog) (w := w) (base := base) F_demand_things bn ⟨_, _, A_is_within, PySem.W.mg_of X Gh a_is_within, k_is_within, b_is_within⟩
    have A_Lead___init__ := ok_Lead___init__ (G := Gd0 u) (P := l.prog) (w := w) (base := base) F_Lead___init__ bn fo ⟨_, _, A_demand_world, PySem.W.mg_of X Gh a_demand_world, k_demand_world, b_demand_world⟩ ⟨_, _, A_demand_things, PySem.W.mg_of X Gh a_demand_things, k_demand_things, b_demand_things⟩ ⟨_, _, A_are_numbers, PySem.W.mg_of X Gh a_are_numbers, k_are_numbers, b_are_numbers⟩ ⟨_, PySem.W.mg_of X Gh v_MOST_THINGS⟩
    have A_all_rows := ok_all_rows (G := Gd0 u) (P := l.prog) (w := w) (base := base) F_all_rows bn
    have A_many_rows := ok_many_rows (G := Gd0 u) (P := l.prog) (w := w) (base := base) F_many_rows bn
    have A_row_index := ok_row_index (G := Gd0 u) (P := l.prog) (w := w) (base := base) F_row_index bn
    have A_demand_many_places := ok_demand_many_places (G := Gd0 u) (P := l.prog) (w := w) (base := base) F_demand_many_places bn ⟨_, _, A_demand_number, PySem.W.mg_of X Gh a_demand_number, k_demand_number, b_demand_number⟩ ⟨_, PySem.W.mg_of X Gh v_MOST_PLACES⟩
    have A_demand_many_numbers := ok_demand_many_numbers (G := Gd0 u) (P := l.prog) (w := w) (base := base) F_demand_many_numbers bn ⟨_, _, A_are_numbers, PySem.W.mg_of X Gh a_are_numbers, k_are_numbers, b_are_numbers⟩
    have A_demand_few_values := ok_demand_few_values (G := Gd0 u) (P := l.prog) (w := w) (base := base) F_demand_few_values bn ⟨_, _, A_many_rows, PySem.W.mg_of X Gh a_many_rows, k_many_rows, b_many_rows⟩ ⟨_, PySem.W.mg_of X Gh v_MOST_VALUES⟩
    have A_inputs := ok_inputs (G := Gd0 u) (P := l.prog) (w := w) (base := base) F_inputs bn ⟨_, _, A_demand_world, PySem.W.mg_of X Gh a_demand_world, k_demand_world, b_demand_world⟩ ⟨_, _, A_demand_many_places, PySem.W.mg_of X Gh a_demand_many_places, k_demand_many_places, b_demand_many_places⟩ ⟨_, _, A_demand_few_values, PySem.W.mg_of X Gh a_demand_few_values, k_demand_few_values, b_demand_few_values⟩ ⟨_, _, A_all_rows, PySem.W.mg_of X Gh a_all_rows, k_all_rows, b_all_rows⟩
    have A_Told___init__ := ok_Told___init__ (G := Gd0 u) (P := l.prog) (w := w) (base := base) F_Told___init__ bn fo ⟨_, _, A_demand_world, PySem.W.mg_of X Gh a_demand_world, k_demand_world, b_demand_world⟩ ⟨_, _, A_demand_many_places, PySem.W.mg_of X Gh a_demand_many_places, k_demand_many_places, b_demand_many_places⟩ ⟨_, _, A_demand_many_numbers, PySem.W.mg_of X Gh a_demand_many_numbers, k_demand_many_numbers, b_demand_many_numbers⟩ ⟨_, _, A_many_rows, PySem.W.mg_of X Gh a_many_rows, k_many_rows, b_many_rows⟩ ⟨_, _, A_demand_things, PySem.W.mg_of X Gh a_demand_things, k_demand_things, b_demand_things⟩ ⟨_, _, A_demand_few_values, PySem.W.mg_of X Gh a_demand_few_values, k_demand_few_values, b_demand_few_values⟩
    have A_Told___eq__ := ok_Told___eq__ (G := Gd0 u) (P := l.prog) (w := w) (base := base) F_Told___eq__ bn fo (PySem.W.mg_of X Gh aC_Told)
    have A_never_falls := ok_never_falls (G := Gd0 u) (P := l.prog) (w := w) (base := base) F_never_falls bn
    have A_never_rises := ok_never_rises (G := Gd0 u) (P := l.prog) (w := w) (base := base) F_never_rises bn
    have A_rises := ok_rises (G := Gd0 u) (P := l.prog) (w := w) (base := base) F_rises bn
    have A_row_is_of := ok_row_is_of (G := Gd0 u) (P := l.prog) (w := w) (base := base) F_row_is_of bn ⟨_, _, A_never_falls, PySem.W.mg_of X Gh a_never_falls, k_never_falls, b_never_falls⟩ ⟨_, _, A_never_rises, PySem.W.mg_of X Gh a_never_rises, k_never_rises, b_never_rises⟩ ⟨_, _, A_rises, PySem.W.mg_of X Gh a_rises, k_rises, b_rises⟩
    have A_demand_manner := ok_demand_manner (G := Gd0 u) (P := l.prog) (w := w) (base := base) F_demand_manner bn (gt_MANNERS u)
    have A_demand_two := ok_demand_two (G := Gd0 u) (P := l.prog) (w := w) (base := base) F_demand_two bn
    have A_row_at := ok_row_at (G := Gd0 u) (P := l.prog) (w := w) (base := base) F_row_at bn
    have A_led_indices := ok_led_indices (G := Gd0 u) (P := l.prog) (w := w) (base := base) F_led_indices bn
    have A_demand_told := ok_demand_told (G := Gd0 u) (P := l.prog) (w := w) (base := base) F_demand_told bn (PySem.W.mg_of X Gh aC_Told)
    have A_first_parting := ok_first_parting (G := Gd0 u) (P := l.prog) (w := w) (base := base) F_first_parting bn fo ⟨_, _, A_led_indices, PySem.W.mg_of X Gh a_led_indices, k_led_indices, b_led_indices⟩ ⟨_, _, A_row_at, PySem.W.mg_of X Gh a_row_at, k_row_at, b_row_at⟩
    have A_put_row := ok_put_row (G := Gd0 u) (P := l.prog) (w := w) (base := base) F_put_row bn
    have A_exchange_row := ok_exchange_row (G := Gd0 u) (P := l.prog) (w := w) (base := base) F_exchange_row bn
    have A_candidate_rows := ok_candidate_rows (G := Gd0 u) (P := l.prog) (w := w) (base := base) F_candidate_rows bn ⟨_, _, A_put_row, PySem.W.mg_of X Gh a_put_row, k_put_row, b_put_row⟩ ⟨_, _, A_exchange_row, PySem.W.mg_of X Gh a_exchange_row, k_exchange_row, b_exchange_row⟩
    have A_few_rows := ok_few_rows (G := Gd0 u) (P := l.prog) (w := w) (base := base) F_few_rows bn ⟨_, _, A_candidate_rows, PySem.W.mg_of X Gh a_candidate_rows, k_candidate_rows, b_candidate_rows⟩ ⟨_, _, A_row_is_of, PySem.W.mg_of X Gh a_row_is_of, k_row_is_of, b_row_is_of⟩
    have A_fixed0 := ok_fixed0 (G := Gd0 u) (P := l.prog) (w := w) (base := base) F_fixed bn lf ⟨f_fixed, _, fnd_never, PySem.W.mg_of X Gh a_fixed, k_fixed, b_fixed⟩
    have A_fixed1 := ok_fixed1 (G := Gd0 u) (P := l.prog) (w := w) (base := base) F_fixed bn lf ⟨f_fixed, _, A_fixed0, PySem.W.mg_of X Gh a_fixed, k_fixed, b_fixed⟩
    have A_fixed2 := ok_fixed2 (G := Gd0 u) (P := l.prog) (w := w) (base := base) F_fixed bn lf ⟨f_fixed, _, A_fixed1, PySem.W.mg_of X Gh a_fixed, k_fixed, b_fixed⟩
    have A_Paper___init__ := ok_Paper___init__ (G := Gd0 u) (cid := 7) (P := l.prog) (w := w) (base := base) F_Paper___init__ (StX.bind_star2 (B := fun l => bindArgs _ ⟨l, []⟩) (fun _ _ => rfl) (fun _ _ _ _ => rfl)) bn fo rfl rfl ⟨f_fixed, _, A_fixed2, PySem.W.mg_of X Gh a_fixed, k_fixed, b_fixed⟩
    have A_Denial___init__ := ok_Denial___init__ (G := Gd0 u) (cid := 8) (P := l.prog) (w := w) (base := base) F_Denial___init__ (StX.bind_star2 (B := fun l => bindArgs _ ⟨l, []⟩) (fun _ _ => rfl) (fun _ _ _ _ => rfl)) bn fo rfl rfl ⟨f_fixed, _, A_fixed2, PySem.W.mg_of X Gh a_fixed, k_fixed, b_fixed⟩
    have B_Paper : Fbi (Gd0 u) l.prog w mg base 4 "Paper" 9 7 0 sPapI := ⟨_, .type "type", A_Paper___init__, PySem.W.mg_of X Gh aC_Paper, ⟨rd_Paper, ga_Paper⟩, fc_Paper, k_Paper___init__⟩
    have A_Kept___init__ := ok_Kept___init__ (G := Gd0 u) (P := l.prog) (w := w) (base := base) F_Kept___init__ bn fo B_Paper
    have B_Denial : Fbi (Gd0 u) l.prog w mg base 4 "Denial" 10 8 0 sPapI := ⟨_, .type "type", A_Denial___init__, PySem.W.mg_of X Gh aC_Denial, ⟨rd_Denial, ga_Denial⟩, fc_Denial, k_Denial___init__⟩
    have A_Parting___init__ := ok_Parting___init__ (G := Gd0 u) (P := l.prog) (w := w) (base := base) F_Parting___init__ bn fo B_Denial ⟨f_fixed, _, A_fixed2, PySem.W.mg_of X Gh a_fixed, k_fixed, b_fixed⟩
    have A_Paper___bool__ := ok_Paper___bool__ (G := Gd0 u) (P := l.prog) (w := w) (base := base) F_Paper___bool__ bn
    have A_Denial___bool__ := ok_Denial___bool__ (G := Gd0 u) (P := l.prog) (w := w) (base := base) F_Denial___bool__ bn
    have A_demand_told_manner := ok_demand_told_manner (G := Gd0 u) (P := l.prog) (w := w) (base := base) F_demand_told_manner bn fo ⟨_, _, A_demand_told, PySem.W.mg_of X Gh a_demand_told, k_demand_told, b_demand_told⟩ ⟨_, _, A_demand_manner, PySem.W.mg_of X Gh a_demand_manner, k_demand_manner, b_demand_manner⟩ ⟨_, _, A_demand_two, PySem.W.mg_of X Gh a_demand_two, k_demand_two, b_demand_two⟩
    have A_kept := ok_kept (G := Gd0 u) (P := l.prog) (w := w) (base := base) F_kept bn fo ⟨_, _, A_demand_told_manner, PySem.W.mg_of X Gh a_demand_told_manner, k_demand_told_manner, b_demand_told_manner⟩ ⟨_, _, A_few_rows, PySem.W.mg_of X Gh a_few_rows, k_few_rows, b_few_rows⟩ ⟨_, _, A_first_parting, PySem.W.mg_of X Gh a_first_parting, k_first_parting, b_first_parting⟩ ⟨_, _, A_Kept___init__, PySem.W.mg_of X Gh aC_Kept, ⟨mk_Kept, a_Kept___init__, i_Kept___init__, kc_Kept⟩, b_Kept___init__, by decide⟩ ⟨_, _, A_Parting___init__, PySem.W.mg_of X Gh aC_Parting, ⟨mk_Parting, a_Parting___init__, i_Parting___init__, kc_Parting⟩, b_Parting___init__, by decide⟩ ⟨_, _, A_Lead___init__, PySem.W.mg_of X Gh aC_Lead, ⟨mk_Lead, a_Lead___init__, i_Lead___init__, kc_Lead⟩, b_Lead___init__, by decide⟩
    have T_bool : Fbs (Gd0 u) l.prog w mg base 1 [(7, true), (8, false)] := ⟨fun p hp => by
      rcases List.mem_cons.mp
            hp with rfl | hp
      · exact ⟨_, _, _, A_Paper___bool__, fb_Kept, i_Paper___bool__, b_Paper___bool__, rfl⟩
      · rw [List.mem_singleton.mp hp]
        exact ⟨_, _, _, A_Denial___bool__, fb_Parting, i_Denial___bool__, b_Denial___bool__, rfl⟩⟩
    have A_keeps := ok_keeps (G := Gd0 u) (P := l.prog) (w := w) (base := base) F_keeps bn ⟨_, _, A_kept, PySem.W.mg_of X Gh a_kept, k_kept, b_kept⟩ T_bool
    have A_demand_place := ok_demand_place (G := Gd0 u) (P := l.prog) (w := w) (base := base) F_demand_place bn ⟨_, _, A_is_within, PySem.W.mg_of X Gh a_is_within, k_is_within, b_is_within⟩
    have A_Worker___init__ := ok_Worker___init__ (G := Gd0 u) (cid := 12) (P := l.prog) (w := w) (base := base) F_Worker___init__ b_Worker___init__ bn fo rfl ⟨_, _, A_demand_many_places, PySem.W.mg_of X Gh a_demand_many_places, k_demand_many_places, b_demand_many_places⟩
    have B_Worker : Fbi (Gd0 u) l.prog w mg base 5 "Worker" 11 12 0 sWorkI := ⟨_, .type "type", A_Worker___init__, PySem.W.mg_of X Gh aC_Worker, ⟨rd_Worker, ga_Worker⟩, fc_Worker, k_Worker___init__⟩
    have A_Place___init__ := ok_Place___init__ (G := Gd0 u) (P := l.prog) (w := w) (base := base) F_Place___init__ bn fo B_Worker ⟨_, _, A_demand_place, PySem.W.mg_of X Gh a_demand_place, k_demand_place, b_demand_place⟩
    have A_Place_over := ok_Place_over (G := Gd0 u) (P := l.prog) (w := w) (base := base) F_Place_over bn fo ⟨_, _, A_inputs, PySem.W.mg_of X Gh a_inputs, k_inputs, b_inputs⟩ ⟨_, _, A_Told___init__, PySem.W.mg_of X Gh aC_Told, ⟨mk_Told, a_Told___init__, i_Told___init__, kc_Told⟩, b_Told___init__, by decide⟩
    have A_demand_known_manner := ok_demand_known_manner (G := Gd0 u) (P := l.prog) (w := w) (base := base) F_demand_known_manner bn D_KNOWN_THINGS
    have A_all_known := ok_all_known (G := Gd0 u) (P := l.prog) (w := w) (base := base) F_all_known bn ⟨_, _, A_demand_many_places, PySem.W.mg_of X Gh a_demand_many_places, k_demand_many_places, b_demand_many_places⟩ ⟨_, _, A_demand_known_manner, PySem.W.mg_of X Gh a_demand_known_manner, k_demand_known_manner, b_demand_known_manner⟩ D_KNOWN_THINGS ⟨_, _, A_Place___init__, PySem.W.mg_of X Gh aC_Place, ⟨mk_Place, a_Place___init__, i_Place___init__, kc_Place⟩, b_Place___init__, by decide⟩ C_Thing
    have A_known_of := ok_known_of (G := Gd0 u) (P := l.prog) (w := w) (base := base) F_known_of bn fo ⟨_, _, A_demand_told, PySem.W.mg_of X Gh a_demand_told, k_demand_told, b_demand_told⟩ ⟨_, _, A_demand_known_manner, PySem.W.mg_of X Gh a_demand_known_manner, k_demand_known_manner, b_demand_known_manner⟩ ⟨_, _, A_demand_two, PySem.W.mg_of X Gh a_demand_two, k_demand_two, b_demand_two⟩ ⟨_, _, A_all_known, PySem.W.mg_of X Gh a_all_known, k_all_known, b_all_known⟩ ⟨_, _, A_Place_over, ⟨a_Place_over, i_Place_over, k_Place_over⟩, cls_Place, b_Place_over, by show ("over" : Str) ∉ (["places", "place"] : List Str); decide +kernel⟩ ⟨_, _, _, A_Told___eq__, a_Told___eq__, i_Told___eq__, b_Told___eq__, rfl, mo_Told, ne_Told⟩
    have A_law_tap := ok_law_draw (G := Gd0 u) (P := l.prog) (w := w) (base := base) F_law_tap bn
    have A_law_pick := ok_law_pick (G := Gd0 u) (P := l.prog) (w := w) (base := base) F_law_pick bn ⟨_, _, A_law_tap, PySem.W.mg_of X Gh a_law_tap, k_law_tap, b_law_tap⟩
    have A_law_inputs := ok_law_inputs (G := Gd0 u) (P := l.prog) (w := w) (base := base) F_law_inputs bn
    have A_demand_toldE := ok_demand_toldE (G := Gd0 u) (P := l.prog) (w := w) (base := base) F_demand_told bn (PySem.W.mg_of X Gh aC_Told) X_BadTold od
    have A_known_ofE := ok_known_ofE (G := Gd0 u) (P := l.prog) (w := w) (base := base) F_known_of bn fo ⟨_, _, A_demand_toldE, PySem.W.mg_of X Gh a_demand_told, k_demand_told, b_demand_told⟩ ⟨_, _, A_demand_known_manner, PySem.W.mg_of X Gh a_demand_known_manner, k_demand_known_manner, b_demand_known_manner⟩ ⟨_, _, A_demand_two, PySem.W.mg_of X Gh a_demand_two, k_demand_two, b_demand_two⟩ ⟨_, _, A_all_known, PySem.W.mg_of X Gh a_all_known, k_all_known, b_all_known⟩ ⟨_, _, A_Place_over, ⟨a_Place_over, i_Place_over, k_Place_over⟩, cls_Place, b_Place_over, by show ("over" : Str) ∉ (["places", "place"] : List Str); decide +kernel⟩ ⟨_, _, _, A_Told___eq__, a_Told___eq__, i_Told___eq__, b_Told___eq__, rfl, mo_Told, ne_Told⟩
    have A_is_turned := ok_is_turned (G := Gd0 u) (P := l.prog) (w := w) (base := base) F_is_turned bn fo ⟨_, _, A_demand_toldE, PySem.W.mg_of X Gh a_demand_told, k_demand_told, b_demand_told⟩ X_Misfit
    have A_law_inputsD := ok_law_inputsD (G := Gd0 u) (P := l.prog) (w := w) (base := base) F_law_inputs bn
    have A_Place___eq__ := ok_Place___eq__ (G := Gd0 u) (P := l.prog) (w := w) (base := base) F_Place___eq__ bn fo (PySem.W.mg_of X Gh aC_Place)
    have A_law_goes := ok_law_goes (G := Gd0 u) (P := l.prog) (w := w) (base := base) F_law_goes bn ⟨_, _, A_law_inputs, PySem.W.mg_of X Gh a_law_inputs, k_law_inputs, b_law_inputs⟩
    have A_law_is_turned := ok_law_is_turned (G := Gd0 u) (P := l.prog) (w := w) (base := base) F_law_is_turned bn
    have A_law_digits := ok_law_digits (G := Gd0 u) (P := l.prog) (w := w) (base := base) F_law_digits bn
    have A_law_half := ok_law_half (G := Gd0 u) (P := l.prog) (w := w) (base := base) F_law_half bn
    have A_law_bent := ok_law_bent (G := Gd0 u) (P := l.prog) (w := w) (base := base) F_law_bent bn ⟨_, _, A_law_tap, PySem.W.mg_of X Gh a_law_tap, k_law_tap, b_law_tap⟩
    have A_law_parts := ok_law_parts (G := Gd0 u) (P := l.prog) (w := w) (base := base) F_law_parts bn fo
    have A_law_right := ok_law_right (G := Gd0 u) (P := l.prog) (w := w) (base := base) F_law_right bn fo ⟨_, _, A_law_inputsD, PySem.W.mg_of X Gh a_law_inputs, k_law_inputs, b_law_inputs⟩ ⟨_, _, A_law_goes, PySem.W.mg_of X Gh a_law_goes, k_law_goes, b_law_goes⟩ ⟨_, _, A_law_is_turned, PySem.W.mg_of X Gh a_law_is_turned, k_law_is_turned, b_law_is_turned⟩ ⟨_, _, A_Told___init__, PySem.W.mg_of X Gh aC_Told, ⟨mk_Told, a_Told___init__, i_Told___init__, kc_Told⟩, b_Told___init__, by decide⟩ ⟨_, _, A_is_turned, PySem.W.mg_of X Gh a_is_turned, k_is_turned, Kk.all (fun us hl => match us, hl with | [_], _ => rfl) (by decide) rfl⟩ ⟨_, _, A_keeps, PySem.W.mg_of X Gh a_keeps, k_keeps, b_keeps⟩ ⟨_, _, A_known_of, PySem.W.mg_of X Gh a_known_of, k_known_of, Kk.all (fun us hl => match us, hl with | [_, _], _ => rfl) (by decide) rfl⟩ ⟨_, _, A_kept, PySem.W.mg_of X Gh a_kept, k_kept, b_kept⟩ ⟨_, _, A_Place___init__, PySem.W.mg_of X Gh aC_Place, ⟨mk_Place, a_Place___init__, i_Place___init__, kc_Place⟩, b_Place___init__, by decide⟩ ⟨_, _, _, A_Place___eq__, a_Place___eq__, i_Place___eq__, b_Place___eq__, rfl, mo_Place, ne_Place⟩ ⟨_, _, A_law_parts, PySem.W.mg_of X Gh a_law_parts, k_law_parts, b_law_parts⟩ (PySem.W.mg_of X Gh aC_Kept) (PySem.W.mg_of X Gh aC_Parting) kk
    have A_law_heard := ok_law_heard (G := Gd0 u) (P := l.prog) (w := w) (base := base) F_law_heard bn xp (PySem.W.mg_of X Gh aC_BadTold) (PySem.W.mg_of X Gh aC_Misfit) (PySem.W.mg_of X Gh aC_TellsError)
    have A_law_refused_right := ok_law_refused_right (G := Gd0 u) (P := l.prog) (w := w) (base := base) FC_law_refused_right lt bn ⟨_, _, A_law_pick, PySem.W.mg_of X Gh a_law_pick, k_law_pick, b_law_pick⟩ ⟨_, _, A_law_tap, PySem.W.mg_of X Gh a_law_tap, k_law_tap, b_law_tap⟩ ⟨_, _, A_law_inputsD, PySem.W.mg_of X Gh a_law_inputs, k_law_inputs, b_law_inputs⟩ ⟨_, _, A_Told___init__, PySem.W.mg_of X Gh aC_Told, ⟨mk_Told, a_Told___init__, i_Told___init__, kc_Told⟩, b_Told___init__, by decide⟩ ⟨_, _, A_Place___init__, PySem.W.mg_of X Gh aC_Place, ⟨mk_Place, a_Place___init__, i_Place___init__, kc_Place⟩, b_Place___init__, by decide⟩ ⟨_, _, A_is_turned, PySem.W.mg_of X Gh a_is_turned, k_is_turned, b_is_turned⟩ ⟨_, _, A_known_ofE, PySem.W.mg_of X Gh a_known_of, k_known_of, b_known_of⟩ ⟨_, _, A_law_heard, PySem.W.mg_of X Gh a_law_heard, k_law_heard, b_law_heard⟩
    exact ⟨⟨_, _, A_law_tap, PySem.W.mg_of X Gh a_law_tap, k_law_tap, b_law_tap⟩, ⟨_, _, A_law_bent, PySem.W.mg_of X Gh a_law_bent, k_law_bent, b_law_bent⟩, ⟨_, _, A_law_digits, PySem.W.mg_of X Gh a_law_digits, k_law_digits, b_law_digits⟩, ⟨_, _, A_law_half, PySem.W.mg_of X Gh a_law_half, k_law_half, b_law_half⟩, ⟨_, _, A_law_is_turned, PySem.W.mg_of X Gh a_law_is_turned, k_law_is_turned, b_law_is_turned⟩, ⟨_, _, A_law_right, PySem.W.mg_of X Gh a_law_right, k_law_right, b_law_right⟩, ⟨_, _, A_law_refused_right, PySem.W.mg_of X Gh a_law_refused_right, k_law_refused_right, b_law_refused_right⟩⟩
  obtain ⟨oc_t, od_t, vs_t, sl_t, t_tab, p_tab, n_tab⟩ := Pg.tabB_ok tb_law_refused_right
  refine ⟨[("_law_refused_right", cd_law_refused_right, Pt_law_refused_right)], fun x hx => ?_, ?_⟩
  · rw [List.mem_singleton.mp hx]
    exact ⟨r_tab, Pg.tab_in a_law_refused_right l_law_refused_right rfl t_tab p_tab, n_tab⟩
  exact ok_law (G := Gd0 none) (q := qL) rfl FC_law (fun s v => .of_eq rfl) bn hlen ⟨rfl, by decide, by decide⟩ (fun p base tb => all (some (p, [(Pt_law_refused_right, qL)])) base ⟨Pt_law_refused_right, _, tb, rfl, List.mem_singleton_self _, fun x hx _ => by rw [List.mem_singleton.mp hx]⟩)
    (fun base H rm => ps_set (i := 1) sc_law.nd rfl (by first | exact Or.inl rfl | exact Or.inr rfl) (pe_call (ok_law_jug F_law_jug bn.int) (rm.mono (by decide)) rfl (PySem.W.mg_of X Gh a_law_jug) k_law_jug b_law_jug .nil (xk_def (G := Gd0 none) (E := EF) rm rfl).pass (pa_cons (pe_var (i := 0) rfl (by first | exact Or.inl rfl | exact Or.inr (Or.inl rfl) | exact Or.inr (Or.inr rfl)) (by decide) (by decide)) pa_nil)))
end Pg
set_option Elab.async false
set_option linter.all false
set_option maxRecDepth 100000
set_option maxHeartbeats 4100000
open PySem
open PySem.W
open PySem.Calls PyProof.Rows
open L2 Kn Pg in
set_option
      maxRecDepth 100000 in
set_option maxHeartbeats 0 in
theorem PySem.Challenge.cw_kindtells_k15_whole_blind_over_two_thing_holds : PySem.Challenge.rw_kindtells_k15_whole_blind_over_two_thing.Holds := by
  w_on; o_law
  refine Pg.head_y (r := OpenLaw.row PySem.Challenge.rw_kindtells_k15_whole_blind_over_two_thing) (q := view (OpenLaw.row PySem.Challenge.rw_kindtells_k15_whole_blind_over_two_thing).prog [92, 94]) HX.asL HX.fa HX.fn HX.dc (M := 12000) (loose := HX.names) (d := HandSHeadRun.topDef (OpenLaw.row PySem.Challenge.rw_kindtells_k15_whole_blind_over_two_thing).prog 94) (kwd := []) (by kernel_rfl) (fun s => by kernel_rfl) (PySem.W.byRow2 "special-get-raises" HX.runfalse HX.runtrue) (by kernel_rfl) (by kernel_rfl) (by kernel_rfl) (by rfl) (by first | assumption | decide +kernel) (by decide +kernel) ⟨rfl, rfl, rfl, rfl, rfl, by decide +kernel⟩ ?hw ?hc
  case hw => w_witness2
  case hc =>
    refine Pg.law_rowX (l := PySem.Challenge.rw_kindtells_k15_whole_blind_over_two_thing) (n := 63) rfl (by decide) (by kernel_rfl) ?F
    intro w mg fa a h s ns Y Gh hmg0 hlen
    obtain ⟨K, KX, c⟩ := Y
    have hmg : mg ("law" : PySem.Str)
          = some (.ref fa) := by
      have e : (HandSHeadRun.topDef (OpenLaw.row PySem.Challenge.rw_kindtells_k15_whole_blind_over_two_thing).prog 94).name = ("law" : PySem.Str) := by kernel_rfl
      rw [← e]
      exact hmg0
    have hf : HX.fa K = true := c.facts
    obtain ⟨d0, hf⟩ := Bool.and_eq_true_iff.mp hf
    obtain ⟨aC_Lead, pg_Lead, hd_Lead, po_Lead, sa_Lead, mk_Lead, kc_Lead, n_Lead_begin, n_Lead_into, n_Lead_row, aC_Items, pg_Items, hd_Items, po_Items, sa_Items, mk_Items, kc_Items, n_Items_words, n_Items_taken, aC_Told, pg_Told, hd_Told, po_Told, sa_Told, mo_Told⟩ : HX.fac0 K := of_decide_eq_true d0
    obtain ⟨d1, hf⟩ := Bool.and_eq_true_iff.mp hf
    obtain ⟨ne_Told, mk_Told, kc_Told, n_Told_things, n_Told_places, n_Told_tells, aC_Kept, pg_Kept, hd_Kept, po_Kept, sa_Kept, mk_Kept, kc_Kept, n_Kept_word, n_Kept_parts, aC_Parting, pg_Parting, hd_Parting, po_Parting, sa_Parting, mk_Parting, kc_Parting, n_Parting_word, n_Parting_parts, n_Parting_lead⟩ : HX.fac1 K := of_decide_eq_true d1
    obtain ⟨d2, hf⟩ := Bool.and_eq_true_iff.mp hf
    obtain ⟨n_Parting_row, aC_Paper, pg_Paper, hd_Paper, po_Paper, sa_Paper, rd_Paper, ga_Paper, mk_Paper, kc_Paper, aC_Denial, pg_Denial, hd_Denial, po_Denial, sa_Denial, rd_Denial, ga_Denial, mk_Denial, kc_Denial, aC_Worker, pg_Worker, hd_Worker, po_Worker, sa_Worker, rd_Worker⟩ : HX.fac2 K := of_decide_eq_true d2
    obtain ⟨d3, hf⟩ := Bool.and_eq_true_iff.mp hf
    obtain ⟨ga_Worker, mk_Worker, kc_Worker, aC_Place, pg_Place, hd_Place, po_Place, sa_Place, mo_Place, ne_Place, mk_Place, kc_Place, n_Place_places, n_Place_place, aC_Thing, pg_Thing, hd_Thing, po_Thing, sa_Thing, mk_Thing, kc_Thing, a_law, k_law, a_is_integer, k_is_integer⟩ : HX.fac3 K := of_decide_eq_true d3
    obtain ⟨d4, hf⟩ := Bool.and_eq_true_iff.mp hf
    obtain ⟨a_are_numbers, k_are_numbers, a_is_within, k_is_within, a_demand_number, k_demand_number, a_demand_world, k_demand_world, a_demand_numbers, k_demand_numbers, a_demand_things, k_demand_things, a_Lead___init__, i_Lead___init__, k_Lead___init__, a_all_rows, k_all_rows, a_many_rows, k_many_rows, a_row_index, k_row_index, a_demand_many_places, k_demand_many_places, a_demand_many_numbers, k_demand_many_numbers⟩ : HX.fac4 K := of_decide_eq_true d4
    obtain ⟨d5, hf⟩ := Bool.and_eq_true_iff.mp hf
    obtain ⟨a_demand_few_values, k_demand_few_values, a_inputs, k_inputs, a_Told___init__, i_Told___init__, k_Told___init__, a_Told___eq__, i_Told___eq__, k_Told___eq__, a_never_falls, k_never_falls, a_never_rises, k_never_rises, a_rises, k_rises, a_row_is_of, k_row_is_of, a_demand_manner, k_demand_manner, a_demand_two, k_demand_two, a_row_at, k_row_at, a_led_indices⟩ : HX.fac5 K := of_decide_eq_true d5
    obtain ⟨d6, hf⟩ := Bool.and_eq_true_iff.mp hf
    obtain ⟨k_led_indices, a_demand_told, k_demand_told, a_first_parting, k_first_parting, a_put_row, k_put_row, a_exchange_row, k_exchange_row, a_candidate_rows, k_candidate_rows, a_few_rows, k_few_rows, a_fixed, k_fixed, a_Paper___init__, i_Paper___init__, k_Paper___init__, a_Denial___init__, i_Denial___init__, k_Denial___init__, a_Kept___init__, i_Kept___init__, k_Kept___init__, a_Parting___init__⟩ : HX.fac6 K := of_decide_eq_true d6
    obtain ⟨d7, hf⟩ := Bool.and_eq_true_iff.mp hf
    obtain ⟨i_Parting___init__, k_Parting___init__, a_Paper___bool__, i_Paper___bool__, k_Paper___bool__, a_Denial___bool__, i_Denial___bool__, k_Denial___bool__, a_demand_told_manner, k_demand_told_manner, a_kept, k_kept, a_keeps, k_keeps, a_demand_place, k_demand_place, a_Worker___init__, i_Worker___init__, k_Worker___init__, a_Place___init__, i_Place___init__, k_Place___init__, a_Place_over, i_Place_over, k_Place_over⟩ : HX.fac7 K := of_decide_eq_true d7
    obtain ⟨d8, hf⟩ := Bool.and_eq_true_iff.mp hf
    obtain ⟨a_demand_known_manner, k_demand_known_manner, a_all_known, k_all_known, a_known_of, k_known_of, a_law_jug, k_law_jug, a_law_tap, k_law_tap, a_law_pick, k_law_pick, a_law_inputs, k_law_inputs, a_is_turned, k_is_turned, a_Place___eq__, i_Place___eq__, k_Place___eq__, a_law_goes, k_law_goes, a_law_is_turned, k_law_is_turned, a_law_digits, k_law_digits⟩ : HX.fac8 K := of_decide_eq_true d8
    obtain ⟨d9, hf⟩ := Bool.and_eq_true_iff.mp hf
    obtain ⟨a_law_half, k_law_half, a_law_bent, k_law_bent, a_law_parts, k_law_parts, a_law_right, k_law_right, a_law_heard, k_law_heard, a_law_refused_right, k_law_refused_right, a_Thing___init__, i_Thing___init__, k_Thing___init__, a_BadTold___init__, i_BadTold___init__, k_BadTold___init__, a_Misfit___init__, i_Misfit___init__, k_Misfit___init__, v_MOST_THINGS, v_MOST_PLACES, v_MOST_VALUES, aM_MANNERS⟩ : HX.fac9 K := of_decide_eq_true d9
    obtain ⟨d10, hf⟩ := Bool.and_eq_true_iff.mp hf
    obtain ⟨gK_MANNERSb, z_len, z_all, z_any, z_isinstance, z_int, z_bool, z_list, z_tuple, z_str, z_range, z_zip, z_sorted, z_type, z_max, z_min, z_abs, z_repr, z_set, z_enumerate, z_dict, z_sum, g_KT, s_KT, v_KT⟩ : HX.fac10 K := of_decide_eq_true d10
    obtain ⟨d11, hf⟩ := Bool.and_eq_true_iff.mp hf
    obtain ⟨x_gn, x_tk, x_ca_Lead, x_mr_Lead, x_ca_Kept, x_mr_Kept, x_ca_Parting, x_mr_Parting, x_no, x_k7, x_k8, fb_Kept, fb_Parting, fc_Paperb, fc_Denialb, fc_Workerb, aC_BadTold, aC_Misfit, aC_TellsError, x_eB_BadTold, x_sa_BadTold, x_ex_BadTold, x_ty_BadTold, x_k_BadTold, x_part_BadTold⟩ : HX.fac11 K := of_decide_eq_true d11
    obtain ⟨d12, hf⟩ := Bool.and_eq_true_iff.mp hf
    obtain ⟨x_hd_BadTold, x_ci_BadTold, x_ga_BadTold, x_gg_BadTold, x_ca_BadTold, x_mr_BadTold, x_tf_BadTold, x_fit_BadTold, x_eB_Misfit, x_sa_Misfit, x_ex_Misfit, x_ty_Misfit, x_k_Misfit, x_part_Misfit, x_hd_Misfit, x_ci_Misfit, x_ga_Misfit, x_gg_Misfit, x_ca_Misfit, x_mr_Misfit, x_tf_Misfit, x_fit_Misfit, x_k44, x_k54, x_a4⟩ : HX.fac12 K := of_decide_eq_true d12
    obtain ⟨d13, hf⟩ := Bool.and_eq_true_iff.mp hf
    obtain ⟨x_a5, x_ne, tb_law_refused_right, cr_law, cr_law_refused_right⟩ : HX.fac13 K := of_decide_eq_true d13
    obtain ⟨oc_law, od_law, sl_law, kV_law, dc_law, pm_law, an_law, cd_law, ct_law, l_law, c_law⟩ := c.func 0 (d := ⟨HX.f_law, "law", "law", defArgs (topS 94), defBody (topS 94), defScope (topS 94)⟩) rfl
    have ec_law : cd_law = .ref (Pg.cdOf K (HX.f_law K)) := Pg.cdRef_ok cr_law l_law
    subst ec_law
    obtain ⟨oc_is_integer, od_is_integer, sl_is_integer, kV_is_integer, dc_is_integer, pm_is_integer, an_is_integer, cd_is_integer, ct_is_integer, l_is_integer, c_is_integer⟩ := c.func 1 (d := ⟨HX.f_is_integer, "is_integer", "is_integer", defArgs (topS 6), defBody (topS 6), defScope (topS 6)⟩) rfl
    obtain ⟨oc_are_numbers, od_are_numbers, sl_are_numbers, kV_are_numbers, dc_are_numbers, pm_are_numbers, an_are_numbers, cd_are_numbers, ct_are_numbers, l_are_numbers, c_are_numbers⟩ := c.func 2 (d := ⟨HX.f_are_numbers, "are_numbers", "are_numbers", defArgs (topS 8), defBody (topS 8), defScope (topS 8)⟩) rfl
    obtain ⟨oc_is_within, od_is_within, sl_is_within, kV_is_within, dc_is_within, pm_is_within, an_is_within, cd_is_within, ct_is_within, l_is_within, c_is_within⟩ := c.func 3 (d := ⟨HX.f_is_within, "is_within", "is_within", defArgs (topS 7), defBody (topS 7), defScope (topS 7)⟩) rfl
    obtain ⟨oc_demand_number, od_demand_number, sl_demand_number, kV_demand_number, dc_demand_number, pm_demand_number, an_demand_number, cd_demand_number, ct_demand_number, l_demand_number, c_demand_number⟩ := c.func 4 (d := ⟨HX.f_demand_number, "demand_number", "demand_number", defArgs (topS 24), defBody (topS 24), defScope (topS 24)⟩) rfl
    obtain ⟨oc_demand_world, od_demand_world, sl_demand_world, kV_demand_world, dc_demand_world, pm_demand_world, an_demand_world, cd_demand_world, ct_demand_world, l_demand_world, c_demand_world⟩ := c.func 5 (d := ⟨HX.f_demand_world, "demand_world", "demand_world", defArgs (topS 25), defBody (topS 25), defScope (topS 25)⟩) rfl
    obtain ⟨oc_demand_numbers, od_demand_numbers, sl_demand_numbers, kV_demand_numbers, dc_demand_numbers, pm_demand_numbers, an_demand_numbers, cd_demand_numbers, ct_demand_numbers, l_demand_numbers, c_demand_numbers⟩ := c.func 6 (d := ⟨HX.f_demand_numbers, "demand_numbers", "demand_numbers", defArgs (topS 27), defBody (topS 27), defScope (topS 27)⟩) rfl
    obtain ⟨oc_demand_things, od_demand_things, sl_demand_things, kV_demand_things, dc_demand_things, pm_demand_things, an_demand_things, cd_demand_things, ct_demand_things, l_demand_things, c_demand_things⟩ := c.func 7 (d := ⟨HX.f_demand_things, "demand_things", "demand_things", defArgs (topS 29), defBody (topS 29), defScope (topS 29)⟩) rfl
    obtain ⟨oc_Lead___init__, od_Lead___init__, sl_Lead___init__, kV_Lead___init__, dc_Lead___init__, pm_Lead___init__, an_Lead___init__, cd_Lead___init__, ct_Lead___init__, l_Lead___init__, c_Lead___init__⟩ := c.func 8 (d := ⟨HX.f_Lead___init__, "__init__", "Lead.__init__", defArgs (inClass (topS 35) 0), defBody (inClass (topS 35) 0), defScope (inClass (topS 35) 0)⟩) rfl
    obtain ⟨oc_all_rows, od_all_rows, sl_all_rows, kV_all_rows, dc_all_rows, pm_all_rows, an_all_rows, cd_all_rows, ct_all_rows, l_all_rows, c_all_rows⟩ := c.func 9 (d := ⟨HX.f_all_rows, "all_rows", "all_rows", defArgs (topS 38), defBody (topS 38), defScope (topS 38)⟩) rfl
    obtain ⟨oc_many_rows, od_many_rows, sl_many_rows, kV_many_rows, dc_many_rows, pm_many_rows, an_many_rows, cd_many_rows, ct_many_rows, l_many_rows, c_many_rows⟩ := c.func 10 (d := ⟨HX.f_many_rows, "many_rows", "many_rows", defArgs (topS 37), defBody (topS 37), defScope (topS 37)⟩) rfl
    obtain ⟨oc_row_index, od_row_index, sl_row_index, kV_row_index, dc_row_index, pm_row_index, an_row_index, cd_row_index, ct_row_index, l_row_index, c_row_index⟩ := c.func 11 (d := ⟨HX.f_row_index, "row_index", "row_index", defArgs (topS 39), defBody (topS 39), defScope (topS 39)⟩) rfl
    obtain ⟨oc_demand_many_places, od_demand_many_places, sl_demand_many_places, kV_demand_many_places, dc_demand_many_places, pm_demand_many_places, an_demand_many_places, cd_demand_many_places, ct_demand_many_places, l_demand_many_places, c_demand_many_places⟩ := c.func 12 (d := ⟨HX.f_demand_many_places, "demand_many_places", "demand_many_places", defArgs (topS 26), defBody (topS 26), defScope (topS 26)⟩) rfl
    obtain ⟨oc_demand_many_numbers, od_demand_many_numbers, sl_demand_many_numbers, kV_demand_many_numbers, dc_demand_many_numbers, pm_demand_many_numbers, an_demand_many_numbers, cd_demand_many_numbers, ct_demand_many_numbers, l_demand_many_numbers, c_demand_many_numbers⟩ := c.func 13 (d := ⟨HX.f_demand_many_numbers, "demand_many_numbers", "demand_many_numbers", defArgs (topS 28), defBody (topS 28), defScope (topS 28)⟩) rfl
    obtain ⟨oc_demand_few_values, od_demand_few_values, sl_demand_few_values, kV_demand_few_values, dc_demand_few_values, pm_demand_few_values, an_demand_few_values, cd_demand_few_values, ct_demand_few_values, l_demand_few_values, c_demand_few_values⟩ := c.func 14 (d := ⟨HX.f_demand_few_values, "demand_few_values", "demand_few_values", defArgs (topS 56), defBody (topS 56), defScope (topS 56)⟩) rfl
    obtain ⟨oc_inputs, od_inputs, sl_inputs, kV_inputs, dc_inputs, pm_inputs, an_inputs, cd_inputs, ct_inputs, l_inputs, c_inputs⟩ := c.func 15 (d := ⟨HX.f_inputs, "inputs", "inputs", defArgs (topS 57), defBody (topS 57), defScope (topS 57)⟩) rfl
    obtain ⟨oc_Told___init__, od_Told___init__, sl_Told___init__, kV_Told___init__, dc_Told___init__, pm_Told___init__, an_Told___init__, cd_Told___init__, ct_Told___init__, l_Told___init__, c_Told___init__⟩ := c.func 16 (d := ⟨HX.f_Told___init__, "__init__", "Told.__init__", defArgs (inClass (topS 59) 0), defBody (inClass (topS 59) 0), defScope (inClass (topS 59) 0)⟩) rfl
    obtain ⟨oc_Told___eq__, od_Told___eq__, sl_Told___eq__, kV_Told___eq__, dc_Told___eq__, pm_Told___eq__, an_Told___eq__, cd_Told___eq__, ct_Told___eq__, l_Told___eq__, c_Told___eq__⟩ := c.func 17 (d := ⟨HX.f_Told___eq__, "__eq__", "Told.__eq__", defArgs (inClass (topS 59) 1), defBody (inClass (topS 59) 1), defScope (inClass (topS 59) 1)⟩) rfl
    obtain ⟨oc_never_falls, od_never_falls, sl_never_falls, kV_never_falls, dc_never_falls, pm_never_falls, an_never_falls, cd_never_falls, ct_never_falls, l_never_falls, c_never_falls⟩ := c.func 18 (d := ⟨HX.f_never_falls, "never_falls", "never_falls", defArgs (topS 46), defBody (topS 46), defScope (topS 46)⟩) rfl
    obtain ⟨oc_never_rises, od_never_rises, sl_never_rises, kV_never_rises, dc_never_rises, pm_never_rises, an_never_rises, cd_never_rises, ct_never_rises, l_never_rises, c_never_rises⟩ := c.func 19 (d := ⟨HX.f_never_rises, "never_rises", "never_rises", defArgs (topS 47), defBody (topS 47), defScope (topS 47)⟩) rfl
    obtain ⟨oc_rises, od_rises, sl_rises, kV_rises, dc_rises, pm_rises, an_rises, cd_rises, ct_rises, l_rises, c_rises⟩ := c.func 20 (d := ⟨HX.f_rises, "rises", "rises", defArgs (topS 48), defBody (topS 48), defScope (topS 48)⟩) rfl
    obtain ⟨oc_row_is_of, od_row_is_of, sl_row_is_of, kV_row_is_of, dc_row_is_of, pm_row_is_of, an_row_is_of, cd_row_is_of, ct_row_is_of, l_row_is_of, c_row_is_of⟩ := c.func 21 (d := ⟨HX.f_row_is_of, "row_is_of", "row_is_of", defArgs (topS 49), defBody (topS 49), defScope (topS 49)⟩) rfl
    obtain ⟨oc_demand_manner, od_demand_manner, sl_demand_manner, kV_demand_manner, dc_demand_manner, pm_demand_manner, an_demand_manner, cd_demand_manner, ct_demand_manner, l_demand_manner, c_demand_manner⟩ := c.func 22 (d := ⟨HX.f_demand_manner, "demand_manner", "demand_manner", defArgs (topS 44), defBody (topS 44), defScope (topS 44)⟩) rfl
    obtain ⟨oc_demand_two, od_demand_two, sl_demand_two, kV_demand_two, dc_demand_two, pm_demand_two, an_demand_two, cd_demand_two, ct_demand_two, l_demand_two, c_demand_two⟩ := c.func 23 (d := ⟨HX.f_demand_two, "demand_two", "demand_two", defArgs (topS 45), defBody (topS 45), defScope (topS 45)⟩) rfl
    obtain ⟨oc_row_at, od_row_at, sl_row_at, kV_row_at, dc_row_at, pm_row_at, an_row_at, cd_row_at, ct_row_at, l_row_at, c_row_at⟩ := c.func 24 (d := ⟨HX.f_row_at, "row_at", "row_at", defArgs (topS 40), defBody (topS 40), defScope (topS 40)⟩) rfl
    obtain ⟨oc_led_indices, od_led_indices, sl_led_indices, kV_led_indices, dc_led_indices, pm_led_indices, an_led_indices, cd_led_indices, ct_led_indices, l_led_indices, c_led_indices⟩ := c.func 25 (d := ⟨HX.f_led_indices, "led_indices", "led_indices", defArgs (topS 41), defBody (topS 41), defScope (topS 41)⟩) rfl
    obtain ⟨oc_demand_told, od_demand_told, sl_demand_told, kV_demand_told, dc_demand_told, pm_demand_told, an_demand_told, cd_demand_told, ct_demand_told, l_demand_told, c_demand_told⟩ := c.func 26 (d := ⟨HX.f_demand_told, "demand_told", "demand_told", defArgs (topS 60), defBody (topS 60), defScope (topS 60)⟩) rfl
    obtain ⟨oc_first_parting, od_first_parting, sl_first_parting, kV_first_parting, dc_first_parting, pm_first_parting, an_first_parting, cd_first_parting, ct_first_parting, l_first_parting, c_first_parting⟩ := c.func 27 (d := ⟨HX.f_first_parting, "first_parting", "first_parting", defArgs (topS 76), defBody (topS 76), defScope (topS 76)⟩) rfl
    obtain ⟨oc_put_row, od_put_row, sl_put_row, kV_put_row, dc_put_row, pm_put_row, an_put_row, cd_put_row, ct_put_row, l_put_row, c_put_row⟩ := c.func 28 (d := ⟨HX.f_put_row, "put_row", "put_row", defArgs (topS 50), defBody (topS 50), defScope (topS 50)⟩) rfl
    obtain ⟨oc_exchange_row, od_exchange_row, sl_exchange_row, kV_exchange_row, dc_exchange_row, pm_exchange_row, an_exchange_row, cd_exchange_row, ct_exchange_row, l_exchange_row, c_exchange_row⟩ := c.func 29 (d := ⟨HX.f_exchange_row, "exchange_row", "exchange_row", defArgs (topS 51), defBody (topS 51), defScope (topS 51)⟩) rfl
    obtain ⟨oc_candidate_rows, od_candidate_rows, sl_candidate_rows, kV_candidate_rows, dc_candidate_rows, pm_candidate_rows, an_candidate_rows, cd_candidate_rows, ct_candidate_rows, l_candidate_rows, c_candidate_rows⟩ := c.func 30 (d := ⟨HX.f_candidate_rows, "candidate_rows", "candidate_rows", defArgs (topS 52), defBody (topS 52), defScope (topS 52)⟩) rfl
    obtain ⟨oc_few_rows, od_few_rows, sl_few_rows, kV_few_rows, dc_few_rows, pm_few_rows, an_few_rows, cd_few_rows, ct_few_rows, l_few_rows, c_few_rows⟩ := c.func 31 (d := ⟨HX.f_few_rows, "few_rows", "few_rows", defArgs (topS 53), defBody (topS 53), defScope (topS 53)⟩) rfl
    obtain ⟨oc_fixed, od_fixed, sl_fixed, kV_fixed, dc_fixed, pm_fixed, an_fixed, cd_fixed, ct_fixed, l_fixed, c_fixed⟩ := c.func 32 (d := ⟨HX.f_fixed, "fixed", "fixed", defArgs (topS 2), defBody (topS 2), defScope (topS 2)⟩) rfl
    obtain ⟨oc_Paper___init__, od_Paper___init__, sl_Paper___init__, kV_Paper___init__, dc_Paper___init__, pm_Paper___init__, an_Paper___init__, cd_Paper___init__, ct_Paper___init__, l_Paper___init__, c_Paper___init__⟩ := c.func 33 (d := ⟨HX.f_Paper___init__, "__init__", "Paper.__init__", defArgs (inClass (topS 3) 0), defBody (inClass (topS 3) 0), defScope (inClass (topS 3) 0)⟩) rfl
    obtain ⟨oc_Denial___init__, od_Denial___init__, sl_Denial___init__, kV_Denial___init__, dc_Denial___init__, pm_Denial___init__, an_Denial___init__, cd_Denial___init__, ct_Denial___init__, l_Denial___init__, c_Denial___init__⟩ := c.func 34 (d := ⟨HX.f_Denial___init__, "__init__", "Denial.__init__", defArgs (inClass (topS 4) 0), defBody (inClass (topS 4) 0), defScope (inClass (topS 4) 0)⟩) rfl
    obtain ⟨oc_Kept___init__, od_Kept___init__, sl_Kept___init__, kV_Kept___init__, dc_Kept___init__, pm_Kept___init__, an_Kept___init__, cd_Kept___init__, ct_Kept___init__, l_Kept___init__, c_Kept___init__⟩ := c.func 35 (d := ⟨HX.f_Kept___init__, "__init__", "Kept.__init__", defArgs (inClass (topS 74) 0), defBody (inClass (topS 74) 0), defScope (inClass (topS 74) 0)⟩) rfl
    obtain ⟨oc_Parting___init__, od_Parting___init__, sl_Parting___init__, kV_Parting___init__, dc_Parting___init__, pm_Parting___init__, an_Parting___init__, cd_Parting___init__, ct_Parting___init__, l_Parting___init__, c_Parting___init__⟩ := c.func 36 (d := ⟨HX.f_Parting___init__, "__init__", "Parting.__init__", defArgs (inClass (topS 75) 0), defBody (inClass (topS 75) 0), defScope (inClass (topS 75) 0)⟩) rfl
    obtain ⟨oc_Paper___bool__, od_Paper___bool__, sl_Paper___bool__, kV_Paper___bool__, dc_Paper___bool__, pm_Paper___bool__, an_Paper___bool__, cd_Paper___bool__, ct_Paper___bool__, l_Paper___bool__, c_Paper___bool__⟩ := c.func 37 (d := ⟨HX.f_Paper___bool__, "__bool__", "Paper.__bool__", defArgs (inClass (topS 3) 2), defBody (inClass (topS 3) 2), defScope (inClass (topS 3) 2)⟩) rfl
    obtain ⟨oc_Denial___bool__, od_Denial___bool__, sl_Denial___bool__, kV_Denial___bool__, dc_Denial___bool__, pm_Denial___bool__, an_Denial___bool__, cd_Denial___bool__, ct_Denial___bool__, l_Denial___bool__, c_Denial___bool__⟩ := c.func 38 (d := ⟨HX.f_Denial___bool__, "__bool__", "Denial.__bool__", defArgs (inClass (topS 4) 2), defBody (inClass (topS 4) 2), defScope (inClass (topS 4) 2)⟩) rfl
    obtain ⟨oc_demand_told_manner, od_demand_told_manner, sl_demand_told_manner, kV_demand_told_manner, dc_demand_told_manner, pm_demand_told_manner, an_demand_told_manner, cd_demand_told_manner, ct_demand_told_manner, l_demand_told_manner, c_demand_told_manner⟩ := c.func 39 (d := ⟨HX.f_demand_told_manner, "demand_told_manner", "demand_told_manner", defArgs (topS 77), defBody (topS 77), defScope (topS 77)⟩) rfl
    obtain ⟨oc_kept, od_kept, sl_kept, kV_kept, dc_kept, pm_kept, an_kept, cd_kept, ct_kept, l_kept, c_kept⟩ := c.func 40 (d := ⟨HX.f_kept, "kept", "kept", defArgs (topS 78), defBody (topS 78), defScope (topS 78)⟩) rfl
    obtain ⟨oc_keeps, od_keeps, sl_keeps, kV_keeps, dc_keeps, pm_keeps, an_keeps, cd_keeps, ct_keeps, l_keeps, c_keeps⟩ := c.func 41 (d := ⟨HX.f_keeps, "keeps", "keeps", defArgs (topS 79), defBody (topS 79), defScope (topS 79)⟩) rfl
    obtain ⟨oc_demand_place, od_demand_place, sl_demand_place, kV_demand_place, dc_demand_place, pm_demand_place, an_demand_place, cd_demand_place, ct_demand_place, l_demand_place, c_demand_place⟩ := c.func 42 (d := ⟨HX.f_demand_place, "demand_place", "demand_place", defArgs (topS 30), defBody (topS 30), defScope (topS 30)⟩) rfl
    obtain ⟨oc_Worker___init__, od_Worker___init__, sl_Worker___init__, kV_Worker___init__, dc_Worker___init__, pm_Worker___init__, an_Worker___init__, cd_Worker___init__, ct_Worker___init__, l_Worker___init__, c_Worker___init__⟩ := c.func 43 (d := ⟨HX.f_Worker___init__, "__init__", "Worker.__init__", defArgs (inClass (topS 64) 0), defBody (inClass (topS 64) 0), defScope (inClass (topS 64) 0)⟩) rfl
    obtain ⟨oc_Place___init__, od_Place___init__, sl_Place___init__, kV_Place___init__, dc_Place___init__, pm_Place___init__, an_Place___init__, cd_Place___init__, ct_Place___init__, l_Place___init__, c_Place___init__⟩ := c.func 44 (d := ⟨HX.f_Place___init__, "__init__", "Place.__init__", defArgs (inClass (topS 65) 0), defBody (inClass (topS 65) 0), defScope (inClass (topS 65) 0)⟩) rfl
    obtain ⟨oc_Place_over, od_Place_over, sl_Place_over, kV_Place_over, dc_Place_over, pm_Place_over, an_Place_over, cd_Place_over, ct_Place_over, l_Place_over, c_Place_over⟩ := c.func 45 (d := ⟨HX.f_Place_over, "over", "Place.over", defArgs (inClass (topS 65) 3), defBody (inClass (topS 65) 3), defScope (inClass (topS 65) 3)⟩) rfl
    obtain ⟨oc_demand_known_manner, od_demand_known_manner, sl_demand_known_manner, kV_demand_known_manner, dc_demand_known_manner, pm_demand_known_manner, an_demand_known_manner, cd_demand_known_manner, ct_demand_known_manner, l_demand_known_manner, c_demand_known_manner⟩ := c.func 46 (d := ⟨HX.f_demand_known_manner, "demand_known_manner", "demand_known_manner", defArgs (topS 69), defBody (topS 69), defScope (topS 69)⟩) rfl
    obtain ⟨oc_all_known, od_all_known, sl_all_known, kV_all_known, dc_all_known, pm_all_known, an_all_known, cd_all_known, ct_all_known, l_all_known, c_all_known⟩ := c.func 47 (d := ⟨HX.f_all_known, "all_known", "all_known", defArgs (topS 70), defBody (topS 70), defScope (topS 70)⟩) rfl
    obtain ⟨oc_known_of, od_known_of, sl_known_of, kV_known_of, dc_known_of, pm_known_of, an_known_of, cd_known_of, ct_known_of, l_known_of, c_known_of⟩ := c.func 48 (d := ⟨HX.f_known_of, "known_of", "known_of", defArgs (topS 71), defBody (topS 71), defScope (topS 71)⟩) rfl
    obtain ⟨oc_law_jug, od_law_jug, sl_law_jug, kV_law_jug, dc_law_jug, pm_law_jug, an_law_jug, cd_law_jug, ct_law_jug, l_law_jug, c_law_jug⟩ := c.func 49 (d := ⟨HX.f_law_jug, "_law_jug", "_law_jug", defArgs (topS 81), defBody (topS 81), defScope (topS 81)⟩) rfl
    obtain ⟨oc_law_tap, od_law_tap, sl_law_tap, kV_law_tap, dc_law_tap, pm_law_tap, an_law_tap, cd_law_tap, ct_law_tap, l_law_tap, c_law_tap⟩ := c.func 50 (d := ⟨HX.f_law_tap, "_law_tap", "_law_tap", defArgs (topS 82), defBody (topS 82), defScope (topS 82)⟩) rfl
    obtain ⟨oc_law_pick, od_law_pick, sl_law_pick, kV_law_pick, dc_law_pick, pm_law_pick, an_law_pick, cd_law_pick, ct_law_pick, l_law_pick, c_law_pick⟩ := c.func 51 (d := ⟨HX.f_law_pick, "_law_pick", "_law_pick", defArgs (topS 83), defBody (topS 83), defScope (topS 83)⟩) rfl
    obtain ⟨oc_law_inputs, od_law_inputs, sl_law_inputs, kV_law_inputs, dc_law_inputs, pm_law_inputs, an_law_inputs, cd_law_inputs, ct_law_inputs, l_law_inputs, c_law_inputs⟩ := c.func 52 (d := ⟨HX.f_law_inputs, "_law_inputs", "_law_inputs", defArgs (topS 84), defBody (topS 84), defScope (topS 84)⟩) rfl
    obtain ⟨oc_is_turned, od_is_turned, sl_is_turned, kV_is_turned, dc_is_turned, pm_is_turned, an_is_turned, cd_is_turned, ct_is_turned, l_is_turned, c_is_turned⟩ := c.func 53 (d := ⟨HX.f_is_turned, "is_turned", "is_turned", defArgs (topS 72), defBody (topS 72), defScope (topS 72)⟩) rfl
    obtain ⟨oc_Place___eq__, od_Place___eq__, sl_Place___eq__, kV_Place___eq__, dc_Place___eq__, pm_Place___eq__, an_Place___eq__, cd_Place___eq__, ct_Place___eq__, l_Place___eq__, c_Place___eq__⟩ := c.func 54 (d := ⟨HX.f_Place___eq__, "__eq__", "Place.__eq__", defArgs (inClass (topS 65) 1), defBody (inClass (topS 65) 1), defScope (inClass (topS 65) 1)⟩) rfl
    obtain ⟨oc_law_goes, od_law_goes, sl_law_goes, kV_law_goes, dc_law_goes, pm_law_goes, an_law_goes, cd_law_goes, ct_law_goes, l_law_goes, c_law_goes⟩ := c.func 55 (d := ⟨HX.f_law_goes, "_law_goes", "_law_goes", defArgs (topS 85), defBody (topS 85), defScope (topS 85)⟩) rfl
    obtain ⟨oc_law_is_turned, od_law_is_turned, sl_law_is_turned, kV_law_is_turned, dc_law_is_turned, pm_law_is_turned, an_law_is_turned, cd_law_is_turned, ct_law_is_turned, l_law_is_turned, c_law_is_turned⟩ := c.func 56 (d := ⟨HX.f_law_is_turned, "_law_is_turned", "_law_is_turned", defArgs (topS 86), defBody (topS 86), defScope (topS 86)⟩) rfl
    obtain ⟨oc_law_digits, od_law_digits, sl_law_digits, kV_law_digits, dc_law_digits, pm_law_digits, an_law_digits, cd_law_digits, ct_law_digits, l_law_digits, c_law_digits⟩ := c.func 57 (d := ⟨HX.f_law_digits, "_law_digits", "_law_digits", defArgs (topS 87), defBody (topS 87), defScope (topS 87)⟩) rfl
    obtain ⟨oc_law_half, od_law_half, sl_law_half, kV_law_half, dc_law_half, pm_law_half, an_law_half, cd_law_half, ct_law_half, l_law_half, c_law_half⟩ := c.func 58 (d := ⟨HX.f_law_half, "_law_half", "_law_half", defArgs (topS 88), defBody (topS 88), defScope (topS 88)⟩) rfl
    obtain ⟨oc_law_bent, od_law_bent, sl_law_bent, kV_law_bent, dc_law_bent, pm_law_bent, an_law_bent, cd_law_bent, ct_law_bent, l_law_bent, c_law_bent⟩ := c.func 59 (d := ⟨HX.f_law_bent, "_law_bent", "_law_bent", defArgs (topS 93), defBody (topS 93), defScope (topS 93)⟩) rfl
    obtain ⟨oc_law_parts, od_law_parts, sl_law_parts, kV_law_parts, dc_law_parts, pm_law_parts, an_law_parts, cd_law_parts, ct_law_parts, l_law_parts, c_law_parts⟩ := c.func 60 (d := ⟨HX.f_law_parts, "_law_parts", "_law_parts", defArgs (topS 89), defBody (topS 89), defScope (topS 89)⟩) rfl
    obtain ⟨oc_law_right, od_law_right, sl_law_right, kV_law_right, dc_law_right, pm_law_right, an_law_right, cd_law_right, ct_law_right, l_law_right, c_law_right⟩ := c.func 61 (d := ⟨HX.f_law_right, "_law_right", "_law_right", defArgs (topS 90), defBody (topS 90), defScope (topS 90)⟩) rfl
    obtain ⟨oc_law_heard, od_law_heard, sl_law_heard, kV_law_heard, dc_law_heard, pm_law_heard, an_law_heard, cd_law_heard, ct_law_heard, l_law_heard, c_law_heard⟩ := c.func 62 (d := ⟨HX.f_law_heard, "_law_heard", "_law_heard", defArgs (topS 91), defBody (topS 91), defScope (topS 91)⟩) rfl
    obtain ⟨oc_law_refused_right, od_law_refused_right, sl_law_refused_right, kV_law_refused_right, dc_law_refused_right, pm_law_refused_right, an_law_refused_right, cd_law_refused_right, ct_law_refused_right, l_law_refused_right, c_law_refused_right⟩ := c.func 63 (d := ⟨HX.f_law_refused_right, "_law_refused_right", "_law_refused_right", defArgs (topS 92), defBody (topS 92), defScope (topS 92)⟩) rfl
    have ec_law_refused_right : cd_law_refused_right = .ref (Pg.cdOf K (HX.f_law_refused_right K)) := Pg.cdRef_ok cr_law_refused_right l_law_refused_right
    subst ec_law_refused_right
    obtain ⟨oc_Thing___init__, od_Thing___init__, sl_Thing___init__, kV_Thing___init__, dc_Thing___init__, pm_Thing___init__, an_Thing___init__, cd_Thing___init__, ct_Thing___init__, l_Thing___init__, c_Thing___init__⟩ := c.func 64 (d := ⟨HX.f_Thing___init__, "__init__", "Thing.__init__", defArgs (inClass (topS 66) 0), defBody (inClass (topS 66) 0), defScope (inClass (topS 66) 0)⟩) rfl
    obtain ⟨oc_BadTold___init__, od_BadTold___init__, sl_BadTold___init__, kV_BadTold___init__, dc_BadTold___init__, pm_BadTold___init__, an_BadTold___init__, cd_BadTold___init__, ct_BadTold___init__, l_BadTold___init__, c_BadTold___init__⟩ := c.func 65 (d := ⟨HX.f_BadTold___init__, "__init__", "BadTold.__init__", defArgs (inClass (topS 13) 0), defBody (inClass (topS 13) 0), defScope (inClass (topS 13) 0)⟩) rfl
    obtain ⟨oc_Misfit___init__, od_Misfit___init__, sl_Misfit___init__, kV_Misfit___init__, dc_Misfit___init__, pm_Misfit___init__, an_Misfit___init__, cd_Misfit___init__, ct_Misfit___init__, l_Misfit___init__, c_Misfit___init__⟩ := c.func 66 (d := ⟨HX.f_Misfit___init__, "__init__", "Misfit.__init__", defArgs (inClass (topS 15) 0), defBody (inClass (topS 15) 0), defScope (inClass (topS 15) 0)⟩) rfl
    obtain ⟨es_t_KT, n_t_KT, d_KT, y_KT⟩ := c.dict 0 (d := ⟨HX.t_KT, ["blind", "one", "two"]⟩) rfl
    exact ⟨K, KX, Pg.close (q := view (OpenLaw.row PySem.Challenge.rw_kindtells_k15_whole_blind_over_two_thing).prog [92, 94]) KX Gh hmg hlen aC_Lead pg_Lead hd_Lead po_Lead sa_Lead mk_Lead kc_Lead n_Lead_begin n_Lead_into n_Lead_row aC_Items pg_Items hd_Items po_Items sa_Items mk_Items kc_Items n_Items_words n_Items_taken aC_Told pg_Told hd_Told po_Told sa_Told mo_Told ne_Told mk_Told kc_Told n_Told_things n_Told_places n_Told_tells aC_Kept pg_Kept hd_Kept po_Kept sa_Kept mk_Kept kc_Kept n_Kept_word n_Kept_parts aC_Parting pg_Parting hd_Parting po_Parting sa_Parting mk_Parting kc_Parting n_Parting_word n_Parting_parts n_Parting_lead n_Parting_row aC_Paper pg_Paper hd_Paper po_Paper sa_Paper rd_Paper ga_Paper mk_Paper kc_Paper aC_Denial pg_Denial hd_Denial po_Denial sa_Denial rd_Denial ga_Denial mk_Denial kc_Denial aC_Worker pg_Worker hd_Worker po_Worker sa_Worker rd_Worker ga_Worker mk_Worker kc_Worker aC_Place pg_Place hd_Place po_Place sa_Place mo_Place ne_Place mk_Place kc_Place n_Place_places n_Place_place aC_Thing pg_Thing hd_Thing po_Thing sa_Thing mk_Thing kc_Thing a_law l_law c_law k_law a_is_integer l_is_integer c_is_integer k_is_integer a_are_numbers l_are_numbers c_are_numbers k_are_numbers a_is_within l_is_within c_is_within k_is_within a_demand_number l_demand_number c_demand_number k_demand_number a_demand_world l_demand_world c_demand_world k_demand_world a_demand_numbers l_demand_numbers c_demand_numbers k_demand_numbers a_demand_things l_demand_things c_demand_things k_demand_things a_Lead___init__ i_Lead___init__ l_Lead___init__ c_Lead___init__ k_Lead___init__ a_all_rows l_all_rows c_all_rows k_all_rows a_many_rows l_many_rows c_many_rows k_many_rows a_row_index l_row_index c_row_index k_row_index a_demand_many_places l_demand_many_places c_demand_many_places k_demand_many_places a_demand_many_numbers l_demand_many_numbers c_demand_many_numbers k_demand_many_numbers a_demand_few_values l_demand_few_values c_demand_few_values k_demand_few_values a_inputs l_inputs c_inputs k_inputs a_Told___init__ i_Told___init__ l_Told___init__ c_Told___init__ k_Told___init__ a_Told___eq__ i_Told___eq__ l_Told___eq__ c_Told___eq__ k_Told___eq__ a_never_falls l_never_falls c_never_falls k_never_falls a_never_rises l_never_rises c_never_rises k_never_rises a_rises l_rises c_rises k_rises a_row_is_of l_row_is_of c_row_is_of k_row_is_of a_demand_manner l_demand_manner c_demand_manner k_demand_manner a_demand_two l_demand_two c_demand_two k_demand_two a_row_at l_row_at c_row_at k_row_at a_led_indices l_led_indices c_led_indices k_led_indices a_demand_told l_demand_told c_demand_told k_demand_told a_first_parting l_first_parting c_first_parting k_first_parting a_put_row l_put_row c_put_row k_put_row a_exchange_row l_exchange_row c_exchange_row k_exchange_row a_candidate_rows l_candidate_rows c_candidate_rows k_candidate_rows a_few_rows l_few_rows c_few_rows k_few_rows a_fixed l_fixed c_fixed k_fixed a_Paper___init__ i_Paper___init__ l_Paper___init__ c_Paper___init__ k_Paper___init__ a_Denial___init__ i_Denial___init__ l_Denial___init__ c_Denial___init__ k_Denial___init__ a_Kept___init__ i_Kept___init__ l_Kept___init__ c_Kept___init__ k_Kept___init__ a_Parting___init__ i_Parting___init__ l_Parting___init__ c_Parting___init__ k_Parting___init__ a_Paper___bool__ i_Paper___bool__ l_Paper___bool__ c_Paper___bool__ k_Paper___bool__ a_Denial___bool__ i_Denial___bool__ l_Denial___bool__ c_Denial___bool__ k_Denial___bool__ a_demand_told_manner l_demand_told_manner c_demand_told_manner k_demand_told_manner a_kept l_kept c_kept k_kept a_keeps l_keeps c_keeps k_keeps a_demand_place l_demand_place c_demand_place k_demand_place a_Worker___init__ i_Worker___init__ l_Worker___init__ c_Worker___init__ k_Worker___init__ a_Place___init__ i_Place___init__ l_Place___init__ c_Place___init__ k_Place___init__ a_Place_over i_Place_over l_Place_over c_Place_over k_Place_over a_demand_known_manner l_demand_known_manner c_demand_known_manner k_demand_known_manner a_all_known l_all_known c_all_known k_all_known a_known_of l_known_of c_known_of k_known_of a_law_jug l_law_jug c_law_jug k_law_jug a_law_tap l_law_tap c_law_tap k_law_tap a_law_pick l_law_pick c_law_pick k_law_pick a_law_inputs l_law_inputs c_law_inputs k_law_inputs a_is_turned l_is_turned c_is_turned k_is_turned a_Place___eq__ i_Place___eq__ l_Place___eq__ c_Place___eq__ k_Place___eq__ a_law_goes l_law_goes c_law_goes k_law_goes a_law_is_turned l_law_is_turned c_law_is_turned k_law_is_turned a_law_digits l_law_digits c_law_digits k_law_digits a_law_half l_law_half c_law_half k_law_half a_law_bent l_law_bent c_law_bent k_law_bent a_law_parts l_law_parts c_law_parts k_law_parts a_law_right l_law_right c_law_right k_law_right a_law_heard l_law_heard c_law_heard k_law_heard a_law_refused_right l_law_refused_right c_law_refused_right k_law_refused_right a_Thing___init__ i_Thing___init__ l_Thing___init__ c_Thing___init__ k_Thing___init__ a_BadTold___init__ i_BadTold___init__ l_BadTold___init__ c_BadTold___init__ k_BadTold___init__ a_Misfit___init__ i_Misfit___init__ l_Misfit___init__ c_Misfit___init__ k_Misfit___init__ v_MOST_THINGS v_MOST_PLACES v_MOST_VALUES aM_MANNERS (Pg.tupsB_ok (small (n := 9) (by decide)) gK_MANNERSb) z_len z_all z_any z_isinstance z_int z_bool z_list z_tuple z_str z_range z_zip z_sorted z_type z_max z_min z_abs z_repr z_set z_enumerate z_dict z_sum g_KT d_KT y_KT s_KT v_KT x_gn x_tk x_ca_Lead x_mr_Lead x_ca_Kept x_mr_Kept x_ca_Parting x_mr_Parting x_no x_k7 x_k8 fb_Kept fb_Parting (Pg.isVal_ok fc_Paperb) (Pg.isVal_ok fc_Denialb) (Pg.isVal_ok fc_Workerb) aC_BadTold aC_Misfit aC_TellsError x_eB_BadTold x_sa_BadTold x_ex_BadTold x_ty_BadTold x_k_BadTold x_part_BadTold x_hd_BadTold x_ci_BadTold x_ga_BadTold x_gg_BadTold x_ca_BadTold x_mr_BadTold x_tf_BadTold x_fit_BadTold x_eB_Misfit x_sa_Misfit x_ex_Misfit x_ty_Misfit x_k_Misfit x_part_Misfit x_hd_Misfit x_ci_Misfit x_ga_Misfit x_gg_Misfit x_ca_Misfit x_mr_Misfit x_tf_Misfit x_fit_Misfit x_k44 x_k54 x_a4 x_a5 x_ne tb_law_refused_right (by kernel_rfl)⟩
