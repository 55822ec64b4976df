import PyProof.Rows.All
import Wide.All
import OpenK.AllK
import Wide.FinOn
import HandS.ForMost
import HandS.Exc
import HandS.WordsExc
import HandS.Deep
import HandS.Lambda
import HandS.TupAny
import HandS.SortInts
import HandS.IsInst
import HandS.RaiseMore
import HandS.Zip
import HandS.Wide
import HandS.Style
import HandS.TupMul
import HandS.TupLe
import HandS.SetFor
import PyProof.P3In
import HandS.SlotsOwn
import PyProof.ReprRoads
import HandS.Conv
import PyProof.EqAt
import HandS.OwnEq
import PyProof.SeqRoads2
import HandS.Dict
import HandS.FStr
import HandS.ClsMeth
import KE.KCallOwn
import PyProof.TypeOfCall
import KE.KTypeOf
import HandS.TryOnly
import HandS.SetKeys
import HandS.Strs
import HandS.ExcField
import HandS.ExcIs
import HandS.ExcValue
import KE.KExcIs
import HandS.ExcInit
import KE.KNest
import HandS.EndTab
import HandS.SortKw
import KE.DataMinMax
import HandS.List
import KE.GoesMore
import PyProof.Rows.FinIter
import PyProof.Rows.RegFStrParts
import KE.KDictKeyed
import KE.KDictCopyH
import HandS.TupSets
import KE.DataFind
import PyProof.CallFns
import PySem.Challenge.RW_kindtells_k09_along_or_the_first_input
set_option Elab.async false
set_option linter.all false
set_option maxRecDepth 100000
set_option maxHeartbeats 2100000
/-! Kn: values as trees over the hand layer. -/
namespace Kn
open PySem L2

/-- a value with all that it holds -/
inductive D where
  | non | bl (b : Bool) | int (i : Int) | str (x : Str)
  | lst (ds : List D) | tup (ds : List D)
  | ins (c : Nat) (ds : List D)
  | opq (v : V)
  | urn
  | at_ (a : Addr) (ds : List D)
  | dct (ks : List Str) (ds : List D)
  | tupn (ds : List D)
  | exc (c : Nat) (ds : List D)
  | dic (ks : List Key) (ds : List D)
  | dcT (ks : List (List Int)) (ds : List D)

/-- what may change: the urn's two addresses, the tables of code objects with the name that they tell -/
abbrev Ur := (Addr × Addr) × List (Addr × Str)
/-- what is known of the program: its written part, its classes by number, the fields of each, in order -/
structure Gd where
  K : PySem.W.Frag
  cl : Nat → Addr
  fl : Nat → List Str
  u : Option Ur
/-- the urn's addresses; each table's, twice -/
def Pr (u : Option Ur) (p : Addr × Addr) : Prop := ∃ r, u = some r ∧ (p = r.1 ∨ ∃ t ∈ r.2, p = (t.1, t.1))
theorem Pr.none {p : Addr × Addr} (h : Pr none p) : False := by
  obtain ⟨_, e, _⟩ := h; cases e
/-- none that may change stands at b -/
def NU (u : Option Ur) (b : Addr) : Prop := ∀ p, Pr u p → p.1 ≠ b
theorem NU.none {b : Addr} : NU none b := fun _ h => h.none.elim
theorem NU.of {u : Option Ur} {B : Addr → Prop} {b : Addr} (hu : ∀ p, Pr u p → B p.1) (n : ¬ B b) : NU u b := fun p e z => n (z ▸ hu p e)
theorem NU.em {u : Option Ur} {b : Addr} : NU u b ∨ ∃ p, Pr u p ∧ p.1 = b := by
  by_cases h : NU u b
  · exact .inl h
  · refine .inr (Classical.byContradiction fun z => h fun p e q => z ⟨p, e, q⟩)

/-- an error of one's own: the number of its class, its fields -/
structure Exc where
  c : Nat
  ds : List D

/-- an exception of the class cls, with the dict d, that stands at a -/
def ExK (cls : Value) (d : Option Addr) (a : Addr) : HO := .ext fun h => ∃ (oe : Obj) (vs : Array Value), h.get? a = some oe ∧ Zc cls d oe ∧ oe.data = .fields vs
/-- a tuple of the module -/
def KTup (K : PySem.W.Frag) (a : Addr) (xs : List V) : Prop :=
  ∃ (o : Obj) (its : Array Value) (n : Nat), K.lookup a = some o ∧ o.cls =
    .type "tuple" ∧ o.data = .seq its n ∧ its.size ≤ sizeLine ∧ Vals xs its.toList
/-- an entry of a dict whose keys are rows of ints: the row, where it stands, the value -/
def dent (x : List Int × Addr × Value) : DictEntry := ⟨reduceHash (Builtin.Tuple.tupleHashOf (x.1.map hashInt)), .ref x.2.1, x.2.2⟩
/-- a dict whose keys are rows of ints stands at a -/
structure DicAt (h : Heap) (a : Addr) (L : List (List Int × Addr × V)) : Prop where
  low : (a == sysModules) = false
  few : L.length ≤ sizeLine
  nd : (L.map (·.1)).Nodup
  ex : ∃ (xs : List (List Int × Addr × Value)) (o : Obj) (es : Array DictEntry) (ep : Nat), Paired (fun (p : List Int × Addr × V) (q : List Int × Addr × Value) => p.1 = q.1 ∧ p.2.1 = q.2.1 ∧ RelV p.2.2 q.2.2) L xs ∧
    h.get? a = some o ∧ o.ExactDict ∧ o.data = .dict es ep ∧ es.toList = xs.map dent
def DicO (a : Addr) (L : List (List Int × Addr × V)) : HO := .ext fun h => DicAt h a L
/-- where the keys of such a dict stand -/
def KeysOk (K : PySem.W.Frag) (B : Addr → Prop) (H : Hp) (L : List (List Int × Addr × V)) : Prop :=
  ∀ p ∈ L, (¬ B p.2.1 ∨ KTup K p.2.1 (p.1.map V.int)) ∧ SqT K H p.2.1 (p.1.map V.int) ∧ p.1.length ≤ sizeLine
theorem KeysOk.keep {K : PySem.W.Frag} {B B' : Addr → Prop} {H H' : Hp} {L : List (List Int × Addr × V)} (k : ∀ b o, ¬ B b → H b = some o → H' b = some o) (s : ∀ b, B' b → B b ∨ H b = none) (h : KeysOk K B H L) : KeysOk K B' H' L := fun p hp => by
  obtain ⟨nb, hs, hl⟩ := h p hp
  rcases nb with nb | nb
  · rcases hs with (e | ⟨o, e⟩) | e
    · refine ⟨.inl fun hb => ?_, .inl (.inl (k _ _ nb e)), hl⟩
      rcases s _ hb with z | z
      · exact nb z
      · rw [z] at e; cases e
    · refine ⟨.inl fun hb => ?_, .inl (.inr ⟨o, k _ _ nb e⟩), hl⟩
      rcases s _ hb with z | z
      · exact nb z
      · rw [z] at e; cases e
    · exact ⟨.inr e, .inr e, hl⟩
  · exact ⟨.inr nb, .inr nb, hl⟩
section
variable (G : Gd) (B : Addr → Prop) (H : Hp)
mutual
def Den : D → V → Prop
  | .non, v => v = .non
  | .bl b, v => v = .bl b
  | .int i, v => v = .int i
  | .str x, v => v = .str x
  | .lst ds, v => ∃ a xs, v = .ref a ∧ ¬ B a ∧ H a = some (.lst xs) ∧ xs.length ≤ sizeLine ∧ DenL ds xs
  | .tup ds, v => ∃ a xs, v = .ref a ∧ (¬ B a ∨ KTup G.K a xs) ∧ SqT G.K H a xs ∧ xs.length ≤ sizeLine ∧ DenL ds xs
  | .ins c ds, v => ∃ a dx xs, v = .ref a ∧ ¬ B a ∧ H a = some (.ins (G.cl c) dx ((G.fl c).zip xs)) ∧ xs.length = (G.fl c).length ∧ DenL ds xs
  | .opq w, v => v = w
  | .urn, v => ∃ p, G.u = some p ∧ v = .ref p.1.1
  | .at_ a ds, v => ∃ xs, v = .ref a ∧ ¬ B a ∧ H a = some (.lst xs) ∧ xs.length ≤ sizeLine ∧ DenL ds xs
  | .tupn ds, v => ∃ a xs o, v = .ref a ∧ ¬ B a ∧ H a = some (.frz o (.tup xs)) ∧ o.cls = .type "tuple" ∧ o.dict = none ∧ xs.length ≤ sizeLine ∧ DenL ds xs
  | .exc c ds, v => ∃ a dd xs, v = .ref a ∧ ¬ B a ∧ ¬ B dd ∧ H a = some (ExK (.ref (G.cl c)) (some dd) a) ∧ H dd = some (.xd ((G.fl c).zip xs)) ∧ xs.length = (G.fl c).length ∧ DenL ds xs
  | .dic ks ds, v => ∃ (a : Addr) (kvs : List (Key × V)), v = .ref a ∧ ¬ B a ∧ H a = some (.dK kvs) ∧ kvs.map (·.1) = ks ∧ DenL ds (kvs.map (·.2))
  | .dct ks ds, v => ∃ (a : Addr) (kvs : List (Key × V)), v = .ref a ∧ ¬ B a ∧ H a = some (.dK kvs) ∧ kvs.map (·.1) = ks.map Sum.inr ∧ DenL ds (kvs.map (·.2))
  | .dcT ks ds, v => ∃ (a : Addr) (L : List (List Int × Addr × V)), v = .ref a ∧ ¬ B a ∧ H a = some (DicO a L) ∧ L.map (·.1) = ks ∧ KeysOk G.K B H L ∧ DenL ds (L.map (·.2.2))
def DenL : List D → List V → Prop
  | [], xs => xs = []
  | d :: ds, xs => ∃ x r, xs = x :: r ∧ Den d x ∧ DenL ds r
end
end

/-- what was tracked stands, but at u -/
def Ext (u : Option Ur) (H H' : Hp) : Prop := ∀ b o, H b = some o → NU u b → H' b = some o
theorem Ext.refl (u : Option Ur) (H : Hp) : Ext u H H := fun _ _ h _ => h
theorem Ext.trans {u : Option Ur} {H H1 H2 : Hp} (a : Ext u H H1) (b : Ext u H1 H2) : Ext u H H2 := fun c o h n => b c o (a c o h n) n
theorem Ext.weak {u : Option Ur} {H H1 : Hp} (a : Ext none H H1) : Ext u H H1 := fun c o h _ => a c o h NU.none
theorem Ext.new {u : Option Ur} {H : Hp} {p : Addr} {o : HO} (h : H p = none) : Ext u H (upd H p o) := fun a x e _ => by
  rw [upd_ne (ne_of_none e h)]; exact e
theorem Ext.rd {u : Option Ur} {H H' : Hp} {a : Addr} {o : HO} (e : Ext u H H') (n : NU u a) (h : Rd H a o) : Rd H' a o := by
  rcases h with h | ⟨q, h⟩
  · exact .inl (e _ _ h n)
  · exact .inr ⟨q, e _ _ h n⟩
theorem Ext.sqL {K : PySem.W.Frag} {u : Option Ur} {H H' : Hp} {a : Addr} {xs : List V} (e : Ext u H H') (n : NU u a) (h : SqL K H a xs) : SqL K H' a xs := by
  rcases h with h | h
  · exact .inl (e.rd n h)
  · exact .inr h
theorem Ext.sqT {K : PySem.W.Frag} {u : Option Ur} {H H' : Hp} {a : Addr} {xs : List V} (e : Ext u H H') (n : NU u a) (h : SqT K H a xs) : SqT K H' a xs := by
  rcases h with h | h
  · exact .inl (e.rd n h)
  · exact .inr h

section
variable {G : Gd} {B B' : Addr → Prop} {H H' : Hp} {u : Option Ur}
mutual
/-- what stands at addresses out of B stays as it is -/
theorem Den.keep (k : ∀ b o, ¬ B b → H b = some o → H' b = some o) (s : ∀ b, B' b → B b ∨ H b = none) : ∀ (d : D) (v : V), Den G B H d v → Den G B' H' d v
  | .non, _, h => h
  | .bl _, _, h => h
  | .int _, _, h => h
  | .str _, _, h => h
  | .opq _, _, h => h
  | .urn, _, h => h
  | .at_ a ds, v, ⟨xs, e, nb, hs, hl, hd⟩ => by
    refine ⟨xs, e, fun hb => ?_, k _ _ nb hs, hl, DenL.keep k s ds xs hd⟩
    rcases s a hb with z | z
    · exact nb z
    · rw [z] at hs; cases hs
  | .lst ds, v, ⟨a, xs, e, nb, hs, hl, hd⟩ => by
    refine ⟨a, xs, e, fun hb => ?_, k _ _ nb hs, hl, DenL.keep k s ds xs hd⟩
    rcases s a hb with z | z
    · exact nb z
    · rw [z] at hs; cases hs
  | .tup ds, v, ⟨a, xs, e, nb, hs, hl, hd⟩ => by
    rcases nb with nb | nb
    · rcases hs with (h | ⟨o, h⟩) | h
      · refine ⟨a, xs, e, .inl fun hb => ?_, .inl (.inl (k _ _ nb h)), hl, DenL.keep k s ds xs hd⟩
        rcases s a hb with z | z
        · exact nb z
        · rw [z] at h; cases h
      · refine ⟨a, xs, e, .inl fun hb => ?_, .inl (.inr ⟨o, k _ _ nb h⟩), hl, DenL.keep k s ds xs hd⟩
        rcases s a hb with z | z
        · exact nb z
        · rw [z] at h; cases h
      · exact ⟨a, xs, e, .inr h, .inr h, hl, DenL.keep k s ds xs hd⟩
    · exact ⟨a, xs, e, .inr nb, .inr nb, hl, DenL.keep k s ds xs hd⟩
  | .tupn ds, v, ⟨a, xs, o, e, nb, hs, hc, hdn, hl, hd⟩ => by
    refine ⟨a, xs, o, e, fun hb => ?_, k _ _ nb hs, hc, hdn, hl, DenL.keep k s ds xs hd⟩
    rcases s a hb with z | z
    · exact nb z
    · rw [z] at hs; cases hs
  | .exc c ds, v, ⟨a, dd, xs, e, nb, nd, hs, hx, hl, hd⟩ => by
    refine ⟨a, dd, xs, e, fun hb => ?_, fun hb => ?_, k _ _ nb hs, k _ _ nd hx, hl, DenL.keep k s ds xs hd⟩
    · rcases s a hb with z | z
      · exact nb z
      · rw [z] at hs; cases hs
    · rcases s dd hb with z | z
      · exact nd z
      · rw [z] at hx; cases hx
  | .dic ks ds, v, ⟨a, kvs, e, nb, hs, hk, hd⟩ => by
    refine ⟨a, kvs, e, fun hb => ?_, k _ _ nb hs, hk, DenL.keep k s ds _ hd⟩
    rcases s a hb with z | z
    · exact nb z
    · rw [z] at hs; cases hs
  | .dct ks ds, v, ⟨a, kvs, e, nb, hs, hk, hd⟩ => by
    refine ⟨a, kvs, e, fun hb => ?_, k _ _ nb hs, hk, DenL.keep k s ds _ hd⟩
    rcases s a hb with z | z
    · exact nb z
    · rw [z] at hs; cases hs
  | .dcT ks ds, v, ⟨a, L, e, nb, hs, hk, hx, hd⟩ => by
    refine ⟨a, L, e, fun hb => ?_, k _ _ nb hs, hk, hx.keep k s, DenL.keep k s ds _ hd⟩
    rcases s a hb with z | z
    · exact nb z
    · rw [z] at hs; cases hs
  | .ins c ds, v, ⟨a, dx, xs, e, nb, hs, hl, hd⟩ => by
    refine ⟨a, dx, xs, e, fun hb => ?_, k _ _ nb hs, hl, DenL.keep k s ds xs hd⟩
    rcases s a hb with z | z
    · exact nb z
    · rw [z] at hs; cases hs
theorem DenL.keep (k : ∀ b o, ¬ B b → H b = some o → H' b = some o) (s : ∀ b, B' b → B b ∨ H b = none) : ∀ (ds : List D) (xs : List V), DenL G B H ds xs → DenL G B' H' ds xs
  | [], _, h => h
  | d :: ds, xs, ⟨x, r, e, h1, h2⟩ => ⟨x, r, e, Den.keep k s d x h1, DenL.keep k s ds r h2⟩
end
theorem Den.ext (e : Ext u H H') (hu : ∀ p, Pr u p → B p.1) {d : D} {v : V} (h : Den G B H d v) : Den G B H' d v :=
  Den.keep (fun b o nb hb => e b o hb (NU.of hu nb)) (fun b h => .inl h) d v h
theorem DenL.ext (e : Ext u H H') (hu : ∀ p, Pr u p → B p.1) {ds : List D} {xs : List V} (h : DenL G B H ds xs) : DenL G B H' ds xs :=
  DenL.keep (fun b o nb hb => e b o hb (NU.of hu nb)) (fun b h => .inl h) ds xs h
theorem DenL.length : ∀ {ds : List D} {xs : List V}, DenL G B H ds xs → ds.length = xs.length
  | [], _, h => by cases h; rfl
  | _ :: ds, _, ⟨x, r, e, _, h2⟩ => by subst e; simp [DenL.length h2]
theorem DenL.get : ∀ {ds : List D} {xs : List V} {i : Nat} {d : D}, DenL G B H ds xs → ds[i]? = some d → ∃ x, xs[i]? = some x ∧ Den G B H d x
  | [], _, _, _, _, e => by simp at e
  | _ :: ds, _, 0, d, ⟨x, r, e, h1, _⟩, ed => by simp at ed; subst e; subst ed; exact ⟨x, rfl, h1⟩
  | _ :: ds, _, i + 1, d, ⟨x, r, e, _, h2⟩, ed => by subst e; simpa using DenL.get (i := i) h2 (by simpa using ed)
theorem DenL.getV : ∀ {ds : List D} {xs : List V} {i : Nat} {x : V}, DenL G B H ds xs → xs[i]? = some x → ∃ d, ds[i]? = some d ∧ Den G B H d x
  | [], _, _, _, h, e => by cases h; simp at e
  | d :: ds, _, 0, x, ⟨y, r, e, h1, _⟩, ed => by subst e; simp at ed; subst ed; exact ⟨d, rfl, h1⟩
  | _ :: ds, _, i + 1, x, ⟨y, r, e, _, h2⟩, ed => by subst e; simpa using DenL.getV (i := i) h2 (by simpa using ed)
theorem DenL.append : ∀ {ds es : List D} {xs ys : List V}, DenL G B H ds xs → DenL G B H es ys → DenL G B H (ds ++ es) (xs ++ ys)
  | [], _, _, _, h, h' => by cases h; exact h'
  | _ :: ds, _, _, _, ⟨x, r, e, h1, h2⟩, h' => by subst e; exact ⟨x, r ++ _, rfl, h1, DenL.append h2 h'⟩
theorem DenL.take : ∀ (n : Nat) {ds : List D} {xs : List V}, DenL G B H ds xs → DenL G B H (ds.take n) (xs.take n)
  | 0, _, _, _ => rfl
  | _ + 1, [], _, h => by cases h; rfl
  | n + 1, _ :: ds, _, ⟨x, r, e, h1, h2⟩ => by subst e; exact ⟨x, r.take n, rfl, h1, DenL.take n h2⟩
theorem DenL.drop : ∀ (n : Nat) {ds : List D} {xs : List V}, DenL G B H ds xs → DenL G B H (ds.drop n) (xs.drop n)
  | 0, _, _, h => h
  | _ + 1, [], _, h => by cases h; rfl
  | n + 1, _ :: ds, _, ⟨x, r, e, h1, h2⟩ => by subst e; exact DenL.drop n h2
theorem DenL.set : ∀ (i : Nat) {ds : List D} {xs : List V} {d : D} {x : V}, DenL G B H ds xs → Den G B H d x → DenL G B H (ds.set i d) (xs.set i x)
  | _, [], _, _, _, h, _ => by cases h; rfl
  | 0, _ :: ds, _, d, x, ⟨y, r, e, h1, h2⟩, h => by subst e; exact ⟨x, r, rfl, h, h2⟩
  | i + 1, _ :: ds, _, d, x, ⟨y, r, e, h1, h2⟩, h => by subst e; exact ⟨y, r.set i x, rfl, h1, DenL.set i h2 h⟩
theorem DenL.ints : ∀ {is : List Int} {xs : List V}, DenL G B H (is.map D.int) xs → xs = is.map V.int
  | [], _, h => h
  | i :: is, _, ⟨x, r, e, h1, h2⟩ => by subst e; rw [show x = V.int i from h1, DenL.ints h2]; rfl
theorem DenL.of_ints : ∀ {is : List Int}, DenL G B H (is.map D.int) (is.map V.int)
  | [] => rfl
  | i :: is => ⟨_, _, rfl, rfl, DenL.of_ints⟩
end
/-- a key as a tuple of ints, and back -/
theorem KeysOk.den {G : Gd} {B : Addr → Prop} {H : Hp} {L : List (List Int × Addr × V)} (h : KeysOk G.K B H L) {p : List Int × Addr × V} (hp : p ∈ L) : Den G B H (.tup (p.1.map D.int)) (.ref p.2.1) :=
  let ⟨h1, h2, h3⟩ := h p hp
  ⟨_, _, rfl, h1, h2, by rw [List.length_map]; exact h3, DenL.of_ints⟩
theorem KeysOk.of_den {G : Gd} {B : Addr → Prop} {H : Hp} {L : List (List Int × Addr × V)} (h : ∀ p ∈ L, Den G B H (.tup (p.1.map D.int)) (.ref p.2.1)) : KeysOk G.K B H L := fun p hp => by
  obtain ⟨a, xs, e, nb, hs, hl, hd⟩ := h p hp
  cases e
  have ex := hd.ints
  subst ex
  rw [List.length_map] at hl
  exact ⟨nb, hs, hl⟩
theorem KeysOk.by {G : Gd} {B B' : Addr → Prop} {H H' : Hp} {L : List (List Int × Addr × V)} (k : ∀ {d : D} {v : V}, Den G B H d v → Den G B' H' d v) (h : KeysOk G.K B H L) : KeysOk G.K B' H' L :=
  KeysOk.of_den fun p hp => k (h.den hp)

theorem KeysOk.ext {K : PySem.W.Frag} {B : Addr → Prop} {H H' : Hp} {u : Option Ur} {L : List (List Int × Addr × V)} (e : Ext u H H') (hu : ∀ p, Pr u p → B p.1) (h : KeysOk K B H L) : KeysOk K B H' L :=
  h.keep (fun b o nb hb => e b o hb (NU.of hu nb)) fun b h => .inl h
theorem dicO_ne_code {a : Addr} {L : List (List Int × Addr × V)} (q : Str) : DicO a L ≠ LamX.CodeO a q := fun z => by
  unfold DicO LamX.CodeO at z
  injection z with z
  let o : Obj := { cls := .none, data := .fields #[.none, .str q default] }
  let h : Heap := { objs := Array.replicate (a + 1) o }
  have hg : h.get? a = some o := by
    show (match (Array.replicate (a + 1) o)[a]? with | some ⟨_, _, .freed, _⟩ => none | o => o) = some o
    rw [Array.getElem?_replicate, if_pos (Nat.lt_succ_self a)]
  have e := congrFun z h
  have c : DicAt h a L := by
    rw [e]
    exact ⟨o, _, default, hg, rfl, rfl⟩
  obtain ⟨xs, o', es, ep, _, h1, _, h2, _⟩ := c.ex
  rw [hg] at h1
  cases h1
  cases h2

/-! ### the urn: what draws; at most n more draws -/
def atLine : Int := 2 ^ 4096
def Good : Option Ur → Hp → Nat → Prop
  | none, _, _ => True
  | some ((a, b), T), H, n => (∃ (cells : List Int) (k r : Int), H a = some (.lst [.ref b, .int k, .int r]) ∧ H b = some (.lst (cells.map V.int)) ∧ cells.length ≤ 63 ∧ a ≠ b ∧ 0 ≤ r ∧ 0 ≤ k ∧ k + n ≤ atLine) ∧ LamX.Tabs T H
theorem Good.less {u : Option Ur} {H : Hp} {n m : Nat} (h : Good u H n) (hm : m ≤ n) : Good u H m := by
  cases u with
  | none => trivial
  | some p =>
    obtain ⟨⟨a, b⟩, T⟩ := p
    obtain ⟨⟨cells, k, r, h1, h2, h3, h4, h5, h6, h7⟩, t⟩ := h
    exact ⟨⟨cells, k, r, h1, h2, h3, h4, h5, h6, by omega⟩, t⟩
theorem Good.ext {u : Option Ur} {H H' : Hp} {n : Nat} (h : Good u H n) (e : Ext none H H') : Good u H' n := by
  cases u with
  | none => trivial
  | some p =>
    obtain ⟨⟨a, b⟩, T⟩ := p
    obtain ⟨⟨cells, k, r, h1, h2, h⟩, t⟩ := h
    exact ⟨⟨cells, k, r, e _ _ h1 NU.none, e _ _ h2 NU.none, h⟩, t.ext fun b o q => e b o q NU.none⟩
/-- what may change is there -/
theorem Good.there {u : Option Ur} {H : Hp} {n : Nat} (h : Good u H n) {p : Addr × Addr} (e : Pr u p) : (∃ o, H p.1 = some o) ∧ ∃ o, H p.2 = some o := by
  obtain ⟨r, rfl, q⟩ := e
  obtain ⟨⟨a, b⟩, T⟩ := r
  obtain ⟨⟨_, _, _, h1, h2, _⟩, t⟩ := h
  rcases q with rfl | ⟨t', ht, rfl⟩
  · exact ⟨⟨_, h1⟩, ⟨_, h2⟩⟩
  · obtain ⟨ps, z, _⟩ := t t' ht
    exact ⟨⟨_, z⟩, ⟨_, z⟩⟩

/-! ### a slot: nothing known, a value that stays, a list that this frame alone holds -/
inductive Sl where
  | emp | val (d : D) | own (a : Addr) (ds : List D) | slf (a dx : Addr) (c : Nat) (ds : List D)
  | obj (a : Addr) (o : HO)
  | dic (a : Addr) (ks : List (List Int)) (ds : List D)
/-- what this frame alone may change -/
def Sl.mine : Sl → Bool
  | .own _ _ => true
  | .slf _ _ _ _ => true
  | .obj _ _ => true
  | .dic _ _ _ => true
  | _ => false

section
variable (G : Gd) (X0 : Hp) (B : Addr → Prop) (H : Hp)
def SlOk : Sl → Option V → Prop
  | .emp, _ => True
  | .val d, v => ∃ x, v = some x ∧ Den G B H d x
  | .own a ds, v => ∃ xs, v = some (.ref a) ∧ X0 a = none ∧ H a = some (.lst xs) ∧ xs.length ≤ sizeLine ∧ DenL G B H ds xs
  | .slf a dx c ds, v => ∃ xs, v = some (.ref a) ∧ X0 a = none ∧ H a = some (.ins (G.cl c) dx ((G.fl c).zip xs)) ∧ xs.length ≤ (G.fl c).length ∧ DenL G B H ds xs
  | .obj a o, v => v = some (.ref a) ∧ X0 a = none ∧ H a = some o ∧ ∀ q, o ≠ LamX.CodeO a q
  | .dic a ks ds, v => ∃ L, v = some (.ref a) ∧ X0 a = none ∧ H a = some (DicO a L) ∧ L.map (·.1) = ks ∧ KeysOk G.K B H L ∧ DenL G B H ds (L.map (·.2.2))
end
/-- B, and the addresses of the frame's own lists -/
def XBof (B : Addr → Prop) (env : List Sl) (σ : List (Option V)) : Addr → Prop := fun a => B a ∨ ∃ (i : Nat) (s : Sl), env[i]? = some s ∧ s.mine = true ∧ σ[i]? = some (some (V.ref a))

/-- an error as it lies: its class, its own dict -/
def ExcIs (G : Gd) (B : Addr → Prop) (H : Hp) (x : Exc) (C : Value) (d : Option Addr) : Prop :=
  C = .ref (G.cl x.c) ∧ ∃ dd xs, d = some dd ∧ ¬ B dd ∧ H dd = some (.xd ((G.fl x.c).zip xs)) ∧ xs.length = (G.fl x.c).length ∧ DenL G B H x.ds xs

/-- the state of a body: what is known of its slots, of the heap, what is wanted of errors -/
structure Wd (G : Gd) (E : XK) (σ : List (Option V)) (H : Hp) where
  u : Option Ur
  n : Nat
  m : Nat
  B : Addr → Prop
  H0 : Hp
  env : List Sl
  ex : Exc → Prop
  ug : u = G.u
  hu : ∀ p, Pr u p → B p.1 ∧ B p.2
  hB : ∀ a, B a → H0 a ≠ none
  fr : Ext u H0 H
  good : Good u H n
  len : env.length = σ.length
  sl : ∀ (i : Nat) (s : Sl), env[i]? = some s → SlOk G H0 (XBof B env σ) H s (σ[i]?.join)
  nd : ∀ (i j : Nat) (a : Addr) (s t : Sl), env[i]? = some s → env[j]? = some t → s.mine = true → t.mine = true → σ[i]? = some (some (V.ref a)) → σ[j]? = some (some (V.ref a)) → i = j
  exc : ∀ x C d H', Ext u H0 H' → Good u H' m → ExcIs G B H' x C d → ex x → E C d H'

section
variable {G : Gd} {E : XK} {σ : List (Option V)} {H H' : Hp}
abbrev Wd.XB (W : Wd G E σ H) : Addr → Prop := XBof W.B W.env σ
structure Step (W : Wd G E σ H) (c : Nat) (H' : Hp) : Prop where
  ext : Ext W.u H H'
  good : Good W.u H' (W.n - c)
theorem Wd.huX (W : Wd G E σ H) : ∀ p, Pr W.u p → W.XB p.1 := fun p e => .inl (W.hu p e).1
theorem Wd.den (W : Wd G E σ H) {c : Nat} (st : Step W c H') {d : D} {v : V} (h : Den G W.XB H d v) : Den G W.XB H' d v := h.ext st.ext W.huX
/-- the frame's own address is none of the urn's -/
theorem Wd.own_ne (W : Wd G E σ H) {a : Addr} (h : W.H0 a = none) : ¬ W.B a := fun z => W.hB a z h
theorem Wd.nu (W : Wd G E σ H) {a : Addr} (h : W.H0 a = none) : NU W.u a := NU.of (fun p e => (W.hu p e).1) (W.own_ne h)
theorem Wd.nuX (W : Wd G E σ H) {a : Addr} (h : ¬ W.XB a) : NU W.u a := NU.of W.huX h
theorem SlOk.step (W : Wd G E σ H) {c : Nat} (st : Step W c H') {s : Sl} {v : Option V} (h : SlOk G W.H0 W.XB H s v) : SlOk G W.H0 W.XB H' s v := by
  cases s with
  | emp => trivial
  | val d => obtain ⟨x, e, h⟩ := h; exact ⟨x, e, W.den st h⟩
  | own a ds =>
    obtain ⟨xs, e, h0, h1, hl, h2⟩ := h
    refine ⟨xs, e, h0, st.ext a _ h1 (W.nu h0), hl, h2.ext st.ext W.huX⟩
  | slf a dx c ds =>
    obtain ⟨xs, e, h0, h1, hl, h2⟩ := h
    refine ⟨xs, e, h0, st.ext a _ h1 (W.nu h0), hl, h2.ext st.ext W.huX⟩
  | obj a o =>
    obtain ⟨e, h0, h1, h2⟩ := h
    exact ⟨e, h0, st.ext a _ h1 (W.nu h0), h2⟩
  | dic a ks ds =>
    obtain ⟨L, e, h0, h1, hk, hx, h2⟩ := h
    exact ⟨L, e, h0, st.ext a _ h1 (W.nu h0), hk, hx.ext st.ext W.huX, h2.ext st.ext W.huX⟩
/-- where a thing of the frame's own stands -/
theorem Wd.mine_at (W : Wd G E σ H) {i : Nat} {s : Sl} {a : Addr} (e : W.env[i]? = some s) (hm : s.mine = true) (es : σ[i]? = some (some (.ref a))) : W.H0 a = none ∧ ∃ o, H a = some o := by
  have z := W.sl i _ e
  rw [es] at z
  cases s with
  | emp => cases hm
  | val d => cases hm
  | own b ds => obtain ⟨xs, ea, h0, h1, _⟩ := z; cases ea; exact ⟨h0, _, h1⟩
  | slf b dx c ds => obtain ⟨xs, ea, h0, h1, _⟩ := z; cases ea; exact ⟨h0, _, h1⟩
  | obj b o => obtain ⟨ea, h0, h1, h2⟩ := z; cases ea; exact ⟨h0, _, h1⟩
  | dic b ks ds => obtain ⟨L, ea, h0, h1, _⟩ := z; cases ea; exact ⟨h0, _, h1⟩
/-- .. it is no code object -/
theorem Wd.mine_nc (W : Wd G E σ H) {i : Nat} {s : Sl} {a : Addr} (e : W.env[i]? = some s) (hm : s.mine = true) (es : σ[i]? = some (some (.ref a))) : ∀ q, H a ≠ some (LamX.CodeO a q) := fun q y => by
  have z := W.sl i _ e
  rw [es] at z
  cases s with
  | emp => cases hm
  | val d => cases hm
  | own b ds => obtain ⟨xs, ea, h0, h1, _⟩ := z; cases ea; rw [h1] at y; cases y
  | slf b dx c ds => obtain ⟨xs, ea, h0, h1, _⟩ := z; cases ea; rw [h1] at y; cases y
  | obj b o => obtain ⟨ea, h0, h1, h2⟩ := z; cases ea; rw [h1] at y; exact h2 q (Option.some.inj y)
  | dic b ks ds => obtain ⟨L, ea, h0, h1, _⟩ := z; cases ea; rw [h1] at y; exact dicO_ne_code q (Option.some.inj y)
def Wd.next (W : Wd G E σ H) {c : Nat} (st : Step W c H') : Wd G E σ H' where
  u := W.u
  n := W.n - c
  m := W.m
  B := W.B
  H0 := W.H0
  env := W.env
  ex := W.ex
  ug := W.ug
  hu := W.hu
  hB := W.hB
  fr := W.fr.trans st.ext
  good := st.good
  len := W.len
  sl := fun i s e => (W.sl i s e).step W st
  nd := W.nd
  exc := W.exc
theorem Step.refl (W : Wd G E σ H) : Step W 0 H := ⟨Ext.refl _ _, W.good⟩
theorem Step.trans {W : Wd G E σ H} {c c' : Nat} {H2 : Hp} (a : Step W c H') (b : Step (W.next a) c' H2) : Step W (c + c') H2 :=
  ⟨a.ext.trans b.ext, by have := b.good; show Good W.u H2 (W.n - (c + c')); rw [Nat.sub_add_eq]; exact this⟩
theorem Step.pure {W : Wd G E σ H} {c : Nat} (a : Step W c H') {H2 : Hp} (e : Ext none H' H2) : Step W c H2 := ⟨a.ext.trans e.weak, a.good.ext e⟩
theorem Step.new {W : Wd G E σ H} {c : Nat} (a : Step W c H') {p : Addr} {o : HO} (h : H' p = none) : Step W c (upd H' p o) := a.pure (Ext.new h)
theorem Step.less {W : Wd G E σ H} {c c' : Nat} (a : Step W c H') (h : c ≤ c') : Step W c' H' := ⟨a.ext, a.good.less (by omega)⟩
/-- a new address is out of XB -/
theorem Wd.fresh (W : Wd G E σ H) {p : Addr} (h : H p = none) : ¬ W.XB p := fun z => by
  rcases z with z | ⟨i, sl, e, hm, es⟩
  · cases q : W.H0 p with
    | none => exact W.hB p z q
    | some o =>
      rcases NU.em (u := W.u) (b := p) with n | ⟨r, hr, rfl⟩
      · rw [W.fr p o q n] at h; cases h
      · obtain ⟨⟨o, h1⟩, _⟩ := W.good.there hr
        rw [h1] at h; cases h
  · obtain ⟨_, o, h1⟩ := W.mine_at e hm es
    rw [h1] at h; cases h
end

/-! ### expressions -/
abbrev DT := (Exc → Prop) → List Sl → (D → Prop) → Prop
def lift (G : Gd) (E : XK) (c : Nat) (t : DT) : TE := fun σ H Q' => ∃ W : Wd G E σ H, W.m + c ≤ W.n ∧ ∃ Q, t W.ex W.env Q ∧ ∀ v H' d, Step W c H' → Den G W.XB H' d v → Q d → Q' v H'
abbrev DA := (Exc → Prop) → List Sl → (List D → Prop) → Prop
def liftA (G : Gd) (E : XK) (c : Nat) (t : DA) : TA := fun σ H Q' => ∃ W : Wd G E σ H, W.m + c ≤ W.n ∧ ∃ Q, t W.ex W.env Q ∧ ∀ vs H' ds, Step W c H' → DenL G W.XB H' ds vs → Q ds → Q' vs H'
abbrev DB := (Exc → Prop) → List Sl → (Bool → Prop) → Prop
def liftB (G : Gd) (E : XK) (c : Nat) (t : DB) : TT := fun σ H Q' => ∃ W : Wd G E σ H, W.m + c ≤ W.n ∧ ∃ Q, t W.ex W.env Q ∧ ∀ b H', Step W c H' → Q b → Q' b H'
/-- e is t, at most c draws -/
abbrev DE (G : Gd) (E : XK) (X : Cx) (c : Nat) (e : Expr) (t : DT) : Prop := PE X e (lift G E c t)
abbrev DEs (G : Gd) (E : XK) (X : Cx) (c : Nat) (es : List Expr) (t : DA) : Prop := PA X es (liftA G E c t)
abbrev DPt (G : Gd) (E : XK) (X : Cx) (c : Nat) (e : Expr) (t : DB) : Prop := PT X e (liftB G E c t)

theorem imp {X : Cx} {e : Expr} {t t' : TE} (h : PE X e t) (i : ∀ σ H Q, t' σ H Q → t σ H Q) : PE X e t' := ⟨fun pins s σ H Q I q => h.run pins s σ H Q I (i σ H Q q)⟩
theorem impT {X : Cx} {e : Expr} {t t' : TT} (h : PT X e t) (i : ∀ σ H Q, t' σ H Q → t σ H Q) : PT X e t' := ⟨fun pins s σ H Q I q => h.run pins s σ H Q I (i σ H Q q)⟩
theorem impA {X : Cx} {e : List Expr} {t t' : TA} (h : PA X e t) (i : ∀ σ H Q, t' σ H Q → t σ H Q) : PA X e t' := ⟨fun pos pins s σ H Q I q => h.run pos pins s σ H Q I (i σ H Q q)⟩
end Kn

set_option Elab.async false
set_option linter.all false
set_option maxRecDepth 100000
set_option maxHeartbeats 2100000
namespace Kn
open PySem L2
section
variable {G : Gd} {E : XK} {X : Cx}

/-! ### names, constants -/
def dVar (i : Nat) : DT := fun _ env Q => ∃ d, env[i]? = some (.val d) ∧ Q d
def dC (d : D) : DT := fun _ _ Q => Q d
theorem lift_var {i : Nat} {σ : List (Option V)} {H : Hp} {Q' : VK} (h : lift G E 0 (dVar i) σ H Q') : tVar i σ H Q' := by
  obtain ⟨W, _, Q, ⟨d, he, hq⟩, k⟩ := h
  obtain ⟨x, hx, hd⟩ := W.sl i _ he
  cases hs : σ[i]? with
  | none => rw [hs] at hx; cases hx
  | some o =>
    rw [hs] at hx
    have hx' : o = some x := hx
    exact ⟨x, by rw [hs, hx'], k x H d (Step.refl W) hd hq⟩
theorem dv (i : Nat) {x : Str} {pos : Pos} (hN : X.N[i]? = some x := by rfl) (hv : Vis X.env.scope x := by first | exact Or.inl rfl | exact Or.inr (Or.inl rfl) | exact Or.inr (Or.inr rfl)) (hd : (x == ("__debug__" : Str)) = false := by decide)
    (hcd : (x == ("__classdict__" : Str)) = false := by decide) : DE G E X 0 (.Name x pos) (dVar i) := imp (pe_var hN hv hd hcd) fun _ _ _ h => lift_var h
theorem den_int {B : Addr → Prop} {H : Hp} (i : Int) : Den G B H (.int i) (.int i) := rfl
theorem den_bl {B : Addr → Prop} {H : Hp} (b : Bool) : Den G B H (.bl b) (.bl b) := rfl
theorem den_str {B : Addr → Prop} {H : Hp} (x : Str) : Den G B H (.str x) (.str x) := rfl
theorem den_non {B : Addr → Prop} {H : Hp} : Den G B H .non .non := rfl
theorem lift_c {d : D} {v : V} (hd : ∀ B H, Den G B H d v) {σ : List (Option V)} {H : Hp} {Q' : VK} (h : lift G E 0 (dC d) σ H Q') : tC v σ H Q' := by
  obtain ⟨W, _, Q, hq, k⟩ := h
  exact k v H d (Step.refl W) (hd _ _) hq
theorem de_int {i j pos} : DE G E X 0 (.Constant (.int i) j pos) (dC (.int i)) := imp pe_int fun _ _ _ h => lift_c (fun _ _ => den_int i) h
theorem de_bl {b j pos} : DE G E X 0 (.Constant (.bool b) j pos) (dC (.bl b)) := imp pe_bl fun _ _ _ h => lift_c (fun _ _ => den_bl b) h
theorem de_non {j pos} : DE G E X 0 (.Constant .none j pos) (dC .non) := imp pe_non fun _ _ _ h => lift_c (fun _ _ => den_non) h
theorem de_str {x j pos} : DE G E X 0 (.Constant (.str x) j pos) (dC (.str x)) := imp pe_str fun _ _ _ h => lift_c (fun _ _ => den_str x) h

/-! ### two-place operations by values -/
abbrev G2 := D → D → (D → Prop) → Prop
def rD (G : Gd) (g : G2) : R2 := fun x y H Q' => ∃ B d e Q, Den G B H d x ∧ Den G B H e y ∧ (∀ p, H p = none → ¬ B p) ∧ g d e Q ∧ ∀ r H' rd, Ext none H H' → Den G B H' rd r → Q rd → Q' r H'
def dOp (g : G2) (ta tb : DT) : DT := fun ex env Q => ta ex env fun x => tb ex env fun y => g x y Q
theorem lift_op {g : G2} {ca cb : Nat} {ta tb : DT} {σ : List (Option V)} {H : Hp} {Q' : VK} (h : lift G E (ca + cb) (dOp g ta tb) σ H Q') : tOp (rD G g) (lift G E ca ta) (lift G E cb tb) σ H Q' := by
  obtain ⟨W, hc, Q, ht, k⟩ := h
  refine ⟨W, by omega, _, ht, fun v H1 d st hd hq => ?_⟩
  refine ⟨W.next st, by show W.m + cb ≤ W.n - ca; omega, _, hq, fun v2 H2 e st2 he hg => ?_⟩
  refine ⟨W.XB, d, e, Q, (W.next st).den st2 hd, he, fun p hp => ((W.next st).next st2).fresh hp, hg, fun r H' rd ex hr q => ?_⟩
  exact k r H' rd ((st.trans st2).pure ex) hr q
theorem de_op {a b : Expr} {op : Operator} {pos : Pos} {g : G2} {ca cb : Nat} {ta tb : DT} (ho : OpR X (binaryOp op) (rD G g)) (ha : DE G E X ca a ta) (hb : DE G E X cb b tb) : DE G E X (ca + cb) (.BinOp a op b pos) (dOp g ta tb) :=
  imp (pe_op ho ha hb) fun _ _ _ h => lift_op h
theorem de_cmp {a b : Expr} {op : CmpOp} {pos : Pos} {g : G2} {ca cb : Nat} {ta tb : DT} (ho : OpR X (compareOp op) (rD G g)) (ha : DE G E X ca a ta) (hb : DE G E X cb b tb) (hm : behindInMarks op b = false) : DE G E X (ca + cb) (.Compare a [op] [b] pos) (dOp g ta tb) :=
  imp (pe_cmpR ho ha hb hm) fun _ _ _ h => lift_op h

theorem den_upd {B : Addr → Prop} {H : Hp} {p : Addr} {o : HO} {d : D} {v : V} (hp : H p = none) (h : Den G B H d v) : Den G B (upd H p o) d v := h.ext (u := none) (Ext.new hp) (fun _ z => z.none.elim)
theorem denL_upd {B : Addr → Prop} {H : Hp} {p : Addr} {o : HO} {ds : List D} {xs : List V} (hp : H p = none) (h : DenL G B H ds xs) : DenL G B (upd H p o) ds xs := h.ext (u := none) (Ext.new hp) (fun _ z => z.none.elim)
/-- a new list | tuple of known items -/
theorem den_lst {B : Addr → Prop} {H : Hp} {p : Addr} {ds : List D} {xs : List V} (hp : H p = none) (nb : ¬ B p) (hl : xs.length ≤ sizeLine) (h : DenL G B H ds xs) : Den G B (upd H p (.lst xs)) (.lst ds) (.ref p) :=
  ⟨p, xs, rfl, nb, upd_same, hl, denL_upd hp h⟩
theorem den_tup {B : Addr → Prop} {H : Hp} {p : Addr} {ds : List D} {xs : List V} (hp : H p = none) (nb : ¬ B p) (hl : xs.length ≤ sizeLine) (h : DenL G B H ds xs) : Den G B (upd H p (.tup xs)) (.tup ds) (.ref p) :=
  ⟨p, xs, rfl, .inl nb, SqT.of upd_same, hl, denL_upd hp h⟩

def gI (C : Int → Int → Prop) (f : Int → Int → D) : G2 := fun d e Q => match d, e with
  | .int i, .int j => C i j ∧ Q (f i j)
  | _, _ => False
theorem rD_I {g : Int → Int → V} {f : Int → Int → D} {C : Int → Int → Prop} (hf : ∀ i j B H, Den G B H (f i j) (g i j)) {x y : V} {H : Hp} {Q' : VK} (h : rD G (gI C f) x y H Q') : rI C g x y H Q' := by
  obtain ⟨B, d, e, Q, hd, he, _, hg, k⟩ := h
  cases d <;> cases e <;> try exact hg.elim
  rename_i i j
  exact ⟨i, j, hd, he, hg.1, k _ H _ (Ext.refl _ _) (hf i j B H) hg.2⟩
theorem opr_imp {f : Value → Value → Sem Value} {r r' : R2} (h : OpR X f r) (i : ∀ x y H Q, r' x y H Q → r x y H Q) : OpR X f r' := fun pins s σ H x y v u Q I rx ry q => h pins s σ H x y v u Q I rx ry (i x y H Q q)
theorem rI_of0 {g : Int → Int → V} {x y : V} {H : Hp} {Q : VK} (h : rI (fun _ _ => True) g x y H Q) : rI0 g x y H Q := by
  obtain ⟨i, j, h1, h2, _, q⟩ := h
  exact ⟨i, j, h1, h2, q⟩

def gAdd : G2 := fun d e Q => match d, e with
  | .int i, .int j => Q (.int (i + j))
  | .lst xs, .lst ys => xs.length + ys.length ≤ sizeLine ∧ Q (.lst (xs ++ ys))
  | .tup xs, .tup ys => xs.length + ys.length ≤ sizeLine ∧ Q (.tup (xs ++ ys))
  | .str x, .str y => x.length + y.length ≤ sizeLine ∧ Q (.str (x ++ y))
  | _, _ => False
theorem o_add (hK : X.K = G.K) : OpR X (binaryOp .Add) (rD G gAdd) := by
  intro pins s σ H x y v u Q' I rx ry h
  obtain ⟨B, d, e, Q, hd, he, hf, hg, k⟩ := h
  cases d <;> cases e <;> try exact hg.elim
  · rename_i i j
    exact op_add pins s σ H x y v u Q' I rx ry ⟨i, j, hd, he, k _ H (.int (i + j)) (Ext.refl _ _) rfl hg⟩
  · rename_i a b
    exact op_add_str pins s σ H x y v u Q' I rx ry ⟨a, b, hd, he, hg.1, k _ H (.str (a ++ b)) (Ext.refl _ _) rfl hg.2⟩
  · rename_i ds es
    obtain ⟨a, xs, rfl, na, ha, la, da⟩ := hd
    obtain ⟨b, ys, rfl, nb, hb, lb, db⟩ := he
    have e1 := da.length
    have e2 := db.length
    have hz : ds.length + es.length ≤ sizeLine := hg.1
    refine op_cat pins s σ H _ _ v u Q' I rx ry ⟨a, b, xs, ys, rfl, rfl, ha, hb, by omega, fun p hp => ?_⟩
    exact k _ _ (.lst (ds ++ es)) (Ext.new hp) (den_lst hp (hf p hp) (by rw [List.length_append]; omega) (da.append db)) hg.2
  · rename_i ds es
    obtain ⟨a, xs, rfl, na, ha, la, da⟩ := hd
    obtain ⟨b, ys, rfl, nb, hb, lb, db⟩ := he
    have e1 := da.length
    have e2 := db.length
    have hz : ds.length + es.length ≤ sizeLine := hg.1
    refine op_catA pins s σ H _ _ v u Q' I rx ry ⟨a, b, xs, ys, rfl, rfl, by rw [hK]; exact ha, by rw [hK]; exact hb, by omega, fun h => ?_, fun _ h => ?_, fun _ _ p hp => ?_⟩
    · subst h
      have : ds = [] := List.eq_nil_of_length_eq_zero (by simpa using e1)
      subst this
      exact k _ H (.tup ([] ++ es)) (Ext.refl _ _) ⟨b, ys, rfl, nb, hb, lb, db⟩ hg.2
    · subst h
      have : es = [] := List.eq_nil_of_length_eq_zero (by simpa using e2)
      subst this
      exact k _ H (.tup (ds ++ [])) (Ext.refl _ _) (by rw [List.append_nil]; exact ⟨a, xs, rfl, na, ha, la, da⟩) hg.2
    · exact k _ _ (.tup (ds ++ es)) (Ext.new hp) (den_tup hp (hf p hp) (by rw [List.length_append]; omega) (da.append db)) hg.2
def gSub : G2 := gI (fun _ _ => True) fun i j => .int (i - j)
theorem o_sub : OpR X (binaryOp .Sub) (rD G gSub) := opr_imp op_sub fun _ _ _ _ h => rI_of0 (rD_I (fun _ _ _ _ => den_int _) h)
def gMul : G2 := gI CMul fun i j => .int (i * j)
theorem o_mul : OpR X (binaryOp .Mult) (rD G gMul) := opr_imp op_mul fun _ _ _ _ h => rD_I (fun _ _ _ _ => den_int _) h
def gMod : G2 := gI (fun _ j => 0 < j) fun i j => .int (i % j)
theorem o_mod : OpR X (binaryOp .Mod) (rD G gMod) := opr_imp op_mod fun _ _ _ _ h => rD_I (fun _ _ _ _ => den_int _) h
def gDiv : G2 := gI CDiv fun i j => .int (i / j)
theorem o_div : OpR X (binaryOp .FloorDiv) (rD G gDiv) := opr_imp op_fdiv fun _ _ _ _ h => rD_I (fun _ _ _ _ => den_int _) h
def gLt : G2 := gI (fun _ _ => True) fun i j => .bl (decide (i < j))
theorem o_lt : OpR X (compareOp .Lt) (rD G gLt) := opr_imp op_lt fun _ _ _ _ h => rI_of0 (rD_I (fun _ _ _ _ => den_bl _) h)
def gLe : G2 := gI (fun _ _ => True) fun i j => .bl (decide (i ≤ j))
theorem o_le : OpR X (compareOp .LtE) (rD G gLe) := opr_imp op_le fun _ _ _ _ h => rI_of0 (rD_I (fun _ _ _ _ => den_bl _) h)
def gGt : G2 := gI (fun _ _ => True) fun i j => .bl (decide (j < i))
theorem o_gt : OpR X (compareOp .Gt) (rD G gGt) := opr_imp op_gt fun _ _ _ _ h => rI_of0 (rD_I (fun _ _ _ _ => den_bl _) h)
def gGe : G2 := gI (fun _ _ => True) fun i j => .bl (decide (j ≤ i))
theorem o_ge : OpR X (compareOp .GtE) (rD G gGe) := opr_imp op_ge fun _ _ _ _ h => rI_of0 (rD_I (fun _ _ _ _ => den_bl _) h)

/-! ### plain data: none, truths, ints, texts, lists, tuples -/
mutual
def pd : D → Option PyData
  | .non => some .none
  | .bl b => some (.bool b)
  | .int i => some (.int i)
  | .str x => some (.str x)
  | .lst ds => (pdL ds).map .list
  | .tup ds => (pdL ds).map .tuple
  | .ins _ _ => none
  | .opq _ => none
  | .urn => none
  | .at_ _ _ => none
  | .dct _ _ => none
  | .tupn _ => none
  | .exc _ _ => none
  | .dic _ _ => none
  | .dcT _ _ => none
def pdL : List D → Option (List PyData)
  | [] => some []
  | d :: ds => match pd d, pdL ds with
    | some p, some ps => some (p :: ps)
    | _, _ => none
end
mutual
theorem Den.dp {B : Addr → Prop} {H : Hp} : ∀ (d : D) (v : V) (p : PyData), Den G B H d v → pd d = some p → Dp G.K H v p
  | .non, _, _, h, e => by cases h; cases e; exact .non
  | .bl b, _, _, h, e => by cases h; cases e; exact .bl b
  | .int i, _, _, h, e => by cases h; cases e; exact .int i
  | .str x, _, _, h, e => by cases h; cases e; exact .str x
  | .lst ds, v, p, ⟨a, xs, e1, _, hs, _, hd⟩, e => by
    cases hp : pdL ds with
    | none => simp [pd, hp] at e
    | some ps =>
      simp [pd, hp] at e
      subst e; subst e1
      exact .lst (SqL.of hs) (DenL.dp ds xs ps hd hp)
  | .tup ds, v, p, ⟨a, xs, e1, _, hs, _, hd⟩, e => by
    cases hp : pdL ds with
    | none => simp [pd, hp] at e
    | some ps =>
      simp [pd, hp] at e
      subst e; subst e1
      exact .tup hs (DenL.dp ds xs ps hd hp)
  | .ins _ _, _, _, _, e => by simp [pd] at e
  | .opq _, _, _, _, e => by simp [pd] at e
  | .urn, _, _, _, e => by simp [pd] at e
  | .at_ _ _, _, _, _, e => by simp [pd] at e
  | .dct _ _, _, _, _, e => by simp [pd] at e
  | .tupn _, _, _, _, e => by simp [pd] at e
  | .exc _ _, _, _, _, e => by simp [pd] at e
  | .dic _ _, _, _, _, e => by simp [pd] at e
  | .dcT _ _, _, _, _, e => by simp [pd] at e
theorem DenL.dp {B : Addr → Prop} {H : Hp} : ∀ (ds : List D) (xs : List V) (ps : List PyData), DenL G B H ds xs → pdL ds = some ps → DpAll G.K H xs ps
  | [], _, _, h, e => by cases h; cases e; exact .nil
  | d :: ds, xs, ps, ⟨x, r, e1, h1, h2⟩, e => by
    subst e1
    cases hp : pd d with
    | none => simp [pdL, hp] at e
    | some p =>
      cases hq : pdL ds with
      | none => simp [pdL, hp, hq] at e
      | some qs =>
        simp [pdL, hp, hq] at e
        subst e
        exact .cons (Den.dp d x p h1 hp) (DenL.dp ds r qs h2 hq)
end
def gEq : G2 := fun d e Q => ∃ p q, pd d = some p ∧ pd e = some q ∧ SeqAt.shaped p = true ∧ SeqAt.shaped q = true ∧ Q (.bl (PyData.eqv p q))
def gNe : G2 := fun d e Q => ∃ p q, pd d = some p ∧ pd e = some q ∧ SeqAt.shaped p = true ∧ SeqAt.shaped q = true ∧ Q (.bl (!PyData.eqv p q))
theorem o_eq (hK : X.K = G.K) (hu : X.A.units + 64 < cLine) : OpR X (compareOp .Eq) (rD G gEq) := opr_imp (op_eqD hu) fun x y H Q' h => by
  obtain ⟨B, d, e, Q, hd, he, _, ⟨p, q, e1, e2, s1, s2, hq⟩, k⟩ := h
  exact ⟨p, q, by rw [hK]; exact hd.dp _ _ _ e1, by rw [hK]; exact he.dp _ _ _ e2, s1, s2, k _ H (.bl _) (Ext.refl _ _) (den_bl _) hq⟩
theorem o_ne (hK : X.K = G.K) (hu : X.A.units + 64 < cLine) : OpR X (compareOp .NotEq) (rD G gNe) := opr_imp (op_neD hu) fun x y H Q' h => by
  obtain ⟨B, d, e, Q, hd, he, _, ⟨p, q, e1, e2, s1, s2, hq⟩, k⟩ := h
  exact ⟨p, q, by rw [hK]; exact hd.dp _ _ _ e1, by rw [hK]; exact he.dp _ _ _ e2, s1, s2, k _ H (.bl _) (Ext.refl _ _) (den_bl _) hq⟩
/-- x in l, l a list of plain data -/
def gIn : G2 := fun d e Q => ∃ p qs es, e = .lst es ∧ pd d = some p ∧ pdL es = some qs ∧ SeqAt.shaped p = true ∧ SeqAt.shaped (.list qs) = true ∧ Q (.bl (qs.any fun z => PyData.eqv z p))
def gNi : G2 := fun d e Q => ∃ p qs es, e = .lst es ∧ pd d = some p ∧ pdL es = some qs ∧ SeqAt.shaped p = true ∧ SeqAt.shaped (.list qs) = true ∧ Q (.bl (!qs.any fun z => PyData.eqv z p))
theorem o_in (hK : X.K = G.K) (hu : X.A.units + 65 < cLine) : OpR X (compareOp .In) (rD G gIn) := opr_imp (op_inD hu) fun x y H Q' h => by
  obtain ⟨B, d, e, Q, hd, he, _, ⟨p, qs, es, e0, e1, e2, s1, s2, hq⟩, k⟩ := h
  subst e0
  exact ⟨p, qs, by rw [hK]; exact hd.dp _ _ _ e1, by rw [hK]; exact he.dp _ _ _ (by simp [pd, e2]), s1, s2, k _ H (.bl _) (Ext.refl _ _) (den_bl _) hq⟩
theorem o_ni (hK : X.K = G.K) (hu : X.A.units + 65 < cLine) : OpR X (compareOp .NotIn) (rD G gNi) := opr_imp (op_notInD hu) fun x y H Q' h => by
  obtain ⟨B, d, e, Q, hd, he, _, ⟨p, qs, es, e0, e1, e2, s1, s2, hq⟩, k⟩ := h
  subst e0
  exact ⟨p, qs, by rw [hK]; exact hd.dp _ _ _ e1, by rw [hK]; exact he.dp _ _ _ (by simp [pd, e2]), s1, s2, k _ H (.bl _) (Ext.refl _ _) (den_bl _) hq⟩
def D.isN : D → Bool
  | .non => true
  | _ => false
/-- is None -/
def gIs : G2 := fun d e Q => e = .non ∧ (∀ v, d ≠ .opq v) ∧ Q (.bl d.isN)
def gIsn : G2 := fun d e Q => e = .non ∧ (∀ v, d ≠ .opq v) ∧ Q (.bl (!d.isN))
theorem Den.isN {B : Addr → Prop} {H : Hp} {d : D} {v : V} (h : Den G B H d v) (n : ∀ v, d ≠ .opq v) : decide (v = .non) = d.isN := by
  cases d with
  | non => cases h; rfl
  | bl b => cases h; rfl
  | int b => cases h; rfl
  | str b => cases h; rfl
  | lst ds => obtain ⟨a, _, rfl, _⟩ := h; rfl
  | tup ds => obtain ⟨a, _, rfl, _⟩ := h; rfl
  | ins c ds => obtain ⟨a, _, _, rfl, _⟩ := h; rfl
  | opq w => exact absurd rfl (n w)
  | urn => obtain ⟨p, _, rfl⟩ := h; rfl
  | at_ a ds => obtain ⟨xs, rfl, _⟩ := h; rfl
  | dct ks ds => obtain ⟨a, _, rfl, _⟩ := h; rfl
  | tupn ds => obtain ⟨a, _, _, rfl, _⟩ := h; rfl
  | exc c ds => obtain ⟨a, _, _, rfl, _⟩ := h; rfl
  | dic c ds => obtain ⟨a, _, rfl, _⟩ := h; rfl
  | dcT c ds => obtain ⟨a, _, rfl, _⟩ := h; rfl
theorem o_is : OpR X (compareOp .Is) (rD G gIs) := opr_imp op_isN fun x y H Q' h => by
  obtain ⟨B, d, e, Q, hd, he, _, ⟨e0, n, hq⟩, k⟩ := h
  subst e0
  cases he
  exact ⟨rfl, k _ H (.bl d.isN) (Ext.refl _ _) (by rw [hd.isN n]; rfl) hq⟩
theorem o_isn : OpR X (compareOp .IsNot) (rD G gIsn) := opr_imp op_notN fun x y H Q' h => by
  obtain ⟨B, d, e, Q, hd, he, _, ⟨e0, n, hq⟩, k⟩ := h
  subst e0
  cases he
  exact ⟨rfl, k _ H (.bl (!d.isN)) (Ext.refl _ _) (by rw [hd.isN n]; rfl) hq⟩

/-! ### and, or, not, if -/
def dAnd (ta tb : DT) : DT := fun ex env Q => ta ex env fun x => ∃ c, x = .bl c ∧ if c = true then tb ex env Q else Q (.bl false)
def dOr (ta tb : DT) : DT := fun ex env Q => ta ex env fun x => ∃ c, x = .bl c ∧ if c = true then Q (.bl true) else tb ex env Q
def dNot (ta : DT) : DT := fun ex env Q => ta ex env fun x => ∃ c, x = .bl c ∧ Q (.bl (!c))
theorem de_and {a b : Expr} {rest : List Expr} {pos : Pos} {ca cb : Nat} {ta tb : DT} (ha : DE G E X ca a ta) (hb : DE G E X cb (.BoolOp .And (b :: rest) pos) tb) : DE G E X (ca + cb) (.BoolOp .And (a :: b :: rest) pos) (dAnd ta tb) :=
  imp (pe_and ha hb) fun σ H Q' h => by
    obtain ⟨W, hc, Q, ht, k⟩ := h
    refine ⟨W, by omega, _, ht, fun v H1 d st hd ⟨c, e, hq⟩ => ⟨c, by subst e; exact hd, ?_⟩⟩
    cases c with
    | true => exact ⟨W.next st, by show W.m + cb ≤ W.n - ca; omega, Q, hq, fun r H2 rd st2 hr q => k r H2 rd (st.trans st2) hr q⟩
    | false => exact k _ H1 (.bl false) (st.less (by omega)) rfl hq
theorem de_or {a b : Expr} {rest : List Expr} {pos : Pos} {ca cb : Nat} {ta tb : DT} (ha : DE G E X ca a ta) (hb : DE G E X cb (.BoolOp .Or (b :: rest) pos) tb) : DE G E X (ca + cb) (.BoolOp .Or (a :: b :: rest) pos) (dOr ta tb) :=
  imp (pe_or ha hb) fun σ H Q' h => by
    obtain ⟨W, hc, Q, ht, k⟩ := h
    refine ⟨W, by omega, _, ht, fun v H1 d st hd ⟨c, e, hq⟩ => ⟨c, by subst e; exact hd, ?_⟩⟩
    cases c with
    | false => exact ⟨W.next st, by show W.m + cb ≤ W.n - ca; omega, Q, hq, fun r H2 rd st2 hr q => k r H2 rd (st.trans st2) hr q⟩
    | true => exact k _ H1 (.bl true) (st.less (by omega)) rfl hq
theorem de_not {a : Expr} {pos : Pos} {ca : Nat} {ta : DT} (ha : DE G E X ca a ta) : DE G E X ca (.UnaryOp .Not a pos) (dNot ta) :=
  imp (pe_not ha) fun σ H Q' h => by
    obtain ⟨W, hc, Q, ht, k⟩ := h
    exact ⟨W, hc, _, ht, fun v H1 d st hd ⟨c, e, hq⟩ => ⟨c, by subst e; exact hd, k _ H1 (.bl (!c)) st rfl hq⟩⟩
end
end Kn

set_option Elab.async false
set_option linter.all false
set_option maxRecDepth 100000
set_option maxHeartbeats 2100000
namespace Kn
open PySem L2
open PyProof.Rows (envOfC)

/-! ### statements -/
structure DEnds where
  nx : List Sl → Prop
  rt : D → List Sl → Prop
  bk : List Sl → Prop := fun _ => False
  ct : List Sl → Prop := fun _ => False
abbrev DS := (Exc → Prop) → DEnds → List Sl → Prop
section
variable {G : Gd} {E : XK}
/-- the same body, later -/
structure Later {σ σ' : List (Option V)} {H H' : Hp} (W : Wd G E σ H) (c : Nat) (W' : Wd G E σ' H') : Prop where
  u : W'.u = W.u
  B : W'.B = W.B
  H0 : W'.H0 = W.H0
  ex : W'.ex = W.ex
  m : W'.m = W.m
  n : W.n ≤ W'.n + c
  keep : ∀ b o, ¬ W.XB b → H b = some o → H' b = some o
  xb : ∀ b, W'.XB b → W.XB b ∨ H b = none
theorem Later.trans {σ σ' τ : List (Option V)} {H H' L : Hp} {W : Wd G E σ H} {c d : Nat} {W' : Wd G E σ' H'} {W2 : Wd G E τ L} (a : Later W c W') (b : Later W' d W2) : Later W (c + d) W2 :=
  ⟨b.u.trans a.u, b.B.trans a.B, b.H0.trans a.H0, b.ex.trans a.ex, b.m.trans a.m, by have := a.n; have := b.n; omega,
    fun p o n e => b.keep p o (fun z => (a.xb p z).elim n (fun q => by rw [e] at q; cases q)) (a.keep p o n e), fun p z => (b.xb p z).elim (a.xb p) fun q => by
      by_cases hx : W.XB p
      · exact .inl hx
      · cases hp : H p with
        | none => exact .inr rfl
        | some o => rw [a.keep p o hx hp] at q; cases q⟩
theorem Later.more {σ σ' : List (Option V)} {H H' : Hp} {W : Wd G E σ H} {c d : Nat} {W' : Wd G E σ' H'} (a : Later W c W') (h : c ≤ d) : Later W d W' :=
  ⟨a.u, a.B, a.H0, a.ex, a.m, by have := a.n; omega, a.keep, a.xb⟩
theorem Later.refl {σ : List (Option V)} {H : Hp} (W : Wd G E σ H) : Later W 0 W := ⟨rfl, rfl, rfl, rfl, rfl, by omega, fun _ _ _ h => h, fun _ h => .inl h⟩
theorem Step.keep {σ : List (Option V)} {H H' : Hp} {W : Wd G E σ H} {c : Nat} (st : Step W c H') {b : Addr} {o : HO} (n : ¬ W.XB b) (h : H b = some o) : H' b = some o := st.ext b o h (W.nuX n)
theorem Later.next {σ : List (Option V)} {H H' : Hp} {W : Wd G E σ H} {c : Nat} (st : Step W c H') : Later W c (W.next st) := ⟨rfl, rfl, rfl, rfl, rfl, by show W.n ≤ W.n - c + c; omega, fun b o n h => st.keep n h, fun b h => .inl h⟩
/-- what holds of a value beside the frame's own lists holds of it behind the frame -/
theorem Den.out {σ : List (Option V)} {H H' : Hp} (W : Wd G E σ H) {d : D} {v : V} (h : Den G W.XB H' d v) : Den G W.B H' d v :=
  Den.keep (fun _ _ _ h => h) (fun _ h => .inl (.inl h)) d v h
end
def liftS (G : Gd) (E : XK) (c : Nat) (ts : DS) : TS := fun Dn σ H => ∃ W : Wd G E σ H, W.m + c ≤ W.n ∧ ∃ de : DEnds, ts W.ex de W.env ∧
  (∀ σ' H' (W' : Wd G E σ' H'), Later W c W' → de.nx W'.env → Dn.nx σ' H') ∧
  (∀ v σ' H' (W' : Wd G E σ' H') d, Later W c W' → Den G W.B H' d v → de.rt d W'.env → Dn.rt v H') ∧
  (∀ σ' H' (W' : Wd G E σ' H'), Later W c W' → de.bk W'.env → Dn.bk σ' H') ∧
  (∀ σ' H' (W' : Wd G E σ' H'), Later W c W' → de.ct W'.env → Dn.ct σ' H')
abbrev DSt (G : Gd) (E : XK) (X : Cx) (c : Nat) (st : Stmt) (t : DS) : Prop := PS X st (liftS G E c t)
abbrev DSs (G : Gd) (E : XK) (X : Cx) (c : Nat) (sts : List Stmt) (t : DS) : Prop := PSs X sts (liftS G E c t)
theorem impS {X : Cx} {st : Stmt} {t t' : TS} (h : PS X st t) (i : ∀ D σ H, t' D σ H → t D σ H) : PS X st t' := ⟨fun pins s σ H D I q => h.run pins s σ H D I (i D σ H q)⟩
theorem impSs {X : Cx} {st : List Stmt} {t t' : TS} (h : PSs X st t) (i : ∀ D σ H, t' D σ H → t D σ H) : PSs X st t' := ⟨fun pins s σ H D I q => h.run pins s σ H D I (i D σ H q)⟩

/-! ### what a def promises, by trees -/
abbrev FSpec := List D → (D → Prop) → (Exc → Prop) → Prop
def liftF (G : Gd) (c : Nat) (S : FSpec) : Sp := fun vs H Q E => ∃ (u : Option Ur) (n : Nat) (B : Addr → Prop) (ds : List D) (R : D → Prop) (ex : Exc → Prop),
  u = G.u ∧ c ≤ n ∧ (∀ p, Pr u p → B p.1 ∧ B p.2) ∧ (∀ a, B a → H a ≠ none) ∧ Good u H n ∧ DenL G B H ds vs ∧ S ds R ex ∧
  (∀ v H' d, Ext u H H' → Good u H' (n - c) → Den G B H' d v → R d → Q v H') ∧ (∀ x C d H', Ext u H H' → Good u H' (n - c) → ExcIs G B H' x C d → ex x → E C d H')

/-- the def at f keeps S, by at most c draws and k calls deep, where no repr is under way -/
structure FnD (G : Gd) (P : Program) (w : World) (mg : Str → Option Value) (base : Heap) (k : Nat) (f : Addr) (fd : FuncData) (ps : List Str) (c : Nat) (S : FSpec) : Prop where
  run : ∀ (A : Around) (outer : List Env) (s : Shared) (H : Hp) (args : Args) (us : List Value) (vs : List V) (Q : VK) (E : XK), Room k A → A.guards = some [] → Env0 P w G.K mg base A outer s H →
    BindsTo s fd args (ps.zip us) → Vals vs us → vs.length = ps.length → liftF G c S vs H Q E → codeAny (model P w) A (.call (.ref f) args) (CR (L2.CX P w) outer P w H s Q E) s

/-- the slots at the entry -/
def env0 (N : List Str) (ds : List D) : List Sl := ds.map Sl.val ++ List.replicate (N.length - ds.length) Sl.emp

section
variable {G : Gd} {P : Program} {w : World} {mg : Str → Option Value} {base : Heap}
theorem FnD.mono {j k : Nat} {f : Addr} {fd : FuncData} {ps : List Str} {c : Nat} {S : FSpec} (F : FnD G P w mg base j f fd ps c S) (h : j ≤ k) : FnD G P w mg base k f fd ps c S :=
  ⟨fun A outer s H args us vs Q E hr => F.run A outer s H args us vs Q E (hr.mono h)⟩

theorem env0_get {N : List Str} {ds : List D} {i : Nat} {s : Sl} (h : (env0 N ds)[i]? = some s) : (∃ d, ds[i]? = some d ∧ s = .val d) ∨ s = .emp := by
  unfold env0 at h
  by_cases hi : i < ds.length
  · rw [List.getElem?_append_left (by simpa using hi), List.getElem?_map, List.getElem?_eq_getElem hi] at h
    exact .inl ⟨ds[i], List.getElem?_eq_getElem hi, (Option.some.inj h).symm⟩
  · rw [List.getElem?_append_right (by simpa using hi), List.getElem?_replicate] at h
    split at h
    · exact .inr (Option.some.inj h).symm
    · cases h
theorem start_get {N : List Str} {vs : List V} {i : Nat} {v : V} (h : vs[i]? = some v) : (L2.start N vs)[i]? = some (some v) := by
  have hi : i < vs.length := (List.getElem?_eq_some_iff.mp h).1
  unfold L2.start
  rw [List.getElem?_append_left (by simpa using hi), List.getElem?_map, h]
  rfl
/-- the state at a body's entry -/
theorem wd_start {N : List Str} {vs : List V} {H : Hp} {E : XK} {u : Option Ur} {n c : Nat} {B : Addr → Prop} {ds : List D} {ex : Exc → Prop} (hN : vs.length ≤ N.length) (hug : u = G.u) (hc : c ≤ n)
    (hu : ∀ p, Pr u p → B p.1 ∧ B p.2) (hB : ∀ a, B a → H a ≠ none) (hg : Good u H n) (hd : DenL G B H ds vs) (hx : ∀ x C d H', Ext u H H' → Good u H' (n - c) → ExcIs G B H' x C d → ex x → E C d H') :
    ∃ W : Wd G E (L2.start N vs) H, W.u = u ∧ W.n = n ∧ W.m = n - c ∧ W.B = B ∧ W.H0 = H ∧ W.env = env0 N ds ∧ W.ex = ex := by
  have hl := hd.length
  refine ⟨{ u := u, n := n, m := n - c, B := B, H0 := H, env := env0 N ds, ex := ex, ug := hug, hu := hu, hB := hB, fr := Ext.refl _ _, good := hg, len := ?_, sl := ?_, nd := ?_, exc := hx }, rfl, rfl, rfl, rfl, rfl, rfl, rfl⟩
  · unfold env0 L2.start
    simp only [List.length_append, List.length_map, List.length_replicate]
    omega
  · intro i s hs
    rcases env0_get hs with ⟨d, hd1, rfl⟩ | rfl
    · obtain ⟨x, hx1, hx2⟩ := hd.get hd1
      refine ⟨x, by rw [start_get hx1]; rfl, ?_⟩
      exact Den.keep (fun _ _ _ h => h) (fun b hb => by
        rcases hb with hb | ⟨i, es, e1, hm, _⟩
        · exact .inl hb
        · rcases env0_get e1 with ⟨_, _, z⟩ | z <;> (subst z; cases hm)) d x hx2
    · trivial
  · intro i j a s t e1 _ hm
    rcases env0_get e1 with ⟨_, _, z⟩ | z <;> (subst z; cases hm)

theorem guards_deeper {A : Around} {env : Env} : (A.deeper env).guards = A.guards := rfl

/-- THE RULE for a def: its body as a term of rules over trees, what the promise asks of that term -/
theorem fnd_at {k : Nat} {f : Addr} {x qual : Str} {st : Stmt} {fd : FuncData} {N ps : List Str} {c : Nat} {S : FSpec} {ts : DS} {cdv : Value}
    (hF : ∃ (oc : Value) (od : Option Addr) (kV doc pm : Value) (an : Option Addr) (ct : Value) (osl : Array (Option Value)), fd = PySem.W.fnOf x qual (defArgs st) (defBody st) (defScope st) .none kV doc pm an cdv ct ∧ G.K.lookup f = some ⟨oc, od, .func fd, osl⟩ ∧ PySem.W.codeIn G.K cdv qual = true) (Sc : FnScope N ps (defScope st))
    (hder : ∀ (A : Around) (outer : List Env) (s : Shared) (H : Hp) (E : XK), Room k (A.deeper (envOfC qual (defScope st) s.heap.objs.size f cdv)) → A.guards = some [] →
      DSs G E (cxOf (L2.CX P w) P w G.K mg base N qual (defScope st) f cdv A outer s H E) c (defBody st) ts)
    (hS : ∀ ds R ex, ds.length = ps.length → S ds R ex → ts ex { nx := fun _ => R .non, rt := fun d _ => R d } (env0 N ds)) : FnD G P w mg base (k + 1) f fd ps c S := by
  refine ⟨fun A outer s H args us vs Q E hr hgd e0 hb rv hlen hsp => ?_⟩
  obtain ⟨u, n, B, ds, R, ex, hug, hc, hu, hB, hg, hd, hs, hq, hx⟩ := hsp
  have hNl : vs.length ≤ N.length := by
    have h1 := congrArg List.length Sc.pre
    rw [List.length_take] at h1
    omega
  obtain ⟨oc, od, kV, doc, pm, an, ct, osl, rfl, lk, hcd⟩ := hF; have KX : G.K.In s.heap := PySem.W.Frag.In.keeps e0.mod.kin (fun b o e => (e0.bs b o e).1)
  have nolim : s.heap.NoLimit := Heap.NoLimit.keeps e0.mod.nolimit (fun b o e => (e0.bs b o e).1)
  have kinds : ∀ y ∈ ps.zip us, (defScope st).names.lookup y.1 = some .local ∨
      ((defScope st).names.lookup y.1 = some .cell ∧ ((cellsFrom (s.heap.objs.size + 1) (defScope st).names []).lookup y.1).isSome = true) := by
    intro y hy
    obtain ⟨n1, v1⟩ := y
    rcases Sc.par n1 (List.of_mem_zip hy).1 with z | z
    · exact .inl z
    · exact .inr ⟨z, PySem.W.cellsFrom_some _ _ _ (.inl z)⟩
  refine codeAny_call_function hr.depth (KX _ _ lk) rfl Sc.co Sc.gen rfl (PySem.W.codeRec_of KX hcd) ?_
  refine hb _ _ _ _ (wpAny_newFunctionEnv_cells Sc.kind kinds ?_)
  intro env he s1 ic
  subst he
  refine ⟨nolim.keeps ic.toInCall.keep, codeAny_func ?_⟩
  have I : Inv (cxOf (L2.CX P w) P w G.K mg base N qual (defScope st) f cdv A outer s H E) [] (L2.start N vs) H s1 := inv_start Sc hr.hd e0 hlen rv ic
  have hds : ds.length = ps.length := by rw [hd.length, hlen]
  obtain ⟨W, w1, w2, w3, w4, w5, w6, w7⟩ := wd_start (N := N) (E := E) hNl hug hc hu hB hg hd hx
  have body := (hder A outer s H E (hr.deeper _) hgd).run [] s1 (L2.start N vs) H { nx := fun _ H' => Q .non H', rt := Q } I (by
    refine ⟨W, by rw [w2, w3]; omega, _, by rw [w6, w7]; exact hS ds R ex hds hs, ?_, ?_, ?_, ?_⟩
    · intro σ' H' W' lt hr'
      have hE : Ext u H H' := by have z := W'.fr; rw [lt.u, lt.H0, w1, w5] at z; exact z
      have hG : Good u H' (n - c) := by have z := W'.good; rw [lt.u, w1] at z; exact z.less (by have := lt.n; rw [w2] at this; omega)
      exact hq .non H' .non hE hG rfl hr'
    · intro v σ' H' W' d lt hd' hr'
      have hE : Ext u H H' := by have z := W'.fr; rw [lt.u, lt.H0, w1, w5] at z; exact z
      have hG : Good u H' (n - c) := by have z := W'.good; rw [lt.u, w1] at z; exact z.less (by have := lt.n; rw [w2] at this; omega)
      rw [w4] at hd'
      exact hq v H' d hE hG hd' hr'
    · intro σ' H' W' lt z; exact z.elim
    · intro σ' H' W' lt z; exact z.elim)
  refine wpAny_mono body ?_ (fun e s' hs => hs)
  intro fl s' hfl
  cases fl with
  | next => obtain ⟨σ', H', J, q⟩ := hfl; exact ⟨.non, H', J.os, J.bare, J.base, J.hok, rfl, q⟩
  | ret v' => obtain ⟨v, σ', H', J, r1, q⟩ := hfl; exact ⟨v, H', J.os, J.bare, J.base, J.hok, r1, q⟩
  | brk => obtain ⟨σ', H', J, q⟩ := hfl; exact q.elim
  | cont => obtain ⟨σ', H', J, q⟩ := hfl; exact q.elim
theorem fnd_of {k : Nat} {f : Addr} {x qual : Str} {st : Stmt} {fd : FuncData} {N ps : List Str} {c : Nat} {S : FSpec} {ts : DS} (F : Fun G.K x qual st f fd) (Sc : FnScope N ps (defScope st))
    (hder : ∀ (cdv : Value) (A : Around) (outer : List Env) (s : Shared) (H : Hp) (E : XK), Room k (A.deeper (envOfC qual (defScope st) s.heap.objs.size f cdv)) → A.guards = some [] →
      DSs G E (cxOf (L2.CX P w) P w G.K mg base N qual (defScope st) f cdv A outer s H E) c (defBody st) ts)
    (hS : ∀ ds R ex, ds.length = ps.length → S ds R ex → ts ex { nx := fun _ => R .non, rt := fun d _ => R d } (env0 N ds)) : FnD G P w mg base (k + 1) f fd ps c S := by
  obtain ⟨oc, od, kV, doc, pm, an, cdv, ct, osl, h1, h2, h3⟩ := F.ex
  exact fnd_at ⟨oc, od, kV, doc, pm, an, ct, osl, h1, h2, h3⟩ Sc (hder cdv) hS
end
end Kn

set_option Elab.async false
set_option linter.all false
set_option maxRecDepth 100000
set_option maxHeartbeats 2100000
namespace Kn
open PySem L2
open PyProof.Rows (envOfC)
section
variable {G : Gd} {E : XK} {X : Cx}

/-! ### blocks -/
def sNil : DS := fun _ de env => de.nx env
def sSeq (t u : DS) : DS := fun ex de env => t ex { de with nx := fun env' => u ex de env' } env
theorem ds_nil : DSs G E X 0 [] sNil := impSs pss_nil fun Dn σ H h => by
  obtain ⟨W, _, de, ht, k, _⟩ := h
  exact k σ H W (Later.refl W) ht
theorem lift_seq {c d : Nat} {t u : DS} {Dn : Ends} {σ : List (Option V)} {H : Hp} (h : liftS G E (c + d) (sSeq t u) Dn σ H) : tSeq (liftS G E c t) (liftS G E d u) Dn σ H := by
  obtain ⟨W, hc, de, ht, k1, k2, k3, k4⟩ := h
  refine ⟨W, by omega, _, ht, fun σ' H' W' lt hn => ?_, fun v σ' H' W' d' lt hd hr => k2 v σ' H' W' d' (lt.more (by omega)) hd hr, fun σ' H' W' lt hn => k3 σ' H' W' (lt.more (by omega)) hn, fun σ' H' W' lt hn => k4 σ' H' W' (lt.more (by omega)) hn⟩
  refine ⟨W', by have := lt.n; rw [lt.m]; omega, de, by rw [lt.ex]; exact hn, fun σ2 H2 W2 l2 q => k1 σ2 H2 W2 (lt.trans l2) q, fun v σ2 H2 W2 d' l2 hd hr => k2 v σ2 H2 W2 d' (lt.trans l2) (by rw [lt.B] at hd; exact hd) hr,
    fun σ2 H2 W2 l2 q => k3 σ2 H2 W2 (lt.trans l2) q, fun σ2 H2 W2 l2 q => k4 σ2 H2 W2 (lt.trans l2) q⟩
theorem ds_cons {c d : Nat} {st : Stmt} {rest : List Stmt} {t u : DS} (h1 : DSt G E X c st t) (h2 : DSs G E X d rest u) : DSs G E X (c + d) (st :: rest) (sSeq t u) := impSs (pss_cons h1 h2) fun Dn σ H h => lift_seq h
theorem ds_one {c : Nat} {st : Stmt} {t : DS} (h1 : DSt G E X c st t) : DSs G E X c [st] t := pss_one h1
theorem ds_pass {pos : Pos} : DSt G E X 0 (.Pass pos) sNil := impS ps_pass fun Dn σ H h => by
  obtain ⟨W, _, de, ht, k, _⟩ := h
  exact k σ H W (Later.refl W) ht
def sNever : DS := fun _ _ _ => False
theorem ds_never {st : Stmt} : DSt G E X 0 st sNever := impS ps_never fun Dn σ H h => by
  obtain ⟨W, _, de, ht, _⟩ := h
  exact ht

/-! ### return, if -/
def sRet (te : DT) : DS := fun ex de env => te ex env fun d => de.rt d env
theorem ds_ret {c : Nat} {e : Expr} {pos : Pos} {te : DT} (he : DE G E X c e te) : DSt G E X c (.Return (some e) pos) (sRet te) := impS (ps_ret he) fun Dn σ H h => by
  obtain ⟨W, hc, de, ht, k1, k2, k3, k4⟩ := h
  exact ⟨W, hc, _, ht, fun v H' d st hd hr => k2 v _ H' (W.next st) d (Later.next st) (hd.out W) hr⟩
def sRetN : DS := fun ex de env => de.rt .non env
theorem ds_retN {pos : Pos} : DSt G E X 0 (.Return none pos) sRetN := impS ps_retN fun Dn σ H h => by
  obtain ⟨W, hc, de, ht, k1, k2, k3, k4⟩ := h
  exact k2 .non σ H W .non (Later.refl W) den_non ht
def dTrue (te : DT) : DB := fun ex env Q => te ex env fun x => ∃ b, x = .bl b ∧ Q b
def sIf (tc : DB) (t u : DS) : DS := fun ex de env => tc ex env fun b => if b = true then t ex de env else u ex de env
theorem ds_if {cc ca cb : Nat} {e : Expr} {a b : List Stmt} {pos : Pos} {tc : DB} {t u : DS} (hc : DPt G E X cc e tc) (ha : DSs G E X ca a t) (hb : DSs G E X cb b u) : DSt G E X (cc + (ca + cb)) (.If e a b pos) (sIf tc t u) :=
  impS (ps_if hc ha hb) fun Dn σ H h => by
    obtain ⟨W, hn, de, ht, k1, k2, k3, k4⟩ := h
    refine ⟨W, by omega, _, ht, fun r H' st hr => ?_⟩
    have l := Later.next st
    cases r with
    | true =>
      refine ⟨W.next st, by show W.m + ca ≤ W.n - cc; omega, de, hr, fun σ2 H2 W2 l2 q => k1 σ2 H2 W2 ((l.trans l2).more (by omega)) q, fun v σ2 H2 W2 d' l2 hd hr => k2 v σ2 H2 W2 d' ((l.trans l2).more (by omega)) hd hr,
        fun σ2 H2 W2 l2 q => k3 σ2 H2 W2 ((l.trans l2).more (by omega)) q, fun σ2 H2 W2 l2 q => k4 σ2 H2 W2 ((l.trans l2).more (by omega)) q⟩
    | false =>
      refine ⟨W.next st, by show W.m + cb ≤ W.n - cc; omega, de, hr, fun σ2 H2 W2 l2 q => k1 σ2 H2 W2 ((l.trans l2).more (by omega)) q, fun v σ2 H2 W2 d' l2 hd hr => k2 v σ2 H2 W2 d' ((l.trans l2).more (by omega)) hd hr,
        fun σ2 H2 W2 l2 q => k3 σ2 H2 W2 ((l.trans l2).more (by omega)) q, fun σ2 H2 W2 l2 q => k4 σ2 H2 W2 ((l.trans l2).more (by omega)) q⟩

/-! ### tests -/
theorem lift_true {c : Nat} {te : DT} {σ : List (Option V)} {H : Hp} {Q' : Bool → Hp → Prop} (h : liftB G E c (dTrue te) σ H Q') : lift G E c te σ H fun x H' => ∃ b, x = .bl b ∧ Q' b H' := by
  obtain ⟨W, hc, Q, ht, k⟩ := h
  refine ⟨W, hc, _, ht, fun v H' d st hd ⟨b, e, hq⟩ => ⟨b, by subst e; exact hd, k b H' st hq⟩⟩
/-- a test that is a comparison -/
theorem dt_cmp {a b : Expr} {op : CmpOp} {pos : Pos} {g : G2} {ca cb : Nat} {ta tb : DT} (ho : OpR X (compareOp op) (rD G g)) (ha : DE G E X ca a ta) (hb : DE G E X cb b tb) (hm : behindInMarks op b = false) :
    DPt G E X (ca + cb) (.Compare a [op] [b] pos) (dTrue (dOp g ta tb)) := impT (pt_cmpR ho ha hb hm) fun σ H Q' h => by
  have h2 := lift_true h
  exact lift_op h2
/-- a test by its value: a name, a call, an attribute, an item -/
theorem dt_val {e : Expr} {c : Nat} {te : DT} (h : DE G E X c e te) (he : ∀ whole, isTrue e X.env whole = (do let v ← whole; standAt e.pos; holding [v] (truthy v)) := by intro _; rfl) : DPt G E X c e (dTrue te) :=
  impT (pt_val h he) fun σ H Q' h => lift_true h
def bAnd (t u : DB) : DB := fun ex env Q => t ex env fun b => if b = true then u ex env Q else Q false
def bOr (t u : DB) : DB := fun ex env Q => t ex env fun b => if b = true then Q true else u ex env Q
def bNot (t : DB) : DB := fun ex env Q => t ex env fun b => Q (!b)
end
end Kn

set_option Elab.async false
set_option linter.all false
set_option maxRecDepth 100000
set_option maxHeartbeats 2100000
namespace Kn
open PySem L2
open PyProof.Rows (envOfC)
section
variable {G : Gd} {E : XK} {X : Cx}

/-! ### tests joined -/
theorem dw_and {a b : Expr} {rest : List Expr} {pos : Pos} {ca cb : Nat} {t u : DB} (ha : DPt G E X ca a t) (hb : PW X (.BoolOp .And (b :: rest) pos) (liftB G E cb u)) : PW X (.BoolOp .And (a :: b :: rest) pos) (liftB G E (ca + cb) (bAnd t u)) :=
  ⟨fun wh pins s σ H Q I h => (pw_and ha hb).run wh pins s σ H Q I (by
    obtain ⟨W, hn, Q1, ht, k⟩ := h
    refine ⟨W, by omega, _, ht, fun r H' st hr => ?_⟩
    cases r with
    | true => exact ⟨W.next st, by show W.m + cb ≤ W.n - ca; omega, Q1, hr, fun r2 H2 st2 q => k r2 H2 (st.trans st2) q⟩
    | false => exact k false H' (st.less (by omega)) hr)⟩
theorem dw_or {a b : Expr} {rest : List Expr} {pos : Pos} {ca cb : Nat} {t u : DB} (ha : DPt G E X ca a t) (hb : PW X (.BoolOp .Or (b :: rest) pos) (liftB G E cb u)) : PW X (.BoolOp .Or (a :: b :: rest) pos) (liftB G E (ca + cb) (bOr t u)) :=
  ⟨fun wh pins s σ H Q I h => (pw_or ha hb).run wh pins s σ H Q I (by
    obtain ⟨W, hn, Q1, ht, k⟩ := h
    refine ⟨W, by omega, _, ht, fun r H' st hr => ?_⟩
    cases r with
    | true => exact k true H' (st.less (by omega)) hr
    | false => exact ⟨W.next st, by show W.m + cb ≤ W.n - ca; omega, Q1, hr, fun r2 H2 st2 q => k r2 H2 (st.trans st2) q⟩)⟩
theorem dw_and1 {a : Expr} {pos : Pos} {c : Nat} {t : DB} (ha : DPt G E X c a t) : PW X (.BoolOp .And [a] pos) (liftB G E c t) := pw_and1 ha
theorem dw_or1 {a : Expr} {pos : Pos} {c : Nat} {t : DB} (ha : DPt G E X c a t) : PW X (.BoolOp .Or [a] pos) (liftB G E c t) := pw_or1 ha
theorem dt_w {e : Expr} {c : Nat} {t : DB} (h : PW X e (liftB G E c t)) : DPt G E X c e t := h.pt
theorem dt_not {a : Expr} {pos : Pos} {c : Nat} {t : DB} (ha : DPt G E X c a t) : DPt G E X c (.UnaryOp .Not a pos) (bNot t) := impT (pt_not ha) fun σ H Q' h => by
  obtain ⟨W, hn, Q1, ht, k⟩ := h
  exact ⟨W, hn, _, ht, fun r H' st hr => k _ H' st hr⟩
/-- a < b <= c -/
def dChain (g g' : G2) (ta tb tc : DT) : DT := fun ex env Q => ta ex env fun x => tb ex env fun y => g x y fun z => ∃ k, z = .bl k ∧ if k = true then tc ex env fun w' => g' y w' Q else Q (.bl false)
theorem lift_chain {g g' : G2} {ca cb cc : Nat} {ta tb tc : DT} {σ : List (Option V)} {H : Hp} {Q' : VK} (h : lift G E (ca + (cb + cc)) (dChain g g' ta tb tc) σ H Q') :
    tChain (rD G g) (rD G g') (lift G E ca ta) (lift G E cb tb) (lift G E cc tc) σ H Q' := by
  obtain ⟨W, hc, Q, ht, k⟩ := h
  refine ⟨W, by omega, _, ht, fun v H1 d st hd hq => ⟨W.next st, by show W.m + cb ≤ W.n - ca; omega, _, hq, fun v2 H2 e st2 he hg => ?_⟩⟩
  refine ⟨W.XB, d, e, _, (W.next st).den st2 hd, he, fun p hp => ((W.next st).next st2).fresh hp, hg, fun r H' rd ex hr ⟨b, e1, hq2⟩ => ?_⟩
  subst e1
  have s3 : Step W (ca + cb) H' := (st.trans st2).pure ex
  refine ⟨b, hr, ?_⟩
  cases b with
  | false => exact k _ H' (.bl false) (s3.less (by omega)) (den_bl false) hq2
  | true =>
    refine ⟨W.next s3, by show W.m + cc ≤ W.n - (ca + cb); omega, _, hq2, fun v3 H3 f st3 hf hg3 => ?_⟩
    refine ⟨W.XB, e, f, Q, ?_, hf, fun p hp => ((W.next s3).next st3).fresh hp, hg3, fun r2 H4 rd2 ex2 hr2 q => k r2 H4 rd2 (((s3.trans st3).pure ex2).less (by omega)) hr2 q⟩
    exact (W.next s3).den st3 (he.ext (u := none) ex (fun _ z => z.none.elim))
theorem de_chain {a b c : Expr} {op op' : CmpOp} {pos : Pos} {g g' : G2} {ca cb cc : Nat} {ta tb tc : DT} (ho : OpR X (compareOp op) (rD G g)) (ho' : OpR X (compareOp op') (rD G g')) (ha : DE G E X ca a ta) (hb : DE G E X cb b tb) (hc : DE G E X cc c tc)
    (hm : lastMarks [op, op'] [b, c] = false := by with_unfolding_all rfl) : DE G E X (ca + (cb + cc)) (.Compare a [op, op'] [b, c] pos) (dChain g g' ta tb tc) := imp (pe_chain ho ho' ha hb hc hm) fun _ _ _ h => lift_chain h
theorem dt_chain {a b c : Expr} {op op' : CmpOp} {pos : Pos} {g g' : G2} {ca cb cc : Nat} {ta tb tc : DT} (ho : OpR X (compareOp op) (rD G g)) (ho' : OpR X (compareOp op') (rD G g')) (ha : DE G E X ca a ta) (hb : DE G E X cb b tb) (hc : DE G E X cc c tc)
    (hm : lastMarks [op, op'] [b, c] = false := by with_unfolding_all rfl) : DPt G E X (ca + (cb + cc)) (.Compare a [op, op'] [b, c] pos) (dTrue (dChain g g' ta tb tc)) := impT (pt_chain ho ho' ha hb hc hm) fun _ _ _ h => by
  have h2 := lift_true h
  exact lift_chain h2
/-- a if t else b -/
def dIf (tc : DB) (ta tb : DT) : DT := fun ex env Q => tc ex env fun b => if b = true then ta ex env Q else tb ex env Q
theorem de_ife {c a b : Expr} {pos : Pos} {cc ca cb : Nat} {tc : DB} {ta tb : DT} (hc : DPt G E X cc c tc) (ha : DE G E X ca a ta) (hb : DE G E X cb b tb) : DE G E X (cc + (ca + cb)) (.IfExp c a b pos) (dIf tc ta tb) :=
  imp (pe_ifExp hc ha hb) fun σ H Q' h => by
    obtain ⟨W, hn, Q, ht, k⟩ := h
    refine ⟨W, by omega, _, ht, fun r H' st hr => ?_⟩
    cases r with
    | true => exact ⟨W.next st, by show W.m + ca ≤ W.n - cc; omega, Q, hr, fun v H2 d st2 hd q => k v H2 d ((st.trans st2).less (by omega)) hd q⟩
    | false => exact ⟨W.next st, by show W.m + cb ≤ W.n - cc; omega, Q, hr, fun v H2 d st2 hd q => k v H2 d ((st.trans st2).less (by omega)) hd q⟩

/-! ### arguments, displays -/
def aNil : DA := fun _ _ Q => Q []
def aCons (t : DT) (u : DA) : DA := fun ex env Q => t ex env fun x => u ex env fun xs => Q (x :: xs)
theorem da_nil : DEs G E X 0 [] aNil := impA pa_nil fun σ H Q' h => by
  obtain ⟨W, hn, Q, ht, k⟩ := h
  exact k [] H [] (Step.refl W) rfl ht
theorem da_cons {e : Expr} {es : List Expr} {c d : Nat} {t : DT} {u : DA} (he : DE G E X c e t) (hes : DEs G E X d es u) (hs : ∀ env : Env, starEach (e :: es) env = (false, eval e env) :: starEach es env := by intro _; rfl) : DEs G E X (c + d) (e :: es) (aCons t u) :=
  impA (pa_cons he hes (by exact hs X.env)) fun σ H Q' h => by
    obtain ⟨W, hn, Q, ht, k⟩ := h
    refine ⟨W, by omega, _, ht, fun v H1 d1 st hd hq => ⟨W.next st, by show W.m + d ≤ W.n - c; omega, _, hq, fun vs H2 ds st2 hds q => ?_⟩⟩
    exact k (v :: vs) H2 (d1 :: ds) (st.trans st2) ⟨v, vs, rfl, (W.next st).den st2 hd, hds⟩ q
def dTup (u : DA) : DT := fun ex env Q => u ex env fun ds => ds.length ≤ sizeLine ∧ Q (.tup ds)
def dLst (u : DA) : DT := fun ex env Q => u ex env fun ds => ds.length ≤ sizeLine ∧ Q (.lst ds)
theorem de_tup {es : List Expr} {x1 : Nat} {pos : Pos} {c : Nat} {u : DA} (h : DEs G E X c es u) : DE G E X c (.Tuple es x1 pos) (dTup u) := imp (pe_tup h) fun σ H Q' h => by
  obtain ⟨W, hn, Q, ht, k⟩ := h
  refine ⟨W, hn, _, ht, fun vs H1 ds st hd ⟨hl, hq⟩ => ⟨by rw [← hd.length]; exact hl, fun p hp => ?_⟩⟩
  exact k _ _ (.tup ds) (st.new hp) (den_tup hp ((W.next st).fresh hp) (by rw [← hd.length]; exact hl) hd) hq
theorem de_lst {es : List Expr} {pos : Pos} {c : Nat} {u : DA} (h : DEs G E X c es u) : DE G E X c (.List es pos) (dLst u) := imp (pe_lst h) fun σ H Q' h => by
  obtain ⟨W, hn, Q, ht, k⟩ := h
  refine ⟨W, hn, _, ht, fun vs H1 ds st hd ⟨hl, hq⟩ => ⟨by rw [← hd.length]; exact hl, fun p hp => ?_⟩⟩
  exact k _ _ (.lst ds) (st.new hp) (den_lst hp ((W.next st).fresh hp) (by rw [← hd.length]; exact hl) hd) hq

/-! ### items -/
def gIx : G2 := fun d e Q => match d, e with
  | .lst ds, .int i => ∃ x, atI ds i = some x ∧ Q x
  | .tup ds, .int i => ∃ x, atI ds i = some x ∧ Q x
  | _, _ => False
theorem denL_at {B : Addr → Prop} {H : Hp} {ds : List D} {xs : List V} {i : Int} {d : D} (h : DenL G B H ds xs) (e : atI ds i = some d) : ∃ x, atI xs i = some x ∧ Den G B H d x := by
  unfold atI at e ⊢
  rw [h.length] at e
  cases hj : ixN xs.length i with
  | none => rw [hj] at e; cases e
  | some j => rw [hj] at e; exact h.get e
theorem i_ix (hK : X.K = G.K) : IxR X (rD G gIx) := by
  intro value slice pins s σ H x y v u Q' I rx ry h hs
  obtain ⟨B, d, e, Q, hd, he, hf, hg, k⟩ := h
  cases d <;> cases e <;> try exact hg.elim
  · rename_i ds i
    obtain ⟨a, xs, rfl, na, ha, la, da⟩ := hd
    obtain ⟨z, hz, hq⟩ := hg
    obtain ⟨x, hx, dx⟩ := denL_at da hz
    exact ix_list value slice pins s σ H _ _ v u Q' I rx ry ⟨a, xs, i, x, rfl, he, SqL.of ha, hx, k _ H z (Ext.refl _ _) dx hq⟩ hs
  · rename_i ds i
    obtain ⟨a, xs, rfl, na, ha, la, da⟩ := hd
    obtain ⟨z, hz, hq⟩ := hg
    obtain ⟨x, hx, dx⟩ := denL_at da hz
    exact ix_tup value slice pins s σ H _ _ v u Q' I rx ry ⟨a, xs, i, x, rfl, he, by rw [hK]; exact ha, hx, k _ H z (Ext.refl _ _) dx hq⟩ hs
theorem de_ix {a b : Expr} {pos : Pos} {ca cb : Nat} {ta tb : DT} (hK : X.K = G.K) (ha : DE G E X ca a ta) (hb : DE G E X cb b tb) (hs : PlainIx b) : DE G E X (ca + cb) (.Subscript a b pos) (dOp gIx ta tb) :=
  imp (pe_ix (i_ix hK) ha hb hs) fun _ _ _ h => lift_op h

/-! ### calls of what is built in -/
abbrev GL := List D → (D → Prop) → Prop
def rDL (G : Gd) (g : GL) : List V → Hp → VK → Prop := fun xs H Q' => ∃ B ds Q, DenL G B H ds xs ∧ (∀ p, H p = none → ¬ B p) ∧ g ds Q ∧ ∀ r H' rd, Ext none H H' → Den G B H' rd r → Q rd → Q' r H'
def dBi (g : GL) (u : DA) : DT := fun ex env Q => u ex env fun ds => g ds Q
theorem lift_bi {g : GL} {c : Nat} {u : DA} {σ : List (Option V)} {H : Hp} {Q' : VK} (h : lift G E c (dBi g u) σ H Q') : tCB (rDL G g) (liftA G E c u) σ H Q' := by
  obtain ⟨W, hn, Q, ht, k⟩ := h
  refine ⟨W, hn, _, ht, fun vs H1 ds st hd hg => ⟨W.XB, ds, Q, hd, fun p hp => (W.next st).fresh hp, hg, fun r H' rd ex hr q => k r H' rd (st.pure ex) hr q⟩⟩
theorem de_bi {e : Expr} {es : List Expr} {x : Str} {p pos : Pos} {id : String} {g : GL} {c : Nat} {u : DA} (hc : CallR X (.builtin id) (rDL G g)) (hm : X.mg x = none) (ha : DEs G E X c (e :: es) u) (hg : Gl X x := by rfl) (hv : bootBuiltins x = some (.builtin id) := by decide +kernel)
    (hn : x ≠ "__name__" := by decide) (hdb : (x == ("__debug__" : Str)) = false := by decide) (he : starEach (e :: es) X.env = (false, eval e X.env) :: starEach es X.env := by rfl) (hpl : (backTo pos (starEach es X.env)).any (·.1) = false := by rfl) :
    DE G E X c (.Call (.Name x p) (e :: es) [] pos) (dBi g u) := imp (pe_callB hc hg hm hv ha hn hdb he hpl) fun _ _ _ h => lift_bi h
theorem de_ty {e : Expr} {es : List Expr} {x : Str} {p pos : Pos} {T : String} {g : GL} {c : Nat} {u : DA} (hc : CallR X (.type T) (rDL G g)) (hm : X.mg x = none) (ha : DEs G E X c (e :: es) u) (hg : Gl X x := by rfl) (hv : bootBuiltins x = some (.type T) := by decide +kernel)
    (hn : x ≠ "__name__" := by decide) (hdb : (x == ("__debug__" : Str)) = false := by decide) (he : starEach (e :: es) X.env = (false, eval e X.env) :: starEach es X.env := by rfl) (hpl : (backTo pos (starEach es X.env)).any (·.1) = false := by rfl) :
    DE G E X c (.Call (.Name x p) (e :: es) [] pos) (dBi g u) := imp (pe_callTy hc hg hm hv ha hn hdb he hpl) fun _ _ _ h => lift_bi h
theorem callr_imp {f : Value} {r r' : List V → Hp → VK → Prop} (h : CallR X f r) (i : ∀ xs H Q, r' xs H Q → r xs H Q) : CallR X f r' := fun pins s σ H xs us Q I r q => h pins s σ H xs us Q I r (i xs H Q q)
theorem denL1 {B : Addr → Prop} {H : Hp} {d : D} {xs : List V} (h : DenL G B H [d] xs) : ∃ x, xs = [x] ∧ Den G B H d x := by
  obtain ⟨x, r, e, h1, h2⟩ := h
  cases h2
  exact ⟨x, e, h1⟩
theorem denL2 {B : Addr → Prop} {H : Hp} {d e : D} {xs : List V} (h : DenL G B H [d, e] xs) : ∃ x y, xs = [x, y] ∧ Den G B H d x ∧ Den G B H e y := by
  obtain ⟨x, r, e, h1, h2⟩ := h
  obtain ⟨y, rfl, h3⟩ := denL1 h2
  exact ⟨x, y, e, h1, h3⟩
/-- one argument -/
def g1 (g : D → (D → Prop) → Prop) : GL := fun ds Q => match ds with
  | [d] => g d Q
  | _ => False
def g2 (g : G2) : GL := fun ds Q => match ds with
  | [d, e] => g d e Q
  | _ => False
theorem rDL1 {g : D → (D → Prop) → Prop} {xs : List V} {H : Hp} {Q' : VK} (h : rDL G (g1 g) xs H Q') : ∃ B d x Q, xs = [x] ∧ Den G B H d x ∧ (∀ p, H p = none → ¬ B p) ∧ g d Q ∧ ∀ r H' rd, Ext none H H' → Den G B H' rd r → Q rd → Q' r H' := by
  obtain ⟨B, ds, Q, hd, hf, hg, k⟩ := h
  match ds, hd, hg with
  | [d], hd, hg =>
    obtain ⟨x, rfl, hx⟩ := denL1 hd
    exact ⟨B, d, x, Q, rfl, hx, hf, hg, k⟩
theorem rDL2 {g : G2} {xs : List V} {H : Hp} {Q' : VK} (h : rDL G (g2 g) xs H Q') : ∃ B d e x y Q, xs = [x, y] ∧ Den G B H d x ∧ Den G B H e y ∧ (∀ p, H p = none → ¬ B p) ∧ g d e Q ∧ ∀ r H' rd, Ext none H H' → Den G B H' rd r → Q rd → Q' r H' := by
  obtain ⟨B, ds, Q, hd, hf, hg, k⟩ := h
  match ds, hd, hg with
  | [d, e], hd, hg =>
    obtain ⟨x, y, rfl, hx, hy⟩ := denL2 hd
    exact ⟨B, d, e, x, y, Q, rfl, hx, hy, hf, hg, k⟩
def gLen : D → (D → Prop) → Prop := fun d Q => match d with
  | .lst ds => Q (.int ds.length)
  | .tup ds => Q (.int ds.length)
  | .str x => x.length ≤ sizeLine ∧ Q (.int x.length)
  | _ => False
theorem c_len (hK : X.K = G.K) : CallR X (.builtin "len") (rDL G (g1 gLen)) := callr_imp call_len fun xs H Q' h => by
  obtain ⟨B, d, x, Q, rfl, hd, hf, hg, k⟩ := rDL1 h
  cases d <;> try exact hg.elim
  · rename_i z
    cases hd
    exact ⟨_, _, rfl, ⟨hg.1, rfl⟩, k _ H (.int z.length) (Ext.refl _ _) (den_int _) hg.2⟩
  · rename_i ds
    obtain ⟨a, ys, rfl, na, ha, la, da⟩ := hd
    exact ⟨_, _, rfl, .inl ⟨ys, SqL.of ha, rfl⟩, k _ H (.int ds.length) (Ext.refl _ _) (by rw [da.length]; exact den_int _) hg⟩
  · rename_i ds
    obtain ⟨a, ys, rfl, na, ha, la, da⟩ := hd
    exact ⟨_, _, rfl, .inr ⟨ys, by rw [hK]; exact ha, rfl⟩, k _ H (.int ds.length) (Ext.refl _ _) (by rw [da.length]; exact den_int _) hg⟩
def gList : D → (D → Prop) → Prop := fun d Q => match d with
  | .lst ds => Q (.lst ds)
  | .tup ds => Q (.lst ds)
  | _ => False
theorem c_list (hK : X.K = G.K) : CallR X (.type "list") (rDL G (g1 gList)) := callr_imp call_list_of fun xs H Q' h => by
  obtain ⟨B, d, x, Q, rfl, hd, hf, hg, k⟩ := rDL1 h
  cases d <;> try exact hg.elim
  · rename_i ds
    obtain ⟨a, ys, rfl, na, ha, la, da⟩ := hd
    exact ⟨_, ys, rfl, .inl (SqL.of ha), fun p hp => k _ _ (.lst ds) (Ext.new hp) (den_lst hp (hf p hp) la da) hg⟩
  · rename_i ds
    obtain ⟨a, ys, rfl, na, ha, la, da⟩ := hd
    exact ⟨_, ys, rfl, .inr (by rw [hK]; exact ha), fun p hp => k _ _ (.lst ds) (Ext.new hp) (den_lst hp (hf p hp) la da) hg⟩
def gTuple : D → (D → Prop) → Prop := fun d Q => match d with
  | .lst ds => Q (.tup ds)
  | .tup ds => Q (.tup ds)
  | _ => False
theorem c_tuple (hK : X.K = G.K) : CallR X (.type "tuple") (rDL G (g1 gTuple)) := callr_imp call_tuple_of fun xs H Q' h => by
  obtain ⟨B, d, x, Q, rfl, hd, hf, hg, k⟩ := rDL1 h
  cases d <;> try exact hg.elim
  · rename_i ds
    obtain ⟨a, ys, rfl, na, ha, la, da⟩ := hd
    exact ⟨_, ys, rfl, .inl ⟨SqL.of ha, fun p hp => k _ _ (.tup ds) (Ext.new hp) (den_tup hp (hf p hp) la da) hg⟩⟩
  · rename_i ds
    obtain ⟨a, ys, rfl, na, ha, la, da⟩ := hd
    exact ⟨_, ys, rfl, .inr ⟨by rw [hK]; exact ha, k _ H (.tup ds) (Ext.refl _ _) ⟨a, ys, rfl, na, ha, la, da⟩ hg⟩⟩
theorem DenL.bls {B : Addr → Prop} {H : Hp} : ∀ {bs : List Bool} {xs : List V}, DenL G B H (bs.map D.bl) xs → xs = bs.map V.bl
  | [], _, h => h
  | b :: bs, _, ⟨x, r, e, h1, h2⟩ => by subst e; rw [show x = V.bl b from h1, DenL.bls h2]; rfl
/-- all | any of a list of truths -/
def gAll : D → (D → Prop) → Prop := fun d Q => ∃ bs : List Bool, d = .lst (bs.map D.bl) ∧ Q (.bl (bs.all id))
def gAny : D → (D → Prop) → Prop := fun d Q => ∃ bs : List Bool, d = .lst (bs.map D.bl) ∧ Q (.bl (bs.any id))
theorem c_all (hc : X.calm = true) : CallR X (.builtin "all") (rDL G (g1 gAll)) := callr_imp (cr_all hc) fun xs H Q' h => by
  obtain ⟨B, d, x, Q, rfl, hd, hf, ⟨bs, rfl, hq⟩, k⟩ := rDL1 h
  obtain ⟨a, ys, rfl, na, ha, la, da⟩ := hd
  have := da.bls
  subst this
  exact ⟨a, bs, rfl, SqL.of ha, k _ H (.bl _) (Ext.refl _ _) (den_bl _) hq⟩
theorem c_any (hc : X.calm = true) : CallR X (.builtin "any") (rDL G (g1 gAny)) := callr_imp (cr_any hc) fun xs H Q' h => by
  obtain ⟨B, d, x, Q, rfl, hd, hf, ⟨bs, rfl, hq⟩, k⟩ := rDL1 h
  obtain ⟨a, ys, rfl, na, ha, la, da⟩ := hd
  have := da.bls
  subst this
  exact ⟨a, bs, rfl, SqL.of ha, k _ H (.bl _) (Ext.refl _ _) (den_bl _) hq⟩
def gInt : D → (D → Prop) → Prop := fun d Q => match d with
  | .int i => Q (.int i)
  | .bl b => Q (.int (if b then 1 else 0))
  | _ => False
theorem c_int : CallR X (.type "int") (rDL G (g1 gInt)) := callr_imp call_int1 fun xs H Q' h => by
  obtain ⟨B, d, x, Q, rfl, hd, hf, hg, k⟩ := rDL1 h
  cases d <;> try exact hg.elim
  · rename_i b
    cases hd
    exact .inr ⟨b, rfl, k _ H (.int _) (Ext.refl _ _) (den_int _) hg⟩
  · rename_i i
    cases hd
    exact .inl ⟨i, rfl, k _ H (.int i) (Ext.refl _ _) (den_int _) hg⟩
def gStrI : D → (D → Prop) → Prop := fun d Q => match d with
  | .int i => i.natAbs.log2 < 1920 ∧ Q (.str (toString i))
  | _ => False
theorem c_str : CallR X (.type "str") (rDL G (g1 gStrI)) := callr_imp call_str_int fun xs H Q' h => by
  obtain ⟨B, d, x, Q, rfl, hd, hf, hg, k⟩ := rDL1 h
  cases d <;> try exact hg.elim
  rename_i i
  cases hd
  exact ⟨i, rfl, hg.1, k _ H (.str _) (Ext.refl _ _) (den_str _) hg.2⟩
def gMax2 : G2 := gI (fun _ _ => True) fun i j => .int (if j > i then j else i)
theorem c_max2 (hc : X.calm = true) : CallR X (.builtin "max") (rDL G (g2 gMax2)) := callr_imp (call_max2 hc) fun xs H Q' h => by
  obtain ⟨B, d, e, x, y, Q, rfl, hd, he, hf, hg, k⟩ := rDL2 h
  cases d <;> cases e <;> try exact hg.elim
  rename_i i j
  cases hd; cases he
  exact ⟨i, j, rfl, k _ H (.int _) (Ext.refl _ _) (den_int _) hg.2⟩
def gMin2 : G2 := gI (fun _ _ => True) fun i j => .int (if j < i then j else i)
theorem c_min2 (hc : X.calm = true) : CallR X (.builtin "min") (rDL G (g2 gMin2)) := callr_imp (call_min2 hc) fun xs H Q' h => by
  obtain ⟨B, d, e, x, y, Q, rfl, hd, he, hf, hg, k⟩ := rDL2 h
  cases d <;> cases e <;> try exact hg.elim
  rename_i i j
  cases hd; cases he
  exact ⟨i, j, rfl, k _ H (.int _) (Ext.refl _ _) (den_int _) hg.2⟩
/-- sorted of a list of ints -/
def gSort : D → (D → Prop) → Prop := fun d Q => ∃ ns : List Int, (d = .lst (ns.map D.int)) ∧ ∀ ns' : List Int, ns'.Perm ns → ns'.Pairwise (· ≤ ·) → Q (.lst (ns'.map D.int))
theorem c_sorted : CallR X (.builtin "sorted") (rDL G (g1 gSort)) := callr_imp cr_sortedI fun xs H Q' h => by
  obtain ⟨B, d, x, Q, rfl, hd, hf, ⟨ns, rfl, hq⟩, k⟩ := rDL1 h
  obtain ⟨a, ys, rfl, na, ha, la, da⟩ := hd
  have := da.ints
  subst this
  refine ⟨a, ns, rfl, SqL.of ha, fun ns' p h1 h2 hp => ?_⟩
  have hl : (ns'.map V.int).length ≤ sizeLine := by
    rw [List.length_map, h1.length_eq]
    simpa using la
  exact k _ _ (.lst (ns'.map D.int)) (Ext.new hp) (den_lst hp (hf p hp) hl DenL.of_ints) (hq ns' h1 h2)
end
end Kn

set_option Elab.async false
set_option linter.all false
set_option maxRecDepth 100000
set_option maxHeartbeats 2100000
namespace Kn
open PySem L2
open PyProof.Rows (envOfC)
section
variable {G : Gd} {E : XK} {X : Cx} {σ : List (Option V)} {H H' : Hp}

theorem getD_set {α : Type} {l : List (Option α)} {i j : Nat} {v : Option α} : (l.set i v)[j]?.join = if i = j ∧ i < l.length then v else l[j]?.join := by
  by_cases h : i = j
  · subst h
    by_cases hi : i < l.length
    · rw [List.getElem?_set_self hi, if_pos ⟨rfl, hi⟩]; rfl
    · rw [List.getElem?_eq_none (by simpa using hi), if_neg (fun z => hi z.2), List.getElem?_eq_none (by simpa using hi)]
  · rw [List.getElem?_set_ne h, if_neg (fun z => h z.1)]
theorem xb_val {B : Addr → Prop} {env : List Sl} {i : Nat} {d : D} {v : Option V} {a : Addr} (hl : env.length = σ.length) (h : XBof B (env.set i (.val d)) (σ.set i v) a) : XBof B env σ a := by
  rcases h with h | ⟨j, s, h1, hm, h2⟩
  · exact .inl h
  · by_cases hj : i = j
    · subst hj
      by_cases hi : i < env.length
      · rw [List.getElem?_set_self hi] at h1; cases h1; cases hm
      · rw [List.getElem?_eq_none (by simpa using hi)] at h1; cases h1
    · rw [List.getElem?_set_ne hj] at h1 h2
      exact .inr ⟨j, s, h1, hm, h2⟩
theorem xb_emp {B : Addr → Prop} {env : List Sl} {i : Nat} {v : Option V} {a : Addr} (h : XBof B (env.set i .emp) (σ.set i v) a) : XBof B env σ a := by
  rcases h with h | ⟨j, s, h1, hm, h2⟩
  · exact .inl h
  · by_cases hj : i = j
    · subst hj
      by_cases hi : i < env.length
      · rw [List.getElem?_set_self hi] at h1; cases h1; cases hm
      · rw [List.getElem?_eq_none (by simpa using hi)] at h1; cases h1
    · rw [List.getElem?_set_ne hj] at h1 h2
      exact .inr ⟨j, s, h1, hm, h2⟩
theorem Den.fewer {B B' : Addr → Prop} {H : Hp} (s : ∀ b, B' b → B b) {d : D} {v : V} (h : Den G B H d v) : Den G B' H d v := Den.keep (fun _ _ _ h => h) (fun b hb => .inl (s b hb)) d v h
theorem DenL.fewer {B B' : Addr → Prop} {H : Hp} (s : ∀ b, B' b → B b) {ds : List D} {xs : List V} (h : DenL G B H ds xs) : DenL G B' H ds xs := DenL.keep (fun _ _ _ h => h) (fun b hb => .inl (s b hb)) ds xs h
theorem SlOk.fewer {H0 : Hp} {B B' : Addr → Prop} {H : Hp} (k : ∀ b, B' b → B b) {s : Sl} {v : Option V} (h : SlOk G H0 B H s v) : SlOk G H0 B' H s v := by
  cases s with
  | emp => trivial
  | val d => obtain ⟨x, e, h⟩ := h; exact ⟨x, e, h.fewer k⟩
  | own a ds => obtain ⟨xs, e, h0, h1, hl, h2⟩ := h; exact ⟨xs, e, h0, h1, hl, h2.fewer k⟩
  | slf a dx c ds => obtain ⟨xs, e, h0, h1, hl, h2⟩ := h; exact ⟨xs, e, h0, h1, hl, h2.fewer k⟩
  | obj a o => exact h
  | dic a ks ds => obtain ⟨L, e, h0, h1, hk, hx, h2⟩ := h; exact ⟨L, e, h0, h1, hk, hx.keep (fun _ _ _ h => h) (fun b hb => .inl (k b hb)), h2.fewer k⟩
/-- slot i holds a value from now on -/
def Wd.put (W : Wd G E σ H) (i : Nat) {d : D} {v : V} (hd : Den G W.XB H d v) : Wd G E (σ.set i (some v)) H where
  u := W.u
  n := W.n
  m := W.m
  B := W.B
  H0 := W.H0
  env := W.env.set i (.val d)
  ex := W.ex
  ug := W.ug
  hu := W.hu
  hB := W.hB
  fr := W.fr
  good := W.good
  len := by rw [List.length_set, List.length_set]; exact W.len
  sl := fun j s e => by
    have sub : ∀ b, XBof W.B (W.env.set i (.val d)) (σ.set i (some v)) b → W.XB b := fun b => xb_val W.len
    by_cases hj : i = j
    · subst hj
      by_cases hi : i < W.env.length
      · rw [List.getElem?_set_self hi] at e
        cases e
        rw [getD_set, if_pos ⟨rfl, by rw [← W.len]; exact hi⟩]
        exact ⟨v, rfl, hd.fewer sub⟩
      · rw [List.getElem?_eq_none (by simpa using hi)] at e; cases e
    · rw [List.getElem?_set_ne hj] at e
      rw [getD_set, if_neg (fun z => hj z.1)]
      exact (W.sl j s e).fewer sub
  nd := fun j k a s t h1 h2 m1 m2 h3 h4 => by
    have nj : i ≠ j := fun z => by
      subst z
      by_cases hi : i < W.env.length
      · rw [List.getElem?_set_self hi] at h1; cases h1; cases m1
      · rw [List.getElem?_eq_none (by simpa using hi)] at h1; cases h1
    have nk : i ≠ k := fun z => by
      subst z
      by_cases hi : i < W.env.length
      · rw [List.getElem?_set_self hi] at h2; cases h2; cases m2
      · rw [List.getElem?_eq_none (by simpa using hi)] at h2; cases h2
    rw [List.getElem?_set_ne nj] at h1 h3
    rw [List.getElem?_set_ne nk] at h2 h4
    exact W.nd j k a s t h1 h2 m1 m2 h3 h4
  exc := W.exc
/-- slot i is forgotten -/
def Wd.drop (W : Wd G E σ H) (i : Nat) (v : Option V) : Wd G E (σ.set i v) H where
  u := W.u
  n := W.n
  m := W.m
  B := W.B
  H0 := W.H0
  env := W.env.set i .emp
  ex := W.ex
  ug := W.ug
  hu := W.hu
  hB := W.hB
  fr := W.fr
  good := W.good
  len := by rw [List.length_set, List.length_set]; exact W.len
  sl := fun j s e => by
    have sub : ∀ b, XBof W.B (W.env.set i .emp) (σ.set i v) b → W.XB b := fun b => xb_emp
    by_cases hj : i = j
    · subst hj
      by_cases hi : i < W.env.length
      · rw [List.getElem?_set_self hi] at e
        cases e
        trivial
      · rw [List.getElem?_eq_none (by simpa using hi)] at e; cases e
    · rw [List.getElem?_set_ne hj] at e
      rw [getD_set, if_neg (fun z => hj z.1)]
      exact (W.sl j s e).fewer sub
  nd := fun j k a s t h1 h2 m1 m2 h3 h4 => by
    have nj : i ≠ j := fun z => by
      subst z
      by_cases hi : i < W.env.length
      · rw [List.getElem?_set_self hi] at h1; cases h1; cases m1
      · rw [List.getElem?_eq_none (by simpa using hi)] at h1; cases h1
    have nk : i ≠ k := fun z => by
      subst z
      by_cases hi : i < W.env.length
      · rw [List.getElem?_set_self hi] at h2; cases h2; cases m2
      · rw [List.getElem?_eq_none (by simpa using hi)] at h2; cases h2
    rw [List.getElem?_set_ne nj] at h1 h3
    rw [List.getElem?_set_ne nk] at h2 h4
    exact W.nd j k a s t h1 h2 m1 m2 h3 h4
  exc := W.exc
theorem Later.put (W : Wd G E σ H) (i : Nat) {d : D} {v : V} (hd : Den G W.XB H d v) : Later W 0 (W.put i hd) := ⟨rfl, rfl, rfl, rfl, rfl, by show W.n ≤ W.n + 0; omega, fun _ _ _ h => h, fun b h => .inl (xb_val W.len h)⟩
theorem Later.drop (W : Wd G E σ H) (i : Nat) (v : Option V) : Later W 0 (W.drop i v) := ⟨rfl, rfl, rfl, rfl, rfl, by show W.n ≤ W.n + 0; omega, fun _ _ _ h => h, fun b h => .inl (xb_emp h)⟩

/-! ### x = e -/
def sSet (i : Nat) (te : DT) : DS := fun ex de env => te ex env fun d => de.nx (env.set i (.val d))
theorem ds_set {i : Nat} {x : Str} {e : Expr} {pos pos' : Pos} {c : Nat} {te : DT} (hN : X.N.Nodup) (hi : X.N[i]? = some x) (hx : Loc X.env.scope x) (he : DE G E X c e te) (hs : swapsWith e (some (.Name x pos')) pos.line X.env = pure false := by rfl)
    (hf : X.fn x = true ∨ X.env.scope.names.lookup x = some .local := by first | exact .inl rfl | exact .inr rfl) : DSt G E X c (.Assign [.Name x pos'] e pos) (sSet i te) :=
  impS (ps_set hN hi hx he hs hf) fun Dn σ H h => by
    obtain ⟨W, hn, de, ht, k1, k2, k3, k4⟩ := h
    refine ⟨W, hn, _, ht, fun v H' d st hd hq => ?_⟩
    have hd' : Den G (W.next st).XB H' d v := hd
    exact k1 _ H' ((W.next st).put i hd') (((Later.next st).trans (Later.put _ i hd')).more (by omega)) hq
/-- x op= e (of ints; texts) -/
def sAug (i : Nat) (g : G2) (te : DT) : DS := fun ex de env => ∃ x, env[i]? = some (.val x) ∧ te ex env fun d => g x d fun z => de.nx (env.set i (.val z))
theorem ds_aug {i : Nat} {x : Str} {e : Expr} {op : Operator} {pos pos' : Pos} {c : Nat} {te : DT} {g : G2} {ti : TIp} (hN : X.N.Nodup) (hi : X.N[i]? = some x) (hx : Loc X.env.scope x) (he : DE G E X c e te) (ho : PIp X op ti)
    (hg : ∀ x y H Q', rD G g x y H Q' → ti x y H Q') (hf : X.fn x = true ∨ X.env.scope.names.lookup x = some .local := by first | exact .inl rfl | exact .inr rfl) : DSt G E X c (.AugAssign (.Name x pos') op e pos) (sAug i g te) :=
  impS (ps_aug hN hi hx he ho hf) fun Dn σ H h => by
    obtain ⟨W, hn, de, ⟨z, hz, ht⟩, k1, k2, k3, k4⟩ := h
    obtain ⟨xv, hxv, hdx⟩ := W.sl i _ hz
    refine ⟨xv, ?_, W, hn, _, ht, fun v H' d st hd hq => ?_⟩
    · cases hs : σ[i]? with
      | none => rw [hs] at hxv; cases hxv
      | some o => rw [hs] at hxv; rw [show o = some xv from hxv]
    refine hg _ _ _ _ ⟨W.XB, z, d, _, W.den st hdx, hd, fun p hp => (W.next st).fresh hp, hq, fun r H2 rd ex hr q => ?_⟩
    have st2 : Step W c H2 := st.pure ex
    have hd' : Den G (W.next st2).XB H2 rd r := hr
    exact k1 _ H2 ((W.next st2).put i hd') (((Later.next st2).trans (Later.put _ i hd')).more (by omega)) q
/-- a value dropped -/
def sExpr (te : DT) : DS := fun ex de env => te ex env fun _ => de.nx env
theorem ds_expr {e : Expr} {pos : Pos} {c : Nat} {te : DT} (he : DE G E X c e te) (hs : swapsWith e none pos.line X.env = pure false := by rfl) : DSt G E X c (.Expr e pos) (sExpr te) :=
  impS (ps_expr he hs) fun Dn σ H h => by
    obtain ⟨W, hn, de, ht, k1, k2, k3, k4⟩ := h
    exact ⟨W, hn, _, ht, fun v H' d st hd hq => k1 _ H' (W.next st) (Later.next st) hq⟩

/-! ### the call of a def -/
/-- an exception of a callee reaches
  what this body wants of exceptions -/
theorem run_fnd {k : Nat} {f : Addr} {fd : FuncData} {ps : List Str} {cf : Nat} {S : FSpec} {pins : List (Addr × Obj)} {s : Shared} {Q' : VK} {us : List Value} {vs : List V} {hK : X.K = G.K}
    (F : FnD G X.prog X.w X.mg X.base k f fd ps cf S) (hr : Room k X.A) (hgd : X.A.guards = some []) (hx : Passes (L2.CX X.prog X.w) X E) (I : Inv X pins σ H s) (r : Vals vs us) (hl : vs.length = ps.length) (args : Args) (hb : BindsTo s fd args (ps.zip us))
    (h : liftF G cf S vs H Q' E) : codeAny (model X.prog X.w) X.A (.call (.ref f) args) (fun r s' => match r with
      | .ok (.ret v) => EP X pins σ Q' v s'
      | .ok _ => False
      | .error e => X.xe e s') s := by
  have e0 : Env0 X.prog X.w G.K X.mg X.base X.A X.stack s H := by rw [← hK]; exact I.env0
  refine codeAny_mono (F.run X.A X.stack s H args us vs Q' E hr hgd e0 hb r hl h) fun r s' hq => ?_
  cases r with
  | error e =>
    exact hx pins σ H s e s' I hq
  | ok fl =>
    cases fl with
    | ret u => exact I.after hq
    | next => exact hq.elim
    | brk => exact hq.elim
    | cont => exact hq.elim
end
end Kn

set_option Elab.async false
set_option linter.all false
set_option maxRecDepth 100000
set_option maxHeartbeats 2100000
namespace Kn
open PySem L2
open PyProof.Rows (envOfC)
section
variable {G : Gd} {E : XK} {X : Cx} {σ : List (Option V)} {H H' : Hp}

/-- from a body's state: what a callee of the promise S is handed -/
theorem lift_callee {W : Wd G E σ H} {c cf : Nat} {H1 : Hp} (st : Step W c H1) (hn : W.m + (c + cf) ≤ W.n) {S : FSpec} {ds : List D} {vs : List V} {Q : D → Prop} {Q' : VK} (hd : DenL G W.XB H1 ds vs) (hs : S ds Q W.ex)
    (k : ∀ v H' d, Step W (c + cf) H' → Den G W.XB H' d v → Q d → Q' v H') : liftF G cf S vs H1 Q' E := by
  refine ⟨W.u, W.n - c, W.XB, ds, Q, W.ex, W.ug, by omega, fun p e => ⟨.inl (W.hu p e).1, .inl (W.hu p e).2⟩, fun a ha z => (W.next st).fresh z ha, st.good, hd, hs, fun v H' d e g hd' q => ?_, fun x C d H' e g hx q => ?_⟩
  · exact k v H' d ⟨st.ext.trans e, by rw [Nat.sub_add_eq]; exact g⟩ hd' q
  · refine W.exc x C d H' ((W.fr.trans st.ext).trans e) (g.less (by omega)) ?_ q
    obtain ⟨e1, dd, xs, e2, nd, e3, e4, e5⟩ := hx
    exact ⟨e1, dd, xs, e2, fun z => nd (.inl z), e3, e4, e5.fewer fun b z => .inl z⟩

/-- what a def's body knows of where it stands -/
structure Xk (G : Gd) (E : XK) (k : Nat) (X : Cx) : Prop where
  K : X.K = G.K
  room : Room k X.A
  gd : X.A.guards = some []
  pass : Passes (L2.CX X.prog X.w) X E
  calm : X.calm = true
  tk : Takes X (fun cls d _ H => E cls d H)
theorem Xk.u (x : Xk G E k X) {n : Nat} (h : n ≤ 100 := by decide) : X.A.units + n < cLine := by have := x.room.un; omega
theorem Xk.u64 (x : Xk G E k X) : X.A.units + 64 < cLine := by have := x.room.un; omega
theorem Xk.u65 (x : Xk G E k X) : X.A.units + 65 < cLine := by have := x.room.un; omega

/-- the def x of the module, known by its promise -/
structure Fk (G : Gd) (P : Program) (w : World) (mg : Str → Option Value) (base : Heap) (k : Nat) (x : Str) (ps : List Str) (cf : Nat) (S : FSpec) : Prop where
  ex : ∃ (f : Addr) (fd : FuncData), FnD G P w mg base k f fd ps cf S ∧ mg x = some (.ref f) ∧ PySem.W.keepIn G.K (.ref f) = true ∧ Binds G.K fd ps []
def dCall (n : Nat) (S : FSpec) (u : DA) : DT := fun ex env Q => u ex env fun ds => ds.length = n ∧ S ds Q ex
theorem de_call {j k : Nat} {x : Str} {ps : List Str} {c cf : Nat} {S : FSpec} {e : Expr} {es : List Expr} {u : DA} {p pos : Pos} (F : Fk G X.prog X.w X.mg X.base j x ps cf S) (xk : Xk G E k X) (ha : DEs G E X c (e :: es) u) (hj : j ≤ k := by decide) (hg : Gl X x := by rfl) (hdb : (x == ("__debug__" : Str)) = false := by decide)
    (he : starEach (e :: es) X.env = (false, eval e X.env) :: starEach es X.env := by rfl) (hpl : (backTo pos (starEach es X.env)).any (·.1) = false := by rfl) : DE G E X (c + cf) (.Call (.Name x p) (e :: es) [] pos) (dCall ps.length S u) := by
  obtain ⟨f, fd, hF0, hm, hk, hb⟩ := F.ex
  have hF := hF0.mono hj
  rw [← xk.K] at hk hb
  refine ⟨fun pins s σ H Q' I h => ?_⟩
  obtain ⟨W, hn, Q, ht, kk⟩ := h
  have args := ha.run pos pins s σ H (fun vs H1 => vs.length = ps.length ∧ liftF G cf S vs H1 Q' E) I ⟨W, by omega, _, ht, fun vs H1 ds st hd ⟨hl, hs⟩ => ⟨by rw [← hd.length]; exact hl, lift_callee st hn hd hs kk⟩⟩
  refine wpAny_Call_Name_kw (ld_glob I hg hm ?_ hdb); refine PySem.W.callWith_K (h₀ := X.base) I.ok.mod.kin hk (thn args ?_) he hpl
  intro us s1 ⟨vs, H1, I1, r1, hl, q1⟩
  refine ⟨I1.kIn, wpAny_call ?_⟩
  have hb' : BindsTo s1 fd ⟨us, []⟩ (ps.zip us) := by
    have z := hb s1 us I1.kIn (by rw [List.append_nil, ← r1.length]; exact hl)
    rw [List.append_nil] at z
    exact z
  exact run_fnd (hK := xk.K) hF xk.room xk.gd xk.pass I1 r1 hl _ hb' q1
/-- f() -/
theorem de_call0 {j k : Nat} {x : Str} {cf : Nat} {S : FSpec} {p pos : Pos} (F : Fk G X.prog X.w X.mg X.base j x [] cf S) (xk : Xk G E k X) (hj : j ≤ k := by decide) (hg : Gl X x := by rfl) (hdb : (x == ("__debug__" : Str)) = false := by decide) :
    DE G E X cf (.Call (.Name x p) [] [] pos) (dCall 0 S aNil) := by
  obtain ⟨f, fd, hF0, hm, hk, hb⟩ := F.ex
  have hF := hF0.mono hj
  rw [← xk.K] at hk hb
  refine ⟨fun pins s σ H Q' I h => ?_⟩
  obtain ⟨W, hn, Q, ⟨_, hs⟩, kk⟩ := h
  refine wpAny_Call_Name_kw (ld_glob I hg hm ?_ hdb); refine PySem.W.callWith_K0 I.kIn hk (wpAny_call ?_)
  have q1 : liftF G cf S [] H Q' E := lift_callee (ds := []) (vs := []) (Step.refl W) (by omega) (show DenL G W.XB H [] [] from rfl) hs (by rw [Nat.zero_add]; exact kk)
  exact run_fnd (hK := xk.K) (ps := []) hF xk.room xk.gd xk.pass I .nil rfl _ (hb s [] I.kIn rfl) q1
/-- f(e, .., k = v, ..): perm puts the given values in the parameters' order -/
abbrev DK (G : Gd) (E : XK) (X : Cx) (c : Nat) (kws : List Keyword) (t : DA) : Prop := PK X kws (liftA G E c t)
theorem dk_nil : DK G E X 0 [] aNil := ⟨fun pos pins s σ H Q' I h => pk_nil.run pos pins s σ H Q' I (by
  obtain ⟨W, hn, Q, ht, k⟩ := h
  exact k [] H [] (Step.refl W) rfl ht)⟩
theorem dk_cons {e : Expr} {kws : List Keyword} {nm : Option Str} {kpos : Pos} {c d : Nat} {t : DT} {u : DA} (he : DE G E X c e t) (hr : DK G E X d kws u) : DK G E X (c + d) (⟨nm, e, kpos⟩ :: kws) (aCons t u) :=
  ⟨fun pos pins s σ H Q' I h => (pk_cons (nm := nm) he hr).run pos pins s σ H Q' I (by
    obtain ⟨W, hn, Q, ht, k⟩ := h
    refine ⟨W, by omega, _, ht, fun v H1 d1 st hd hq => ⟨W.next st, by show W.m + d ≤ W.n - c; omega, _, hq, fun vs H2 ds st2 hds q => ?_⟩⟩
    exact k (v :: vs) H2 (d1 :: ds) (st.trans st2) ⟨v, vs, rfl, (W.next st).den st2 hd, hds⟩ q)⟩
end
end Kn

set_option Elab.async false
set_option linter.all false
set_option maxRecDepth 100000
set_option maxHeartbeats 2100000
namespace Kn
open PySem L2 RZ
open PyProof.Rows (envOfC)
section
variable {G : Gd} {E : XK} {X : Cx} {σ : List (Option V)} {H H' : Hp} {tg : Expr}

/-! ### what is walked -/
/-- J walks the values ds, whatever is done beside them -/
structure Walks (G : Gd) (B : Addr → Prop) (H1 : Hp) (J : It) (ds : List D) : Prop where
  len : ds.length ≤ sizeLine
  go : ∀ (i : Nat) (H' : Hp) (B' : Addr → Prop), (∀ b o, ¬ B b → H1 b = some o → H' b = some o) → (∀ b, B' b → B b ∨ H1 b = none) → (∀ p, H' p = none → ¬ B' p) → i < ds.length →
    J.go i H' ∧ ∀ x H'', J.yld i H' x H'' → Ext none H' H'' ∧ ∃ d, ds[i]? = some d ∧ Den G B' H'' d x
  stop : ∀ (i : Nat) (H' : Hp), (∀ b o, ¬ B b → H1 b = some o → H' b = some o) → i = ds.length → J.stop i H'
def liftI (G : Gd) (E : XK) (c : Nat) (ti : DA) : TI := fun σ H R => ∃ W : Wd G E σ H, W.m + c ≤ W.n ∧ ∃ Q, ti W.ex W.env Q ∧ ∀ J H1 ds, Step W c H1 → Walks G W.XB H1 J ds → Q ds → R J H1
abbrev DI (G : Gd) (E : XK) (X : Cx) (tg : Expr) (c : Nat) (it : Expr) (ti : DA) : Prop := PI X tg it (liftI G E c ti)
theorem impI {it : Expr} {t t' : TI} (h : PI X tg it t) (i : ∀ σ H R, t' σ H R → t σ H R) : PI X tg it t' := ⟨fun pins s σ H R I q => h.run pins s σ H R I (i σ H R q)⟩
/-- a list or a tuple -/
def iSeq (te : DT) : DA := fun ex env Q => te ex env fun d => match d with
  | .lst ds => Q ds
  | .tup ds => Q ds
  | _ => False
def iSq (K : PySem.W.Frag) (tl : TE) : TI := fun σ H R => tl σ H fun x H1 => ∃ a, x = .ref a ∧ (((∃ xs, SqL K H1 a xs) ∧ R (Itl K a) H1) ∨ ((∃ xs, SqT K H1 a xs) ∧ R (Itt K a) H1))
theorem pi_sq {l : Expr} {tl : TE} (hl : PE X l tl) : PI X tg l (iSq X.K tl) := by
  constructor
  intro pins s σ H R I h
  refine thn (hl.run pins s σ H _ I h) ?_
  rintro v s1 ⟨x, H1, I1, r1, a, rfl, q1⟩
  cases r1
  have fp : ∀ b ∈ [s1.heap.objs.size], FpOk X pins H1 b := by
    intro b hb
    rw [List.mem_singleton.mp hb]; exact I1.fpOk (Nat.le_refl _) (I1.hok.fresh (Nat.le_refl _))
  have kept : ∀ {ob : Obj} {tk : Nat}, L2.Inv X pins σ H1 { s1 with heap := s1.heap.push ob, toks := tk } := fun {ob tk} => I1.kept (t' := tk) fun b o e => Heap.get?_push_of_some _ e
  rcases q1 with ⟨⟨xs, hq⟩, q⟩ | ⟨⟨xs, hq⟩, q⟩
  · obtain ⟨its, rv, p, hz⟩ := I1.list hq
    exact wpAny_pyIter_list p.isList ⟨s1.heap.objs.size, [s1.heap.objs.size], _, Itl X.K a, H1, rfl, kept, turn_list a _, ⟨_, Heap.get?_push_size _ rfl, rfl, rfl⟩, fp, q⟩
  · obtain ⟨its, rv, p, hz⟩ := I1.tuple hq
    have p' : s1.heap.IsTuple a its.toArray := p
    exact wpAny_pyIter_tuple p' ⟨s1.heap.objs.size, [s1.heap.objs.size], _, Itt X.K a, H1, rfl, kept, turn_tuple a _, ⟨_, Heap.get?_push_size _ rfl, rfl, rfl⟩, fp, q⟩
theorem keep_sqT {K : PySem.W.Frag} {B : Addr → Prop} {H1 H' : Hp} {a : Addr} {xs : List V} (k : ∀ b o, ¬ B b → H1 b = some o → H' b = some o) (na : ¬ B a ∨ KTup K a xs) (h : SqT K H1 a xs) : SqT K H' a xs := by
  rcases na with na | na
  case inr => exact .inr na
  rcases h with (h
    | ⟨o, h⟩) | h
  · exact .inl (.inl (k _ _ na h))
  · exact .inl (.inr ⟨o, k _ _ na h⟩)
  · exact .inr h
theorem walks_lst {B : Addr → Prop} {H1 : Hp} {a : Addr} {xs : List V} {ds : List D} (na : ¬ B a) (ha : H1 a = some (.lst xs)) (hl : xs.length ≤ sizeLine) (hd : DenL G B H1 ds xs) : Walks G B H1 (Itl G.K a) ds := by
  have e := hd.length
  refine ⟨by omega, fun i H' B' k s hf hi => ?_, fun i H' k hi => ⟨xs, SqL.of (k _ _ na ha), by omega⟩⟩
  have ha' := k _ _ na ha
  refine ⟨⟨xs, xs[i], SqL.of ha', List.getElem?_eq_getElem (by omega)⟩, fun x H'' y => ?_⟩
  obtain ⟨rfl, y⟩ := y
  obtain ⟨d, h1, h2⟩ := hd.getV (y xs (SqL.of ha'))
  exact ⟨Ext.refl _ _, d, h1, Den.keep k s d x h2⟩
theorem walks_tup {B : Addr → Prop} {H1 : Hp} {a : Addr} {xs : List V} {ds : List D} (na : ¬ B a ∨ KTup G.K a xs) (ha : SqT G.K H1 a xs) (hl : xs.length ≤ sizeLine) (hd : DenL G B H1 ds xs) : Walks G B H1 (Itt G.K a) ds := by
  have e := hd.length
  refine ⟨by omega, fun i H' B' k s hf hi => ?_, fun i H' k hi => ⟨xs, keep_sqT k na ha, by omega⟩⟩
  have ha' := keep_sqT k na ha
  refine ⟨⟨xs, xs[i], ha', List.getElem?_eq_getElem (by omega)⟩, fun x H'' y => ?_⟩
  obtain ⟨rfl, y⟩ := y
  obtain ⟨d, h1, h2⟩ := hd.getV (y xs ha')
  exact ⟨Ext.refl _ _, d, h1, Den.keep k s d x h2⟩
theorem di_seq {l : Expr} {c : Nat} {te : DT} (hK : X.K = G.K) (hl : DE G E X c l te) : DI G E X tg c l (iSeq te) := impI (pi_sq hl) fun σ H R h => by
  obtain ⟨W, hn, Q, ht, k⟩ := h
  refine ⟨W, hn, _, ht, fun v H1 d st hd hq => ?_⟩
  cases d <;> try exact hq.elim
  · rename_i ds
    obtain ⟨a, xs, rfl, na, ha, la, da⟩ := hd
    exact ⟨a, rfl, .inl ⟨⟨xs, SqL.of ha⟩, by rw [hK]; exact k _ H1 ds st (walks_lst na ha la da) hq⟩⟩
  · rename_i ds
    obtain ⟨a, xs, rfl, na, ha, la, da⟩ := hd
    exact ⟨a, rfl, .inr ⟨⟨xs, by rw [hK]; exact ha⟩, by rw [hK]; exact k _ H1 ds st (walks_tup na ha la da) hq⟩⟩
/-- range(n), range(a, b) -/
def rangeD (lo : Int) (n : Nat) : List D := (List.range n).map fun (i : Nat) => D.int (lo + (i : Int))
theorem walks_rng {B : Addr → Prop} {H1 : Hp} {lo : Int} {n : Nat} (hl : n ≤ sizeLine) : Walks G B H1 (Itr lo n) (rangeD lo n) := by
  have e : (rangeD lo n).length = n := by simp [rangeD]
  refine ⟨by omega, fun i H' B' k s hf hi => ⟨by show i < n; omega, fun x H'' y => ?_⟩, fun i H' k hi => by show n ≤ i; omega⟩
  obtain ⟨rfl, rfl⟩ := y
  refine ⟨Ext.refl _ _, .int (lo + i), ?_, den_int _⟩
  rw [e] at hi
  simp [rangeD, hi]
def iRange1 (u : DA) : DA := fun ex env Q => u ex env fun ds => ∃ j : Int, ds = [.int j] ∧ j ≤ 16777216 ∧ -(2 ^ 62) ≤ j ∧ Q (rangeD 0 j.toNat)
def iRange2 (u : DA) : DA := fun ex env Q => u ex env fun ds => ∃ i j : Int, ds = [.int i, .int j] ∧ j - i ≤ 16777216 ∧ -(2 ^ 62) ≤ i ∧ i < 2 ^ 62 ∧ -(2 ^ 62) ≤ j ∧ j < 2 ^ 62 ∧ Q (rangeD i (j - i).toNat)
theorem di_range1 {a : Expr} {c : Nat} {u : DA} {p pos : Pos} (hm : X.mg "range" = none) (ha : DEs G E X c [a] u) (hg : Gl X "range" := by rfl) (hs : starEach [a] X.env = [(false, eval a X.env)] := by rfl) : DI G E X tg c (.Call (.Name "range" p) [a] [] pos) (iRange1 u) :=
  impI (pi_range1 hg hm ha hs) fun σ H R h => by
    obtain ⟨W, hn, Q, ht, k⟩ := h
    refine ⟨W, hn, _, ht, fun vs H1 ds st hd ⟨j, e, h1, h2, hq⟩ => ?_⟩
    subst e
    obtain ⟨x, rfl, hx⟩ := denL1 hd
    cases hx
    have hs := sizeLine_eq
    exact ⟨j, rfl, h2, by omega, k _ H1 _ st (walks_rng (by omega)) hq⟩
theorem di_range2 {a b : Expr} {c : Nat} {u : DA} {p pos : Pos} (hm : X.mg "range" = none) (ha : DEs G E X c [a, b] u) (hg : Gl X "range" := by rfl) (hs : starEach [a, b] X.env = [(false, eval a X.env), (false, eval b X.env)] := by rfl)
    (hs2 : starEach [b] X.env = [(false, eval b X.env)] := by rfl) : DI G E X tg c (.Call (.Name "range" p) [a, b] [] pos) (iRange2 u) :=
  impI (pi_range2 hg hm ha hs hs2) fun σ H R h => by
    obtain ⟨W, hn, Q, ht, k⟩ := h
    refine ⟨W, hn, _, ht, fun vs H1 ds st hd ⟨i, j, e, h0, h1, h2, h3, h4, hq⟩ => ?_⟩
    subst e
    obtain ⟨x, y, rfl, hx, hy⟩ := denL2 hd
    cases hx; cases hy
    have hs := sizeLine_eq
    exact ⟨i, j, rfl, ⟨h1, h2, h3, h4⟩, k _ H1 _ st (walks_rng (by omega)) hq⟩
/-- zip of two lists, of two tuples -/
def zipD : List D → List D → List D
  | a :: as, b :: bs => .tup [a, b] :: zipD as bs
  | _, _ => []
theorem zipD_len : ∀ as bs : List D, (zipD as bs).length = min as.length bs.length
  | [], _ => by simp [zipD]
  | _ :: _, [] => by simp [zipD]
  | a :: as, b :: bs => by simp only [zipD, List.length_cons, zipD_len as bs]; omega
theorem zipD_get : ∀ (as bs : List D) (i : Nat) (a b : D), as[i]? = some a → bs[i]? = some b → (zipD as bs)[i]? = some (.tup [a, b])
  | [], _, _, _, _, h, _ =>
    by simp at h
  | _ :: _, [], _, _, _, _, h =>
    by simp at h
  | a :: as, b :: bs, 0, _, _, h1, h2 => by simp at h1 h2; subst h1; subst h2; rfl
  | a :: as, b :: bs, i + 1, x, y, h1, h2 => zipD_get as bs i x y (by simpa using h1) (by simpa using h2)
theorem two_size : ([] : List V).length + 2 ≤ sizeLine := by rw [sizeLine_eq]; decide
theorem den_pair {B : Addr → Prop} {H : Hp} {T : Addr} {a b : D} {x y : V} (hT : H T = none) (nb : ¬ B T) (hx : Den G B H a x) (hy : Den G B H b y) : Den G B (upd H T (.tup [x, y])) (.tup [a, b]) (.ref T) :=
  den_tup hT nb two_size ⟨x, [y], rfl, hx, y, [], rfl, hy, rfl⟩
def zipG (ds : List D) (Q : List D → Prop) : Prop := match ds with
  | [.lst as, .lst bs] => Q (zipD as bs)
  | [.tup as, .tup bs] => Q (zipD as bs)
  | _ => False
theorem zip_cases {ds : List D} {Q : List D → Prop} (h : zipG ds Q) : (∃ as bs, ds = [.lst as, .lst bs] ∧ Q (zipD as bs)) ∨ ∃ as bs, ds = [.tup as, .tup bs] ∧ Q (zipD as bs) := by
  unfold zipG at h
  split at h
  · exact .inl ⟨_, _, rfl, h⟩
  · exact .inr ⟨_, _, rfl, h⟩
  · exact h.elim
theorem walks_zipL {B : Addr → Prop} {H1 : Hp} {a b : Addr} {xs ys : List V} {as bs : List D} (na : ¬ B a) (nb : ¬ B b) (ha : H1 a = some (.lst xs)) (hb : H1 b = some (.lst ys)) (la : xs.length ≤ sizeLine) (da : DenL G B H1 as xs) (db : DenL G B H1 bs ys) :
    Walks G B H1 (Itz G.K a b) (zipD as bs) := by
  have e1 := da.length
  have e2 := db.length
  have e3 := zipD_len as bs
  refine ⟨by omega, fun i H' B' k s hf hi => ?_, fun i H' k hi => ⟨xs, ys, SqL.of (k _ _ na ha), SqL.of (k _ _ nb hb), by omega⟩⟩
  have ha' := k _ _ na ha
  have hb' := k _ _ nb hb
  refine ⟨⟨xs, ys, xs[i], ys[i], SqL.of ha', SqL.of hb', List.getElem?_eq_getElem (by omega), List.getElem?_eq_getElem (by omega)⟩, fun x H'' yl => ?_⟩
  obtain ⟨T, x1, y1, rfl, hT, rfl, f1, f2⟩ := yl
  obtain ⟨d, g1, g2⟩ := da.getV (f1 xs (SqL.of ha'))
  obtain ⟨d2, g3, g4⟩ := db.getV (f2 ys (SqL.of hb'))
  exact ⟨Ext.new hT, _, zipD_get as bs i d d2 g1 g3, den_pair hT (hf T hT) (Den.keep k s d x1 g2) (Den.keep k s d2 y1 g4)⟩
theorem walks_zipT {B : Addr → Prop} {H1 : Hp} {a b : Addr} {xs ys : List V} {as bs : List D} (na : ¬ B a ∨ KTup G.K a xs) (nb : ¬ B b ∨ KTup G.K b ys) (ha : SqT G.K H1 a xs) (hb : SqT G.K H1 b ys) (la : xs.length ≤ sizeLine) (da : DenL G B H1 as xs) (db : DenL G B H1 bs ys) :
    Walks G B H1 (ItzT G.K a b) (zipD as bs) := by
  have e1 := da.length
  have e2 := db.length
  have e3 := zipD_len as bs
  refine ⟨by omega, fun i H' B' k s hf hi => ?_, fun i H' k hi => ⟨xs, ys, keep_sqT k na ha, keep_sqT k nb hb, by omega⟩⟩
  have ha' := keep_sqT k na ha
  have hb' := keep_sqT k nb hb
  refine ⟨⟨xs, ys, xs[i], ys[i], ha', hb', List.getElem?_eq_getElem (by omega), List.getElem?_eq_getElem (by omega)⟩, fun x H'' yl => ?_⟩
  obtain ⟨T, x1, y1, rfl, hT, rfl, f1, f2⟩ := yl
  obtain ⟨d, g1, g2⟩ := da.getV (f1 xs ha')
  obtain ⟨d2, g3, g4⟩ := db.getV (f2 ys hb')
  exact ⟨Ext.new hT, _, zipD_get as bs i d d2 g1 g3, den_pair hT (hf T hT) (Den.keep k s d x1 g2) (Den.keep k s d2 y1 g4)⟩
def iZip (u : DA) : DA := fun ex env Q => u ex env fun ds => zipG ds Q
theorem di_zip {e e2 : Expr} {c : Nat} {u : DA} {p pos tpos : Pos} {elts : List Expr} {kk : Nat} (hK : X.K = G.K) (hm : X.mg "zip" = none) (ha : DEs G E X c [e, e2] u) (hg : Gl X "zip" := by rfl)
    (hs : starEach [e, e2] X.env = (false, eval e X.env) :: starEach [e2] X.env := by rfl) (hpl : (backTo pos (starEach [e2] X.env)).any (·.1) = false := by rfl) : DI G E X (.Tuple elts kk tpos) c (.Call (.Name "zip" p) [e, e2] [] pos) (iZip u) :=
  impI (pi_zipA hg hm ha hs hpl) fun σ H R h => by
    obtain ⟨W, hn, Q, ht, k⟩ := h
    refine ⟨W, hn, _, ht, fun vs H1 ds st hd hq => ?_⟩
    rcases zip_cases hq with ⟨as, bs, rfl, hq⟩ | ⟨as, bs, rfl, hq⟩
    ·
      obtain ⟨x, y, rfl, hx, hy⟩ := denL2 hd
      obtain ⟨a, xs, rfl, na, ha, la, da⟩ := hx
      obtain ⟨b, ys, rfl, nb, hb, lb, db⟩ := hy
      exact ⟨a, b, xs, ys, rfl, .inl ⟨SqL.of ha, SqL.of hb, by rw [hK]; exact k _ H1 _ st (walks_zipL na nb ha hb la da db) hq⟩⟩
    ·
      obtain ⟨x, y, rfl, hx, hy⟩ := denL2 hd
      obtain ⟨a, xs, rfl, na, ha, la, da⟩ := hx
      obtain ⟨b, ys, rfl, nb, hb, lb, db⟩ := hy
      exact ⟨a, b, xs, ys, rfl, .inr ⟨by rw [hK]; exact ha, by rw [hK]; exact hb, by rw [hK]; exact k _ H1 _ st (walks_zipT na nb ha hb la da db) hq⟩⟩
end
end Kn

set_option Elab.async false
set_option linter.all false
set_option maxRecDepth 100000
set_option maxHeartbeats 2100000
namespace Kn
open PySem L2 RZ
open PyProof.Rows (envOfC)
section
variable {G : Gd} {E : XK} {X : Cx} {σ : List (Option V)} {H H' : Hp} {tg : Expr}

/-! ### targets -/
abbrev DG := D → List Sl → (List Sl → Prop) → Prop
/-- nothing but slots changes; the state's other parts stay -/
structure Alike {σ σ' : List (Option V)} {H H' : Hp} (W : Wd G E σ H) (W' : Wd G E σ' H') : Prop where
  later : Later W 0 W'
  n : W'.n = W.n
def liftG (G : Gd) (E : XK) (sl : List Nat) (t : DG) : TG := fun v σ H Q' => ∃ (W : Wd G E σ H) (d : D) (Q : List Sl → Prop), Den G W.XB H d v ∧ t d W.env Q ∧ ∀ σ' (W' : Wd G E σ' H), Alike W W' → (∀ i, i ∉ sl → σ'[i]? = σ[i]?) ∧ σ'.length = σ.length → Q W'.env → Q' σ' H
abbrev DTg (G : Gd) (E : XK) (X : Cx) (tg : Expr) (sl : List Nat) (t : DG) : Prop := PG X tg (liftG G E sl t)
theorem impG {t t' : TG} (h : PG X tg t) (i : ∀ v σ H Q, t' v σ H Q → t v σ H Q) : PG X tg t' := ⟨fun pins s σ H v u Q I r q => h.run pins s σ H v u Q I r (i v σ H Q q)⟩
def tgName (i : Nat) : DG := fun d env Q => Q (env.set i (.val d))
theorem dg_name {i : Nat} {x : Str} {pos : Pos} (hN : X.N.Nodup) (hi : X.N[i]? = some x) (hx : Loc X.env.scope x) (hf : X.fn x = true ∨ X.env.scope.names.lookup x = some .local := by first | exact .inl rfl | exact .inr rfl | assumption) : DTg G E X (.Name x pos) [i] (tgName i) :=
  impG (pg_name hN hi hx hf) fun v σ H Q' h => by
    obtain ⟨W, d, Q, hd, ht, k⟩ := h
    exact k _ (W.put i hd) ⟨Later.put W i hd, rfl⟩ ⟨(fun j hj => List.getElem?_set_ne (fun z => hj (by rw [z]; exact List.mem_singleton_self _))), List.length_set⟩ ht
/-- a, b (names) of a pair -/
def tgTwo (i j : Nat) : DG := fun d env Q => match d with
  | .tup [a, b] => Q ((env.set i (.val a)).set j (.val b))
  | _ => False
theorem two_cases {i j : Nat} {d : D} {env : List Sl} {Q : List Sl → Prop} (h : tgTwo i j d env Q) : ∃ a b, d = .tup [a, b] ∧ Q ((env.set i (.val a)).set j (.val b)) := by
  unfold tgTwo at h
  split at h
  · exact ⟨_, _, rfl, h⟩
  · exact h.elim
theorem dg_two {i j : Nat} {x y : Str} {pos p1 p2 : Pos} {k : Nat} (hK : X.K = G.K) (hc : X.calm = true) (hN : X.N.Nodup) (hi : X.N[i]? = some x) (hx : Loc X.env.scope x) (hj : X.N[j]? = some y) (hy : Loc X.env.scope y)
    (h1 : PG X (.Name x p1) (gName i)) (h2 : PG X (.Name y p2) (gName j)) : DTg G E X (.Tuple [.Name x p1, .Name y p2] k pos) [i, j] (tgTwo i j) :=
  impG (pg_tup (n := 2) hc (pgs_cons h1 (pgs_cons h2 pgs_nil))) fun v σ H Q' h => by
    obtain ⟨W, d, Q, hd, ht, kk⟩ := h
    obtain ⟨a, b, rfl, ht⟩ := two_cases ht
    obtain ⟨p, xs, rfl, np, hp, lp, dl⟩ := hd
    obtain ⟨u, w, rfl, hu, hw⟩ := denL2 dl
    refine ⟨p, [u, w], rfl, by rw [hK]; exact hp, rfl, u, [w], rfl, w, [], rfl, rfl, ?_⟩
    have hu' : Den G W.XB H a u := hu
    have hw' : Den G (W.put i hu').XB H b w := hw.fewer fun b hb => xb_val W.len hb
    exact kk _ ((W.put i hu').put j hw') ⟨((Later.put W i hu').trans (Later.put _ j hw')).more (by omega), rfl⟩ ⟨(fun l hl => by
      rw [List.getElem?_set_ne (fun z => hl (by rw [← z]; simp)), List.getElem?_set_ne (fun z => hl (by rw [← z]; simp))]), by rw [List.length_set, List.length_set]⟩ ht

/-! ### for -/
def sForL (ex : Exc → Prop) (tg : DG) (tb : DS) (de : DEnds) : List D → List Sl → Prop
  | [], env => de.nx env
  | d :: ds, env => tg d env fun env2 => tb ex { de with nx := sForL ex tg tb de ds, ct := sForL ex tg tb de ds, bk := de.nx } env2
def sFor (ti : DA) (tg : DG) (tb : DS) : DS := fun ex de env => ti ex env fun ds => sForL ex tg tb de ds env
theorem drop_cons {α : Type} {l : List α} {i : Nat} {d : α} (h : l[i]? = some d) : l.drop i = d :: l.drop (i + 1) := by
  obtain ⟨hi, e⟩ := List.getElem?_eq_some_iff.mp h; rw [List.drop_eq_getElem_cons hi, e]
theorem ds_for {it : Expr} {body : List Stmt} {ci cb : Nat} {ti : DA} {t : DG} {tb : DS} {pos : Pos} (xk : Xk G E k X) (hp : PassesOwn (model X.prog X.w) X.A X.env X.xe) (hi : DI G E X tg ci it ti) {sl : List Nat} (hg : DTg G E X tg sl t) (hb : DSs G E X cb body tb)
    (hs : ∀ x, foldedSetIterable it X.env x = pure x := by intro _; rfl) : DSt G E X (ci + 16777216 * cb) (.For tg it body [] pos) (sFor ti t tb) :=
  impS (ps_for hp xk.calm hi hg hb hs) fun Dn σ H h => by
    obtain ⟨W, hn, de, ht, k1, k2, k3, k4⟩ := h
    refine ⟨W, by omega, _, ht, fun J H1 ds st wk hq => ?_⟩
    have hlen : ds.length ≤ 16777216 := by have := wk.len; rw [sizeLine_eq] at this; exact this
    let W1 := W.next st
    refine ⟨fun i m σ' H' => ∃ W' : Wd G E σ' H', Later W1 (i * cb) W' ∧ i ≤ ds.length ∧ m = ds.length - i ∧ sForL W.ex t tb de (ds.drop i) W'.env, ⟨ds.length, W1, (Later.refl W1).more (by omega), Nat.zero_le _, rfl, hq⟩, ?_⟩
    rintro i m σ' H' ⟨W', lt, hi', rfl, hq'⟩
    have lt0 : Later W (ci + i * cb) W' := (Later.next st).trans lt
    by_cases hlt : i < ds.length
    · obtain ⟨go, yl⟩ := wk.go i H' W'.XB lt.keep lt.xb (fun p hp => W'.fresh hp) hlt
      have hmul : (i + 1) * cb ≤ 16777216 * cb := Nat.mul_le_mul_right cb (by omega)
      have hmul2 : (i + 1) * cb = i * cb + cb := by rw [Nat.add_mul, Nat.one_mul]
      refine .inr ⟨go, fun σ2 H2 => ∃ W2 : Wd G E σ2 H2, Later W1 ((i + 1) * cb) W2 ∧ sForL W.ex t tb de (ds.drop (i + 1)) W2.env, fun σ2 H2 ⟨W2, l2, q2⟩ => ⟨ds.length - (i + 1), by omega, W2, l2, hlt, rfl, q2⟩, fun x H2 hy => ?_⟩
      obtain ⟨ex2, d, hd, hden⟩ := yl x H2 hy
      rw [drop_cons hd] at hq'
      have st2 : Step W' 0 H2 := (Step.refl W').pure ex2
      let W2 := W'.next st2
      refine ⟨W2, d, _, hden, hq', fun σ3 W3 al _ hq3 => ?_⟩
      have l3 : Later W1 (i * cb) W3 := ((lt.trans (Later.next st2)).trans al.later).more (by omega)
      have l03 : Later W (ci + i * cb) W3 := (Later.next st).trans l3
      refine ⟨W3, ?_, { de with nx := sForL W.ex t tb de (ds.drop (i + 1)), ct := sForL W.ex t tb de (ds.drop (i + 1)), bk := de.nx }, ?_, fun σ4 H4 W4 l4 q4 => ?_, fun v σ4 H4 W4 d4 l4 hd4 hr4 => ?_, fun σ4 H4 W4 l4 q4 => ?_, fun σ4 H4 W4 l4 q4 => ?_⟩
      · have := l03.n
        rw [l03.m]
        omega
      · rw [l03.ex]; exact hq3
      · exact ⟨W4, (l3.trans l4).more (by omega), q4⟩
      · refine k2 v σ4 H4 W4 d4 ((l03.trans l4).more (by omega)) (by rw [l03.B] at hd4; exact hd4) hr4
      · exact k1 σ4 H4 W4 ((l03.trans l4).more (by omega)) q4
      · exact ⟨W4, (l3.trans l4).more (by omega), q4⟩
    · have e : i = ds.length := by omega
      have hmul : i * cb ≤ 16777216 * cb := Nat.mul_le_mul_right cb (by omega)
      refine .inl ⟨wk.stop i H' lt.keep (by omega), ?_⟩
      rw [e, List.drop_length] at hq'
      exact k1 σ' H' W' (lt0.more (by omega)) hq'
end
end Kn

set_option Elab.async false
set_option linter.all false
set_option maxRecDepth 100000
set_option maxHeartbeats 2100000
namespace Kn
open PySem L2 RZ
open PyProof.Rows (envOfC)
section
variable {G : Gd} {E : XK} {X : Cx} {σ : List (Option V)} {H H' : Hp} {tg : Expr}

theorem wipe_get : ∀ (vs : List Nat) (i : Nat), (wipe σ vs)[i]? = if i ∈ vs ∧ i < σ.length then some none else σ[i]?
  | [], i => by simp [wipe]
  | v :: vs, i => by
    unfold wipe
    by_cases h : v = i
    · subst h
      by_cases hl : v < σ.length
      · rw [List.getElem?_set_self (by rw [wipe_length]; exact hl), if_pos ⟨List.mem_cons_self, hl⟩]
      · rw [List.getElem?_eq_none (by rw [List.length_set, wipe_length]; omega), if_neg (fun z => hl z.2), List.getElem?_eq_none (by omega)]
    · rw [List.getElem?_set_ne h, wipe_get vs i]
      have e : (i ∈ v :: vs) ↔ i ∈ vs := by simp [Ne.symm h]
      simp only [e]
theorem wipe_same {σ' : List (Option V)} {vs sl : List Nat} (hs : ∀ i ∈ sl, i ∈ vs) (h : ∀ i, i ∉ sl → σ'[i]? = (wipe σ vs)[i]?) (hl : σ'.length = σ.length) : wipe σ' vs = wipe σ vs := by
  apply List.ext_getElem?
  intro i
  rw [wipe_get, wipe_get]
  by_cases hi : i ∈ vs
  · by_cases h2 : i < σ.length
    · rw [if_pos ⟨hi, by omega⟩, if_pos ⟨hi, h2⟩]
    · rw [if_neg (fun z => h2 (by omega)), if_neg (fun z => h2 z.2), List.getElem?_eq_none (by omega), List.getElem?_eq_none (by omega)]
  · rw [if_neg (fun z => hi z.1), if_neg (fun z => hi z.1), h i (fun z => hi (hs i z)), wipe_get, if_neg (fun z => hi z.1)]

/-! ### comprehensions -/
def noOwn : Sl → Sl
  | .own _ _ => .emp
  | .slf _ _ _ _ => .emp
  | .obj _ _ => .emp
  | .dic _ _ _ => .emp
  | s => s
def wipeE (env : List Sl) : List Nat → List Sl
  | [] => env
  | v :: vs => (wipeE env vs).set v .emp
def inEnv (env : List Sl) (vs : List Nat) : List Sl := wipeE (env.map noOwn) vs
theorem wipeE_len (env : List Sl) : ∀ vs, (wipeE env vs).length = env.length
  | [] => rfl
  | v :: vs => by unfold wipeE; rw [List.length_set, wipeE_len env vs]
theorem inEnv_get {env : List Sl} {i : Nat} {s : Sl} : ∀ {vs : List Nat}, (wipeE (env.map noOwn) vs)[i]? = some s → s = .emp ∨ (i ∉ vs ∧ ∃ s', env[i]? = some s' ∧ s = noOwn s')
  | [], h => by
    unfold wipeE at h
    rw [List.getElem?_map] at h
    cases e : env[i]? with
    | none =>
      rw [e] at h; cases h
    | some s' => rw [e] at h; exact .inr ⟨by simp, s', rfl, (Option.some.inj h).symm⟩
  | v :: vs, h => by
    unfold wipeE at h
    by_cases hv : v = i
    · subst hv
      by_cases hl : v < (wipeE (env.map noOwn) vs).length
      · rw [List.getElem?_set_self hl] at h; exact .inl (Option.some.inj h).symm
      · rw [List.getElem?_eq_none (by rw [List.length_set]; omega)] at h; cases h
    · rw [List.getElem?_set_ne hv] at h
      rcases inEnv_get h with z | ⟨z, y⟩
      · exact .inl z
      · exact .inr ⟨by simp only [List.mem_cons, not_or]; exact ⟨fun q => hv q.symm, z⟩, y⟩
theorem inEnv_noown {env : List Sl} {vs : List Nat} {i : Nat} {s : Sl} (h : (inEnv env vs)[i]? = some s) (hm : s.mine = true) : False := by
  rcases inEnv_get h with z | ⟨_, s', _, z⟩
  · subst z; cases hm
  · subst z; cases s' <;> cases hm
theorem xb_in {B : Addr → Prop} {env : List Sl} {vs : List Nat} {τ : List (Option V)} {a : Addr} (h : XBof B (inEnv env vs) τ a) : B a := by
  rcases h with h | ⟨i, s, h1, hm, _⟩
  · exact h
  · exact (inEnv_noown h1 hm).elim
/-- the state in which one item of a comprehension's new list at D is made -/
def Wd.inner (W : Wd G E σ H) {c : Nat} {H1 : Hp} (st : Step W c H1) (vs : List Nat) (Dn : Addr) (H2 : Hp) (n2 : Nat) (hD : H1 Dn = none) (hD2 : H2 Dn ≠ none) (k : ∀ b o, H1 b = some o → NU W.u b → H2 b = some o) (hg : Good W.u H2 n2) :
    Wd G E0 (wipe σ vs) H2 where
  u := W.u
  n := n2
  m := W.m
  B := fun a => W.XB a ∨ a = Dn
  H0 := H2
  env := inEnv W.env vs
  ex := fun _ => False
  ug := W.ug
  hu := fun p e => ⟨.inl (.inl (W.hu p e).1), .inl (.inl (W.hu p e).2)⟩
  hB := fun a ha z => by
    rcases ha with ha | rfl
    · cases q : H1 a with
      | none => exact (W.next st).fresh q ha
      | some o =>
        rcases NU.em (u := W.u) (b := a) with hu | ⟨r, hr, rfl⟩
        · rw [k a o q hu] at z; cases z
        · obtain ⟨⟨_, h1⟩, _⟩ := hg.there hr
          rw [h1] at z; cases z
    · exact hD2 z
  fr := Ext.refl _ _
  good := hg
  len := by unfold inEnv; rw [wipeE_len, List.length_map, wipe_length]; exact W.len
  sl := fun i s e => by
    rcases inEnv_get e with z | ⟨hi, s', h1, z⟩
    · subst z; trivial
    · subst z
      have so := (W.next st).sl i s' h1
      have ew : (wipe σ vs)[i]? = σ[i]? := by rw [wipe_get, if_neg (fun z => hi z.1)]
      rw [ew]
      cases s' with
      | emp => trivial
      | own a ds => trivial
      | slf a dx c ds => trivial
      | obj a o => trivial
      | dic a ks ds => trivial
      | val d =>
        obtain ⟨x, e1, e2⟩ := so
        refine ⟨x, e1, ?_⟩
        have e2' : Den G W.XB H1 d x := e2
        refine Den.keep (fun b o nb hb => k b o hb (W.nuX nb)) (fun b hb => ?_) d x e2'
        · rcases xb_in hb with q | rfl
          · exact .inl q
          · exact .inr hD
  nd := fun i j a s t h1 _ hm => (inEnv_noown h1 hm).elim
  exc := fun _ _ _ _ _ _ _ z => z.elim
end
end Kn

set_option Elab.async false
set_option linter.all false
set_option maxRecDepth 100000
set_option maxHeartbeats 2100000
namespace Kn
open PySem L2 RZ
open PyProof.Rows (envOfC)
section
variable {G : Gd} {E : XK} {X : Cx} {σ : List (Option V)} {H H' : Hp} {tg : Expr}

def noX : Exc → Prop := fun _ => False
def compL (tg : DG) (tt : DB) (te : DT) (Q : List D → Prop) (env : List Sl) : List D → List D → Prop
  | [], acc => Q acc
  | d :: ds, acc => tg d env fun env2 => tt noX env2 fun b => if b = true then te noX env2 fun y => compL tg tt te Q env ds (acc ++ [y]) else compL tg tt te Q env ds acc
def dComp (vs : List Nat) (ti : DA) (tg : DG) (tt : DB) (te : DT) : DT := fun ex env Q => ti ex env fun ds => compL tg tt te (fun rs => Q (.lst rs)) (inEnv env vs) ds []
def bYes : DB := fun _ _ Q => Q true
abbrev DTs (G : Gd) (X : Cx) (c : Nat) (ifs : List Expr) (t : DB) : Prop := PTs X ifs (liftB G E0 c t)
theorem dts_nil : DTs G X 0 [] bYes := ⟨fun pins s σ H Q I h => pts_nil.run pins s σ H Q I (by
  obtain ⟨W, hn, Q1, ht, k⟩ := h
  exact k true H (Step.refl W) ht)⟩
theorem dts_one {c : Expr} {n : Nat} {t : DB} (h : DPt G E0 X n c t) : DTs G X n [c] t := pts_one h

/-- what stands at D between two turns -/
structure AccAt (G : Gd) {E : XK} {σ : List (Option V)} {H : Hp} (W : Wd G E σ H) (H1 : Hp) (D0 : Addr) (b : Nat) (H2 : Hp) (acc : List D) : Prop where
  at_ : ∃ xs, H2 D0 = some (.lst xs) ∧ xs.length ≤ sizeLine ∧ DenL G (fun a => W.XB a ∨ a = D0) H2 acc xs
  keep : ∀ b o, H1 b = some o → NU W.u b → H2 b = some o
  good : Good W.u H2 b
theorem Good.upd {u : Option Ur} {H : Hp} {n : Nat} {p : Addr} {o : HO} (h : Good u H n) (hp : ∀ r, Pr u r → p ≠ r.1 ∧ p ≠ r.2) (hc : ∀ q, H p ≠ some (LamX.CodeO p q)) : Good u (L2.upd H p o) n := by
  cases u with
  | none => trivial
  | some r =>
    obtain ⟨⟨a, b⟩, T⟩ := r
    obtain ⟨⟨cells, k, r, h1, h2, h3⟩, t⟩ := h
    obtain ⟨n1, n2⟩ := hp (a, b) ⟨_, rfl, .inl rfl⟩
    refine ⟨⟨cells, k, r, by rw [upd_ne (Ne.symm n1)]; exact h1, by rw [upd_ne (Ne.symm n2)]; exact h2, h3⟩, fun x hx => ?_⟩
    obtain ⟨ps, e1, e2, e3⟩ := t x hx
    have n3 := (hp (x.1, x.1) ⟨_, rfl, .inr ⟨x, hx, rfl⟩⟩).1
    refine ⟨ps, by rw [upd_ne (Ne.symm n3)]; exact e1, e2, fun pos cv hcv => ?_⟩
    obtain ⟨c, e4, e5⟩ := e3 pos cv hcv
    refine ⟨c, e4, ?_⟩
    rw [upd_ne (fun z => hc x.2 (by rw [← z]; exact e5))]
    exact e5
theorem lift_comp {ci ce ct : Nat} {ti : DA} {t : DG} {tt : DB} {te : DT} {vs sl : List Nat} (hsl : ∀ i ∈ sl, i ∈ vs) {Q' : VK} (h : lift G E (ci + 16777216 * (ct + ce)) (dComp vs ti t tt te) σ H Q') :
    tLc (liftI G E ci ti) (liftG G E0 sl t) (liftB G E0 ct tt) (lift G E0 ce te) vs σ H Q' := by
  obtain ⟨W, hn, Q, ht, k⟩ := h
  refine ⟨W, by omega, _, ht, fun J H1 ds st wk hq => ?_⟩
  intro D0 hD
  have hlen : ds.length ≤ 16777216 := by have := wk.len; rw [sizeLine_eq] at this; exact this
  have fr0 : ¬ W.XB D0 := (W.next st).fresh hD
  refine ⟨fun i m H2 => ∃ acc, AccAt G W H1 D0 (W.n - ci - i * (ct + ce)) H2 acc ∧ acc.length ≤ i ∧ i ≤ ds.length ∧ m = ds.length - i ∧ compL t tt te (fun rs => Q (.lst rs)) (inEnv W.env vs) (ds.drop i) acc, ⟨ds.length, [], ⟨⟨[], upd_same, by simp, rfl⟩, fun b o hb _ => by rw [upd_ne (ne_of_none hb hD)]; exact hb, ?_⟩, Nat.le_refl _, Nat.zero_le _, rfl, hq⟩, ?_⟩
  · have g := st.good
    rw [Nat.zero_mul, Nat.sub_zero]
    exact g.ext (Ext.new hD)
  rintro i m H2 ⟨acc, A, hacc, hi, rfl, hq2⟩
  obtain ⟨xs, hxs, hxl, hxd⟩ := A.at_
  have keepX : ∀ b o, ¬ W.XB b → H1 b = some o → H2 b = some o := fun b o nb hb => A.keep b o hb (W.nuX nb)
  by_cases hlt : i < ds.length
  · have hmul : (i + 1) * (ct + ce) ≤ 16777216 * (ct + ce) := Nat.mul_le_mul_right _ (by omega)
    have hmul2 : (i + 1) * (ct + ce) = i * (ct + ce) + (ct + ce) := by rw [Nat.add_mul, Nat.one_mul]
    obtain ⟨go, yl⟩ := wk.go i H2 (fun a => W.XB a ∨ a = D0) keepX (fun b hb => by
      rcases hb with hb | rfl
      · exact .inl hb
      · exact .inr hD) (fun p hp hb => by
      rcases hb with hb | rfl
      · cases q : H1 p with
        | none => exact (W.next st).fresh q hb
        | some o =>
          rcases NU.em (u := W.u) (b := p) with hu | ⟨r, hr, rfl⟩
          · rw [A.keep p o q hu] at hp; cases hp
          · obtain ⟨⟨_, h1⟩, _⟩ := A.good.there hr
            rw [h1] at hp; cases hp
      · rw [hxs] at hp; cases hp) hlt
    refine .inr ⟨go, fun H5 => ∃ acc2, AccAt G W H1 D0 (W.n - ci - (i + 1) * (ct + ce)) H5 acc2 ∧ acc2.length ≤ i + 1 ∧ compL t tt te (fun rs => Q (.lst rs)) (inEnv W.env vs) (ds.drop (i + 1)) acc2,
      fun H5 ⟨acc2, a2, l2, q2⟩ => ⟨ds.length - (i + 1), by omega, acc2, a2, l2, hlt, rfl, q2⟩, fun x H3 hy => ?_⟩
    obtain ⟨ex2, d, hd, hden⟩ := yl x H3 hy
    rw [drop_cons hd] at hq2
    have hD3 : H3 D0 = some (.lst xs) := ex2 _ _ hxs NU.none
    let W3 : Wd G E0 (wipe σ vs) H3 := W.inner st vs D0 H3 (W.n - ci - i * (ct + ce)) hD (by rw [hD3]; simp) (fun b o hb nu => ex2 _ _ (A.keep b o hb nu) NU.none) (A.good.ext ex2)
    have hden3 : Den G W3.XB H3 d x := hden.fewer fun b hb => xb_in hb
    refine ⟨W3, d, _, hden3, hq2, fun σ4 W4 al hsl4 hq4 => ⟨wipe_same hsl hsl4.1 (by rw [hsl4.2, wipe_length]), ?_⟩⟩
    have l4 := al.later
    have n4 : W4.n = W.n - ci - i * (ct + ce) := al.n
    have m4 : W4.m = W.m := l4.m
    have u4 : W4.u = W.u := l4.u
    have b4 : ∀ a, (W.XB a ∨ a = D0) → W4.XB a := fun a ha => .inl (by rw [l4.B]; exact ha)
    have nu0 : NU W.u D0 := W.nuX fr0
    have k3 : ∀ b o, H1 b = some o → NU W.u b → H3 b = some o := fun b o hb nu => ex2 _ _ (A.keep b o hb nu) NU.none
    refine ⟨W4, by rw [n4, m4]; omega, _, by rw [l4.ex]; exact hq4, fun b H5 st5 hb => ?_⟩
    have e5 : Ext W.u H3 H5 := by have z := st5.ext; rw [u4] at z; exact z
    have g5 : Good W.u H5 (W.n - ci - i * (ct + ce) - ct) := by have z := st5.good; rw [u4, n4] at z; exact z
    cases b with
    | false =>
      refine ⟨acc, ⟨⟨xs, e5 _ _ hD3 nu0, hxl, ?_⟩, fun b o hb nu => e5 _ _ (k3 b o hb nu) nu, g5.less (by omega)⟩, by omega, hb⟩
      refine (hxd.ext (u := none) ex2 (fun _ z => z.none.elim)).ext e5 (fun p e => .inl (W.huX p e))
    | true =>
      refine ⟨W4.next st5, by show W4.m + ce ≤ W4.n - ct; rw [n4, m4]; omega, _, by rw [show (W4.next st5).ex = noX from l4.ex]; exact hb, fun y H6 e6 st6 hy6 hq6 => ?_⟩
      have x6 : Ext W.u H5 H6 := by have z := st6.ext; rw [show (W4.next st5).u = W.u from u4] at z; exact z
      have g6 : Good W.u H6 (W.n - ci - i * (ct + ce) - ct - ce) := by have z := st6.good; rw [show (W4.next st5).u = W.u from u4, show (W4.next st5).n = W4.n - ct from rfl, n4] at z; exact z
      have hD6 : H6 D0 = some (.lst xs) := x6 _ _ (e5 _ _ hD3 nu0) nu0
      have hxl2 : xs.length < sizeLine := by have := hxd.length; rw [sizeLine_eq]; omega
      have dacc : DenL G (fun a => W.XB a ∨ a = D0) H6 acc xs := ((hxd.ext (u := none) ex2 (fun _ z => z.none.elim)).ext e5 (fun p e => .inl (W.huX p e))).ext x6 (fun p e => .inl (W.huX p e))
      have dy : Den G (fun a => W.XB a ∨ a = D0) H6 e6 y := hy6.fewer b4
      have kk : ∀ b o, ¬ (W.XB b ∨ b = D0) → H6 b = some o → upd H6 D0 (.lst (xs ++ [y])) b = some o := fun b o nb hb => by rw [upd_ne (fun z => nb (.inr z))]; exact hb
      refine ⟨xs, hD6, hxl2, acc ++ [e6], ⟨⟨xs ++ [y], upd_same, by rw [List.length_append]; exact hxl2, ?_⟩, fun b o hb nu => ?_, ?_⟩, by rw [List.length_append]; simp; omega, hq6⟩
      · exact (DenL.keep kk (fun b hb => .inl hb) _ _ dacc).append ⟨y, [], rfl, Den.keep kk (fun b hb => .inl hb) _ _ dy, rfl⟩
      · rw [upd_ne (ne_of_none hb hD)]
        exact x6 _ _ (e5 _ _ (k3 b o hb nu) nu) nu
      · refine (g6.upd (fun p e => ⟨fun z => fr0 (by rw [show D0 = p.1 from z]; exact W.huX p e), fun z => fr0 (by rw [show D0 = p.2 from z]; exact .inl (W.hu p e).2)⟩) (fun φ z => by rw [hD6] at z; cases z)).less (by omega)
  · have e : i = ds.length := by omega
    have hmul : i * (ct + ce) ≤ 16777216 * (ct + ce) := Nat.mul_le_mul_right _ (by omega)
    rw [e, List.drop_length] at hq2
    refine .inl ⟨wk.stop i H2 keepX (by omega), k _ H2 (.lst acc) ⟨fun b o hb nu => A.keep b o (st.ext b o hb nu) nu, A.good.less (by omega)⟩ ⟨D0, xs, rfl, fr0, hxs, hxl, hxd.fewer fun b z => .inl z⟩ hq2⟩

theorem de_comp {elt iter : Expr} {ifs : List Expr} {scope : Scope} {own : List (Str × Nat)} {pos : Pos} {ci ce ct : Nat} {ti : DA} {t : DG} {tt : DB} {te : DT} {sl : List Nat} {k : Nat} (xk : Xk G E k X) (hN : X.N.Nodup) (hi : DI G E X tg ci iter ti) (ok : BlkOk X.N X.env.scope scope own)
    (hg : ∀ (s : Shared) (H : Hp) (C : Addr) (cl : List (Str × Addr)) (fp : List Addr), DTg G E0 (X.blk s H scope (compEnvC scope cl C X.env) fp) tg sl t) (ht : ∀ (s : Shared) (H : Hp) (C : Addr) (cl : List (Str × Addr)) (fp : List Addr), DTs G (X.blk s H scope (compEnvC scope cl C X.env) fp) ct ifs tt)
    (he : ∀ (s : Shared) (H : Hp) (C : Addr) (cl : List (Str × Addr)) (fp : List Addr), DE G E0 (X.blk s H scope (compEnvC scope cl C X.env) fp) ce elt te) (hsl : ∀ i ∈ sl, i ∈ own.map (·.2)) (hs : ∀ x, foldedSetIterable iter X.env x = pure x := by intro _; rfl) :
    DE G E X (ci + 16777216 * (ct + ce)) (.ListComp elt [⟨tg, iter, ifs, 0⟩] scope pos) (dComp (own.map (·.2)) ti t tt te) :=
  imp (pe_lc xk.calm hN hi ok hg ht he hs) fun _ _ _ h => lift_comp hsl h
/-- x = [..] -/
theorem ds_setComp {i : Nat} {y : Str} {py : Pos} {elt iter : Expr} {ifs : List Expr} {scope : Scope} {own : List (Str × Nat)} {pos spos : Pos} {ci ce ct : Nat} {ti : DA} {t : DG} {tt : DB} {te : DT} {sl : List Nat} {k : Nat} (xk : Xk G E k X) (hN : X.N.Nodup) (hy : X.N[i]? = some y) (hyl : X.env.scope.names.lookup y = some .local)
    (hsw : swapsWith (.ListComp elt [⟨tg, iter, ifs, 0⟩] scope pos) (some (.Name y py)) spos.line X.env = pure true) (hi : DI G E X tg ci iter ti) (ok : BlkOk X.N X.env.scope scope own)
    (hg : ∀ (s : Shared) (H : Hp) (C : Addr) (cl : List (Str × Addr)) (fp : List Addr), DTg G E0 (X.blk s H scope (compEnvC scope cl C X.env) fp) tg sl t) (ht : ∀ (s : Shared) (H : Hp) (C : Addr) (cl : List (Str × Addr)) (fp : List Addr), DTs G (X.blk s H scope (compEnvC scope cl C X.env) fp) ct ifs tt)
    (he : ∀ (s : Shared) (H : Hp) (C : Addr) (cl : List (Str × Addr)) (fp : List Addr), DE G E0 (X.blk s H scope (compEnvC scope cl C X.env) fp) ce elt te) (hsl : ∀ i ∈ sl, i ∈ own.map (·.2)) (hs : ∀ x, foldedSetIterable iter X.env x = pure x := by intro _; rfl) :
    DSt G E X (ci + 16777216 * (ct + ce)) (.Assign [.Name y py] (.ListComp elt [⟨tg, iter, ifs, 0⟩] scope pos) spos) (sSet i (dComp (own.map (·.2)) ti t tt te)) :=
  impS (ps_setLc xk.calm hN hy hyl hsw hi ok hg ht he hs) fun Dn σ H h => by
    obtain ⟨W, hn, de, hq, k1, k2, k3, k4⟩ := h
    refine lift_comp (Q' := fun v H' => gName i v σ H' Dn.nx) hsl ⟨W, hn, _, hq, fun v H' d st hd hr => ?_⟩
    have hd' : Den G (W.next st).XB H' d v := hd
    exact k1 _ H' ((W.next st).put i hd') (((Later.next st).trans (Later.put _ i hd')).more (by omega)) hr
end
end Kn

set_option Elab.async false
set_option linter.all false
set_option maxRecDepth 100000
set_option maxHeartbeats 2100000
namespace Kn
open PySem L2 RZ
open PyProof.Rows (envOfC)
section
variable {G : Gd} {E : XK} {X : Cx} {σ : List (Option V)} {H H' : Hp} {k : Nat}

/-- the field f is that of some class's things alone -/
structure FldOk (G : Gd) (f : Str) : Prop where
  ok : ∀ c, f ∈ G.fl c → Cls G.K (G.cl c) ∧ NoAttr G.K (G.cl c) f
theorem zip_lookup {f : Str} {v : V} : ∀ {ns : List Str} {xs : List V}, xs[ns.idxOf f]? = some v → f ∈ ns → (ns.zip xs).lookup f = some v
  | [], _, _, h => by simp at h
  | n :: ns, [], h, _ => by simp at h
  | n :: ns, x :: xs, h, hf => by
    by_cases e : n = f
    · subst e
      rw [List.idxOf_cons_self] at h
      have : x = v := by simpa using h
      subst this
      simp [List.lookup]
    · have e3 : (n == f) = false := beq_eq_false_iff_ne.mpr e
      rw [List.idxOf_cons, e3] at h
      have hf' : f ∈ ns := by
        rcases List.mem_cons.mp hf with z | z
        · exact absurd z.symm e
        · exact z
      have ih := zip_lookup (ns := ns) (xs := xs) (by simpa using h) hf'
      have e2 : (f == n) = false := beq_eq_false_iff_ne.mpr (Ne.symm e)
      simp only [List.zip_cons_cons, List.lookup, e2]
      exact ih
/-- o.f -/
def dFld (G : Gd) (f : Str) (te : DT) : DT := fun ex env Q => te ex env fun d => ∃ c ds x, d = .ins c ds ∧ f ∈ G.fl c ∧ ds[(G.fl c).idxOf f]? = some x ∧ Q x
theorem de_fld {e : Expr} {f : Str} {pos : Pos} {c : Nat} {te : DT} (hK : X.K = G.K) (fo : FldOk G f) (he : DE G E X c e te) (hb : attributeBase e f X.env (eval e X.env) = eval e X.env := by rfl) : DE G E X c (.Attribute e f pos) (dFld G f te) :=
  imp (pe_fld he hb) fun σ H Q' h => by
    obtain ⟨W, hn, Q, ht, kk⟩ := h
    refine ⟨W, hn, _, ht, fun v H1 d st hd ⟨c, ds, x, e, hf, hx, hq⟩ => ?_⟩
    subst e
    obtain ⟨a, dx, xs, rfl, na, ha, hl, hds⟩ := hd
    obtain ⟨y, hy, hdy⟩ := hds.get hx
    obtain ⟨h1, h2⟩ := fo.ok c hf
    exact ⟨a, G.cl c, dx, _, y, rfl, ha, by rw [hK]; exact h1, by rw [hK]; exact h2, zip_lookup hy hf, kk y H1 x st hdy hq⟩

/-! ### methods -/
structure Fm (G : Gd) (P : Program) (w : World) (mg : Str → Option Value) (base : Heap) (k : Nat) (c : Nat) (m : Str) (ps : List Str) (cf : Nat) (S : FSpec) : Prop where
  ex : ∃ (f : Addr) (fd : FuncData), FnD G P w mg base k f fd ps cf S ∧ Meth G.K (G.cl c) m f ∧ Cls G.K (G.cl c) ∧ Binds G.K fd ps [] ∧ m ∉ G.fl c
theorem zip_none {f : Str} : ∀ {ns : List Str} {xs : List V}, f ∉ ns → (ns.zip xs).lookup f = none
  | [], _, _ => rfl
  | n :: ns, [], _ => rfl
  | n :: ns, x :: xs, h => by
    have e2 : (f == n) = false := beq_eq_false_iff_ne.mpr (fun z => h (by rw [z]; exact List.mem_cons_self))
    simp only [List.zip_cons_cons, List.lookup, e2]
    exact zip_none fun z => h (List.mem_cons_of_mem _ z)
def dMeth (c n : Nat) (S : FSpec) (te : DT) (u : DA) : DT := fun ex env Q => te ex env fun d => ∃ ds, d = .ins c ds ∧ u ex env fun as => as.length + 1 = n ∧ S (.ins c ds :: as) Q ex
theorem lift_callee1 {W : Wd G E σ H} {c c2 cf : Nat} {H1 H2 : Hp} (st : Step W c H1) (st2 : Step (W.next st) c2 H2) (hn : W.m + (c + c2 + cf) ≤ W.n) {S : FSpec} {d : D} {v : V} {ds : List D} {vs : List V} {Q : D → Prop} {Q' : VK} (hd1 : Den G W.XB H1 d v) (hd : DenL G W.XB H2 ds vs) (hs : S (d :: ds) Q W.ex)
    (kk : ∀ v H' d, Step W (c + c2 + cf) H' → Den G W.XB H' d v → Q d → Q' v H') : liftF G cf S (v :: vs) H2 Q' E :=
  lift_callee (st.trans st2) hn (ds := d :: ds) ⟨v, vs, rfl, (W.next st).den st2 hd1, hd⟩ hs kk
theorem de_meth {j c ce ca cf : Nat} {m : Str} {ps : List Str} {S : FSpec} {o e : Expr} {es : List Expr} {te : DT} {u : DA} {pos apos : Pos} {pl : Sem Bool} (F : Fm G X.prog X.w X.mg X.base j c m ps cf S) (xk : Xk G E k X) (ho : DE G E X ce o te) (ha : DEs G E X ca (e :: es) u) (hj : j ≤ k := by decide)
    (hst : starEach (e :: es) X.env = (false, eval e X.env) :: starEach es X.env :=
      by rfl) (hpl : (backTo pos (starEach es X.env)).any (·.1) = false := by rfl)
    (ht : eval (.Call (.Attribute o m
      apos) (e :: es) [] pos) X.env = (do
        let ov ← eval o X.env
        standAt apos.atName
        let (f, first) ← holding
          [ov] (getMethod ov m pl)
        callWith pos f first (backTo pos (starEach (e :: es) X.env)) (backToKw pos (keywordEach [] X.env))) := by rfl) : DE G E X (ce + ca + cf) (.Call (.Attribute o m apos) (e :: es) [] pos) (dMeth c ps.length S te u) := by
  obtain ⟨f, fd, hF0, hM, hC, hb, hmf⟩ := F.ex
  have hF := hF0.mono hj
  rw [← xk.K] at hM hC hb
  constructor
  intro pins s σ H Q' I h
  obtain ⟨W, hn, Q, hte, kk⟩ := h
  have recv := ho.run pins s σ H (fun x H1 => ∃ a ds, x = .ref a ∧ ∃ dx fs, H1 a = some (.ins (G.cl c) dx fs) ∧ fs.lookup m = none ∧ liftA G E ca u σ H1 fun vs H2 => vs.length + 1 = ps.length ∧ liftF G cf S (.ref a :: vs) H2 Q' E ∧ ds = ds) I
    ⟨W, by omega, _, hte, fun v H1 d st hd ⟨ds, e1, hu⟩ => by
      subst e1
      have hd0 := hd
      obtain ⟨a, dx, xs, rfl, na, hat, hl, hds⟩ := hd
      refine ⟨a, ds, rfl, dx, _, hat, zip_none hmf, W.next st, by show W.m + ca ≤ W.n - ce; omega, _, hu, fun vs H2 as st2 has ⟨hlen, hs⟩ => ⟨by rw [← has.length]; exact hlen, ?_, rfl⟩⟩
      exact lift_callee1 st st2 hn hd0 has hs kk⟩
  refine PySem.W.methodCall_KW (pl := pl) (thn recv ?_) ht
  rintro uv s1 ⟨x, H1, I1, rx, a, ds, rfl, dx, fs, hat, hlk, q⟩
  cases rx
  refine getmeth_ok I1 hat hC hM hlk ?_
  refine PySem.W.callWith_K (first := [.ref a]) (h₀ := X.base) I.ok.mod.kin hM.kp (thn (ha.run pos pins s1 σ H1 _ I1 q) ?_) hst hpl
  rintro us s2 ⟨vs, H2, I2, r2, hl, q2, _⟩
  refine ⟨I2.kIn, wpAny_call ?_⟩
  have hb' : BindsTo s2 fd ⟨.ref a :: us, []⟩ (ps.zip (.ref a :: us)) := by
    have z := hb s2 (.ref a :: us) I2.kIn (by rw [List.append_nil, List.length_cons, ← r2.length]; exact hl)
    rw [List.append_nil] at z
    exact z
  exact run_fnd (hK := xk.K) (vs := .ref a :: vs) hF xk.room xk.gd xk.pass I2 (.cons rfl r2) hl _ hb' q2

/-! ### a new thing of an own class -/
/-- what its __init__ does: S says what comes of the arguments behind self -/
def liftN (G : Gd) (c cid : Nat) (S : FSpec) : Sp := fun vs H Q E => ∃ (u : Option Ur) (n : Nat) (B : Addr → Prop) (ds : List D) (R : D → Prop) (ex : Exc → Prop) (x dx : Addr) (vs' : List V),
  u = G.u ∧ vs = .ref x :: vs' ∧ H x = some (.ins (G.cl cid) dx []) ∧ x ≠ dx ∧ ¬ B x ∧ ¬ B dx ∧ (∀ p, Pr u p → x ≠ p.1 ∧ x ≠ p.2 ∧ dx ≠ p.1 ∧ dx ≠ p.2) ∧ c ≤ n ∧ (∀ p, Pr u p → B p.1 ∧ B p.2) ∧ (∀ a, B a → H a ≠ none) ∧ Good u H n ∧ DenL G (fun a => B a ∨ a = x ∨ a = dx) H ds vs' ∧ S ds R ex ∧
  (∀ H' xs ds', (∀ b o, H b = some o → b ≠ x → b ≠ dx → NU u b → H' b = some o) → Good u H' (n - c) → H' x = some (.ins (G.cl cid) dx ((G.fl cid).zip xs)) → xs.length = (G.fl cid).length → DenL G B H' ds' xs → R (.ins cid ds') → Q .non H') ∧
  (∀ y C d H', (∀ b o, H b = some o → b ≠ x → b ≠ dx → NU u b → H' b = some o) → Good u H' (n - c) → ExcIs G B H' y C d → ex y → E C d H')
structure InitD (G : Gd) (P : Program) (w : World) (mg : Str → Option Value) (base : Heap) (k : Nat) (f : Addr) (fd : FuncData) (ps : List Str) (c cid : Nat) (S : FSpec) : Prop where
  run : ∀ (A : Around) (outer : List Env) (s : Shared) (H : Hp) (args : Args) (us : List Value) (vs : List V) (Q : VK) (E : XK), Room k A → A.guards = some [] → Env0 P w G.K mg base A outer s H →
    BindsTo s fd args (ps.zip us) → Vals vs us → vs.length = ps.length → liftN G c cid S vs H Q E → codeAny (model P w) A (.call (.ref f) args) (CR (L2.CX P w) outer P w H s Q E) s
/-- the class x of the module, number cid -/
structure Fc (G : Gd) (P : Program) (w : World) (mg : Str → Option Value) (base : Heap) (k : Nat) (x : Str) (cid : Nat) (ps : List Str) (cf : Nat) (S : FSpec) : Prop where
  ex : ∃ (f : Addr) (fd : FuncData), InitD G P w mg base k f fd ps cf cid S ∧ mg x = some (.ref (G.cl cid)) ∧ Mk G.K (G.cl cid) f ∧ Binds G.K fd ps [] ∧ 0 < ps.length
theorem InitD.mono {P : Program} {w : World} {mg : Str → Option Value} {base : Heap} {j k : Nat} {f : Addr} {fd : FuncData} {ps : List Str} {c cid : Nat} {S : FSpec} (F : InitD G P w mg base j f fd ps c cid S) (h : j ≤ k) : InitD G P w mg base k f fd ps c cid S :=
  ⟨fun A outer s H args us vs Q E hr => F.run A outer s H args us vs Q E (hr.mono h)⟩
theorem guards_make {A : Around} {C : Addr} {us : List Value} {kw : List (Str × Value)} : (A.under (.builtin "type.__call__" ⟨.ref C :: us, kw⟩)).guards = A.guards := by
  first | rfl | simp [Around.under, Code.isGuard, guardIds]
theorem de_make {j : Nat} {x : Str} {cid : Nat} {ps : List Str} {c cf : Nat} {S : FSpec} {e : Expr} {es : List Expr} {u : DA} {p pos : Pos} (F : Fc G X.prog X.w X.mg X.base j x cid ps cf S) (xk : Xk G E k X) (ha : DEs G E X c (e :: es) u) (hj : j + 1 ≤ k := by decide) (hg : Gl X x := by rfl) (hdb : (x == ("__debug__" : Str)) = false := by decide)
    (he : starEach (e :: es) X.env = (false, eval e X.env) :: starEach es X.env := by rfl) (hpl : (backTo pos (starEach es X.env)).any (·.1) = false := by rfl) : DE G E X (c + cf) (.Call (.Name x p) (e :: es) [] pos) (dCall (ps.length - 1) S u) := by
  obtain ⟨f, fd, hF, hm, M, hb, hps⟩ := F.ex
  rw [← xk.K] at M hb
  have room1 : Room (j + 1) X.A := xk.room.mono hj
  constructor
  intro pins s σ H Q' I h
  obtain ⟨W, hn, Q, ht, kk⟩ := h
  have args := ha.run pos pins s σ H (fun vs H1 => vs.length = ps.length - 1 ∧ ∃ (st : Step W c H1) (ds : List D), DenL G W.XB H1 ds vs ∧ S ds Q W.ex) I ⟨W, by omega, _, ht, fun vs H1 ds st hd ⟨hl, hs⟩ => ⟨by rw [← hd.length]; exact hl, st, ds, hd, hs⟩⟩
  refine wpAny_Call_Name_kw (ld_glob I hg hm ?_ hdb); refine PySem.W.callWith_K (h₀ := X.base) I.ok.mod.kin M.kp (thn args ?_) he hpl
  rintro us s1 ⟨vs, H1, I1, r1, hl, st, ds, hd, hs⟩
  refine ⟨I1.kIn, ?_⟩
  have f0 : H1 s1.heap.objs.size = none := I1.hok.fresh (Nat.le_refl _)
  have f1 : H1 (s1.heap.objs.size + 1) = none := I1.hok.fresh (Nat.le_succ _)
  have I2 := Inv.made (C := G.cl cid) I1
  have nx : s1.heap.objs.size ≠ s1.heap.objs.size + 1 := Nat.ne_of_lt (Nat.lt_succ_self _)
  have W1 := W.next st
  have bnd : ∀ b o, H1 b = some o → upd (upd H1 s1.heap.objs.size (.own (s1.heap.objs.size + 1))) (s1.heap.objs.size + 1) (.ins (G.cl cid) s1.heap.objs.size []) b = some o := fun b o e => by
    rw [upd_ne (ne_of_none e f1), upd_ne (ne_of_none e f0)]; exact e
  have hs' : liftN G cf cid S (.ref (s1.heap.objs.size + 1) :: vs) (upd (upd H1 s1.heap.objs.size (.own (s1.heap.objs.size + 1))) (s1.heap.objs.size + 1) (.ins (G.cl cid) s1.heap.objs.size [])) (fun v H2 => v = .non ∧ Q' (.ref (s1.heap.objs.size + 1)) H2) E := by
    refine ⟨W.u, W.n - c, W.XB, ds, Q, W.ex, _, s1.heap.objs.size, vs, W.ug, rfl, upd_same, Ne.symm nx, (W.next st).fresh f1, (W.next st).fresh f0, fun p e => ?_, by omega, fun p e => ⟨.inl (W.hu p e).1, .inl (W.hu p e).2⟩, fun a ha z => ?_, ?_, ?_, hs, fun H' xs ds' kp g hx hl2 hd2 hr => ⟨rfl, ?_⟩, fun y C d H' kp g hx hy => ?_⟩
    · have n1 : ¬ W.XB (s1.heap.objs.size + 1) := (W.next st).fresh f1
      have n0 : ¬ W.XB s1.heap.objs.size := (W.next st).fresh f0
      exact ⟨fun z => n1 (by rw [z]; exact .inl (W.hu p e).1), fun z => n1 (by rw [z]; exact .inl (W.hu p e).2), fun z => n0 (by rw [z]; exact .inl (W.hu p e).1), fun z => n0 (by rw [z]; exact .inl (W.hu p e).2)⟩
    · cases q : H1 a with
      | none => exact (W.next st).fresh q ha
      | some o => rw [bnd a o q] at z; cases z
    · refine Good.ext st.good fun b o e _ => bnd b o e
    · refine DenL.keep (fun b o nb e => bnd b o e) (fun b hb => ?_) ds vs hd
      rcases hb with hb | rfl | rfl
      · exact .inl hb
      · exact .inr f1
      · exact .inr f0
    · refine kk _ H' (.ins cid ds') ⟨fun b o e nu => ?_, by rw [Nat.sub_add_eq]; exact g⟩ ⟨_, _, xs, rfl, (W.next st).fresh f1, hx, hl2, hd2⟩ hr
      have e1 := st.ext b o e nu
      exact kp b o (bnd b o e1) (ne_of_none e1 f1) (ne_of_none e1 f0) nu
    · refine W.exc y C d H' (fun b o e nu => ?_) (g.less (by omega)) ?_ hy
      · have e1 := (W.fr.trans st.ext) b o e nu
        exact kp b o (bnd b o e1) (ne_of_none e1 f1) (ne_of_none e1 f0) nu
      · obtain ⟨e1, dd, xs, e2, nd, e3, e4, e5⟩ := hx
        exact ⟨e1, dd, xs, e2, fun z => nd (.inl z), e3, e4, e5.fewer fun b z => .inl z⟩
  have hlen2 : (V.ref (s1.heap.objs.size + 1) :: vs).length = ps.length := by rw [List.length_cons, hl]; omega
  refine wpAny_call (make_map (f := f) I1.kIn M.makes M.init (beq_iff_eq.mp M.fn) (codeAny_mono (hF.run _ X.stack _ _ ⟨.ref (s1.heap.objs.size + 1) :: us, []⟩ (.ref (s1.heap.objs.size + 1) :: us) (.ref (s1.heap.objs.size + 1) :: vs) _ E (room1.make (G.cl cid) us []) (guards_make.trans xk.gd) (by rw [← xk.K]; exact I2.env0.make (G.cl cid) us []) ?_ (.cons rfl r1) hlen2 hs') ?_))
  · have z := hb { s1 with heap := (s1.heap.push PySem.W.emptyDict).push (PySem.W.instObj (G.cl cid) s1.heap.objs.size) } (.ref (s1.heap.objs.size + 1) :: us) I2.kIn (by rw [List.append_nil, List.length_cons, ← r1.length, hl]; omega)
    rw [List.append_nil] at z
    exact z
  · intro r s' hq
    cases r with
    | error e => exact xk.pass pins σ _ _ e s' I2 hq
    | ok fl =>
      cases fl with
      | ret u =>
        obtain ⟨v, H', I3, rv, ev, q3⟩ := I2.after hq
        subst ev
        exact ⟨rv, ⟨V.ref (s1.heap.objs.size + 1), H', I3, rfl, q3⟩⟩
      | next => exact hq.elim
      | brk => exact hq.elim
      | cont => exact hq.elim
end
end Kn

set_option Elab.async false
set_option linter.all false
set_option maxRecDepth 100000
set_option maxHeartbeats 2100000
namespace Kn
open PySem L2 RZ
open PyProof.Rows (envOfC)
section
variable {G : Gd} {E : XK} {X : Cx} {σ : List (Option V)} {H H' : Hp} {k : Nat}

/-- the slots at the entry of an __init__ -/
def envI (N : List Str) (x dx : Addr) (cid : Nat) (ds : List D) : List Sl := Sl.slf x dx cid [] :: (ds.map Sl.val ++ List.replicate (N.length - 1 - ds.length) Sl.emp)
theorem envI_get {N : List Str} {x dx : Addr} {cid : Nat} {ds : List D} {i : Nat} {s : Sl} (h : (envI N x dx cid ds)[i]? = some s) : (i = 0 ∧ s = .slf x dx cid []) ∨ (∃ j d, i = j + 1 ∧ ds[j]? = some d ∧ s = .val d) ∨ s = .emp := by
  unfold envI at h
  cases i with
  | zero => exact .inl ⟨rfl, (Option.some.inj h).symm⟩
  | succ j =>
    rw [List.getElem?_cons_succ] at h
    by_cases hi : j < ds.length
    · rw [List.getElem?_append_left (by simpa using hi), List.getElem?_map, List.getElem?_eq_getElem hi] at h
      exact .inr (.inl ⟨j, ds[j], rfl, List.getElem?_eq_getElem hi, (Option.some.inj h).symm⟩)
    · rw [List.getElem?_append_right (by simpa using hi), List.getElem?_replicate] at h
      split at h
      · exact .inr (.inr (Option.some.inj h).symm)
      · cases h
theorem wd_init {N : List Str} {vs : List V} {E : XK} {u : Option Ur} {n c cid : Nat} {B : Addr → Prop} {ds : List D} {ex : Exc → Prop} {x dx : Addr} (hN : vs.length + 1 ≤ N.length) (hug : u = G.u) (hx : H x = some (.ins (G.cl cid) dx [])) (nx : x ≠ dx) (bx : ¬ B x) (bdx : ¬ B dx)
    (hux : ∀ p, Pr u p → x ≠ p.1 ∧ x ≠ p.2 ∧ dx ≠ p.1 ∧ dx ≠ p.2) (hu : ∀ p, Pr u p → B p.1 ∧ B p.2) (hB : ∀ a, B a → H a ≠ none) (hg : Good u H n) (hd : DenL G (fun a => B a ∨ a = x ∨ a = dx) H ds vs)
    (hex : ∀ y C d H', (∀ b o, H b = some o → b ≠ x → b ≠ dx → NU u b → H' b = some o) → Good u H' (n - c) → ExcIs G B H' y C d → ex y → E C d H') :
    ∃ W : Wd G E (L2.start N (.ref x :: vs)) H, W.u = u ∧ W.n = n ∧ W.m = n - c ∧ W.B = B ∧ W.H0 = (fun b => if b = x ∨ b = dx then none else H b) ∧ W.env = envI N x dx cid ds ∧ W.ex = ex := by
  have hl := hd.length
  have h0 : ∀ b o, (if b = x ∨ b = dx then (none : Option HO) else H b) = some o → H b = some o ∧ b ≠ x ∧ b ≠ dx := fun b o e => by
    by_cases hb : b = x ∨ b = dx
    · rw [if_pos hb] at e; cases e
    · rw [if_neg hb] at e; exact ⟨e, fun z => hb (.inl z), fun z => hb (.inr z)⟩
  have hmine : ∀ {i : Nat} {s : Sl}, (envI N x dx cid ds)[i]? = some s → s.mine = true → i = 0 := fun {i s} e hm => by
    rcases envI_get e with ⟨z, _⟩ | ⟨_, _, _, _, rfl⟩ | rfl
    · exact z
    · cases hm
    · cases hm
  refine ⟨{ u := u, n := n, m := n - c, B := B, H0 := fun b => if b = x ∨ b = dx then none else H b, env := envI N x dx cid ds, ex := ex, ug := hug, hu := hu, hB := fun a ha z => ?_, fr := fun b o e _ => (h0 b o e).1, good := hg, len := ?_, sl := ?_, nd := ?_, exc := fun y C d H' e g hy hq => ?_ }, rfl, rfl, rfl, rfl, rfl, rfl, rfl⟩
  · rw [if_neg (fun q => q.elim (fun q => bx (q ▸ ha)) fun q => bdx (q ▸ ha))] at z
    exact hB a ha z
  · unfold envI L2.start
    simp only [List.length_append, List.length_map, List.length_replicate, List.length_cons]
    omega
  · intro i s e
    have sub : ∀ b, XBof B (envI N x dx cid ds) (L2.start N (.ref x :: vs)) b → B b ∨ b = x ∨ b = dx := fun b hb => by
      rcases hb with hb | ⟨j, t, e1, hm, e2⟩
      · exact .inl hb
      · have := hmine e1 hm
        subst this
        rw [start_get (i := 0) (v := .ref x) rfl] at e2
        cases e2
        exact .inr (.inl rfl)
    rcases envI_get e with ⟨rfl, rfl⟩ | ⟨j, d, rfl, hdj, rfl⟩ | rfl
    · refine ⟨[], by rw [start_get (i := 0) (v := .ref x) rfl]; rfl, if_pos (.inl rfl), by rw [List.zip_nil_right]; exact hx, Nat.zero_le _, rfl⟩
    · obtain ⟨y, hy, hdy⟩ := hd.get hdj
      exact ⟨y, by rw [start_get (i := j + 1) (v := y) (by simpa using hy)]; rfl, hdy.fewer sub⟩
    · trivial
  · intro i j a s t e1 e2 m1 m2 _ _
    rw [hmine e1 m1, hmine e2 m2]
  · exact hex y C d H' (fun b o hb n1 n2 nu => e b o (by show (if b = x ∨ b = dx then none else H b) = some o; rw [if_neg (fun q => q.elim n1 n2)]; exact hb) nu) g hy hq

/-- THE RULE for an __init__ that stores each field once, in order -/
theorem initd_of {P : Program} {w : World} {mg : Str → Option Value} {base : Heap} {f : Addr} {x qual : Str} {st : Stmt} {fd : FuncData} {N ps : List Str} {c cid : Nat} {S : FSpec} {ts : DS} (F : Fun G.K x qual st f fd) (Sc : FnScope N ps (defScope st))
    (hder : ∀ (cdv : Value) (A : Around) (outer : List Env) (s : Shared) (H : Hp) (E : XK), Room k (A.deeper (envOfC qual (defScope st) s.heap.objs.size f cdv)) → A.guards = some [] →
      DSs G E (cxOf (L2.CX P w) P w G.K mg base N qual (defScope st) f cdv A outer s H E) c (defBody st) ts)
    (hS : ∀ a dx ds R ex, ds.length + 1 = ps.length → S ds R ex → ts ex { nx := fun env => ∃ ds', env[0]? = some (.slf a dx cid ds') ∧ ds'.length = (G.fl cid).length ∧ R (.ins cid ds'), rt := fun _ _ => False } (envI N a dx cid ds)) : InitD G P w mg base (k + 1) f fd ps c cid S := by
  constructor
  intro A outer s H args us vs Q E hr hgd e0 hb rv hlen hsp
  obtain ⟨u, n, B, ds, R, ex, a, dx, vs', hug, rfl, hx, nx, bx, bdx, hux, hc, hu, hB, hg, hd, hs, hq, hex⟩ := hsp
  have hNl : vs'.length + 1 ≤ N.length := by
    have h1 := congrArg List.length Sc.pre
    rw [List.length_take] at h1
    rw [List.length_cons] at hlen
    omega
  obtain ⟨oc, od, kV, doc, pm, an, cdv, ct, osl, rfl, lk, hcd⟩ := F.ex; have KX : G.K.In s.heap := PySem.W.Frag.In.keeps e0.mod.kin (fun b o e => (e0.bs b o e).1)
  have nolim : s.heap.NoLimit := Heap.NoLimit.keeps e0.mod.nolimit (fun b o e => (e0.bs b o e).1)
  have kinds : ∀ y ∈ ps.zip us, (defScope st).names.lookup y.1 = some .local ∨
      ((defScope st).names.lookup y.1 = some .cell ∧ ((cellsFrom (s.heap.objs.size + 1) (defScope st).names []).lookup y.1).isSome = true) := by
    intro y hy
    obtain ⟨n1, v1⟩ := y
    rcases Sc.par n1 (List.of_mem_zip hy).1 with z | z
    · exact .inl z
    · exact .inr ⟨z, PySem.W.cellsFrom_some _ _ _ (.inl z)⟩
  refine codeAny_call_function hr.depth (KX _ _ lk) rfl Sc.co Sc.gen rfl (PySem.W.codeRec_of KX hcd) ?_
  refine hb _ _ _ _ (wpAny_newFunctionEnv_cells Sc.kind kinds ?_)
  intro env he s1 ic
  subst he
  refine ⟨nolim.keeps ic.toInCall.keep, codeAny_func ?_⟩
  have I : Inv (cxOf (L2.CX P w) P w G.K mg base N qual (defScope st) f cdv A outer s H E) [] (L2.start N (.ref a :: vs')) H s1 := inv_start Sc hr.hd e0 hlen rv ic
  have hds : ds.length + 1 = ps.length := by rw [hd.length]; simpa using hlen
  obtain ⟨W, w1, w2, w3, w4, w5, w6, w7⟩ := wd_init (N := N) (E := E) (c := c) hNl hug hx nx bx bdx hux hu hB hg hd hex
  have body := (hder cdv A outer s H E (hr.deeper _) hgd).run [] s1 (L2.start N (.ref a :: vs')) H { nx := fun _ H' => Q .non H', rt := Q } I (by
    refine ⟨W, by rw [w2, w3]; omega, _, by rw [w6, w7]; exact hS a dx ds R ex hds hs, ?_, ?_, ?_, ?_⟩
    · intro σ' H' W' lt ⟨ds', h1, h2, h3⟩
      obtain ⟨xs, ea, h0, ha, hlx, hdx⟩ := W'.sl 0 _ h1
      have hG : Good u H' (n - c) := by have z := W'.good; rw [lt.u, w1] at z; exact z.less (by have := lt.n; rw [w2] at this; omega)
      refine hq H' xs ds' (fun b o e n1 n2 nu => ?_) hG ha (by rw [← hdx.length]; exact h2) ?_ h3
      · have z := W'.fr b o (by rw [lt.H0, w5]; show (if b = a ∨ b = dx then none else H b) = some o; rw [if_neg (fun q => q.elim n1 n2)]; exact e)
        rw [lt.u, w1] at z
        exact z nu
      · refine hdx.fewer fun b hb => ?_
        exact .inl (by rw [lt.B, w4]; exact hb)
    · intro v σ' H' W' d lt hd' hr'; exact hr'.elim
    · intro σ' H' W' lt z; exact z.elim
    · intro σ' H' W' lt z; exact z.elim)
  refine wpAny_mono body ?_ (fun e s' hs => hs)
  intro fl s' hfl
  cases fl with
  | next => obtain ⟨σ', H', J, q⟩ := hfl; exact ⟨.non, H', J.os, J.bare, J.base, J.hok, rfl, q⟩
  | ret v' => obtain ⟨v, σ', H', J, r1, q⟩ := hfl; exact ⟨v, H', J.os, J.bare, J.base, J.hok, r1, q⟩
  | brk => obtain ⟨σ', H', J, q⟩ := hfl; exact q.elim
  | cont => obtain ⟨σ', H', J, q⟩ := hfl; exact q.elim

/-! ### self.f = e, the next field in order -/
theorem put_zip {f : Str} {v : V} : ∀ {ns : List Str} {xs : List V}, ns.Nodup → ns[xs.length]? = some f → putF f v (ns.zip xs) = ns.zip (xs ++ [v])
  | [], xs, _, h => by simp at h
  | n :: ns, [], _, h => by
    have e : n = f := by simpa using h
    subst e
    cases ns <;> rfl
  | n :: ns, x :: xs, nd, h => by
    have h' : ns[xs.length]? = some f := by simpa using h
    have hne : n ≠ f := fun z => (List.nodup_cons.mp nd).1 (by rw [z]; exact List.mem_of_getElem? h')
    show (if n = f then (n, v) :: ns.zip xs else (n, x) :: putF f v (ns.zip xs)) = _
    rw [if_neg hne, put_zip (List.nodup_cons.mp nd).2 h']
    rfl
def sFld (G : Gd) (i : Nat) (f : Str) (te : DT) : DS := fun ex de env => te ex env fun d => ∃ a dx c ds, env[i]? = some (.slf a dx c ds) ∧ (G.fl c)[ds.length]? = some f ∧ de.nx (env.set i (.slf a dx c (ds ++ [d])))
theorem join_some {α : Type} {l : List (Option α)} {i : Nat} {a : α} (h : l[i]?.join = some a) : l[i]? = some (some a) := by
  cases q : l[i]? with
  | none => rw [q] at h; cases h
  | some o => rw [q] at h; rw [show o = some a from h]
/-- the frame's own thing in slot i, at a, changes -/
theorem wd_mut (W : Wd G E σ H) {i : Nat} {a : Addr} {s0 s1 : Sl} {o1 : HO} (he : W.env[i]? = some s0) (hm : s0.mine = true) (hsi : σ[i]? = some (some (.ref a))) (hm1 : s1.mine = true) (ok : SlOk G W.H0 W.XB (L2.upd H a o1) s1 (some (.ref a))) :
    ∃ W' : Wd G E σ (L2.upd H a o1), Later W 0 W' ∧ W'.env = W.env.set i s1 ∧ W'.n = W.n := by
  have hil : i < W.env.length := (List.getElem?_eq_some_iff.mp he).1
  have xa : W.XB a := .inr ⟨i, _, he, hm, hsi⟩
  obtain ⟨h0, oa, hoa⟩ := W.mine_at he hm hsi
  have nB : ¬ W.B a := W.own_ne h0
  have xb : ∀ b, XBof W.B (W.env.set i s1) σ b → W.XB b := fun b hb => by
    rcases hb with hb | ⟨j, s, e1, m1, e2⟩
    · exact .inl hb
    · by_cases hj : i = j
      · subst hj
        exact .inr ⟨i, _, he, hm, e2⟩
      · rw [List.getElem?_set_ne hj] at e1
        exact .inr ⟨j, s, e1, m1, e2⟩
  have kd : ∀ b o, ¬ W.XB b → H b = some o → L2.upd H a o1 b = some o := fun b o nb e => by rw [upd_ne (show b ≠ a from fun z => nb (by rw [z]; exact xa))]; exact e
  have dk : ∀ {d : D} {v : V}, Den G W.XB H d v → Den G (XBof W.B (W.env.set i s1) σ) (L2.upd H a o1) d v := fun {d v} h => (Den.keep kd (fun b hb => .inl hb) d v h).fewer xb
  have dkl : ∀ {ds : List D} {xs : List V}, DenL G W.XB H ds xs → DenL G (XBof W.B (W.env.set i s1) σ) (L2.upd H a o1) ds xs := fun {ds xs} h => (DenL.keep kd (fun b hb => .inl hb) ds xs h).fewer xb
  refine ⟨{ u := W.u, n := W.n, m := W.m, B := W.B, H0 := W.H0, env := W.env.set i s1, ex := W.ex, ug := W.ug, hu := W.hu, hB := W.hB, fr := fun b o e nu => ?_, good := ?_, len := by rw [List.length_set]; exact W.len, sl := fun j s e => ?_, nd := fun j l b s t e1 e2 m1 m2 e3 e4 => ?_, exc := W.exc }, ⟨rfl, rfl, rfl, rfl, rfl, by show W.n ≤ W.n + 0; omega, kd, fun b hb => .inl (xb b hb)⟩, rfl, rfl⟩
  · rw [upd_ne (fun z => by rw [z, h0] at e; cases e)]
    exact W.fr b o e nu
  · exact W.good.upd (fun r e => ⟨fun z => nB (by rw [z]; exact (W.hu r e).1), fun z => nB (by rw [z]; exact (W.hu r e).2)⟩) (W.mine_nc he hm hsi)
  · by_cases hj : i = j
    · subst hj
      rw [List.getElem?_set_self hil] at e
      cases e
      rw [hsi]
      exact ok.fewer xb
    · rw [List.getElem?_set_ne hj] at e
      have z := W.sl j s e
      have ne : ∀ b, s.mine = true → σ[j]? = some (some (.ref b)) → b ≠ a := fun b ms hb q => by
        subst q
        exact hj (W.nd i j b s0 s he e hm ms hsi hb)
      cases s with
      | emp => trivial
      | val d => obtain ⟨x, e1, e2⟩ := z; exact ⟨x, e1, dk e2⟩
      | own b ds => obtain ⟨xs, e1, e2, e3, e4, e5⟩ := z; exact ⟨xs, e1, e2, by rw [upd_ne (ne b rfl (join_some e1))]; exact e3, e4, dkl e5⟩
      | slf b dx c ds => obtain ⟨xs, e1, e2, e3, e4, e5⟩ := z; exact ⟨xs, e1, e2, by rw [upd_ne (ne b rfl (join_some e1))]; exact e3, e4, dkl e5⟩
      | obj b o => obtain ⟨e1, e2, e3, e4⟩ := z; exact ⟨e1, e2, by rw [upd_ne (ne b rfl (join_some e1))]; exact e3, e4⟩
      | dic b ks es => obtain ⟨L, e1, e2, e3, e4, e5, e6⟩ := z; exact ⟨L, e1, e2, (by rw [upd_ne (ne b rfl (join_some e1))]; exact e3), e4, e5.by dk, dkl e6⟩
  · have old : ∀ {j : Nat} {s : Sl}, (W.env.set i s1)[j]? = some s → s.mine = true → ∃ s', W.env[j]? = some s' ∧ s'.mine = true := fun {j s} e ms => by
      by_cases hj : i = j
      · subst hj; exact ⟨s0, he, hm⟩
      · rw [List.getElem?_set_ne hj] at e; exact ⟨s, e, ms⟩
    obtain ⟨s', f1, f2⟩ := old e1 m1
    obtain ⟨t', f3, f4⟩ := old e2 m2
    exact W.nd j l b s' t' f1 f3 f2 f4 e3 e4
/-- what is not the frame's own stays when the frame's own thing at a changes -/
theorem mut_keep (W : Wd G E σ H) {i : Nat} {a : Addr} {s0 : Sl} {o1 : HO} (he : W.env[i]? = some s0) (hm : s0.mine = true) (hsi : σ[i]? = some (some (.ref a))) : ∀ b o, ¬ W.XB b → H b = some o → L2.upd H a o1 b = some o :=
  fun b o nb e => by rw [upd_ne (show b ≠ a from fun z => nb (by rw [z]; exact .inr ⟨i, _, he, hm, hsi⟩))]; exact e
theorem lift_slf {i : Nat} {W : Wd G E σ H} {a dx : Addr} {c : Nat} {ds : List D} (he : W.env[i]? = some (.slf a dx c ds)) : ∃ xs, σ[i]? = some (some (.ref a)) ∧ H a = some (.ins (G.cl c) dx ((G.fl c).zip xs)) ∧ xs.length ≤ (G.fl c).length ∧ DenL G W.XB H ds xs := by
  obtain ⟨xs, e1, e2, e3, e4, e5⟩ := W.sl i _ he
  exact ⟨xs, join_some e1, e3, e4, e5⟩
theorem ds_fld {i : Nat} {x f : Str} {e : Expr} {pos pos' p : Pos} {c : Nat} {te : DT} (hK : X.K = G.K) (fo : FldOk G f) (nd : ∀ c, (G.fl c).Nodup) (sm : ∀ c, (G.fl c).length ≤ 100) (hN : X.N[i]? = some x) (he : DE G E X c e te) (hv : Vis X.env.scope x := by first | exact Or.inl rfl | exact Or.inr (Or.inl rfl) | exact Or.inr (Or.inr rfl))
    (hs : swapsWith e (some (.Attribute (.Name x p) f pos')) pos.line X.env = pure false := by rfl) (hd : (x == ("__debug__" : Str)) = false := by decide) (hcd : (x == ("__classdict__" : Str)) = false := by decide) : DSt G E X c (.Assign [.Attribute (.Name x p) f pos'] e pos) (sFld G i f te) :=
  impS (ps_fld (pe_var (i := i) hN hv hd hcd) he hs) fun Dn σ H h => by
    obtain ⟨W, hn, de, ht, k1, k2, k3, k4⟩ := h
    refine ⟨W, hn, _, ht, fun v H' d st hd' ⟨a, dx, cc, ds, hei, hf, hq⟩ => ?_⟩
    obtain ⟨xs, hsi, ha, hl, hxs⟩ := lift_slf (W := W.next st) hei
    have hfm : f ∈ G.fl cc := List.mem_of_getElem? hf
    obtain ⟨o1, o2⟩ := fo.ok cc hfm
    have el := hxs.length
    have hlt : xs.length < (G.fl cc).length := by rw [← el]; exact (List.getElem?_eq_some_iff.mp hf).1
    refine ⟨.ref a, hsi, a, G.cl cc, dx, _, rfl, ha, by rw [hK]; exact o1, by rw [hK]; exact o2, by rw [List.length_zip]; have := sm cc; omega, ?_⟩
    have hpz : putF f v ((G.fl cc).zip xs) = (G.fl cc).zip (xs ++ [v]) := put_zip (nd cc) (by rw [← el]; exact hf)
    rw [hpz]
    have kp := mut_keep (o1 := .ins (G.cl cc) dx ((G.fl cc).zip (xs ++ [v]))) (W.next st) hei rfl hsi
    obtain ⟨W', l1, l2, l3⟩ := wd_mut (o1 := .ins (G.cl cc) dx ((G.fl cc).zip (xs ++ [v]))) (s1 := .slf a dx cc (ds ++ [d])) (W.next st) hei rfl hsi rfl
      ⟨xs ++ [v], rfl, ((W.next st).mine_at hei rfl hsi).1, upd_same, by rw [List.length_append]; exact hlt, (DenL.keep kp (fun b hb => .inl hb) _ _ hxs).append ⟨v, [], rfl, Den.keep kp (fun b hb => .inl hb) _ _ hd', rfl⟩⟩
    exact k1 σ _ W' (((Later.next st).trans l1).more (by omega)) (by rw [l2]; exact hq)
end
end Kn

set_option Elab.async false
set_option linter.all false
set_option maxRecDepth 100000
set_option maxHeartbeats 2100000
namespace Kn
open PySem L2 RZ
open PyProof.Rows (envOfC)
section
variable {G : Gd} {E : XK} {X : Cx} {σ : List (Option V)} {H H' : Hp} {k : Nat}

/-- slot i holds a new list that nothing else holds -/
theorem wd_own (W : Wd G E σ H) {c : Nat} {H2 : Hp} (st : Step W c H2) {i : Nat} {p : Addr} {xs : List V} {ds : List D} (hp : H p = none) (h2 : H2 p = some (.lst xs)) (hl : xs.length ≤ sizeLine) (hd : DenL G (fun a => W.XB a ∨ a = p) H2 ds xs) :
    ∃ W' : Wd G E (σ.set i (some (.ref p))) H2, Later W c W' ∧ W'.env = W.env.set i (.own p ds) := by
  have fr0 : ¬ W.XB p := W.fresh hp
  have h0 : W.H0 p = none := by
    cases q : W.H0 p with
    | none => rfl
    | some o =>
      exfalso
      rw [W.fr p o q (W.nuX fr0)] at hp; cases hp
  let W1 := W.next st
  have npo : ∀ {j : Nat} {s : Sl} {b : Addr}, W.env[j]? = some s → s.mine = true → σ[j]? = some (some (.ref b)) → b ≠ p := fun {j s b} e hm es z => by
    obtain ⟨_, o, ho⟩ := W.mine_at e hm es
    rw [z, hp] at ho; cases ho
  have xb : ∀ b, XBof W.B (W.env.set i (.own p ds)) (σ.set i (some (.ref p))) b → W.XB b ∨ b = p := fun b hb => by
    rcases hb with hb | ⟨j, s, e1, m1, e2⟩
    · exact .inl (.inl hb)
    · by_cases hj : i = j
      · subst hj
        by_cases hi : i < σ.length
        · rw [List.getElem?_set_self hi] at e2; cases e2; exact .inr rfl
        · rw [List.getElem?_eq_none (by rw [List.length_set]; omega)] at e2; cases e2
      · rw [List.getElem?_set_ne hj] at e1 e2
        exact .inl (.inr ⟨j, s, e1, m1, e2⟩)
  have dk : ∀ {d : D} {v : V}, Den G W.XB H d v → Den G (XBof W.B (W.env.set i (.own p ds)) (σ.set i (some (.ref p)))) H2 d v := fun {d v} h =>
    Den.keep (fun b o nb e => st.keep nb e) (fun b hb => (xb b hb).imp id fun z => by rw [z]; exact hp) d v h
  have dkl : ∀ {es : List D} {ys : List V}, DenL G W.XB H es ys → DenL G (XBof W.B (W.env.set i (.own p ds)) (σ.set i (some (.ref p)))) H2 es ys := fun {es ys} h =>
    DenL.keep (fun b o nb e => st.keep nb e) (fun b hb => (xb b hb).imp id fun z => by rw [z]; exact hp) es ys h
  have own_st : ∀ {j : Nat} {s : Sl} {b : Addr} {o : HO}, W.env[j]? = some s → s.mine = true → σ[j]? = some (some (.ref b)) → H b = some o → H2 b = some o := fun {j s b o} e hm es ho => st.ext b o ho (W.nu (W.mine_at e hm es).1)
  refine ⟨{ u := W.u, n := W.n - c, m := W.m, B := W.B, H0 := W.H0, env := W.env.set i (.own p ds), ex := W.ex, ug := W.ug, hu := W.hu, hB := W.hB, fr := W.fr.trans st.ext, good := st.good, len := by rw [List.length_set, List.length_set]; exact W.len, sl := fun j s e => ?_, nd := fun j l b s t e1 e2 m1 m2 e3 e4 => ?_, exc := W.exc },
    ⟨rfl, rfl, rfl, rfl, rfl, by show W.n ≤ W.n - c + c; omega, fun b o nb e => st.keep nb e, fun b hb => (xb b hb).imp id fun z => by rw [z]; exact hp⟩, rfl⟩
  · by_cases hj : i = j
    · subst hj
      by_cases hi : i < W.env.length
      · rw [List.getElem?_set_self hi] at e
        cases e
        rw [getD_set, if_pos ⟨rfl, by rw [← W.len]; exact hi⟩]
        exact ⟨xs, rfl, h0, h2, hl, hd.fewer xb⟩
      · rw [List.getElem?_eq_none (by simpa using hi)] at e; cases e
    · rw [List.getElem?_set_ne hj] at e
      rw [getD_set, if_neg (fun z => hj z.1)]
      have z := W.sl j s e
      cases s with
      | emp => trivial
      | val d => obtain ⟨x, e1, e2⟩ := z; exact ⟨x, e1, dk e2⟩
      | own b es => obtain ⟨ys, e1, e2, e3, e4, e5⟩ := z; exact ⟨ys, e1, e2, own_st e rfl (join_some e1) e3, e4, dkl e5⟩
      | slf b dx cc es => obtain ⟨ys, e1, e2, e3, e4, e5⟩ := z; exact ⟨ys, e1, e2, own_st e rfl (join_some e1) e3, e4, dkl e5⟩
      | obj b o => obtain ⟨e1, e2, e3, e4⟩ := z; exact ⟨e1, e2, own_st e rfl (join_some e1) e3, e4⟩
      | dic b ks es => obtain ⟨L, e1, e2, e3, e4, e5, e6⟩ := z; exact ⟨L, e1, e2, own_st e rfl (join_some e1) e3, e4, e5.by dk, dkl e6⟩
  · by_cases hj : i = j
    · by_cases hlk : i = l
      · exact hj.symm.trans hlk
      · subst hj
        exfalso
        rw [List.getElem?_set_ne hlk] at e2 e4
        have hi : i < σ.length := by
          by_cases q : i < σ.length
          · exact q
          · rw [List.getElem?_eq_none (by rw [List.length_set]; omega)] at e3; cases e3
        rw [List.getElem?_set_self hi] at e3
        cases e3
        exact npo e2 m2 e4 rfl
    · rw [List.getElem?_set_ne hj] at e1 e3
      by_cases hlk : i = l
      · subst hlk
        exfalso
        have hi : i < σ.length := by
          by_cases q : i < σ.length
          · exact q
          · rw [List.getElem?_eq_none (by rw [List.length_set]; omega)] at e4; cases e4
        rw [List.getElem?_set_self hi] at e4
        cases e4
        exact npo e1 m1 e3 rfl
      · rw [List.getElem?_set_ne hlk] at e2 e4
        exact W.nd j l b s t e1 e2 m1 m2 e3 e4

/-- an expression that makes a new list -/
def liftFr (G : Gd) (E : XK) (c : Nat) (t : DA) : TE := fun σ H Q' => ∃ W : Wd G E σ H, W.m + c ≤ W.n ∧ ∃ Q, t W.ex W.env Q ∧
  ∀ p H' ds xs, Step W c H' → H p = none → H' p = some (.lst xs) → xs.length ≤ sizeLine → DenL G (fun a => W.XB a ∨ a = p) H' ds xs → Q ds → Q' (.ref p) H'
abbrev DF (G : Gd) (E : XK) (X : Cx) (c : Nat) (e : Expr) (t : DA) : Prop := PE X e (liftFr G E c t)
def fLst (u : DA) : DA := fun ex env Q => u ex env fun ds => ds.length ≤ sizeLine ∧ Q ds
theorem df_lst {es : List Expr} {pos : Pos} {c : Nat} {u : DA} (h : DEs G E X c es u) : DF G E X c (.List es pos) (fLst u) := imp (pe_lst h) fun σ H Q' h => by
  obtain ⟨W, hn, Q, ht, kk⟩ := h
  refine ⟨W, hn, _, ht, fun vs H1 ds st hd ⟨hl, hq⟩ => ⟨by rw [← hd.length]; exact hl, fun p hp => ?_⟩⟩
  have hp0 : H p = none := by
    cases q : H p with
    | none => rfl
    | some o =>
      exfalso
      rw [st.ext p o q (W.nuX ((W.next st).fresh hp))] at hp; cases hp
  refine kk p _ ds vs (st.new hp) hp0 upd_same (by rw [← hd.length]; exact hl) ?_ hq
  exact DenL.keep (fun b o nb e => by rw [upd_ne (ne_of_none e hp)]; exact e) (fun b hb => hb.imp id fun z => by rw [z]; exact hp) ds vs hd
def fList (te : DT) : DA := fun ex env Q => te ex env fun d => match d with
  | .lst ds => Q ds
  | .tup ds => Q ds
  | _ => False
def sOwn (i : Nat) (t : DA) : DS := fun ex de env => t ex env fun ds => ∀ a, de.nx (env.set i (.own a ds))
theorem ds_own {i : Nat} {x : Str} {e : Expr} {pos pos' : Pos} {c : Nat} {t : DA} (hN : X.N.Nodup) (hi : X.N[i]? = some x) (hx : Loc X.env.scope x) (he : DF G E X c e t) (hs : swapsWith e (some (.Name x pos')) pos.line X.env = pure false := by rfl)
    (hf : X.fn x = true ∨ X.env.scope.names.lookup x = some .local := by first | exact .inl rfl | exact .inr rfl) : DSt G E X c (.Assign [.Name x pos'] e pos) (sOwn i t) :=
  impS (ps_set hN hi hx he hs hf) fun Dn σ H h => by
    obtain ⟨W, hn, de, ht, k1, k2, k3, k4⟩ := h
    refine ⟨W, hn, _, ht, fun p H' ds xs st hp h2 hl hd hq => ?_⟩
    obtain ⟨W', l1, l2⟩ := wd_own W st (i := i) hp h2 hl hd
    exact k1 _ H' W' l1 (by rw [l2]; exact hq p)
/-- from here on the list in slot i stays as it is -/
def sFreeze (i : Nat) (t : DS) : DS := fun ex de env => ∃ a ds, env[i]? = some (.own a ds) ∧ t ex de (env.set i (.val (.lst ds)))
theorem ds_freeze {i : Nat} {sts : List Stmt} {c : Nat} {t : DS} (h : DSs G E X c sts t) : DSs G E X c sts (sFreeze i t) := impSs h fun Dn σ H h => by
  obtain ⟨W, hn, de, ⟨a, ds, he, ht⟩, k1, k2, k3, k4⟩ := h
  obtain ⟨xs, e1, h0, ha, hl, hd⟩ := W.sl i _ he
  have hsi := join_some e1
  have hil : i < W.env.length := (List.getElem?_eq_some_iff.mp he).1
  have xb : ∀ b, XBof W.B (W.env.set i (.val (.lst ds))) σ b → W.XB b ∧ b ≠ a := fun b hb => by
    rcases hb with hb | ⟨j, s, f1, m1, f2⟩
    · exact ⟨.inl hb, fun z => W.own_ne h0 (by rw [← z]; exact hb)⟩
    · by_cases hj : i = j
      · subst hj
        rw [List.getElem?_set_self hil] at f1; cases f1; cases m1
      · rw [List.getElem?_set_ne hj] at f1
        exact ⟨.inr ⟨j, s, f1, m1, f2⟩, fun z => hj (W.nd i j a _ s he f1 rfl m1 hsi (by rw [← z]; exact f2))⟩
  have key : ∃ W' : Wd G E σ H, Later W 0 W' ∧ W'.env = W.env.set i (.val (.lst ds)) ∧ W'.n = W.n := by
    refine ⟨{ u := W.u, n := W.n, m := W.m, B := W.B, H0 := W.H0, env := W.env.set i (.val (.lst ds)), ex := W.ex, ug := W.ug, hu := W.hu, hB := W.hB, fr := W.fr, good := W.good, len := by rw [List.length_set]; exact W.len, sl := fun j s e => ?_, nd := fun j l b s t f1 f2 m1 m2 f3 f4 => ?_, exc := W.exc },
      ⟨rfl, rfl, rfl, rfl, rfl, by show W.n ≤ W.n + 0; omega, fun _ _ _ h => h, fun b hb => .inl (xb b hb).1⟩, rfl, rfl⟩
    · by_cases hj : i = j
      · subst hj
        rw [List.getElem?_set_self hil] at e
        cases e
        exact ⟨.ref a, e1, a, xs, rfl, fun z => (xb a z).2 rfl, ha, hl, hd.fewer fun b hb => (xb b hb).1⟩
      · rw [List.getElem?_set_ne hj] at e
        exact (W.sl j s e).fewer fun b hb => (xb b hb).1
    · have old : ∀ {j : Nat} {s : Sl}, (W.env.set i (.val (.lst ds)))[j]? = some s → s.mine = true → W.env[j]? = some s := fun {j s} f m => by
        by_cases hj : i = j
        · subst hj; rw [List.getElem?_set_self hil] at f; cases f; cases m
        · rw [List.getElem?_set_ne hj] at f; exact f
      exact W.nd j l b s t (old f1 m1) (old f2 m2) m1 m2 f3 f4
  obtain ⟨W', lt, we, wn⟩ := key
  refine ⟨W', by rw [lt.m, wn]; exact hn, de, by rw [lt.ex, we]; exact ht, fun σ' H' W2 l2 q => k1 σ' H' W2 ((lt.trans l2).more (by omega)) q, fun v σ2 H' W2 d l2 hd hr => k2 v σ2 H' W2 d ((lt.trans l2).more (by omega)) (by rw [lt.B] at hd; exact hd) hr, fun σ' H' W2 l2 q => k3 σ' H' W2 ((lt.trans l2).more (by omega)) q, fun σ' H' W2 l2 q => k4 σ' H' W2 ((lt.trans l2).more (by omega)) q⟩

/-! ### the frame's own list changes -/
theorem lift_own {i : Nat} {W : Wd G E σ H} {ds : List D} {a : Addr} (he : W.env[i]? = some (.own a ds)) : ∃ xs, σ[i]? = some (some (.ref a)) ∧ W.H0 a = none ∧ H a = some (.lst xs) ∧ xs.length ≤ sizeLine ∧ DenL G W.XB H ds xs := by
  obtain ⟨xs, e1, e2, e3, e4, e5⟩ := W.sl i _ he
  exact ⟨xs, join_some e1, e2, e3, e4, e5⟩
theorem own_step {W : Wd G E σ H} {c : Nat} {H1 : Hp} (st : Step W c H1) {i : Nat} {a : Addr} {xs ys : List V} {ds es : List D} (he : W.env[i]? = some (.own a ds)) (hsi : σ[i]? = some (some (.ref a))) (h0 : W.H0 a = none) (hl : ys.length ≤ sizeLine) (hd : DenL G W.XB H1 es ys) :
    ∃ W' : Wd G E σ (L2.upd H1 a (.lst ys)), Later W c W' ∧ W'.env = W.env.set i (.own a es) := by
  have he' : (W.next st).env[i]? = some (.own a ds) := he
  have kp := mut_keep (o1 := .lst ys) (W.next st) he' rfl hsi
  obtain ⟨W', l1, l2, l3⟩ := wd_mut (o1 := .lst ys) (s1 := .own a es) (W.next st) he' rfl hsi rfl ⟨ys, rfl, h0, upd_same, hl, DenL.keep kp (fun b hb => .inl hb) es ys hd⟩
  exact ⟨W', ((Later.next st).trans l1).more (by omega), l2⟩
/-- x.append(e) -/
def sApp (i : Nat) (te : DT) : DS := fun ex de env => ∃ a ds, env[i]? = some (.own a ds) ∧ te ex env fun d => ds.length < sizeLine ∧ de.nx (env.set i (.own a (ds ++ [d])))
theorem ds_app {i : Nat} {x : Str} {e : Expr} {pos p apos cpos : Pos} {c : Nat} {te : DT} (hN : X.N[i]? = some x) (he : DE G E X c e te) (hv : Vis X.env.scope x := by first | exact Or.inl rfl | exact Or.inr (Or.inl rfl) | exact Or.inr (Or.inr rfl)) (hd : (x == ("__debug__" : Str)) = false := by decide) (hcd : (x == ("__classdict__" : Str)) = false := by decide)
    (hbase : attributeBase (.Name x p) "append" X.env (eval (.Name x p) X.env) = eval (.Name x p) X.env := by rfl)
    (hfew : ((backTo cpos (starEach [e] X.env)).all (fun x => !x.1) && (backToKw cpos (keywordEach [] X.env)).all (fun x => x.1.isSome) && decide (([e] : List Expr).length + ([] : List Keyword).length + (if ([] : List Keyword).isEmpty then 0 else 1) < 30)) = true := by rfl)
    (hline : (apos.endLine == cpos.line) = true := by rfl) (hs : starEach [e] X.env = (false, eval e X.env) :: starEach [] X.env := by rfl) (hplain : (backTo cpos (starEach [] X.env)).any (·.1) = false := by rfl)
    (hsw : swapsWith (.Call (.Attribute (.Name x p) "append" apos) [e] [] cpos) none pos.line X.env = pure false := by rfl) : DSt G E X c (.Expr (.Call (.Attribute (.Name x p) "append" apos) [e] [] cpos) pos) (sApp i te) :=
  impS (ps_expr (pe_bm PySem.F.plainAttrs_list PySem.F.slot_list_append PySem.F.type_list_append mt_append (pe_var (i := i) hN hv hd hcd) (pa_cons he pa_nil hs) hbase hfew hline hs hplain) hsw) fun Dn σ H h => by
    obtain ⟨W, hn, de, ⟨a, ds, hei, ht⟩, k1, k2, k3, k4⟩ := h
    obtain ⟨xs, hsi, h0, ha, hl, hds⟩ := lift_own hei
    refine ⟨.ref a, hsi, .inl ⟨rfl, xs, SqL.of ha⟩, W, hn, _, ht, fun v H1 d st hdv ⟨hlt, hq⟩ => ?_⟩
    have el := hds.length
    have ha1 : H1 a = some (.lst xs) := st.ext a _ ha (W.nu h0)
    have hds1 : DenL G W.XB H1 ds xs := hds.ext st.ext W.huX
    obtain ⟨W', l1, l2⟩ := own_step (xs := xs) (ys := xs ++ [v]) (es := ds ++ [d]) st hei hsi h0 (by rw [List.length_append]; show xs.length + 1 ≤ _; omega) (hds1.append ⟨v, [], rfl, hdv, rfl⟩)
    exact ⟨a, xs, v, rfl, rfl, ha1, by omega, k1 σ _ W' l1 (by rw [l2]; exact hq)⟩
end
end Kn

set_option Elab.async false
set_option linter.all false
set_option maxRecDepth 100000
set_option maxHeartbeats 2100000
namespace Kn
open PySem PySem.Spec L2 RZ
open PyProof.Rows (envOfC AllBare IntsAre)

/-- the law's def answers True from the entry on: what is left to show of it, over the heap of which the script alone may be known -/
def LawOk (P : Program) (w : World) (K : PySem.W.Frag) (mg : Str → Option Value) (fa a : Addr) (ns : List Int) (s₁ : Shared) : Prop :=
  ∀ (base : Heap) (H : Hp), K.In base → base.Ns mainGlobals mg → Only H → SqL K H a (ns.map V.int) → Env0 P w K mg base callerA [] s₁ H →
    codeAny (model P w) callerA (.call (.ref fa) ⟨[.ref a], []⟩) (CR (L2.CX P w) [] P w H s₁ (fun v _ => v = .bl true) (fun _ _ _ => False)) s₁
section
variable {P : Program} {w : World} {K : PySem.W.Frag} {mg mb : Str → Option Value} {fa a : Addr} {s₁ : Shared} {vs : List Value} {ns : List Int}
theorem ns_hid {H : Hp} (hdict : ∀ {b : Addr} {o : Obj} {es : Array DictEntry} {ep : Nat}, s₁.heap.get? b = some o → o.data = .dict es ep → H b = none) {b : Addr} {m : Str → Option Value} (h : s₁.heap.Ns b m) : (hidT s₁.heap H).Ns b m := by
  obtain ⟨o, es, ep, e, d, r⟩ := h
  exact ⟨o, es, ep, hidT_get e (hdict e d), d, r⟩
theorem law_core (KX : K.In s₁.heap) (hns : s₁.heap.Ns mainGlobals mg) (hb : s₁.heap.Ns builtinsNs mb) (hbb : ∀ x : Str, x ≠ "__name__" → mb x = bootBuiltins x) (hlim : s₁.heap.NoLimit) (hg : s₁.gens = #[])
    (ha : s₁.heap.get? a = some { cls := .type "list", data := .seq vs.toArray }) (F : LawOk P w K mg fa a ns s₁) (H : Hp) (hO : Only H) (hS : SqL K H a (ns.map V.int)) (ok : HOk P w H s₁.heap) (hA : ∀ b, H b ≠ none → b = a) (hK : H a ≠ none → K.lookup a = none) :
    codeAny (model P w) callerA (.call (.ref fa) ⟨[.ref a], []⟩) (fun r s' => r = .ok
      (.ret (.bool true)) ∧ OldK s₁.heap s'.heap ∧ s'.os = s₁.os ∧ AllBare s'.gens) s₁ := by
  have hdict : ∀ {b : Addr} {o : Obj} {es : Array DictEntry} {ep : Nat}, s₁.heap.get? b = some o → o.data = .dict es ep → H b = none := by
    intro b o es ep e d
    by_cases hn : H b = none
    · exact hn
    · have eb := hA b hn
      rw [eb, ha] at e
      cases e
      cases d
  have kb : K.In (hidT s₁.heap H) := by
    intro b o e
    refine hidT_get (KX b o e) ?_
    by_cases hn : H b = none
    · exact hn
    · exfalso
      have eb := hA b hn
      rw [eb] at e hn
      rw [hK hn] at e
      cases e
  have gl := ns_hid hdict hns
  obtain ⟨mc, l1, l2⟩ := hlim
  have hM : Mod K mg (hidT s₁.heap H) := ⟨kb, gl, ⟨mb, ns_hid hdict hb, hbb⟩, ⟨mc, ns_hid hdict l1, l2⟩⟩
  have e0 : Env0 P w K mg (hidT s₁.heap H) callerA [] s₁ H := {
    frames := rfl, mod := hM, bs := fun b o e => of_hidT e, bsz := Nat.le_of_eq (hidT_size _ _), funs := trivial, frf := fun b hb => (List.not_mem_nil hb).elim, hok := ok, bare := .of_eq hg }
  refine codeAny_mono (F _ H kb gl hO hS e0) ?_
  intro r s' h
  cases r with
  | error e =>
    exfalso
    obtain ⟨_, _, _, _, _, _, _, _, _, _, _, _, z⟩ := h; exact z.elim
  | ok fl =>
    cases fl with
    | next => exact h.elim
    | brk => exact h.elim
    | cont => exact h.elim
    | ret u =>
      obtain ⟨v, H', os, bare, un, hok', r', q⟩ := h; rw [show v = .bl true from q] at r'
      cases r'
      refine ⟨rfl, OldK.of_keep ?_, os, bare⟩
      intro b o e
      cases hq : H b with
      | none => exact un.keep b o e hq (by intro z; cases z) (by intro z; cases z)
      | some x =>
        rcases hO b with
          z | ⟨ob, xs, z⟩
        · rw [hq] at z; cases z
        · have g1 := (ok b _ z).1
          have g2 := (hok' b _ (un.frzs b ob _ z)).1
          rw [e] at g1
          cases g1
          exact g2
theorem law_top (KX : K.In s₁.heap) (hns : s₁.heap.Ns mainGlobals mg) (hb : s₁.heap.Ns builtinsNs mb) (hbb : ∀ x : Str, x ≠ "__name__" → mb x = bootBuiltins x) (hlim : s₁.heap.NoLimit) (hg : s₁.gens = #[])
    (ha : s₁.heap.get? a = some { cls := .type "list", data := .seq vs.toArray }) (hi : IntsAre vs ns) (hl : ns.length ≤ sizeLine) (F : LawOk P w K mg fa a ns s₁) :
    codeAny (model P w) callerA (.call (.ref fa) ⟨[.ref a], []⟩) (fun r s' => r = .ok
      (.ret (.bool true)) ∧ OldK s₁.heap s'.heap ∧ s'.os = s₁.os ∧ AllBare s'.gens) s₁ := by
  have rv := vals_ints hi
  cases hk : K.lookup a with
  | some o =>
    have e := KX a o hk
    rw [ha] at e
    cases e
    refine law_core KX hns hb hbb hlim hg ha F (fun _ => none) (fun _ => .inl rfl) (.inr ?_) (fun b u z => by cases z) (fun b z => (z rfl).elim) (fun z => (z rfl).elim)
    exact ⟨_, vs.toArray, _, hk, rfl, rfl, rfl, by rw [List.size_toArray, hi.length]; exact hl, by simpa using rv⟩
  | none =>
    let H : Hp := fun b => if b = a then some (.frz { cls := .type "list", data := .seq vs.toArray } (.lst (ns.map V.int))) else none
    have Ha : H a = some (.frz { cls := .type "list", data := .seq vs.toArray } (.lst (ns.map V.int))) := if_pos rfl
    have Hn : ∀ {b}, b ≠ a → H b = none := fun {b} hb => if_neg hb
    refine law_core KX hns hb hbb hlim hg ha F H (fun b => ?_) (.inl (.inr ⟨_, Ha⟩)) (fun b u z => ?_) (fun b z => ?_) (fun _ => hk)
    · by_cases h : b = a
      · exact .inr ⟨_, _, by rw [h]; exact Ha⟩
      · exact .inl (Hn h)
    · by_cases h : b = a
      · rw [h, Ha] at z
        cases z
        rw [h]; exact ⟨ha, by rw [List.length_map]; exact hl, vs, _, rv, ha⟩
      · rw [Hn h] at z; cases z
    · by_cases h : b = a
      · exact h
      · exact (z (Hn h)).elim
end
/-- the end of a law's row -/
theorem law_row {l : PySem.W.OpenLaw} {n : Nat} {q : Program} {loose : List Str} {XP : (Str → Option Value) → Heap → Prop} {YP : World → Heap → Prop} {d : DefRec} {K : Params → PySem.W.Frag}
    (hn : l.most = some n) (hn2 : n ≤ sizeLine) (hdf : d.params.defaults = []) (hY : ∀ (w : World) (h : Heap), YP w h → (K w.params).In h)
    (F : ∀ (w : World) (mg : Str → Option Value) (fa a : Addr) (h : Heap) (s : Shared) (ns : List Int), (K w.params).In h → h.Ns mainGlobals mg → mg d.name = some (.ref fa) → ns.length ≤ n → LawOk l.prog w (K w.params) mg fa a ns s) :
    PySem.W.WalkO q loose XP YP l.row.toRowW
      d [] (fun f vs => PySem.call f vs) := by
  refine Att.attach_call hn hdf ?_
  intro w s₀ s₁ mg mb fa o pm cd doc a vs ns Gx Y ho hd hcd hmg hobj hints hlen hg
  exact law_top (hY w _ Y) Gx.T.g Gx.T.b Gx.T.builtins Gx.T.nolimit hg hobj hints (Nat.le_trans hlen hn2) (F w mg fa a _ s₁ ns (hY w _ Y) Gx.T.g hmg hlen)
end Kn

set_option Elab.async false
set_option linter.all false
set_option maxRecDepth 100000
set_option maxHeartbeats 2100000
namespace Kn
open PySem L2 RZ
open PyProof.Rows (envOfC)
section
variable {G : Gd} {E : XK} {X : Cx} {σ : List (Option V)} {H H' : Hp} {k : Nat}

/-! ### great numbers -/
def gMulW : G2 := gI CMulW fun i j => .int (i * j)
theorem o_mulW : OpR X (binaryOp .Mult) (rD G gMulW) := opr_imp op_mulW fun _ _ _ _ h => rD_I (fun _ _ _ _ => den_int _) h
def PowOk (i j : Int) : Prop := 0 ≤ j ∧ (Builtin.Int.intBits i : Int) * j ≤ 2 ^ 27
theorem op_powW : OpR X (binaryOp .Pow) (rI PowOk fun i j => .int (i ^ j.toNat)) := by
  intro pins s σ H x y v u Q I rx ry h; obtain ⟨i, j, rfl, rfl, hc, q⟩ := h
  obtain ⟨t, rfl⟩ := rx
  obtain ⟨t', rfl⟩ := ry
  exact PyProof.Rows.pow_int hc.1 hc.2 ⟨.int (i ^ j.toNat), H, I.tok _, ⟨_, rfl⟩, q⟩
def gPow : G2 := gI PowOk fun i j => .int (i ^ j.toNat)
theorem o_pow : OpR X (binaryOp .Pow) (rD G gPow) := opr_imp op_powW fun _ _ _ _ h => rD_I (fun _ _ _ _ => den_int _) h
theorem powOk_of {i : Int} {a : Nat} {j : Int} (h : i.natAbs < 2 ^ a) (hj : 0 ≤ j) (hz : (a : Int) * j ≤ 2 ^ 27) : PowOk i j := by
  refine ⟨hj, ?_⟩
  have h1 : Builtin.Int.intBits i ≤ a := PyProof.Rows.intBits_le h
  have h2 : (Builtin.Int.intBits i : Int) ≤ (a : Int) := by exact_mod_cast h1
  exact Int.le_trans (Int.mul_le_mul_of_nonneg_right h2 hj) hz
def gAbs : D → (D → Prop) → Prop := fun d Q => match d with
  | .int i => Q (.int (if i < 0 then -i else i))
  | _ => False
theorem c_abs : CallR X (.builtin "abs") (rDL G (g1 gAbs)) := callr_imp call_abs fun xs H Q' h => by
  obtain ⟨B, d, x, Q, rfl, hd, hf, hg, k⟩ := rDL1 h
  cases d <;> try exact hg.elim
  rename_i i
  cases hd
  exact ⟨i, rfl, k _ H (.int _) (Ext.refl _ _) (den_int _) hg⟩

/-! ### the frame's own list, read and stored -/
/-- an item as it is read -/
def D.plain : D → D
  | .at_ _ ds => .lst ds
  | d => d
theorem Den.plain {B : Addr → Prop} {H : Hp} {d : D} {v : V} (h : Den G B H d v) : Den G B H d.plain v := by
  cases d <;> try exact h
  obtain ⟨xs, e, h⟩ := h
  exact ⟨_, xs, e, h⟩
def dOix (i : Nat) (te : DT) : DT := fun ex env Q => ∃ a ds, env[i]? = some (.own a ds) ∧ te ex env fun e => ∃ j d, e = .int j ∧ atI ds j = some d ∧ Q d.plain
theorem de_oix {i : Nat} {x : Str} {b : Expr} {pos p : Pos} {c : Nat} {te : DT} (hN : X.N[i]? = some x) (hb : DE G E X c b te) (hs : PlainIx b) (hv : Vis X.env.scope x := by first | exact Or.inl rfl | exact Or.inr (Or.inl rfl) | exact Or.inr (Or.inr rfl))
    (hd : (x == ("__debug__" : Str)) = false := by decide) (hcd : (x == ("__classdict__" : Str)) = false := by decide) : DE G E X c (.Subscript (.Name x p) b pos) (dOix i te) :=
  imp (pe_ix ix_list (pe_var (i := i) hN hv hd hcd) hb hs) fun σ H Q' h => by
    obtain ⟨W, hn, Q, ⟨a, ds, he, ht⟩, kk⟩ := h
    obtain ⟨xs, hsi, h0, ha, hl, hds⟩ := lift_own he
    refine ⟨.ref a, hsi, W, hn, _, ht, fun v H1 e st hv1 ⟨j, d, e1, hat, hq⟩ => ?_⟩
    subst e1
    have ha1 : H1 a = some (.lst xs) := st.ext a _ ha (W.nu h0)
    obtain ⟨y, hy, hdy⟩ := denL_at (hds.ext st.ext W.huX) hat
    exact ⟨a, xs, j, y, rfl, hv1, SqL.of ha1, hy, kk y H1 d.plain st hdy.plain hq⟩
/-- x[e] = v -/
def sSetIx (i : Nat) (ti te : DT) : DS := fun ex de env => te ex env fun d => ∃ a ds, env[i]? = some (.own a ds) ∧ ti ex env fun e => ∃ j n, e = .int j ∧ ixN ds.length j = some n ∧ de.nx (env.set i (.own a (ds.set n d)))
theorem ds_setIx {i : Nat} {x : Str} {e b : Expr} {pos p p2 : Pos} {c c2 : Nat} {te ti : DT} (hN : X.N[i]? = some x) (he : DE G E X c e te) (hi : DE G E X c2 b ti) (hv : Vis X.env.scope x := by first | exact Or.inl rfl | exact Or.inr (Or.inl rfl) | exact Or.inr (Or.inr rfl))
    (hd : (x == ("__debug__" : Str)) = false := by decide) (hcd
      : (x == ("__classdict__" : Str)) = false := by decide)
    (ha : ∀ v, assign (.Subscript (.Name x p) b p2) X.env v = (do
      let ov ← holding [v] (eval (.Name x p) X.env)
      let iv ← holding [v, ov] (eval b X.env)
      standAt p2
      holding [v, ov, iv]
        (setItem ov iv v)
      release [v, ov, iv] []) := by intro _; rfl)
    (hs : swapsWithSole [.Subscript (.Name x p) b p2] e pos.line X.env = pure false := by rfl) (hw : swappedStores [.Subscript (.Name x p) b p2] e X.env = pure none := by rfl)
    (h1 : (assignEach [.Subscript (.Name x p) b p2] X.env).map (·.2) = [assign (.Subscript (.Name x p) b p2) X.env] := by rfl) : DSt G E X (c + c2) (.Assign [.Subscript (.Name x p) b p2] e pos) (sSetIx i ti te) :=
  impS (ps_asg he (pg_sub (pe_var (i := i) hN hv hd hcd) hi set_list ha) hs hw h1) fun Dn σ H h => by
    obtain ⟨W, hn, de, ht, k1, k2, k3, k4⟩ := h
    refine ⟨W, by omega, _, ht, fun v H1 d st hdv ⟨a, ds, hei, hq⟩ => ?_⟩
    obtain ⟨xs, hsi, h0, ha, hl, hds⟩ := lift_own (W := W.next st) hei
    refine ⟨.ref a, hsi, W.next st, by show W.m + c2 ≤ W.n - c; omega, _, hq, fun v2 H2 e2 st2 hv2 ⟨j, n, e1, hj, hnx⟩ => ?_⟩
    subst e1
    have ha2 : H2 a = some (.lst xs) := st2.ext a _ ha (W.nu h0)
    have el := hds.length
    obtain ⟨W', l1, l2⟩ := own_step (xs := xs) (ys := xs.set n v) (es := ds.set n d) (st.trans st2) (W := W) hei hsi h0 (by rw [List.length_set]; exact hl) ((hds.ext st2.ext (W.next st).huX).set n ((W.next st).den st2 hdv))
    exact ⟨a, xs, j, n, rfl, hv2, ha2, by rw [← el]; exact hj, k1 σ _ W' l1 (by rw [l2]; exact hnx)⟩

/-! ### the def that draws -/
/-- what every law's def that draws promises: a number from 0 below many -/
def sDraw : FSpec := fun ds R _ => ∃ many : Int, ds = [.urn, .int many] ∧ 1 ≤ many ∧ many < 1073741824 ∧ ∀ r : Int, 0 ≤ r → r < many → R (.int r)
/-- what the urn's list is to be behind a draw -/
def drawEnds (cells : List Int) (at_ many : Int) (a b : Addr) : DEnds := { nx := fun _ => False, rt := fun d env => ∃ i at2 r2 : Int, d = .int i ∧ 0 ≤ i ∧ i < many ∧ env[0]? = some (.own a [.at_ b (cells.map D.int), .int at2, .int r2]) ∧ 0 ≤ r2 ∧ 0 ≤ at2 ∧ at2 ≤ at_ + 1 }
/-- a def over the urn, by its body over the urn's list as a list of its own -/
theorem draw_of {P : Program} {w : World} {mg : Str → Option Value} {base : Heap} {f : Addr} {x qual : Str} {st : Stmt} {fd : FuncData} {N ps : List Str} {ts : DS} (F : Fun G.K x qual st f fd) (Sc : FnScope N ps (defScope st)) (h2 : ps.length = 2)
    (hder : ∀ (cdv : Value) (A : Around) (outer : List Env) (s : Shared) (H : Hp) (E : XK), Room k (A.deeper (envOfC qual (defScope st) s.heap.objs.size f cdv)) → A.guards = some [] →
      DSs { G with u := none } E (cxOf (L2.CX P w) P w G.K mg base N qual (defScope st) f cdv A outer s H E) 0 (defBody st) ts)
    (hS : ∀ (cells : List Int) (at_ r many : Int) (a b : Addr), cells.length ≤ 63 → 0 ≤ at_ → at_ < atLine → 0 ≤ r → 1 ≤ many → many < 1073741824 →
      ts noX (drawEnds cells at_ many a b)
        (Sl.own a [.at_ b (cells.map D.int), .int at_, .int r] :: Sl.val (.int many) :: List.replicate (N.length - 2) Sl.emp)) : FnD G P w mg base (k + 1) f fd ps 1 sDraw := by
  constructor
  intro A outer s H args us vs Q E hr hgd e0 hb rv hlen hsp
  obtain ⟨u, n, B, ds, R, ex, hug, hc, hu, hB, hg, hd, ⟨many, rfl, hm1, hm2, hR⟩, hq, hx⟩ := hsp
  obtain ⟨xv, yv, rfl, ⟨p, hp, rfl⟩, hy⟩ := denL2 hd
  cases hy
  rw [hug, hp] at hg
  rw [hp] at hug
  subst hug
  obtain ⟨⟨a, b⟩, T⟩ := p
  obtain ⟨⟨cells, at_, r, ha, hbl, hcl, nab, hr0, hat, hatn⟩, hT⟩ := hg
  have hN2 : 2 ≤ N.length := by
    have h1 := congrArg List.length Sc.pre
    rw [List.length_take] at h1
    omega
  obtain ⟨oc, od, kV, doc, pm, an, cdv, ct, osl, rfl, lk, hcd⟩ := F.ex; have KX : G.K.In s.heap := PySem.W.Frag.In.keeps e0.mod.kin (fun b o e => (e0.bs b o e).1)
  have nolim : s.heap.NoLimit := Heap.NoLimit.keeps e0.mod.nolimit (fun b o e => (e0.bs b o e).1)
  have kinds : ∀ y ∈ ps.zip us, (defScope st).names.lookup y.1 = some .local ∨
      ((defScope st).names.lookup y.1 = some .cell ∧ ((cellsFrom (s.heap.objs.size + 1) (defScope st).names []).lookup y.1).isSome = true) := by
    intro y hy
    obtain ⟨n1, v1⟩ := y
    rcases Sc.par n1 (List.of_mem_zip hy).1 with z | z
    · exact .inl z
    · exact .inr ⟨z, PySem.W.cellsFrom_some _ _ _ (.inl z)⟩
  refine codeAny_call_function hr.depth (KX _ _ lk) rfl Sc.co Sc.gen rfl (PySem.W.codeRec_of KX hcd) ?_
  refine hb _ _ _ _ (wpAny_newFunctionEnv_cells Sc.kind kinds ?_)
  intro env he s1 ic
  subst he
  refine ⟨nolim.keeps ic.toInCall.keep, codeAny_func ?_⟩
  have I : Inv (cxOf (L2.CX P w) P w G.K mg base N qual (defScope st) f cdv A outer s H E) [] (L2.start N [.ref a, .int many]) H s1 := inv_start Sc hr.hd e0 hlen rv ic
  let env1 : List Sl := Sl.own a [.at_ b (cells.map D.int), .int at_, .int r] :: Sl.val (.int many) :: List.replicate (N.length - 2) Sl.emp
  have hmine : ∀ {i : Nat} {s : Sl}, env1[i]? = some s → s.mine = true → i = 0 := fun {i s} e hm => by
    match i with
    | 0 => rfl
    | 1 => have e' : some (Sl.val (.int many)) = some s := e; cases e'; cases hm
    | i + 2 =>
      have e' : (List.replicate (N.length - 2) Sl.emp)[i]? = some s := e
      rw [List.getElem?_replicate] at e'
      split at e'
      · cases e'; cases hm
      · cases e'
  have st0 : (L2.start N [.ref a, .int many])[0]? = some (some (.ref a)) := start_get (i := 0) rfl
  have xb : ∀ c, XBof (fun x => B x ∧ x ≠ a ∧ x ≠ b) env1 (L2.start N [.ref a, .int many]) c → (B c ∧ c ≠ a ∧ c ≠ b) ∨ c = a := fun c hc => by
    rcases hc with hc | ⟨j, s, e1, m1, e2⟩
    · exact .inl hc
    · have z := hmine e1 m1
      subst z
      rw [st0] at e2
      cases e2
      exact .inr rfl
  have key : ∃ W : Wd { G with u := none } E (L2.start N [.ref a, .int many]) H, W.m + 0 ≤ W.n ∧ W.u = none ∧ W.B = (fun x => B x ∧ x ≠ a ∧ x ≠ b) ∧ W.H0 = (fun x => if x = a then none else H x) ∧ W.env = env1 ∧ W.ex = noX := by
    refine ⟨{ u := none, n := 0, m := 0, B := fun x => B x ∧ x ≠ a ∧ x ≠ b, H0 := fun x => if x = a then none else H x, env := env1, ex := noX, ug := rfl, hu := fun p e => e.none.elim, hB := fun x hx => ?_, fr := fun x o e _ => ?_, good := trivial, len := ?_, sl := fun i s e => ?_, nd := fun i j c s t e1 e2 m1 m2 _ _ => ?_, exc := fun _ _ _ _ _ _ _ z => z.elim }, Nat.le_refl _, rfl, rfl, rfl, rfl, rfl⟩
    · show (if x = a then none else H x) ≠ none
      rw [if_neg hx.2.1]
      exact hB x hx.1
    · have e : (if x = a then none else H x) = some o := e
      by_cases hxa : x = a
      · rw [if_pos hxa] at e; cases e
      · rw [if_neg hxa] at e; exact e
    · show (List.replicate (N.length - 2) Sl.emp).length + 1 + 1 = _
      unfold L2.start
      simp only [List.length_append, List.length_map, List.length_replicate, List.length_cons, List.length_nil]
      omega
    · match i with
      | 0 =>
        have e' : some (Sl.own a [.at_ b (cells.map D.int), .int at_, .int r]) = some s := e
        cases e'
        refine ⟨_, by rw [st0]; rfl, if_pos rfl, ha, by rw [sizeLine_eq]; show (3 : Nat) ≤ 16777216; omega, ?_⟩
        refine ⟨_, _, rfl, ⟨_, rfl, fun z => ?_, hbl, by rw [List.length_map, sizeLine_eq]; omega, DenL.of_ints⟩, _, _, rfl, rfl, _, _, rfl, rfl, rfl⟩
        rcases xb b z with z | z
        · exact z.2.2 rfl
        · exact nab z.symm
      | 1 =>
        have e' : some (Sl.val (.int many)) = some s := e
        cases e'
        exact ⟨.int many, by rw [start_get (i := 1) (v := .int many) rfl]; rfl, rfl⟩
      | i + 2 =>
        have e' : (List.replicate (N.length - 2) Sl.emp)[i]? = some s := e
        rw [List.getElem?_replicate] at e'
        split at e'
        · cases e'; trivial
        · cases e'
    · rw [hmine e1 m1, hmine e2 m2]
  obtain ⟨W, wn, wu, wB, wH, we, wx⟩ := key
  have body := (hder cdv A outer s H E (hr.deeper _) hgd).run [] s1 (L2.start N [.ref a, .int many]) H { nx := fun _ H' => Q .non H', rt := Q } I (by
    have hts := hS cells at_ r many a b hcl hat (by omega) hr0 hm1 hm2
    refine ⟨W, wn, drawEnds cells at_ many a b, by rw [we, wx]; exact hts, fun σ' H' W' lt z => z.elim, ?_, fun σ' H' W' lt z => z.elim, fun σ' H' W' lt z => z.elim⟩
    rintro v σ' H' W' d lt hd' ⟨i, at2, r2, rfl, hi0, hi1, h0, hr2, ha2, ha3⟩
    cases hd'
    obtain ⟨xs, e1, e2, e3, e4, ⟨x1, y1, rfl, ⟨zs, rfl, nb2, hb2, _, dz⟩, x2, y2, rfl, hx2, x3, y3, rfl, hx3, hy3⟩⟩ := W'.sl 0 _ h0
    cases hx2; cases hx3; cases hy3
    have ez := dz.ints
    subst ez
    have fr : ∀ c o, H c = some o → c ≠ a → H' c = some o := fun c o e nc => by
      have z := W'.fr c o (by rw [lt.H0, wH]; show (if c = a then none else H c) = some o; rw [if_neg nc]; exact e)
      rw [lt.u, wu] at z
      exact z NU.none
    have hb3 := fr b _ hbl (Ne.symm nab)
    refine hq (.int i) H' (.int i) (fun c o e nc => fr c o e (fun z => nc (a, b) ⟨_, rfl, .inl rfl⟩ z.symm)) ?_ rfl (hR i hi0 hi1)
    refine ⟨⟨cells, at2, r2, e3, hb2, hcl, nab, hr2, ha2, by omega⟩, fun t ht => ?_⟩
    obtain ⟨ps', t1, t2, t3⟩ := hT t ht
    refine ⟨ps', fr _ _ t1 (fun z => by rw [z, ha] at t1; cases t1), t2, fun pos cv hcv => ?_⟩
    obtain ⟨c, c1, c2⟩ := t3 pos cv hcv
    exact ⟨c, c1, fr c _ c2 (fun z => by rw [z, ha] at c2; cases c2)⟩)
  refine wpAny_mono body ?_ (fun e s' hs => hs)
  intro fl s' hfl
  cases fl with
  | next => obtain ⟨σ', H', J, q⟩ := hfl; exact ⟨.non, H', J.os, J.bare, J.base, J.hok, rfl, q⟩
  | ret v' => obtain ⟨v, σ', H', J, r1, q⟩ := hfl; exact ⟨v, H', J.os, J.bare, J.base, J.hok, r1, q⟩
  | brk => obtain ⟨σ', H', J, q⟩ := hfl; exact q.elim
  | cont => obtain ⟨σ', H', J, q⟩ := hfl; exact q.elim
end
end Kn

set_option Elab.async false
set_option linter.all false
set_option maxRecDepth 100000
set_option maxHeartbeats 2100000
namespace Kn
open PySem L2 RZ
open PyProof.Rows (envOfC)
section
variable {G : Gd} {E : XK} {X : Cx} {σ : List (Option V)} {H H' : Hp} {j k : Nat}
variable {P : Program} {w : World} {mg : Str → Option Value} {base : Heap}
/-- within a def's own body -/
theorem xk_def {N : List Str} {qual : Str} {scope : Scope} {f : Addr} {cd : Value} {A : Around} {outer : List Env} {s : Shared} {H : Hp} (hr : Room k (A.deeper (envOfC qual scope s.heap.objs.size f cd))) (hg : A.guards = some []) :
    Xk G E k (cxOf (L2.CX P w) P w G.K mg base N qual scope f cd A outer s H E) where
  K := rfl
  room := hr
  gd := hg
  pass := passes_call (W := fun cls d _ H => E cls d H) (takes_of rfl rfl rfl rfl) fun _ _ _ _ h => h
  calm := rfl
  tk := takes_of rfl rfl rfl rfl
/-- within a comprehension -/
theorem Xk.blk (xk : Xk G E k X) (s : Shared) (H : Hp) (scope : Scope) (cenv : Env) (fp : List Addr) : Xk G E0 k (X.blk s H scope cenv fp) where
  K := xk.K
  room := xk.room
  gd := xk.gd
  pass := passL
  calm := xk.calm
  tk := fun _ _ ⟨_, _, _, _, _, _, _, _, _, _, _, _, _, _, _, _, z⟩ => z.elim
theorem po_def {N : List Str} {qual : Str} {scope : Scope} {f : Addr} {cd : Value} {A : Around} {outer : List Env} {s : Shared} {H : Hp} :
    PassesOwn (model (cxOf (L2.CX P w) P w G.K mg base N qual scope f cd A outer s H E).prog (cxOf (L2.CX P w) P w G.K mg base N qual scope f cd A outer s H E).w) (cxOf (L2.CX P w) P w G.K mg base N qual scope f cd A outer s H E).A
      (cxOf (L2.CX P w) P w G.K mg base N qual scope f cd A outer s H E).env (cxOf (L2.CX P w) P w G.K mg base N qual scope f cd A outer s H E).xe := passes_of rfl
theorem FnD.more {f : Addr} {fd : FuncData} {ps : List Str} {c c' : Nat} {S : FSpec} (F : FnD G P w mg base k f fd ps c S) (h : c ≤ c') : FnD G P w mg base k f fd ps c' S := by
  constructor
  intro A outer s H args us vs Q E hr hg e0 hb rv hl hs
  obtain ⟨u, n, B, ds, R, ex, hug, hc, hu, hB, hgd, hd, hs, hq, hx⟩ := hs
  exact F.run A outer s H args us vs Q E hr hg e0 hb rv hl ⟨u, n, B, ds, R, ex, hug, by omega, hu, hB, hgd, hd, hs, fun v H' d e g => hq v H' d e (g.less (by omega)), fun x C d H' e g => hx x C d H' e (g.less (by omega))⟩
theorem InitD.more {f : Addr} {fd : FuncData} {ps : List Str} {c c' cid : Nat} {S : FSpec} (F : InitD G P w mg base k f fd ps c cid S) (h : c ≤ c') : InitD G P w mg base k f fd ps c' cid S := by
  constructor
  intro A outer s H args us vs Q E hr hg e0 hb rv hl hs
  obtain ⟨u, n, B, ds, R, ex, x, dx, vs', hug, h1, h2, h3, h4, h5, h6, hc, hu, hB, hgd, hd, hs, hq, hx⟩ := hs
  exact F.run A outer s H args us vs Q E hr hg e0 hb rv hl ⟨u, n, B, ds, R, ex, x, dx, vs', hug, h1, h2, h3, h4, h5, h6, by omega, hu, hB, hgd, hd, hs, fun H' xs ds' e g => hq H' xs ds' e (g.less (by omega)), fun y C d H' e g => hx y C d H' e (g.less (by omega))⟩
/-- a weaker promise -/
theorem FnD.imp {f : Addr} {fd : FuncData} {ps : List Str} {c : Nat} {S S' : FSpec} (F : FnD G P w mg base k f fd ps c S) (h : ∀ ds R ex, S' ds R ex → S ds R ex) : FnD G P w mg base k f fd ps c S' := by
  constructor
  intro A outer s H args us vs Q E hr hg e0 hb rv hl hs
  obtain ⟨u, n, B, ds, R, ex, hug, hc, hu, hB, hgd, hd, hs, hq, hx⟩ := hs
  exact F.run A outer s H args us vs Q E hr hg e0 hb rv hl ⟨u, n, B, ds, R, ex, hug, hc, hu, hB, hgd, hd, h _ _ _ hs, hq, hx⟩
/-- a def as its callers know it -/
theorem Fk.of {f : Addr} {fd : FuncData} {x : Str} {ps : List Str} {c : Nat} {S : FSpec} (F : FnD G P w mg base k f fd ps c S) (hm : mg x = some (.ref f)) (hk : PySem.W.keepIn G.K (.ref f) = true) (hb : Binds G.K fd ps []) : Fk G P w mg base k x ps c S := ⟨f, fd, F, hm, hk, hb⟩
/-- pure defs: the value is f of the arguments where they are as P says -/
def sPure (P : List D → Prop) (f : List D → D) : FSpec := fun ds R _ => P ds ∧ R (f ds)
end
end Kn

set_option Elab.async false
set_option linter.all false
set_option maxRecDepth 100000
set_option maxHeartbeats 2100000
namespace Kn
open PySem L2 RZ
open PyProof.Rows (envOfC)
section
variable {G : Gd} {E : XK} {X : Cx} {σ : List (Option V)} {H H' : Hp} {k : Nat}

theorem de_one {op : BoolOp} {a : Expr} {pos : Pos} {c : Nat} {t : DT} (h : DE G E X c a t) : DE G E X c (.BoolOp op [a] pos) t := pe_one h
def dNeg (ta : DT) : DT := fun ex env Q => ta ex env fun d => ∃ i : Int, d = .int i ∧ Q (.int (-i))
theorem de_neg {a : Expr} {pos : Pos} {c : Nat} {ta : DT} (ha : DE G E X c a ta) : DE G E X c (.UnaryOp .USub a pos) (dNeg ta) := imp (pe_un un_neg ha) fun σ H Q' h => by
  obtain ⟨W, hn, Q, ht, kk⟩ := h
  refine ⟨W, hn, _, ht, fun v H1 d st hd ⟨i, e, hq⟩ => ?_⟩
  subst e
  cases hd
  exact ⟨i, rfl, kk _ H1 (.int (-i)) st (den_int _) hq⟩
/-- a built-in type by its name -/
theorem den_opq {B : Addr → Prop} {H : Hp} (v : V) : Den G B H (.opq v) v := rfl
theorem de_tyn {x : Str} {n : String} {pos : Pos} (hm : X.mg x = none) (hg : Gl X x := by rfl) (hv : bootBuiltins x = some (.type n) := by decide +kernel) (hn : x ≠ "__name__" := by decide) (hd : (x == ("__debug__" : Str)) = false := by decide) : DE G E X 0 (.Name x pos) (dC (.opq (.ty n))) :=
  imp (pe_bltn (v := .ty n) hg hm hv rfl hn hd) fun _ _ _ h => lift_c (fun _ _ => den_opq _) h
/-- a class, a def of the module by its name -/
theorem de_ref {x : Str} {a : Addr} {pos : Pos} (hm : X.mg x = some (.ref a)) (hg : Gl X x := by rfl) (hd : (x == ("__debug__" : Str)) = false := by decide) : DE G E X 0 (.Name x pos) (dC (.opq (.ref a))) :=
  imp (pe_glob (v := .ref a) hg hm rfl hd) fun _ _ _ h => lift_c (fun _ _ => den_opq _) h
/-- an int of the module -/
theorem de_gint {x : Str} {i : Int} {pos : Pos} (hm : ∃ t, X.mg x = some (.int i t)) (hg : Gl X x := by rfl) (hd : (x == ("__debug__" : Str)) = false := by decide) : DE G E X 0 (.Name x pos) (dC (.int i)) := by
  obtain ⟨t, hm⟩ := hm
  exact imp (pe_glob (v := .int i) hg hm ⟨t, rfl⟩ hd) fun _ _ _ h => lift_c (fun _ _ => den_int i) h

/-! ### isinstance -/
def kindS : D → Option String
  | .non => some "NoneType"
  | .bl _ => some "bool"
  | .int _ => some "int"
  | .str _ => some "str"
  | .lst _ => some "list"
  | .tup _ => some "tuple"
  | .dic _ _ => some "dict"
  | _ => none
def isB (d : D) (T : String) : Option Bool := (kindS d).bind fun s => kitB s T
theorem Den.tyx {B : Addr → Prop} {d : D} {v : V} {s : String} (h : Den G B H d v) (e : kindS d = some s) : TyX G.K H v (.type s) := by
  cases d with
  | non => cases e; cases h; exact .base .non
  | bl b => cases e; cases h; exact .base (.bl b)
  | int i => cases e; cases h; exact .base (.int i)
  | str x => cases e; cases h; exact .base (.str x)
  | lst ds => cases e; obtain ⟨a, xs, rfl, _, ha, _⟩ := h; exact .base (.lst ha)
  | tup ds =>
    cases e
    obtain ⟨a, xs, rfl, _, ha, _⟩ := h
    rcases ha with (ha | ⟨o, ha⟩) | ⟨o, _, _, hk, hc, _⟩
    · exact .base (.tup ha)
    · exact .fTuple ha
    · exact .kTuple hk hc
  | ins c ds => cases e
  | opq w => cases e
  | urn => cases e
  | at_ a ds => cases e
  | dct ks ds => cases e
  | tupn ds => cases e
  | exc c ds => cases e
  | dic ks ds => cases e; obtain ⟨a, kvs, rfl, _, ha, _⟩ := h; exact .base (.dK ha)
  | dcT ks ds => cases e
/-- isinstance(x, T), T a built-in type -/
def gIsi : G2 := fun d c Q => ∃ T b, c = .opq (.ty T) ∧ isB d T = some b ∧ Q (.bl b)
theorem c_isi (hK : X.K = G.K) : CallR X (.builtin "isinstance") (rDL G (g2 gIsi)) := callr_imp call_isi fun xs H Q' h => by
  obtain ⟨B, d, c, x, y, Q, rfl, hd, hc, hf, ⟨T, b, rfl, hb, hq⟩, kk⟩ := rDL2 h
  cases hc
  unfold isB at hb
  cases hk : kindS d with
  | none => rw [hk] at hb; cases hb
  | some s =>
    rw [hk] at hb
    exact ⟨x, .ty T, .type s, .type T, b, rfl, .ty T, by rw [hK]; exact hd.tyx hk, kit_ty hb, kk _ H (.bl b) (Ext.refl _ _) (den_bl b) hq⟩
/-- isinstance(x, (T1, T2, ..)) -/
def anyB (d : D) : List String → Option Bool
  | [] => some false
  | T :: Ts => match isB d T with
    | some true => some true
    | some false => anyB d Ts
    | none => none
def gIsiT : G2 := fun d c Q => ∃ Ts b, c = .tup (Ts.map fun T => .opq (.ty T)) ∧ anyB d Ts = some b ∧ Q (.bl b)
theorem tys_den {B : Addr → Prop} : ∀ {Ts : List String} {xs : List V}, DenL G B H (Ts.map fun T => D.opq (.ty T)) xs → xs = Ts.map V.ty
  | [], _, h => h
  | T :: Ts, _, ⟨x, r, e, h1, h2⟩ => by subst e; rw [show x = V.ty T from h1, tys_den h2]; rfl
theorem any_kit {d : D} {s : String} {K : PySem.W.Frag} (hs : kindS d = some s) : ∀ {Ts : List String} {b : Bool}, anyB d Ts = some b → PySem.W.kitAny K (.type s) (Ts.map Value.type) = some b
  | [], b, h => h
  | T :: Ts, b, h => by
    have e : isB d T = kitB s T := by unfold isB; rw [hs]; rfl
    unfold anyB at h
    rw [e] at h
    show (match PySem.W.kitOne K (.type s) (.type T) with | some true => some true | some false => PySem.W.kitAny K (.type s) (Ts.map Value.type) | none => none) = some b
    cases hk : kitB s T with
    | none =>
      rw [hk] at h; cases h
    | some r =>
      rw [hk] at h
      rw [kit_ty hk]
      cases r with
      | true => exact h
      | false => exact any_kit hs h
theorem any_kind {d : D} : ∀ {Ts : List String} {b : Bool}, Ts ≠ [] → anyB d Ts = some b → ∃ s, kindS d = some s
  | [], _, h, _ => absurd rfl h
  | T :: Ts, b, _, h => by
    unfold anyB isB at h
    cases hk : kindS d with
    | none =>
      rw [hk] at h; cases h
    | some s => exact ⟨s, rfl⟩
theorem paired_ty : ∀ (Ts : List String), Paired ClsV (Ts.map V.ty) (Ts.map Value.type)
  | [] => .nil
  | T :: Ts => .cons (.ty T) (paired_ty Ts)
/-- a tuple that was made in the call: tracked -/
theorem c_isiT (hK : X.K = G.K) : CallR X (.builtin "isinstance") (fun xs H Q' => ∃ (B : Addr → Prop) (d : D) (x : V) (p : Addr) (Ts : List String) (b : Bool) (Q : D → Prop), xs = [x, .ref p] ∧ Den G B H d x ∧ H p = some (.tup (Ts.map V.ty)) ∧ Ts ≠ [] ∧ anyB d Ts = some b ∧ Q (.bl b) ∧ ∀ r H' rd, Ext none H H' → Den G B H' rd r → Q rd → Q' r H') := callr_imp call_isiT fun xs H Q' h => by
  obtain ⟨B, d, x, p, Ts, b, Q, rfl, hd, hp, hne, hb, hq, kk⟩ := h
  obtain ⟨s, hs⟩ := any_kind hne hb
  exact ⟨x, p, _, .type s, _, b, rfl, hp, paired_ty Ts, by rw [hK]; exact hd.tyx hs, any_kit hs hb, kk _ H (.bl b) (Ext.refl _ _) (den_bl b) hq⟩
def dIsiT (Ts : List String) (te : DT) : DT := fun ex env Q => te ex env fun d => ∃ b, anyB d Ts = some b ∧ Q (.bl b)
/-- isinstance(e, (T, ..)): the tuple's names as es -/
theorem de_isiT {e : Expr} {es : List Expr} {p pos p2 : Pos} {x1 c : Nat} {te : DT} {Ts : List String} (hK : X.K = G.K) (hm : X.mg "isinstance" = none) (he : DE G E X c e te) (hes : PA X es (fun σ H Q => Q (Ts.map V.ty) H)) (hne : Ts ≠ []) (hl : Ts.length ≤ 1000) (hg : Gl X "isinstance" := by rfl) (hv : bootBuiltins "isinstance" = some (.builtin "isinstance") := by decide +kernel)
    (hs : starEach [e, .Tuple es x1 p2] X.env = (false, eval e X.env) :: starEach [.Tuple es x1 p2] X.env := by rfl) (hs2 : starEach [.Tuple es x1 p2] X.env = (false, eval (.Tuple es x1 p2) X.env) :: starEach [] X.env := by rfl) (hpl : (backTo pos (starEach [.Tuple es x1 p2] X.env)).any (·.1) = false := by rfl) :
    DE G E X c (.Call (.Name "isinstance" p) [e, .Tuple es x1 p2] [] pos) (dIsiT Ts te) :=
  imp (pe_callB (c_isiT (G := G) hK) hg hm hv (pa_cons he (pa_cons (pe_tup hes) pa_nil hs2) hs) (by decide) (by decide) hs hpl) fun σ H Q' h => by
    obtain ⟨W, hn, Q, ht, kk⟩ := h
    refine ⟨W, hn, _, ht, fun v H1 d st hd ⟨b, hb, hq⟩ => ⟨by rw [List.length_map, sizeLine_eq]; omega, fun q hq0 => ?_⟩⟩
    refine ⟨W.XB, d, v, q, Ts, b, Q, rfl, den_upd hq0 hd, upd_same, hne, hb, hq, fun r H' rd ex hr hq2 => kk r H' rd ((st.new hq0).pure ex) hr hq2⟩
theorem ps_tyn {x : Str} {n : String} {pos : Pos} (hm : X.mg x = none) (hg : Gl X x := by rfl) (hv : bootBuiltins x = some (.type n) := by decide +kernel) (hn : x ≠ "__name__" := by decide) (hd : (x == ("__debug__" : Str)) = false := by decide) : PE X (.Name x pos) (tC (.ty n)) := pe_bltn hg hm hv rfl hn hd

/-! ### slices -/
def cutD (xs : List D) (lo hi : Option Int) : List D := (xs.drop (HT.sIx xs.length 0 lo)).take (HT.sIx xs.length xs.length hi - HT.sIx xs.length 0 lo)
theorem denL_cut {B : Addr → Prop} {ds : List D} {xs : List V} {lo hi : Option Int} (h : DenL G B H ds xs) : DenL G B H (cutD ds lo hi) (cutV xs lo hi) := by
  unfold cutD cutV
  rw [h.length]
  exact (h.drop _).take _
def gSl (lo hi : Option Int) : D → (D → Prop) → Prop := fun d Q => match d with
  | .lst ds => Q (.lst (cutD ds lo hi))
  | .tup ds => Q (.tup (cutD ds lo hi))
  | _ => False
abbrev DO := (Exc → Prop) → List Sl → (Option Int → Prop) → Prop
def oNone : DO := fun _ _ Q => Q none
def oSome (te : DT) : DO := fun ex env Q => te ex env fun d => ∃ i : Int, d = .int i ∧ Q (some i)
def liftO (G : Gd) (E : XK) (c : Nat) (t : DO) : TO := fun σ H Q' => ∃ W : Wd G E σ H, W.m + c ≤ W.n ∧ ∃ Q, t W.ex W.env Q ∧ ∀ o H', Step W c H' → Q o → Q' o H'
theorem do_none : PO X none (liftO G E 0 oNone) := ⟨fun pins s σ H Q' I h => po_none.run pins s σ H Q' I (by
  obtain ⟨W, hn, Q, ht, kk⟩ := h
  exact kk none H (Step.refl W) ht)⟩
theorem do_some {e : Expr} {c : Nat} {te : DT} (he : DE G E X c e te) : PO X (some e) (liftO G E c (oSome te)) := ⟨fun pins s σ H Q' I h => (po_some he).run pins s σ H Q' I (by
  obtain ⟨W, hn, Q, ht, kk⟩ := h
  refine ⟨W, hn, _, ht, fun v H1 d st hd ⟨i, e, hq⟩ => ?_⟩
  subst e
  cases hd
  exact ⟨i, rfl, kk (some i) H1 st hq⟩)⟩
def dSl (te : DT) (lo hi : DO) : DT := fun ex env Q => te ex env fun d => lo ex env fun l => hi ex env fun u => gSl l u d Q
theorem sl_any : SlR X (fun x lo hi H Q => rSlL X.K x lo hi H Q ∨ rSlA X.K x lo hi H Q) := SlR.or sl_list sl_tupA
theorem cut_all {xs : List V} {lo hi : Option Int} (h1 : HT.sIx xs.length 0 lo = 0) (h2 : HT.sIx xs.length xs.length hi = xs.length) : cutV xs lo hi = xs := by
  unfold cutV
  rw [h1, h2, List.drop_zero, Nat.sub_zero, List.take_length]
theorem cutD_all {ds : List D} {n : Nat} {lo hi : Option Int} (hn : ds.length = n) (h1 : HT.sIx n 0 lo = 0) (h2 : HT.sIx n n hi = n) : cutD ds lo hi = ds := by
  unfold cutD
  rw [hn, h1, h2, List.drop_zero, Nat.sub_zero, ← hn, List.take_length]
theorem de_sl {e : Expr} {lo hi : Option Expr} {pos p2 : Pos} {c cl ch : Nat} {te : DT} {tl th : DO} (hK : X.K = G.K) (he : DE G E X c e te) (hl : PO X lo (liftO G E cl tl)) (hh : PO X hi (liftO G E ch th)) : DE G E X (c + (cl + ch)) (.Subscript e (.Slice lo hi none p2) pos) (dSl te tl th) :=
  imp (pe_slice sl_any he hl hh) fun σ H Q' h => by
    obtain ⟨W, hn, Q, ht, kk⟩ := h
    refine ⟨W, by omega, _, ht, fun v H1 d st hd hq => ⟨W.next st, by show W.m + cl ≤ W.n - c; omega, _, hq, fun l H2 st2 hq2 => ⟨(W.next st).next st2, by show W.m + ch ≤ W.n - c - cl; omega, _, hq2, fun u H3 st3 hq3 => ?_⟩⟩⟩
    have st13 : Step W (c + (cl + ch)) H3 := st.trans (st2.trans st3)
    have hd3 : Den G W.XB H3 d v := ((W.next st).next st2).den st3 ((W.next st).den st2 hd)
    cases d <;> try exact hq3.elim
    · rename_i ds
      obtain ⟨a, xs, rfl, na, ha, la, da⟩ := hd3
      refine .inl ⟨a, xs, rfl, SqL.of ha, fun p hp => kk _ _ (.lst (cutD ds l u)) (st13.new hp) (den_lst hp ((W.next st13).fresh hp) (Nat.le_trans (cutV_length xs l u) la) (denL_cut da)) hq3⟩
    · rename_i ds
      obtain ⟨a, xs, rfl, na, ha, la, da⟩ := hd3
      have hq4 : Q (.tup (cutD ds l u)) := hq3
      refine .inr ⟨a, xs, rfl, by rw [hK]; exact ha, fun ⟨h1, h2⟩ => ?_, fun _ p hp => kk _ _ (.tup (cutD ds l u)) (st13.new hp) (den_tup hp ((W.next st13).fresh hp) (Nat.le_trans (cutV_length xs l u) la) (denL_cut da)) hq4⟩
      rw [cutD_all da.length h1 h2] at hq4
      exact kk _ H3 (.tup ds) st13 ⟨a, xs, rfl, na, ha, la, da⟩ hq4
end
end Kn

set_option Elab.async false
set_option linter.all false
set_option maxRecDepth 100000
set_option maxHeartbeats 2100000
namespace Kn
open PySem L2 RZ

/-- a comprehension whose items are known, with a test that is known -/
theorem compL_filter {tg : DG} {tt : DB} {te : DT} {Q : List D → Prop} {env : List Sl} (p : D → Bool) (f : D → D) : ∀ {ds acc : List D},
    (∀ d ∈ ds, ∀ (K : D → Prop) (K' : Prop), (p d = true → K (f d)) → (p d = false → K') → tg d env fun env2 => tt noX env2 fun b => if b = true then te noX env2 K else K') →
    Q (acc ++ (ds.filter p).map f) → compL tg tt te Q env ds acc
  | [], acc, _, hq => by
    unfold compL
    simpa using hq
  | d :: ds, acc, h, hq => by
    unfold compL
    refine h d List.mem_cons_self _ _ (fun hp => ?_) fun hp => ?_
    · refine compL_filter p f (fun e he => h e (List.mem_cons_of_mem _ he)) ?_
      rw [List.filter_cons, if_pos hp] at hq
      simpa using hq
    · refine compL_filter p f (fun e he => h e (List.mem_cons_of_mem _ he)) ?_
      rw [List.filter_cons, if_neg (by rw [hp]; exact Bool.false_ne_true)] at hq
      exact hq
/-- without a test -/
theorem compL_map {tg : DG} {te : DT} {Q : List D → Prop} {env : List Sl} (f : D → D) : ∀ {ds acc : List D}, (∀ d ∈ ds, ∀ K : D → Prop, K (f d) → tg d env fun env2 => te noX env2 K) → Q (acc ++ ds.map f) → compL tg bYes te Q env ds acc
  | [], acc, _, hq => by
    unfold compL
    simpa using hq
  | d :: ds, acc, h, hq => by
    unfold compL
    refine h d List.mem_cons_self _ ?_
    exact compL_map f (fun e he => h e (List.mem_cons_of_mem _ he)) (by simpa using hq)
/-- without a test, whatever comes of each item -/
theorem compL_any {tg : DG} {te : DT} {Q : List D → Prop} {env : List Sl} (R : D → D → Prop) : ∀ {ds acc : List D}, (∀ d ∈ ds, ∀ K : D → Prop, (∀ r, R d r → K r) → tg d env fun env2 => te noX env2 K) →
    (∀ rs : List D, rs.length = ds.length → (∀ (i : Nat) (d r : D), ds[i]? = some d → rs[i]? = some r → R d r) → Q (acc ++ rs)) → compL tg bYes te Q env ds acc
  | [], acc, _, hq => by
    unfold compL
    have := hq [] rfl (fun i d r h => by simp at h)
    simpa using this
  | d :: ds, acc, h, hq => by
    unfold compL
    refine h d List.mem_cons_self _ fun r hr => ?_
    refine compL_any R (fun e he => h e (List.mem_cons_of_mem _ he)) fun rs hl hrs => ?_
    have := hq (r :: rs) (by simp [hl]) fun i d' r' h1 h2 => by
      cases i with
      | zero => simp at h1 h2; subst h1; subst h2; exact hr
      | succ i => exact hrs i d' r' (by simpa using h1) (by simpa using h2)
    simpa using this
/-- a for loop by what holds between two turns -/
theorem sForL_inv {ex : Exc → Prop} {tg : DG} {tb : DS} {de : DEnds} (I : Nat → List Sl → Prop) : ∀ {ds : List D} {env : List Sl} (n : Nat), I n env →
    (∀ (i : Nat) (d : D) (env : List Sl), ds[i]? = some d → I (n + i) env → ∀ nx : List Sl → Prop, (∀ env', I (n + i + 1) env' → nx env') → tg d env fun env2 => tb ex { de with nx := nx, ct := nx, bk := de.nx } env2) →
    (∀ env, I (n + ds.length) env → de.nx env) → sForL ex tg tb de ds env
  | [], env, n, h0, _, hd => by
    unfold sForL
    exact hd env (by simpa using h0)
  | d :: ds, env, n, h0, hs, hd => by
    unfold sForL
    refine hs 0 d env rfl h0 _ fun env' h' => ?_
    refine sForL_inv I (n + 1) h' (fun i d' env'' hi hI nx hn => ?_) (fun env'' hI => hd env'' (by rw [List.length_cons, show n + (ds.length + 1) = n + 1 + ds.length by omega]; exact hI))
    refine hs (i + 1) d' env'' (by simpa using hi) (by rw [show n + (i + 1) = n + 1 + i by omega]; exact hI) nx fun e he => hn e (by rw [show n + 1 + i + 1 = n + (i + 1) + 1 by omega]; exact he)
theorem atI_cons {α : Type} {x : α} {xs : List α} : atI (x :: xs) 0 = some x := by
  have := atI_nat (xs := x :: xs) (j := 0) (v := x) rfl
  simpa using this
end Kn

set_option Elab.async false
set_option linter.all false
set_option maxRecDepth 100000
set_option maxHeartbeats 2100000
namespace Kn
open PySem L2 RZ
def D.isI : D → Bool
  | .int _ => true
  | _ => false
theorem isB_int : ∀ {d : D}, (kindS d).isSome = true → isB d "int" = some (match d with | .int _ => true | .bl _ => true | _ => false)
  | .non, _ => by decide +kernel
  | .bl b, _ => by show kitB "bool" "int" = some true; decide +kernel
  | .int i, _ => by show kitB "int" "int" = some true; decide +kernel
  | .str x, _ => by show kitB "str" "int" = some false; decide +kernel
  | .lst ds, _ => by show kitB "list" "int" = some false; decide +kernel
  | .tup ds, _ => by show kitB "tuple" "int" = some false; decide +kernel
  | .dic ks ds, _ => by show kitB "dict" "int" = some false; decide +kernel
theorem isB_bool : ∀ {d : D}, (kindS d).isSome = true → isB d "bool" = some (match d with | .bl _ => true | _ => false)
  | .non, _ => by decide +kernel
  | .bl b, _ => by show kitB "bool" "bool" = some true; decide +kernel
  | .int i, _ => by show kitB "int" "bool" = some false; decide +kernel
  | .str x, _ => by show kitB "str" "bool" = some false; decide +kernel
  | .lst ds, _ => by show kitB "list" "bool" = some false; decide +kernel
  | .tup ds, _ => by show kitB "tuple" "bool" = some false; decide +kernel
  | .dic ks ds, _ => by show kitB "dict" "bool" = some false; decide +kernel
theorem isB_list : ∀ {d : D}, (kindS d).isSome = true → isB d "list" = some (match d with | .lst _ => true | _ => false)
  | .non, _ => by decide +kernel
  | .bl b, _ => by show kitB "bool" "list" = some false; decide +kernel
  | .int i, _ => by show kitB "int" "list" = some false; decide +kernel
  | .str x, _ => by show kitB "str" "list" = some false; decide +kernel
  | .lst ds, _ => by show kitB "list" "list" = some true; decide +kernel
  | .tup ds, _ => by show kitB "tuple" "list" = some false; decide +kernel
  | .dic ks ds, _ => by show kitB "dict" "list" = some false; decide +kernel
theorem isB_tuple : ∀ {d : D}, (kindS d).isSome = true → isB d "tuple" = some (match d with | .tup _ => true | _ => false)
  | .non, _ => by decide +kernel
  | .bl b, _ => by show kitB "bool" "tuple" = some false; decide +kernel
  | .int i, _ => by show kitB "int" "tuple" = some false; decide +kernel
  | .str x, _ => by show kitB "str" "tuple" = some false; decide +kernel
  | .lst ds, _ => by show kitB "list" "tuple" = some false; decide +kernel
  | .tup ds, _ => by show kitB "tuple" "tuple" = some true; decide +kernel
  | .dic ks ds, _ => by show kitB "dict" "tuple" = some false; decide +kernel
/-- the items of a list or tuple -/
def D.items? : D → Option (List D)
  | .lst ds => some ds
  | .tup ds => some ds
  | _ => none
theorem any_seq : ∀ {d : D}, (kindS d).isSome = true → anyB d ["list", "tuple"] = some d.items?.isSome := fun {d} h => by
  unfold anyB anyB anyB
  rw [isB_list h, isB_tuple h]
  cases d <;> first | rfl | cases h
def seqOf (d : D) (f : List D → Prop) (n : Prop) : Prop := match d.items? with
  | some ds => f ds
  | none => n
end Kn

set_option Elab.async false
set_option linter.all false
set_option maxRecDepth 100000
set_option maxHeartbeats 2100000
namespace Kn
open PySem L2 RZ
open PyProof.Rows (envOfC)
section
variable {G : Gd} {E : XK} {X : Cx} {σ : List (Option V)} {H H' : Hp} {k : Nat}

/-! ### in, not in: a tuple of plain data -/
def rInTu (K : PySem.W.Frag) (f : Bool → Bool) : R2 := fun x y H Q => ∃ d ds, Dp K H x d ∧ Dp K H y (.tuple ds) ∧ SeqAt.shaped d = true ∧ SeqAt.shaped (.tuple ds) = true ∧ Q (.bl (f (ds.any fun z => PyData.eqv z d))) H
theorem op_inTu (hu : X.A.units + 65 < cLine) : OpR X (compareOp .In) (rInTu X.K id) := by
  intro pins s σ H x y v u Q I rx ry h; obtain ⟨d, ds, hd, he, sd, se, q⟩ := h
  obtain ⟨as, r1⟩ := Dp.reads I d x v hd rx; obtain ⟨bs, r2⟩ := Dp.reads I (.tuple ds) y u he ry
  exact SeqAt.in_tuple_reads r2 r1 (SeqAt.canLay_of_shaped se) (SeqAt.canLay_of_shaped sd) (PyProof.Rows.room_in_shaped sd hu) ⟨.bl _, H, I, rfl, q⟩
theorem op_niTu (hu : X.A.units + 65 < cLine) : OpR X (compareOp .NotIn) (rInTu X.K not) := by
  intro pins s σ H x y v u Q I rx ry h; obtain ⟨d, ds, hd, he, sd, se, q⟩ := h
  obtain ⟨as, r1⟩ := Dp.reads I d x v hd rx; obtain ⟨bs, r2⟩ := Dp.reads I (.tuple ds) y u he ry
  exact SeqAt.notIn_tuple_reads r2 r1 (SeqAt.canLay_of_shaped se) (SeqAt.canLay_of_shaped sd) (PyProof.Rows.room_in_shaped sd hu) ⟨.bl _, H, I, rfl, q⟩
def gInT : G2 := fun d e Q => ∃ p qs es, e = .tup es ∧ pd d = some p ∧ pdL es = some qs ∧ SeqAt.shaped p = true ∧ SeqAt.shaped (.tuple qs) = true ∧ Q (.bl (qs.any fun z => PyData.eqv z p))
def gNiT : G2 := fun d e Q => ∃ p qs es, e = .tup es ∧ pd d = some p ∧ pdL es = some qs ∧ SeqAt.shaped p = true ∧ SeqAt.shaped (.tuple qs) = true ∧ Q (.bl (!qs.any fun z => PyData.eqv z p))
theorem o_inT (hK : X.K = G.K) (hu : X.A.units + 65 < cLine) : OpR X (compareOp .In) (rD G gInT) := opr_imp (op_inTu hu) fun x y H Q' h => by
  obtain ⟨B, d, e, Q, hd, he, _, ⟨p, qs, es, e0, e1, e2, s1, s2, hq⟩, k⟩ := h
  subst e0
  exact ⟨p, qs, by rw [hK]; exact hd.dp _ _ _ e1, by rw [hK]; exact he.dp _ _ _ (by simp [pd, e2]), s1, s2, k _ H (.bl _) (Ext.refl _ _) (den_bl _) hq⟩
theorem o_niT (hK : X.K = G.K) (hu : X.A.units + 65 < cLine) : OpR X (compareOp .NotIn) (rD G gNiT) := opr_imp (op_niTu hu) fun x y H Q' h => by
  obtain ⟨B, d, e, Q, hd, he, _, ⟨p, qs, es, e0, e1, e2, s1, s2, hq⟩, k⟩ := h
  subst e0
  exact ⟨p, qs, by rw [hK]; exact hd.dp _ _ _ e1, by rw [hK]; exact he.dp _ _ _ (by simp [pd, e2]), s1, s2, k _ H (.bl _) (Ext.refl _ _) (den_bl _) hq⟩
/-- is True, is False: of two bools -/
def gIsB : G2 := fun d e Q => ∃ a b, d = .bl a ∧ e = .bl b ∧ Q (.bl (decide (a = b)))
def gIsnB : G2 := fun d e Q => ∃ a b, d = .bl a ∧ e = .bl b ∧ Q (.bl (!decide (a = b)))
theorem o_isB : OpR X (compareOp .Is) (rD G gIsB) := opr_imp op_is_bl fun x y H Q' h => by
  obtain ⟨B, d, e, Q, hd, he, _, ⟨a, b, rfl, rfl, hq⟩, k⟩ := h
  exact ⟨a, b, hd, he, k _ H (.bl _) (Ext.refl _ _) (den_bl _) hq⟩
theorem o_isnB : OpR X (compareOp .IsNot) (rD G gIsnB) := opr_imp op_isnot_bl fun x y H Q' h => by
  obtain ⟨B, d, e, Q, hd, he, _, ⟨a, b, rfl, rfl, hq⟩, k⟩ := h
  exact ⟨a, b, hd, he, k _ H (.bl _) (Ext.refl _ _) (den_bl _) hq⟩

/-! ### l[::-1], l.count(i) -/
def dRev (te : DT) : DT := fun ex env Q => te ex env fun d => ∃ ds, d = .lst ds ∧ Q (.lst ds.reverse)
theorem DenL.reverse {B : Addr → Prop} {H : Hp} : ∀ {ds : List D} {xs : List V}, DenL G B H ds xs → DenL G B H ds.reverse xs.reverse
  | [], _, h => by cases h; rfl
  | d :: ds, _, ⟨x, r, e, h1, h2⟩ => by
    subst e
    rw [List.reverse_cons, List.reverse_cons]; exact (DenL.reverse h2).append ⟨x, [], rfl, h1, rfl⟩
theorem de_revL {e : Expr} {c : Nat} {te : DT} {kk : Nat} {p1 p2 p3 pos : Pos} (he : DE G E X c e te) : DE G E X c (.Subscript e (.Slice none none (some (.UnaryOp .USub (.Constant (.int 1) kk p1) p2)) p3) pos) (dRev te) :=
  imp (pe_revL he) fun σ H Q' h => by
    obtain ⟨W, hn, Q, ht, kk⟩ := h
    refine ⟨W, hn, _, ht, fun v H1 d st hd ⟨ds, e, hq⟩ => ?_⟩
    subst e
    obtain ⟨a, xs, rfl, na, ha, la, da⟩ := hd
    refine ⟨a, xs, rfl, SqL.of ha, fun p hp => ?_⟩
    exact kk _ _ (.lst ds.reverse) (st.new hp) (den_lst hp ((W.next st).fresh hp) (by rw [List.length_reverse]; exact la) da.reverse) hq
def dCount (te tv : DT) : DT := fun ex env Q => te ex env fun d => ∃ is : List Int, d = .lst (is.map D.int) ∧ tv ex env fun e => ∃ i : Int, e = .int i ∧ Q (.int (is.count i : Nat))
theorem de_count {o e : Expr} {apos cpos : Pos} {c c2 : Nat} {te tv : DT} (ho : DE G E X c o te) (he : DE G E X c2 e tv)
    (hbase : attributeBase o "count" X.env (eval o X.env) = eval o X.env := by rfl)
    (hfew : ((backTo cpos (starEach [e] X.env)).all (fun x => !x.1) && (backToKw cpos (keywordEach [] X.env)).all (fun x => x.1.isSome) && decide (([e] : List Expr).length + ([] : List Keyword).length + (if ([] : List Keyword).isEmpty then 0 else 1) < 30)) = true := by rfl)
    (hline : (apos.endLine == cpos.line) = true := by rfl) (hs : starEach [e] X.env = (false, eval e X.env) ::
      starEach [] X.env := by rfl) (hplain : (backTo cpos (starEach [] X.env)).any (·.1) = false := by rfl) :
    DE G E X (c + c2) (.Call (.Attribute o "count" apos) [e] [] cpos) (dCount te tv) :=
  imp (pe_bm PySem.F.plainAttrs_list PySem.F.slot_list_count PySem.F.type_list_count mt_lcount ho (pa_cons he pa_nil hs) hbase hfew hline hs hplain) fun σ H Q' h => by
    obtain ⟨W, hn, Q, ht, kk⟩ := h
    refine ⟨W, by omega, _, ht, fun v H1 d st hd ⟨is, e, hq⟩ => ?_⟩
    subst e
    obtain ⟨a, xs, rfl, na, ha, la, da⟩ := hd
    have ex := da.ints
    subst ex
    refine ⟨.inl ⟨rfl, _, SqL.of ha⟩, W.next st, by show W.m + c2 ≤ W.n - c; omega, _, hq, fun v2 H2 e st2 he2 ⟨i, e2, hq2⟩ => ?_⟩
    subst e2
    cases he2
    have ha2 : H2 a = some (.lst (is.map V.int)) := st2.keep na ha
    exact ⟨a, is, i, rfl, rfl, SqL.of ha2, kk _ H2 (.int (is.count i : Nat)) (st.trans st2) (den_int _) hq2⟩

/-! ### a, b = x, y -/
def sPar (i j : Nat) (u : DA) : DS := fun ex de env => u ex env fun ds => ∃ x y, ds = [x, y] ∧ de.nx ((env.set i (.val x)).set j (.val y))
theorem ds_par {i j : Nat} {x y : Str} {a b : Expr} {u : DA} {c : Nat} {px py pt pos : Pos} {kt k2 pt2} (hc : X.calm = true) (hN : X.N.Nodup) (hi : X.N[i]? = some x) (hj : X.N[j]? = some y) (hij : i ≠ j)
    (hx : X.env.scope.names.lookup x = some .local) (hy : X.env.scope.names.lookup y = some .local) (ha : DEs G E X c [a, b] u)
    (hw : swappedStores [.Tuple [.Name x px, .Name y py] kt
      pt] (.Tuple [a, b] k2 pt2) X.env = pure (some [x, y]))
    (hs : swapsWithSole [.Tuple [.Name x px, .Name y py] kt pt] (.Tuple [a, b] k2 pt2) pos.line X.env = pure false := by rfl) : DSt G E X c (.Assign [.Tuple [.Name x px, .Name y py] kt pt] (.Tuple [a, b] k2 pt2) pos) (sPar i j u) :=
  impS (ps_par hc hN hi hj hij hx hy ha hw hs) fun Dn σ H h => by
    obtain ⟨W, hn, de, ht, k1, k2, k3, k4⟩ := h
    refine ⟨W, hn, _, ht, fun vs H1 ds st hd ⟨x, y, e, hq⟩ => ?_⟩
    subst e
    obtain ⟨v, w, rfl, hv, hw⟩ := denL2 hd
    refine ⟨v, w, rfl, ?_⟩
    have hv' : Den G (W.next st).XB H1 x v := hv
    have hw' : Den G ((W.next st).put i hv').XB H1 y w := hw.fewer fun b hb => xb_val (W.next st).len hb
    exact k1 _ H1 (((W.next st).put i hv').put j hw') ((((Later.next st).trans (Later.put _ i hv')).trans (Later.put _ j hw')).more (by omega)) hq
end
end Kn

set_option Elab.async false
set_option linter.all false
set_option maxRecDepth 100000
set_option maxHeartbeats 2100000
namespace Kn
open PySem L2 RZ
open PyProof.Rows (envOfC)
section
variable {G : Gd} {E : XK} {X : Cx} {σ : List (Option V)} {H H' : Hp} {tg tg1 : Expr} {k : Nat}

/-! ### comprehensions of two clauses (none of whose parts draws) -/
def compI (tg : DG) (tt : DB) (te : DT) (Q : List D → Prop) (env : List Sl) : List D → List D → Prop
  | [], acc => Q acc
  | d :: ds, acc => tg d env fun env2 => tt noX env2 fun b => if b = true then te noX env2 fun y => acc.length < sizeLine ∧ compI tg tt te Q env ds (acc ++ [y]) else compI tg tt te Q env ds acc
def compL2 (vs1 : List Nat) (tg : DG) (tt : DB) (ti1 : DA) (tg1 : DG) (tt1 : DB) (te : DT) (Q : List D → Prop) (env : List Sl) : List D → List D → Prop
  | [], acc => Q acc
  | d :: ds, acc => tg d env fun env2 => tt noX env2 fun b => if b = true then ti1 noX env2 fun es => compI tg1 tt1 te (fun acc2 => compL2 vs1 tg tt ti1 tg1 tt1 te Q env ds acc2) (inEnv env2 vs1) es acc else compL2 vs1 tg tt ti1 tg1 tt1 te Q env ds acc
def dComp2 (vs vs1 : List Nat) (ti : DA) (tg : DG) (tt : DB) (ti1 : DA) (tg1 : DG) (tt1 : DB) (te : DT) : DT := fun ex env Q => ti ex env fun ds => compL2 vs1 tg tt ti1 tg1 tt1 te (fun rs => Q (.lst rs)) (inEnv env vs) ds []
theorem ext_nb {u : Option Ur} {B : Addr → Prop} {b : Addr} {o : HO} (e : Ext u H H') (hu : ∀ p, Pr u p → B p.1) (nb : ¬ B b) (h : H b = some o) : H' b = some o := e b o h (NU.of hu nb)
/-- the state in which one item of the second clause is made -/
def Wd.inner2 (W : Wd G E0 σ H) (vs : List Nat) (H2 : Hp) (k : ∀ b o, ¬ W.XB b → H b = some o → H2 b = some o) (hB : ∀ a, W.B a → H2 a ≠ none) (hg : Good W.u H2 W.n) : Wd G E0 (wipe σ vs) H2 where
  u := W.u
  n := W.n
  m := W.m
  B := W.B
  H0 := H2
  env := inEnv W.env vs
  ex := fun _ => False
  ug := W.ug
  hu := W.hu
  hB := hB
  fr := Ext.refl _ _
  good := hg
  len := by unfold inEnv; rw [wipeE_len, List.length_map, wipe_length]; exact W.len
  sl := fun i s e => by
    rcases inEnv_get e with z | ⟨hi, s', h1, z⟩
    · subst z; trivial
    · subst z
      have so := W.sl i s' h1
      have ew : (wipe σ vs)[i]? = σ[i]? := by rw [wipe_get, if_neg (fun z => hi z.1)]
      rw [ew]
      cases s' with
      | emp => trivial
      | own a ds => trivial
      | slf a dx c ds => trivial
      | obj a o => trivial
      | dic a ks ds => trivial
      | val d =>
        obtain ⟨x, e1, e2⟩ := so
        exact ⟨x, e1, Den.keep k (fun b hb => .inl (.inl (xb_in hb))) d x e2⟩
  nd := fun i j a s t h1 _ hm => (inEnv_noown h1 hm).elim
  exc := fun _ _ _ _ _ _ _ z => z.elim
/-- no address that counts is free -/
theorem AccAt.free {W : Wd G E σ H} {c : Nat} {H1 H2 : Hp} {D0 : Addr} {n : Nat} {acc : List D} (st : Step W c H1) (A : AccAt G W H1 D0 n H2 acc) {p : Addr} (hp : H2 p = none) : ¬ (W.XB p ∨ p = D0) := fun hb => by
  rcases hb with hb | rfl
  · cases q : H1 p with
    | none => exact (W.next st).fresh q hb
    | some o =>
      rcases NU.em (u := W.u) (b := p) with hu | ⟨r, hr, rfl⟩
      · rw [A.keep p o q hu] at hp; cases hp
      · obtain ⟨⟨_, h1⟩, _⟩ := A.good.there hr
        rw [h1] at hp; cases hp
  · obtain ⟨xs, hxs, _⟩ := A.at_
    rw [hxs] at hp; cases hp
/-- more done beside the list -/
theorem AccAt.step {W : Wd G E σ H} {H1 H2 H3 : Hp} {D0 : Addr} {n : Nat} {acc : List D} (A : AccAt G W H1 D0 n H2 acc) (nu0 : NU W.u D0) (e : Ext W.u H2 H3) (g : Good W.u H3 n) : AccAt G W H1 D0 n H3 acc := by
  obtain ⟨⟨xs, h1, h2, h3⟩, k, _⟩ := A
  exact ⟨⟨xs, e _ _ h1 nu0, h2, h3.ext e fun p z => .inl (W.huX p z)⟩, fun b o hb nu => e _ _ (k b o hb nu) nu, g⟩
/-- one more item -/
theorem AccAt.push {W : Wd G E σ H} {H1 H2 : Hp} {D0 : Addr} {n : Nat} {acc : List D} {d : D} {y : V} {xs : List V} (A : AccAt G W H1 D0 n H2 acc) (hD : H1 D0 = none) (fr0 : ¬ W.XB D0) (hx : H2 D0 = some (.lst xs)) (hy : Den G (fun a => W.XB a ∨ a = D0) H2 d y) (hl : acc.length < sizeLine) :
    xs.length < sizeLine ∧ AccAt G W H1 D0 n (upd H2 D0 (.lst (xs ++ [y]))) (acc ++ [d]) := by
  obtain ⟨⟨xs', h1, h2, h3⟩, k, g⟩ := A
  rw [hx] at h1
  cases h1
  have el := h3.length
  have kk : ∀ b o, ¬ (W.XB b ∨ b = D0) → H2 b = some o → upd H2 D0 (.lst (xs ++ [y])) b = some o := fun b o nb hb => by rw [upd_ne (fun z => nb (.inr z))]; exact hb
  refine ⟨by omega, ⟨xs ++ [y], upd_same, by rw [List.length_append]; show xs.length + 1 ≤ _; omega, (DenL.keep kk (fun b hb => .inl hb) _ _ h3).append ⟨y, [], rfl, Den.keep kk (fun b hb => .inl hb) _ _ hy, rfl⟩⟩, fun b o hb nu => ?_, ?_⟩
  · rw [upd_ne (ne_of_none hb hD)]
    exact k b o hb nu
  · exact g.upd (fun p e => ⟨fun z => fr0 (by rw [show D0 = p.1 from z]; exact W.huX p e), fun z => fr0 (by rw [show D0 = p.2 from z]; exact .inl (W.hu p e).2)⟩) (fun φ z => by rw [hx] at z; cases z)
theorem lift_comp2 {ci : Nat} {ti ti1 : DA} {t t1 : DG} {tt tt1 : DB} {te : DT} {vs sl vs1 sl1 : List Nat} (hsl : ∀ i ∈ sl, i ∈ vs) (hsl1 : ∀ i ∈ sl1, i ∈ vs1) {Q' : VK} (h : lift G E ci (dComp2 vs vs1 ti t tt ti1 t1 tt1 te) σ H Q') :
    tLc2 (liftI G E ci ti) (liftG G E0 sl t) (liftB G E0 0 tt) (liftI G E0 0 ti1) (liftG G E0 sl1 t1) (liftB G E0 0 tt1) (lift G E0 0 te) vs vs1 σ H Q' := by
  obtain ⟨W, hn, Q, ht, kQ⟩ := h
  refine ⟨W, hn, _, ht, fun J H1 ds st wk hq => ?_⟩
  intro D0 hD
  have fr0 : ¬ W.XB D0 := (W.next st).fresh hD
  have nu0 : NU W.u D0 := W.nuX fr0
  refine ⟨fun i m H2 => ∃ acc, AccAt G W H1 D0 (W.n - ci) H2 acc ∧ i ≤ ds.length ∧ m = ds.length - i ∧ compL2 vs1 t tt ti1 t1 tt1 te (fun rs => Q (.lst rs)) (inEnv W.env vs) (ds.drop i) acc,
    ⟨ds.length, [], ⟨⟨[], upd_same, by simp, rfl⟩, fun b o hb _ => by rw [upd_ne (ne_of_none hb hD)]; exact hb, st.good.ext (Ext.new hD)⟩, Nat.zero_le _, rfl, hq⟩, ?_⟩
  rintro i m H2 ⟨acc, A, hi, rfl, hq2⟩
  have keepX : ∀ b o, ¬ W.XB b → H1 b = some o → H2 b = some o := fun b o nb hb => A.keep b o hb (W.nuX nb)
  by_cases hlt : i < ds.length
  case neg =>
    have e : i = ds.length := by omega
    rw [e, List.drop_length] at hq2
    obtain ⟨xs, hxs, hxl, hxd⟩ := A.at_
    exact .inl ⟨wk.stop i H2 keepX (by omega), kQ _ H2 (.lst acc) ⟨fun b o hb nu => A.keep b o (st.ext b o hb nu) nu, A.good⟩ ⟨D0, xs, rfl, fr0, hxs, hxl, hxd.fewer fun b z => .inl z⟩ hq2⟩
  obtain ⟨go, yl⟩ := wk.go i H2 (fun a => W.XB a ∨ a = D0) keepX (fun b hb => by
    rcases hb with hb | rfl
    · exact .inl hb
    · exact .inr hD) (fun p hp => A.free st hp) hlt
  refine .inr ⟨go, fun H5 => ∃ acc2, AccAt G W H1 D0 (W.n - ci) H5 acc2 ∧ compL2 vs1 t tt ti1 t1 tt1 te (fun rs => Q (.lst rs)) (inEnv W.env vs) (ds.drop (i + 1)) acc2,
    fun H5 ⟨acc2, a2, q2⟩ => ⟨ds.length - (i + 1), by omega, acc2, a2, hlt, rfl, q2⟩, fun x H3 hy => ?_⟩
  obtain ⟨ex2, d, hd, hden⟩ := yl x H3 hy
  rw [drop_cons hd] at hq2
  have A3 : AccAt G W H1 D0 (W.n - ci) H3 acc := A.step nu0 ex2.weak (A.good.ext ex2)
  obtain ⟨xs3, hxs3, _, _⟩ := A3.at_
  let W3 : Wd G E0 (wipe σ vs) H3 := W.inner st vs D0 H3 (W.n - ci) hD (by rw [hxs3]; simp) A3.keep A3.good
  have hden3 : Den G W3.XB H3 d x := hden.fewer fun b hb => xb_in hb
  refine ⟨W3, d, _, hden3, hq2, fun σ4 W4 al hsl4 hq4 => ⟨wipe_same hsl hsl4.1 (by rw [hsl4.2, wipe_length]), ?_⟩⟩
  have l4 := al.later
  have n4 : W4.n = W.n - ci := al.n
  have m4 : W4.m = W.m := l4.m
  have u4 : W4.u = W.u := l4.u
  have b4 : ∀ a, (W.XB a ∨ a = D0) → W4.B a := fun a ha => by rw [l4.B]; exact ha
  have b4' : ∀ a, W4.B a → (W.XB a ∨ a = D0) := fun a ha => by rw [l4.B] at ha; exact ha
  refine ⟨W4, by rw [n4, m4]; omega, _, by rw [l4.ex]; exact hq4, fun b H5 st5 hb => ?_⟩
  have e5 : Ext W.u H3 H5 := by have z := st5.ext; rw [u4] at z; exact z
  have g5 : Good W.u H5 (W.n - ci) := by have z := st5.good; rw [u4, n4] at z; exact z
  have A5 := A3.step nu0 e5 g5
  cases b with
  | false => exact ⟨acc, A5, hb⟩
  | true =>
    refine ⟨W4.next st5, by show W4.m + 0 ≤ W4.n - 0; rw [n4, m4]; omega, _, by rw [show (W4.next st5).ex = noX from l4.ex]; exact hb, fun J1 H6 es st6 wk1 hq6 => ?_⟩
    let W6 := (W4.next st5).next st6
    have e6 : Ext W.u H5 H6 := by have z := st6.ext; rw [show (W4.next st5).u = W.u from u4] at z; exact z
    have n6 : W6.n = W.n - ci := by show W4.n - 0 - 0 = _; rw [n4]; rfl
    have u6 : W6.u = W.u := u4
    have g6 : Good W.u H6 (W.n - ci) := by have z := W6.good; rw [u6, n6] at z; exact z
    have A6 := A5.step nu0 e6 g6
    refine ⟨fun j kk H7 => ∃ acc2, AccAt G W H1 D0 (W.n - ci) H7 acc2 ∧ (∀ b o, ¬ W6.XB b → H6 b = some o → H7 b = some o) ∧ j ≤ es.length ∧ kk = es.length - j ∧ compI t1 tt1 te (fun acc2 => compL2 vs1 t tt ti1 t1 tt1 te (fun rs => Q (.lst rs)) (inEnv W.env vs) (ds.drop (i + 1)) acc2) (inEnv W4.env vs1) (es.drop j) acc2,
      ⟨es.length, acc, A6, fun _ _ _ h => h, Nat.zero_le _, rfl, hq6⟩, ?_⟩
    rintro j m7 H7 ⟨acc2, A7, k7, hj, rfl, hq7⟩
    by_cases hlt2 : j < es.length
    case neg =>
      have e : j = es.length := by omega
      rw [e, List.drop_length] at hq7
      exact .inl ⟨wk1.stop j H7 k7 (by omega), acc2, A7, hq7⟩
    obtain ⟨go1, yl1⟩ := wk1.go j H7 (fun a => W.XB a ∨ a = D0) k7 (fun b hb => .inl (.inl (b4 b hb))) (fun p hp => A7.free st hp) hlt2
    refine .inr ⟨go1, fun H5 => ∃ acc3, AccAt G W H1 D0 (W.n - ci) H5 acc3 ∧ (∀ b o, ¬ W6.XB b → H6 b = some o → H5 b = some o) ∧ compI t1 tt1 te (fun acc2 => compL2 vs1 t tt ti1 t1 tt1 te (fun rs => Q (.lst rs)) (inEnv W.env vs) (ds.drop (i + 1)) acc2) (inEnv W4.env vs1) (es.drop (j + 1)) acc3,
      fun H5 ⟨acc3, a3, k3, q3⟩ => ⟨es.length - (j + 1), by omega, acc3, a3, k3, hlt2, rfl, q3⟩, fun x1 H8 hy1 => ?_⟩
    obtain ⟨ex8, d1, hd1, hden1⟩ := yl1 x1 H8 hy1
    rw [drop_cons hd1] at hq7
    have A8 : AccAt G W H1 D0 (W.n - ci) H8 acc2 := A7.step nu0 ex8.weak (A7.good.ext ex8)
    have k8 : ∀ b o, ¬ W6.XB b → H6 b = some o → H8 b = some o := fun b o nb hb => ex8 _ _ (k7 b o nb hb) NU.none
    have W8h : ∃ W8 : Wd G E0 (wipe σ4 vs1) H8, W8.n = W.n - ci ∧ W8.m = W.m ∧ W8.u = W.u ∧ W8.B = W4.B ∧ W8.env = inEnv W4.env vs1 ∧ W8.ex = noX :=
      ⟨W6.inner2 vs1 H8 k8 (fun a ha z => A8.free st z (b4' a ha)) (by rw [u6, n6]; exact A8.good), n6, m4, u6, rfl, rfl, rfl⟩
    obtain ⟨W8, n8, m8, u8, b8, v8, x8⟩ := W8h
    have hden8 : Den G W8.XB H8 d1 x1 := hden1.fewer fun b hb => by
      have z : XBof W8.B (inEnv W4.env vs1) (wipe σ4 vs1) b := by rw [← v8]; exact hb
      exact b4' b (by rw [← b8]; exact xb_in z)
    refine ⟨W8, d1, _, hden8, by rw [v8]; exact hq7, fun σ9 W9 al9 hsl9 hq9 => ⟨wipe_same hsl1 hsl9.1 (by rw [hsl9.2, wipe_length]), ?_⟩⟩
    have l9 := al9.later
    have n9 : W9.n = W.n - ci := al9.n.trans n8
    have m9 : W9.m = W.m := l9.m.trans m8
    have u9 : W9.u = W.u := l9.u.trans u8
    have b9 : ∀ a, (W.XB a ∨ a = D0) → W9.B a := fun a ha => by rw [l9.B, b8]; exact b4 a ha
    have hu6 : ∀ p, Pr W.u p → W6.XB p.1 := fun p e => .inl (b4 _ (.inl (W.huX p e)))
    refine ⟨W9, by rw [n9, m9]; omega, _, by rw [l9.ex, x8]; exact hq9, fun b1 H10 st10 hb1 => ?_⟩
    have e10 : Ext W.u H8 H10 := by have z := st10.ext; rw [u9] at z; exact z
    have g10 : Good W.u H10 (W.n - ci) := by have z := st10.good; rw [u9, n9] at z; exact z
    have A10 := A8.step nu0 e10 g10
    have k10 : ∀ b o, ¬ W6.XB b → H6 b = some o → H10 b = some o := fun b o nb hb => ext_nb e10 hu6 nb (k8 b o nb hb)
    cases b1 with
    | false => exact ⟨acc2, A10, k10, hb1⟩
    | true =>
      refine ⟨W9.next st10, by show W9.m + 0 ≤ W9.n - 0; rw [n9, m9]; omega, _, by rw [show (W9.next st10).ex = noX from l9.ex.trans x8]; exact hb1, fun y H11 dy st11 hy11 hq11 => ?_⟩
      have e11 : Ext W.u H10 H11 := by have z := st11.ext; rw [show (W9.next st10).u = W.u from u9] at z; exact z
      have g11 : Good W.u H11 (W.n - ci) := by have z := st11.good; rw [show (W9.next st10).u = W.u from u9, show (W9.next st10).n = W9.n - 0 from rfl, n9] at z; exact z
      have A11 := A10.step nu0 e11 g11
      obtain ⟨xs, hxs, _, _⟩ := A11.at_
      obtain ⟨p1, p2⟩ := A11.push hD fr0 hxs (hy11.fewer fun b hb => .inl (b9 b hb)) hq11.1
      refine ⟨xs, hxs, p1, _, p2, fun b o nb hb => ?_, hq11.2⟩
      rw [upd_ne (fun z => nb (.inl (b4 b (.inr z))))]
      exact ext_nb e11 hu6 nb (k10 b o nb hb)
theorem de_comp2 {elt iter iter1 : Expr} {ifs ifs1 : List Expr} {scope : Scope} {own : List (Str × Nat)} {vs1 : List Nat} {pos : Pos} {ci : Nat} {ti ti1 : DA} {t t1 : DG} {tt tt1 : DB} {te : DT} {sl sl1 : List Nat} (xk : Xk G E k X) (hN : X.N.Nodup) (hi : DI G E X tg ci iter ti) (ok : BlkOk X.N X.env.scope scope own) (hv : ∀ i ∈ vs1, i ∈ own.map (·.2))
    (hg : ∀ (s : Shared) (H : Hp) (C : Addr) (cl : List (Str × Addr)) (fp : List Addr), DTg G E0 (X.blk s H scope (compEnvC scope cl C X.env) fp) tg sl t) (ht : ∀ (s : Shared) (H : Hp) (C : Addr) (cl : List (Str × Addr)) (fp : List Addr), DTs G (X.blk s H scope (compEnvC scope cl C X.env) fp) 0 ifs tt)
    (hi1 : ∀ (s : Shared) (H : Hp) (C : Addr) (cl : List (Str × Addr)) (fp : List Addr), DI G E0 (X.blk s H scope (compEnvC scope cl C X.env) fp) tg1 0 iter1 ti1)
    (hg1 : ∀ (s : Shared) (H : Hp) (C : Addr) (cl : List (Str × Addr)) (fp : List Addr), DTg G E0 (X.blk s H scope (compEnvC scope cl C X.env) fp) tg1 sl1 t1) (ht1 : ∀ (s : Shared) (H : Hp) (C : Addr) (cl : List (Str × Addr)) (fp : List Addr), DTs G (X.blk s H scope (compEnvC scope cl C X.env) fp) 0 ifs1 tt1)
    (he : ∀ (s : Shared) (H : Hp) (C : Addr) (cl : List (Str × Addr)) (fp : List Addr), DE G E0 (X.blk s H scope (compEnvC scope cl C X.env) fp) 0 elt te) (hsl : ∀ i ∈ sl, i ∈ own.map (·.2)) (hsl1 : ∀ i ∈ sl1, i ∈ vs1) (hs : ∀ x, foldedSetIterable iter X.env x = pure x := by intro _; rfl) (hs1 : ∀ env x, foldedSetIterable iter1 env x = pure x := by intro _ _; rfl) :
    DE G E X ci (.ListComp elt [⟨tg, iter, ifs, 0⟩, ⟨tg1, iter1, ifs1, 0⟩] scope pos) (dComp2 (own.map (·.2)) vs1 ti t tt ti1 t1 tt1 te) :=
  imp (pe_lc2 xk.calm hN hi ok hv hg ht hi1 hg1 ht1 he hs hs1) fun _ _ _ h => lift_comp2 hsl hsl1 h
theorem ds_setComp2 {i : Nat} {y : Str} {py : Pos} {elt iter iter1 : Expr} {ifs ifs1 : List Expr} {scope : Scope} {own : List (Str × Nat)} {vs1 : List Nat} {pos spos : Pos} {ci : Nat} {ti ti1 : DA} {t t1 : DG} {tt tt1 : DB} {te : DT} {sl sl1 : List Nat} (xk : Xk G E k X) (hN : X.N.Nodup) (hy : X.N[i]? = some y) (hyl : X.env.scope.names.lookup y = some .local)
    (hsw : swapsWith (.ListComp elt [⟨tg, iter, ifs, 0⟩, ⟨tg1, iter1, ifs1, 0⟩] scope pos) (some (.Name y py)) spos.line X.env = pure true) (hi : DI G E X tg ci iter ti) (ok : BlkOk X.N X.env.scope scope own) (hv : ∀ i ∈ vs1, i ∈ own.map (·.2))
    (hg : ∀ (s : Shared) (H : Hp) (C : Addr) (cl : List (Str × Addr)) (fp : List Addr), DTg G E0 (X.blk s H scope (compEnvC scope cl C X.env) fp) tg sl t) (ht : ∀ (s : Shared) (H : Hp) (C : Addr) (cl : List (Str × Addr)) (fp : List Addr), DTs G (X.blk s H scope (compEnvC scope cl C X.env) fp) 0 ifs tt)
    (hi1 : ∀ (s : Shared) (H : Hp) (C : Addr) (cl : List (Str × Addr)) (fp : List Addr), DI G E0 (X.blk s H scope (compEnvC scope cl C X.env) fp) tg1 0 iter1 ti1)
    (hg1 : ∀ (s : Shared) (H : Hp) (C : Addr) (cl : List (Str × Addr)) (fp : List Addr), DTg G E0 (X.blk s H scope (compEnvC scope cl C X.env) fp) tg1 sl1 t1) (ht1 : ∀ (s : Shared) (H : Hp) (C : Addr) (cl : List (Str × Addr)) (fp : List Addr), DTs G (X.blk s H scope (compEnvC scope cl C X.env) fp) 0 ifs1 tt1)
    (he : ∀ (s : Shared) (H : Hp) (C : Addr) (cl : List (Str × Addr)) (fp : List Addr), DE G E0 (X.blk s H scope (compEnvC scope cl C X.env) fp) 0 elt te) (hsl : ∀ i ∈ sl, i ∈ own.map (·.2)) (hsl1 : ∀ i ∈ sl1, i ∈ vs1) (hs : ∀ x, foldedSetIterable iter X.env x = pure x := by intro _; rfl) (hs1 : ∀ env x, foldedSetIterable iter1 env x = pure x := by intro _ _; rfl) :
    DSt G E X ci (.Assign [.Name y py] (.ListComp elt [⟨tg, iter, ifs, 0⟩, ⟨tg1, iter1, ifs1, 0⟩] scope pos) spos) (sSet i (dComp2 (own.map (·.2)) vs1 ti t tt ti1 t1 tt1 te)) :=
  impS (ps_setLc2 xk.calm hN hy hyl hsw hi ok hv hg ht hi1 hg1 ht1 he hs hs1) fun Dn σ H h => by
    obtain ⟨W, hn, de, hq, k1, k2, k3, k4⟩ := h
    refine lift_comp2 (Q' := fun v H' => gName i v σ H' Dn.nx) hsl hsl1 ⟨W, hn, _, hq, fun v H' d st hd hr => ?_⟩
    have hd' : Den G (W.next st).XB H' d v := hd
    exact k1 _ H' ((W.next st).put i hd') (((Later.next st).trans (Later.put _ i hd')).more (by omega)) hr
/-- two clauses without tests: what comes of known items -/
theorem compI_map {tg : DG} {te : DT} {Q : List D → Prop} {env : List Sl} (f : D → D) : ∀ {ds acc : List D}, acc.length + ds.length ≤ sizeLine → (∀ d ∈ ds, ∀ K : D → Prop, K (f d) → tg d env fun env2 => te noX env2 K) → Q (acc ++ ds.map f) → compI tg bYes te Q env ds acc
  | [], acc, _, _, hq => by
    unfold compI
    simpa using hq
  | d :: ds, acc, hl, h, hq => by
    unfold compI
    simp only [List.length_cons] at hl
    refine h d List.mem_cons_self _ ⟨by omega, ?_⟩
    exact compI_map f (by rw [List.length_append]; show acc.length + 1 + _ ≤ _; omega) (fun e he => h e (List.mem_cons_of_mem _ he)) (by simpa using hq)
theorem compL2_map {tg tg1 : DG} {te : DT} {ti1 : DA} {vs1 : List Nat} {Q : List D → Prop} {env : List Sl} (es : D → List D) (f : D → D → D) : ∀ {ds acc : List D}, acc.length + (ds.flatMap es).length ≤ sizeLine →
    (∀ d ∈ ds, ∀ K : List D → Prop, ∀ acc2 : List D, K (acc2 ++ (es d).map (f d)) → acc2.length + (es d).length ≤ sizeLine → tg d env fun env2 => ti1 noX env2 fun es1 => compI tg1 bYes te K (inEnv env2 vs1) es1 acc2) →
    Q (acc ++ ds.flatMap fun d => (es d).map (f d)) → compL2 vs1 tg bYes ti1 tg1 bYes te Q env ds acc
  | [], acc, _, _, hq => by
    unfold compL2
    simpa using hq
  | d :: ds, acc, hl, h, hq => by
    unfold compL2
    simp only [List.flatMap_cons, List.length_append] at hl
    refine h d List.mem_cons_self _ acc ?_ (by omega)
    refine compL2_map es f ?_ (fun e he => h e (List.mem_cons_of_mem _ he)) ?_
    · rw [List.length_append, List.length_map]; omega
    · simpa [List.flatMap_cons] using hq
end
end Kn

set_option Elab.async false
set_option linter.all false
set_option maxRecDepth 100000
set_option maxHeartbeats 2100000
/-! sorted of a tuple of ints -/
namespace Kn
open PySem
open PySem.Spec PyProof.Rows L2
section
variable {P : Program} {w : World} {A : Around} {E0 : Value → Shared → Prop} {s : Shared}
theorem gather_tup {t : Addr} {us : List Value} {R : List Value → Shared → Prop} (ht : IsTup s.heap t us.toArray) (hz : us.length ≤ sizeLine)
    (h : R us { s with heap := (s.heap.push (seqObj "list" #[] 0)).update s.heap.objs.size (Obj.mapSeq (· ++ us.toArray)) }) : wpAny (model P w) A (collect (.ref t)) R E0 s := by
  obtain ⟨ob, hob, hcl, n, hdt⟩ := id ht
  unfold collect
  have hob2 : (s.heap.push (seqObj "list" #[] 0)).get? t = some ob := Heap.get?_push_of_some _ hob
  have hty : (Value.type "tuple" == Value.type "tuple") = true := by rfl
  refine wpAny_bind (wpAny_runValue (codeAny_builtin entry_proto_collect' (?_ : wpAny _ _ (do again (.builtin "list.__iadd__" ⟨[← newList [], .ref t], []⟩)) _ _ s)))
  refine wpAny_bind (wpAny_newList (wpAny_pure ⟨Code.quiet_builtin _ (by decide +kernel), codeAny_builtin entry_list_iadd' (?_ : wpAny _ _ (Builtin.List.listExtendWith (.ref s.heap.objs.size) (.ref t) (.ref s.heap.objs.size)) _ _ { s with heap := s.heap.push (seqObj "list" #[] 0) })⟩))
  unfold Builtin.List.listExtendWith; refine wpAny_bind (wpAny_typeOf (T := "tuple") ⟨ob, hob2, hcl⟩ (?_))
  rw [if_pos (by rw [hty]; simp)]
  refine wpAny_bind (listItems_at hob2 hdt (wpAny_bind (listItems_at (xs := #[]) (n := 0) (Heap.get?_push_size _ rfl) rfl (?_))))
  rw [if_neg (by simp)]
  refine wpAny_bind (listUpdate_at (xs := #[]) (n := 0) (Heap.get?_push_size _ rfl) rfl (wpAny_pure (?_)) (Nat.zero_le _) (by show (#[] ++ us.toArray).size ≤ sizeLine + 1; simp only [Array.size_append, List.size_toArray, List.length_nil]; omega))
  show wpAny (model P w) A (do
      let ob ← load s.heap.objs.size
      match ob.data with
      | .seq vs _ => pure vs.toList
      | _ => unsupported "internal:collect") R E0 { s with heap := (s.heap.push (seqObj "list" #[] 0)).update s.heap.objs.size (Obj.mapSeq (· ++ us.toArray)) }
  refine wpAny_bind (wpAny_load (get?_update_seq (Heap.get?_push_size _ rfl) _) (?_))
  show wpAny _ _ (pure ((#[] : Array Value) ++ us.toArray).toList) R E0 _
  rw [show ((#[] : Array Value) ++ us.toArray).toList = us by simp]
  exact wpAny_pure h
theorem sorted_tup {t : Addr} {us : List Value} {ltv : Value → Value → Bool} {R : Value → Shared → Prop} (O : SrtO.Swo ltv) (ht : IsTup s.heap t us.toArray) (hz : us.length ≤ sizeLine)
    (hS : 2 ≤ us.length → ∀ (h₁ : Heap) (a : Addr), h₁.get? a = some (seqObj "list" us.toArray 0) → (∀ b o, s.heap.get? b = some o → b ≠ a ∧ h₁.get? b = some o) → SrtO.SortableO P w A.in1.in1 { s with heap := h₁ } a us ltv)
    (h : ∀ out : List Value, SrtO.Srtd ltv out → SrtO.Stb ltv out us → R (.ref (s.heap.objs.size + 1)) { s with heap := sortedAll s.heap us out.toArray }) : wpAny (model P w) A (call (.builtin "sorted") [.ref t]) R E0 s := by
  refine Calls.call_function_entry kind_sorted plain_sorted entry_sorted (args_sorted1 _) (?_ : wpAny _ _ (Builtin.«sorted» _) _ _ _)
  unfold Builtin.«sorted»
  refine wpAny_bind (m := checkCount "sorted" 1 1 _) (wpAny_pure (wpAny_bind (gather_tup ht hz (wpAny_bind (wpAny_newList (?_) hz)))))
  have e1 : ((s.heap.push (seqObj "list" #[] 0)).update s.heap.objs.size (Obj.mapSeq (· ++ us.toArray))).objs.size = s.heap.objs.size + 1 := by rw [Heap.size_update, size_push']
  have e2 : (((s.heap.push (seqObj "list" #[] 0)).update s.heap.objs.size (Obj.mapSeq (· ++ us.toArray))).push (seqObj "list" us.toArray 0)).get? (s.heap.objs.size + 1) = some (seqObj "list" us.toArray 0) := by rw [← e1]; exact Heap.get?_push_size _ rfl
  have kp : ∀ b o, s.heap.get? b = some o → b ≠ s.heap.objs.size + 1 ∧ (((s.heap.push (seqObj "list" #[] 0)).update s.heap.objs.size (Obj.mapSeq (· ++ us.toArray))).push (seqObj "list" us.toArray 0)).get? b = some o := fun b o q => by
    have lt : b < s.heap.objs.size := Heap.lt_size q
    refine ⟨Nat.ne_of_lt (Nat.lt_succ_of_lt lt), Heap.get?_push_of_some _ ?_⟩
    rw [Heap.get?_update_ne _ _ _ _ (Nat.ne_of_lt lt)]; exact Heap.get?_push_of_some _ q
  show wpAny _ _ _ _ _ { s with heap := ((s.heap.push (seqObj "list" #[] 0)).update s.heap.objs.size (Obj.mapSeq (· ++ us.toArray))).push (seqObj "list" us.toArray 0) }
  rw [e1]
  refine wpAny_bind (wpAny_holding (wpAny_call_entry slot_list_sort ⟨_, e2, rfl⟩ entry_list_sort (SrtO.list_sort_ord O e2 hz (fun h2 => hS h2 _ _ e2 kp) fun out hs hb => ⟨_, rfl, wpAny_pure ⟨_, rfl, h out hs hb⟩⟩) (args_list_sort _)))
end
def rSortTI (K : PySem.W.Frag) : List V → Hp → VK → Prop := fun vs H Q => ∃ (a : Addr) (ns : List Int), vs = [V.ref a] ∧ SqT K H a (ns.map V.int) ∧ ∀ (ns' : List Int) (p : Addr), ns'.Perm ns → ns'.Pairwise (· ≤ ·) → H p = none → Q (.ref p) (upd H p (.lst (ns'.map V.int)))
variable {X : Cx} {G : Gd}
theorem cr_sortTI : CallR X (.builtin "sorted") (rSortTI X.K) := by
  intro pins s σ H vs us Q I r h; obtain ⟨a, ns, rfl, hs, q⟩ := h
  obtain ⟨its, rv, hl, hz⟩ := I.tuple hs
  rw [Vals.ref1 r]
  have hi := rv.ints
  refine sorted_tup SrtO.swo_int hl (by rw [← rv.length]; exact hz) (fun h2 h₁ a' _ _ => SrtO.ints_sortable hi h2) fun out h1 h2 => ?_
  obtain ⟨k1, k2, k3⟩ := SrtO.ints_out hi h1 h2; obtain ⟨ep, he'⟩ := sortedAll_at s.heap its out.toArray
  have hlen : ((out.map SrtO.iv).map V.int).length ≤ sizeLine := by rw [List.length_map, k2.length_eq]; rw [List.length_map] at hz; exact hz
  refine ⟨V.ref (s.heap.objs.size + 1), _, I.laid (t' := s.toks) (o := .lst ((out.map SrtO.iv).map V.int)) (fun _ _ => sortedAll_old) (Nat.le_succ _) ⟨hlen, out, ep, vals_of_ints k1, he'⟩, rfl, q _ _ k2 k3 (I.hok.fresh (Nat.le_succ _))⟩
def gSortA : D → (D → Prop) → Prop := fun d Q => ∃ ns : List Int, (d = .lst (ns.map D.int) ∨ d = .tup (ns.map D.int)) ∧ ∀ ns' : List Int, ns'.Perm ns → ns'.Pairwise (· ≤ ·) → Q (.lst (ns'.map D.int))
theorem c_sortA (hK : X.K = G.K) : CallR X (.builtin "sorted") (rDL G (g1 gSortA)) := by
  intro pins s σ H vs us Q' I r h
  obtain ⟨B, d, x, Q, rfl, hd, hf, ⟨ns, hds, hq⟩, k⟩ := rDL1 h
  have fin : ∀ (ns' : List Int) (p : Addr), ns.length ≤ sizeLine → ns'.Perm ns → ns'.Pairwise (· ≤ ·) → H p = none → Q' (.ref p) (upd H p (.lst (ns'.map V.int))) := fun ns' p hl h1 h2 hp =>
    k _ _ (.lst (ns'.map D.int)) (Ext.new hp) (den_lst hp (hf p hp) (by rw [List.length_map, h1.length_eq]; exact hl) DenL.of_ints) (hq ns' h1 h2)
  rcases hds with rfl | rfl
  · obtain ⟨a, ys, rfl, na, ha, la, da⟩ := hd
    have := da.ints
    subst this
    exact cr_sortedI pins s σ H _ us Q' I r ⟨a, ns, rfl, SqL.of ha, fun ns' p h1 h2 hp => fin ns' p (by simpa using la) h1 h2 hp⟩
  · obtain ⟨a, ys, rfl, na, ha, la, da⟩ := hd
    have := da.ints
    subst this
    exact cr_sortTI pins s σ H _ us Q' I r ⟨a, ns, rfl, by rw [hK]; exact ha, fun ns' p h1 h2 hp => fin ns' p (by simpa using la) h1 h2 hp⟩
end Kn

set_option Elab.async false
set_option linter.all false
set_option maxRecDepth 100000
set_option maxHeartbeats 2100000
/-! t[::-1] of a tuple -/
namespace Kn
open PySem
open PySem.Spec PyProof.Rows L2
section
variable {P : Program} {w : World} {A : Around} {E0 : Value → Shared → Prop} {s : Shared}
theorem places_rev (n : Nat) : Builtin.Slice.slicePlaces ((n : Int) - 1) (-1) (-1) = n := by
  unfold Builtin.Slice.slicePlaces; rw [if_neg (by decide)]; by_cases h : (n : Int) - 1 > -1
  · rw [if_pos h]
    have : ((n : Int) - 1 - -1 - 1) / (- -1) + 1 = n := by
      rw [show (- -1 : Int) = 1 by rfl, Int.ediv_one]; omega
    rw [this]; rfl
  · rw [if_neg h]
    have : n = 0 := by omega
    subst this; rfl
theorem fm_congr {α β : Type} {f g : α → Option β} : ∀ {l : List α}, (∀ x ∈ l, f x = g x) → l.filterMap f = l.filterMap g
  | [], _ => rfl
  | x :: l, h => by rw [List.filterMap_cons, List.filterMap_cons, h x List.mem_cons_self, fm_congr fun y hy => h y (List.mem_cons_of_mem _ hy)]
theorem pick_back (xs : Array Value) : ((List.range xs.size).filterMap fun (m : Nat) => xs[(((xs.size : Int) - 1) + (m : Int) * -1).toNat]?).toArray = xs.toList.reverse.toArray := by
  have h := HT.pick_gen xs.toList.reverse.toArray 0 xs.size
  rw [show ((xs.toList.reverse.toArray.toList.drop 0).take xs.size) = xs.toList.reverse by rw [List.drop_zero]; exact List.take_of_length_le (by simp)] at h
  rw [← h]
  congr 1
  refine fm_congr fun m hm => ?_
  have hm' := List.mem_range.mp hm
  rw [show (((0 : Nat) : Int) + (m : Int) * 1).toNat = m by omega, show (((xs.size : Int) - 1) + (m : Int) * -1).toNat = xs.size - 1 - m by omega]
  have e1 : xs.toList.reverse.toArray[m]? = xs.toList.reverse[m]? := by simp
  rw [e1, List.getElem?_reverse (by simpa using hm')]
  simp
theorem getItem_tup_rev {t sl : Addr} {its : Array Value} {vs : Value} {R : Value → Shared → Prop} (ht : IsTup s.heap t its) (hs : s.heap.IsSliceOf sl .none .none vs) (ps : IsPart vs (some (-1))) (hsz : its.size ≤ sizeLine)
    (h : R (.ref s.heap.objs.size) { s with heap := s.heap.push { cls := .type "tuple", data := .seq its.toList.reverse.toArray } }) : wpAny (model P w) A (getItem (.ref t) (.ref sl)) R E0 s := by
  have ok : sizeOk (.seq its.toList.reverse.toArray) := by show its.toList.reverse.toArray.size ≤ sizeLine; simpa using hsz
  obtain ⟨os, hos, hcs, hds⟩ := id hs; have isSl : s.TypeIs (.ref sl) "slice" := ⟨os, hos, hcs⟩
  unfold getItem
  try with_reducible refine wpAny_holding (?_)
  first | refine wpAny_bind (wpAny_pure (?_)) | skip
  refine wpAny_bind (wpAny_sequenceKey ht.typeIs (by decide) (?_))
  refine wpAny_bind (wpAny_callSpecial?_slot (name := Str.ofString "__getitem__") ht.typeIs slot_tuple_getitem (wpAny_call_entry slot_tuple_getitem ht.typeIs entry_tuple_getitem (?_) (args_tuple_getitem _ _)))
  refine (?_ : wpAny _ _ (Builtin.Tuple.tupleItemsOf (.ref t) >>= _) _ _ s)
  refine wpAny_bind (tupleItemsOf_ ht (?_))
  refine wpAny_bind (wpAny_typeOf isSl (?_))
  rw [if_pos (by decide)]
  have key : wpAny (model P w) A.in1 (Builtin.Slice.sliceApplied (.ref sl) (pure (its.size : Int))) (fun r s' => r = ((its.size : Int) - 1, -1, its.size) ∧ s' = s) E0 s := by
    unfold Builtin.Slice.sliceApplied Builtin.Slice.sliceFields; refine wpAny_bind (wpAny_bind (wpAny_field hos hds (x := .none) rfl (wpAny_bind (wpAny_field hos hds (x := .none) rfl (wpAny_bind (wpAny_field hos hds (x := vs) rfl (wpAny_pure (?_))))))))
    refine wpAny_bind (HT.slicePart_ ps (?_))
    refine (?_ : wpAny _ _ (if ((-1 : Int) == 0) = true then _ else _) _ _ s)
    rw [if_neg (by decide)]
    refine wpAny_bind (slicePart_none (wpAny_bind (slicePart_none (wpAny_bind (wpAny_pure (?_))))))
    refine (?_ : wpAny _ _ (match Builtin.Slice.sliceAdjust none none (-1) (its.size : Int) with | (lo, hi) => pure (lo, (-1 : Int), Builtin.Slice.slicePlaces lo hi (-1))) _ _ s)
    rw [show Builtin.Slice.sliceAdjust none none (-1) (its.size : Int) = ((its.size : Int) - 1, -1) from rfl]
    refine (?_ : wpAny _ _ (pure (((its.size : Int) - 1), (-1 : Int), Builtin.Slice.slicePlaces ((its.size : Int) - 1) (-1) (-1))) _ _ s)
    rw [places_rev]
    exact wpAny_pure ⟨rfl, rfl⟩
  refine wpAny_bind (wpAny_mono key (fun r s' e => ?_) (fun e s' z => z))
  obtain ⟨rfl, rfl⟩ := e
  refine (?_ : wpAny _ _ (if ((((its.size : Int) - 1) == 0 && (-1 : Int) == 1 && its.size == its.size) = true) then _ else _) _ _ _)
  rw [if_neg (by simp), pick_back]
  first
    | exact wpAny_bind (m := Builtin.Tuple.tupleExact _) (wpAny_newObj_type (wpAny_pure ⟨_, rfl, wpAny_pure h⟩) ok)
    | exact wpAny_bind (m := Builtin.Tuple.tupleExact _) (wpAny_newObj_type (wpAny_bind (wpAny_pure (wpAny_pure ⟨_, rfl, wpAny_pure h⟩))) ok)
    | exact wpAny_bind (wpAny_bind (m := Builtin.Tuple.tupleExact _) (wpAny_newObj_type (wpAny_pure (wpAny_pure ⟨_, rfl, wpAny_pure h⟩)) ok))
    | exact wpAny_bind (wpAny_bind (m := Builtin.Tuple.tupleExact _) (wpAny_newObj_type (wpAny_pure ⟨_, rfl, wpAny_pure h⟩) ok))
end

section
variable {G : Gd} {E : XK} {X : Cx} {σ : List (Option V)} {H H' : Hp} {k : Nat}
open RZ
def tRevT (K : PySem.W.Frag) (te : TE) : TE := fun σ H Q => te σ H fun x H1 => ∃ a xs, x = .ref a ∧ SqT K H1 a xs ∧ ∀ p, H1 p = none → Q (.ref p) (upd H1 p (.tup xs.reverse))
theorem pe_revT {e : Expr} {te : TE} {kk : Nat} {p1 p2 p3 pos : Pos} (he : PE X e te) : PE X (.Subscript e (.Slice none none (some (.UnaryOp .USub (.Constant (.int 1) kk p1) p2)) p3) pos) (tRevT X.K te) := by
  refine ⟨fun pins s σ H Q I h => Subscript_ (thn (he.run pins s σ H _ I h) fun v s1 ⟨x, H1, I1, r1, a, xs, ex, hx, q⟩ => ?_)⟩
  subst ex
  cases r1
  have hst : PO X (some (.UnaryOp .USub (.Constant (.int 1) kk p1) p2)) (tPart (tUn (rU fun i => .int (-i)) (tC (.int 1)))) := po_some (pe_un un_neg pe_int)
  refine wpAny_Slice (thn (po_none.run pins s1 σ H1 (fun o H2 => o = none ∧ H2 = H1) I1 ⟨rfl, rfl⟩) fun vl s2 ⟨l, H2, I2, pl, el, e2⟩ => ?_); subst el e2
  refine thn (po_none.run pins s2 σ H2 (fun o H3 => o = none ∧ H3 = H2) I2 ⟨rfl, rfl⟩) (fun vu s3 ⟨u, H3, I3, pu, eu, e3⟩ => ?_)
  subst eu e3
  refine thn (hst.run pins s3 σ H3 (fun o H4 => o = some (-1) ∧ H4 = H3) I3 ⟨1, rfl, -1, rfl, rfl, rfl⟩) (fun vs s4 ⟨o, H4, I4, ps, eo, e4⟩ => ?_)
  subst eo e4
  cases pl
  cases pu
  have I5 : Inv X pins σ H4 { s4 with heap := s4.heap.push { cls := .type "slice", data := .fields #[.none, .none, vs] } } := I4.kept (t' := s4.toks) (fun b ob q => Heap.get?_push_of_some _ q)
  obtain ⟨its, r, ht, hz⟩ := I5.tuple hx
  have hlen := r.length
  refine (?_ : wpAny (model X.prog X.w) X.A (subscriptTail e (.Slice none none (some (.UnaryOp .USub (.Constant (.int 1) kk p1) p2)) p3) (.ref a) (.ref s4.heap.objs.size)) (EP X pins σ Q) X.xe { s4 with heap := s4.heap.push { cls := .type "slice", data := .fields #[.none, .none, vs] } })
  refine tail_any (ops := [.ref a, .ref s4.heap.objs.size]) ht.typeIs slot_tuple_getitem.lookup (?_) (by with_unfolding_all rfl)
  refine getItem_tup_rev ht (Heap.IsSliceOf.new _ .none .none vs) ps (by rw [List.size_toArray]; omega) ⟨.ref _, _, I5.laid (t' := s4.toks) (o := .tup xs.reverse) (fun b ob q => Heap.get?_push_of_some _ q) (Nat.le_refl _) ?_, rfl, q _ (I5.hok.fresh (Nat.le_refl _))⟩
  exact ⟨by rw [List.length_reverse]; exact hz, its.reverse, r.reverse, IsTup.new _ _⟩
def dRevT (te : DT) : DT := fun ex env Q => te ex env fun d => ∃ ds, d = .tup ds ∧ Q (.tup ds.reverse)
theorem de_revT {e : Expr} {c : Nat} {te : DT} {kk : Nat} {p1 p2 p3 pos : Pos} (hK : X.K = G.K) (he : DE G E X c e te) : DE G E X c (.Subscript e (.Slice none none (some (.UnaryOp .USub (.Constant (.int 1) kk p1) p2)) p3) pos) (dRevT te) :=
  imp (pe_revT he) fun σ H Q' h => by
    obtain ⟨W, hn, Q, ht, kk⟩ := h
    refine ⟨W, hn, _, ht, fun v H1 d st hd ⟨ds, e, hq⟩ => ?_⟩
    subst e
    obtain ⟨a, xs, rfl, na, ha, la, da⟩ := hd
    refine ⟨a, xs, rfl, by rw [hK]; exact ha, fun p hp => ?_⟩
    exact kk _ _ (.tup ds.reverse) (st.new hp) (den_tup hp ((W.next st).fresh hp) (by rw [List.length_reverse]; exact la) da.reverse) hq

/-! ### type(x) is C, of a thing of an own class -/
def gType : D → (D → Prop) → Prop := fun d Q => ∃ c ds, d = .ins c ds ∧ Q (.opq (.ref (G.cl c)))
theorem c_type : CallR X (.type "type") (rDL G (g1 (gType (G := G)))) := callr_imp cr_type fun xs H Q' h => by
  obtain ⟨B, d, x, Q, rfl, hd, hf, ⟨c, ds, rfl, hq⟩, kk⟩ := rDL1 h
  obtain ⟨a, dx, ys, rfl, na, ha, la, da⟩ := hd
  exact ⟨a, _, dx, _, rfl, ha, kk _ H (.opq (.ref (G.cl c))) (Ext.refl _ _) (den_opq _) hq⟩
def gIsC : G2 := fun d e Q => ∃ a, d = .opq (.ref a) ∧ e = .opq (.ref a) ∧ Q (.bl true)
def gIsnC : G2 := fun d e Q => ∃ a, d = .opq (.ref a) ∧ e = .opq (.ref a) ∧ Q (.bl false)
theorem o_isC : OpR X (compareOp .Is) (rD G gIsC) := opr_imp op_is_cls fun x y H Q' h => by
  obtain ⟨B, d, e, Q, hd, he, _, ⟨a, rfl, rfl, hq⟩, kk⟩ := h
  exact ⟨a, a, hd, he, .inl rfl, kk _ H (.bl true) (Ext.refl _ _) (by rw [decide_eq_true rfl]; exact den_bl _) hq⟩
theorem o_isnC : OpR X (compareOp .IsNot) (rD G gIsnC) := opr_imp op_isnot_cls fun x y H Q' h => by
  obtain ⟨B, d, e, Q, hd, he, _, ⟨a, rfl, rfl, hq⟩, kk⟩ := h
  exact ⟨a, a, hd, he, .inl rfl, kk _ H (.bl false) (Ext.refl _ _) (by rw [decide_eq_true rfl]; exact den_bl _) hq⟩

/-! ### f(k = v, ..), each parameter by its name -/
/-- the values in the parameters' order: ix tells for each parameter where its value stands -/
structure Kk (K : PySem.W.Frag) (fd : FuncData) (ps ks : List Str) (ix : List Nat) : Prop where
  to : ∀ (s : Shared) (us : List Value), K.In s.heap → us.length = ks.length → BindsTo s fd ⟨[], ks.zip us⟩ (ps.zip (ix.map fun i => us.getD i .none))
  ok : ∀ i ∈ ix, i < ks.length
  len : ix.length = ps.length
theorem Kk.all {K : PySem.W.Frag} {fd : FuncData} {ps ks : List Str} {ix : List Nat} (h : ∀ us : List Value, us.length = ks.length → bindArgs fd ⟨[], ks.zip us⟩ = pure (ps.zip (ix.map fun i => us.getD i .none))) (h2 : ∀ i ∈ ix, i < ks.length) (h3 : ix.length = ps.length) : Kk K fd ps ks ix :=
  ⟨fun s us _ hl => .of_eq (h us hl), h2, h3⟩
theorem vals_perm {xs : List V} {us : List Value} (r : Vals xs us) : ∀ {ix : List Nat}, (∀ i ∈ ix, i < xs.length) → Vals (ix.map fun i => xs.getD i .non) (ix.map fun i => us.getD i .none)
  | [], _ => .nil
  | i :: ix, h => by
    have hi := h i List.mem_cons_self
    have hl := r.length
    refine .cons ?_ (vals_perm r fun j hj => h j (List.mem_cons_of_mem _ hj))
    obtain ⟨u, hu, ru⟩ := r.get (List.getElem?_eq_getElem hi)
    show RelV (xs.getD i .non) (us.getD i .none)
    rw [List.getD_eq_getElem?_getD, List.getD_eq_getElem?_getD, List.getElem?_eq_getElem hi, hu]
    exact ru
theorem denL_perm {B : Addr → Prop} {ds : List D} {xs : List V} (h : DenL G B H ds xs) : ∀ {ix : List Nat}, (∀ i ∈ ix, i < ds.length) → DenL G B H (ix.map fun i => ds.getD i .non) (ix.map fun i => xs.getD i .non)
  | [], _ => rfl
  | i :: ix, hx => by
    have hi := hx i List.mem_cons_self
    obtain ⟨x, e1, e2⟩ := h.get (List.getElem?_eq_getElem hi)
    refine ⟨xs.getD i .non, _, rfl, ?_, denL_perm h fun j hj => hx j (List.mem_cons_of_mem _ hj)⟩
    show Den G B H (ds.getD i .non) (xs.getD i .non)
    rw [List.getD_eq_getElem?_getD, List.getD_eq_getElem?_getD, List.getElem?_eq_getElem hi, e1]
    exact e2
structure FkK (G : Gd) (P : Program) (w : World) (mg : Str → Option Value) (base : Heap) (k : Nat) (x : Str) (ps ks : List Str) (ix : List Nat) (cf : Nat) (S : FSpec) : Prop where
  ex : ∃ (f : Addr) (fd : FuncData), FnD G P w mg base k f fd ps cf S ∧ mg x = some (.ref f) ∧ PySem.W.keepIn G.K (.ref f) = true ∧ Kk G.K fd ps ks ix
def dCallK (n : Nat) (ix : List Nat) (S : FSpec) (u : DA) : DT := fun ex env Q => u ex env fun ds => ds.length = n ∧ S (ix.map fun i => ds.getD i .non) Q ex
theorem de_callk {j : Nat} {x : Str} {ps ks : List Str} {ix : List Nat} {c cf : Nat} {S : FSpec} {kws : List Keyword} {u : DA} {p pos : Pos} (F : FkK G X.prog X.w X.mg X.base j x ps ks ix cf S) (xk : Xk G E k X) (ha : DK G E X c kws u) (hj : j ≤ k := by decide) (hg : Gl X x := by rfl) (hdb : (x == ("__debug__" : Str)) = false := by decide)
    (hall : (backToKw pos (keywordEach kws X.env)).all (·.1.isSome) = true := by rfl) (hks : (backToKw pos (keywordEach kws X.env)).filterMap (·.1) = ks := by rfl)
    (hpl : ((backTo pos (starEach [] X.env)).any (·.1) || (backToKw pos (keywordEach kws X.env)).any (·.1.isNone)) = false := by rfl) : DE G E X (c + cf) (.Call (.Name x p) [] kws pos) (dCallK ks.length ix S u) := by
  obtain ⟨f, fd, hF0, hm, hk, hb⟩ := F.ex
  have hF := hF0.mono hj
  rw [← xk.K] at hk hb
  refine ⟨fun pins s σ H Q' I h => ?_⟩
  obtain ⟨W, hn, Q, ht, kk⟩ := h
  have args := ha.run pos pins s σ H (fun vs H1 => vs.length = ks.length ∧ liftF G cf S (ix.map fun i => vs.getD i .non) H1 Q' E) I ⟨W, by omega, _, ht, fun vs H1 ds st hd ⟨hl, hs⟩ => ⟨by rw [← hd.length]; exact hl, lift_callee st hn (denL_perm hd fun i hi => by rw [hl]; exact hb.ok i hi) hs kk⟩⟩
  refine wpAny_Call_Name_kw (ld_glob I hg hm ?_ hdb); refine PySem.W.callWith_KW0 (h₀ := X.base) I.ok.mod.kin hk hall (thn args fun us s1 ⟨vs, H1, I1, r1, hl, q1⟩ => ⟨I1.kIn, ?_⟩) hpl
  rw [hks]
  refine wpAny_call ?_
  exact run_fnd (hK := xk.K) hF xk.room xk.gd xk.pass I1 (vals_perm r1 fun i hi => by rw [hl]; exact hb.ok i hi) (by rw [List.length_map]; exact hb.len) _ (hb.to s1 us I1.kIn (by rw [← r1.length]; exact hl)) q1
end
end Kn

set_option Elab.async false
set_option linter.all false
set_option maxRecDepth 100000
set_option maxHeartbeats 2100000
namespace Kn
open PySem L2 RZ
open PyProof.Rows (envOfC)
section
variable {G : Gd} {E : XK} {X : Cx} {σ : List (Option V)} {H H' : Hp} {k : Nat}

/-! ### repr of plain data -/
def gRepr : D → (D → Prop) → Prop := fun d Q => (∃ i : Int, d = .int i ∧ i.natAbs.log2 < 1920 ∧ Q (.str (toString i))) ∨
  ((∃ ds, d = .lst ds ∨ d = .tup ds) ∧ ∃ p, pd d = some p ∧ SeqAt.shaped p = true ∧ p.showable = true ∧ p.hasDict = false ∧ p.shown.length ≤ sizeLine ∧ Q (.str p.shown))
theorem c_repr (xk : Xk G E k X) : CallR X (.builtin "repr") (rDL G (g1 gRepr)) := by
  intro pins s σ H vs us Q' I r h
  obtain ⟨B, d, x, Q, rfl, hd, hf, hg, kk⟩ := rDL1 h
  rcases hg with ⟨i, rfl, hi, hq⟩ | ⟨⟨ds, hds⟩, p, hp, hsh, hsw, hnd, hlen, hq⟩
  · cases hd
    exact SkE.call_repr_int pins s σ H _ us Q' I r ⟨i, rfl, hi, kk _ H (.str _) (Ext.refl _ _) (den_str _) hq⟩
  · have hdp : Dp X.K H x p := by rw [xk.K]; exact hd.dp _ _ _ hp
    have hx : ∃ a, x = .ref a := by
      rcases hds with rfl | rfl
      · obtain ⟨a, xs, e, _⟩ := hd; exact ⟨a, e⟩
      · obtain ⟨a, xs, e, _⟩ := hd; exact ⟨a, e⟩
    obtain ⟨a, rfl⟩ := hx
    rw [Vals.ref1 r]
    obtain ⟨as, rr⟩ := Dp.reads I p (.ref a) (.ref a) hdp rfl
    refine PySem.repr_of_reads' (h₀ := s.heap) rr hsw (fun z => by rw [hnd] at z; cases z) xk.gd ?_ (fun _ _ e => e) (fun h' u tk hk => ?_) hlen
    · have := SeqAt.depth_of_shaped hsh
      have := xk.u (n := 70)
      omega
    · exact ⟨.str p.shown, H, I.kept (t' := tk) hk, ⟨u, rfl⟩, kk _ H (.str _) (Ext.refl _ _) (den_str _) hq⟩

/-! ### a == b, things of a class with its own == -/
structure Fq (G : Gd) (P : Program) (w : World) (mg : Str → Option Value) (base : Heap) (k : Nat) (c : Nat) (cf : Nat) (S : FSpec) : Prop where
  ex : ∃ (f : Addr) (fd : FuncData) (ps : List Str), FnD G P w mg base k f fd ps cf S ∧ PySem.W.findIn G.K (.ref (G.cl c)) "__eq__" = some (some (.ref f)) ∧ PySem.W.isFn G.K (.ref f) = true ∧ Binds G.K fd ps [] ∧ ps.length = 2
def rEqI (G : Gd) (E : XK) (c cf : Nat) (S : FSpec) : R2 := fun x y H Q' => ∃ a dx fs b dy gs, x = .ref a ∧ y = .ref b ∧ H a = some (.ins (G.cl c) dx fs) ∧ H b = some (.ins (G.cl c) dy gs) ∧ liftF G cf S [x, y] H (fun v H' => (∃ b, v = .bl b) ∧ Q' v H') E
theorem op_eqI {j c cf : Nat} {S : FSpec} (F : Fq G X.prog X.w X.mg X.base j c cf S) (xk : Xk G E k X) (hj : j ≤ k := by decide) : OpR X (compareOp .Eq) (rEqI G E c cf S) := by
  intro pins s σ H x y v u Q I rx ry h; obtain ⟨a, dx, fs, b, dy, gs, rfl, rfl, ha, hb, hl⟩ := h
  obtain ⟨f, fd, ps, hF0, hs, hf, hbd, hp2⟩ := F.ex
  rw [← xk.K] at hs hf hbd
  cases rx
  cases ry
  obtain ⟨mA, J, _⟩ := ins_get I.hok ha; obtain ⟨mB, J', _⟩ := ins_get I.hok hb
  obtain ⟨od, J, _⟩ := J.look
  obtain ⟨od', J', _⟩ := J'.look; obtain ⟨m, hFr⟩ := I.fr
  refine (?_ : wpAny (model X.prog X.w) X.A (richCompare .Eq (.ref a) (.ref b)) (EP X pins σ Q) X.xe s)
  refine PySem.W.cmp_K (op := .Eq) (tb := .ref (G.cl c)) xk.room.units0 hFr I.ok.mod.kin J J'.type (by simp [PySem.W.notFirst]) hs hf (wpAny_mono (wpAny_call (run_fnd (hK := xk.K) (us := [.ref a, .ref b]) (vs := [.ref a, .ref b]) (hF0.mono hj) xk.room xk.gd xk.pass I (.cons rfl (.cons rfl .nil)) hp2.symm _ ?_ hl)) (fun w s' z => ?_) fun _ _ x => x)
  · have z := hbd s [.ref a, .ref b] I.kIn (by rw [List.append_nil]; exact hp2.symm)
    rw [List.append_nil] at z
    exact z
  · obtain ⟨z', H', I', rz, ⟨b, eb⟩, qz⟩ := z
    subst eb
    exact SlX.cmpback rz ⟨.bl b, H', I', rz, qz⟩
def dEqI (c : Nat) (S : FSpec) (ta tb : DT) : DT := fun ex env Q => ta ex env fun d => tb ex env fun e => ∃ ds es, d = .ins c ds ∧ e = .ins c es ∧ S [d, e] (fun r => (∃ b, r = .bl b) ∧ Q r) ex
theorem lift_eqI {ca cb cf c : Nat} {S : FSpec} {ta tb : DT} {Q' : VK} (h : lift G E (ca + cb + cf) (dEqI c S ta tb) σ H Q') : tOp (rEqI G E c cf S) (lift G E ca ta) (lift G E cb tb) σ H Q' := by
  obtain ⟨W, hn, Q, ht, kk⟩ := h
  refine ⟨W, by omega, _, ht, fun v H1 d st hd hq => ⟨W.next st, by show W.m + cb ≤ W.n - ca; omega, _, hq, fun v2 H2 e st2 he ⟨ds, es, e1, e2, hs⟩ => ?_⟩⟩
  subst e1 e2
  have hd2 : Den G W.XB H2 (.ins c ds) v := (W.next st).den st2 hd
  have he2 : Den G W.XB H2 (.ins c es) v2 := he
  obtain ⟨a, dx, xs, rfl, na, ha, la, da⟩ := id hd2
  obtain ⟨b, dy, ys, rfl, nb, hb, lb, db⟩ := id he2
  refine ⟨a, dx, _, b, dy, _, rfl, rfl, ha, hb, lift_callee (st.trans st2) hn (ds := [.ins c ds, .ins c es]) ⟨_, _, rfl, hd2, _, _, rfl, he2, rfl⟩ hs fun v H' d st3 hd3 ⟨⟨bb, eb⟩, hq3⟩ => ?_⟩
  subst eb
  cases hd3
  exact ⟨⟨bb, rfl⟩, kk _ H' (.bl bb) st3 (den_bl _) hq3⟩
theorem de_eqI {a b : Expr} {pos : Pos} {j c ca cb cf : Nat} {S : FSpec} {ta tb : DT} (F : Fq G X.prog X.w X.mg X.base j c cf S) (xk : Xk G E k X) (ha : DE G E X ca a ta) (hb : DE G E X cb b tb) (hm : behindInMarks .Eq b = false) (hj : j ≤ k := by decide) : DE G E X (ca + cb + cf) (.Compare a [.Eq] [b] pos) (dEqI c S ta tb) :=
  imp (pe_cmpR (op_eqI F xk hj) ha hb hm) fun _ _ _ h => lift_eqI h

/-! ### x, y = e, [..]: a value and a new list; x, y = [..], c: a new list and an int -/
def sParVO (i j : Nat) (te : DT) (u : DA) : DS := fun ex de env => te ex env fun d => u ex env fun ds => ds.length ≤ sizeLine ∧ ∀ a, de.nx ((env.set i (.val d)).set j (.own a ds))
theorem ds_parVO {i j : Nat} {x y : Str} {a : Expr} {es : List Expr} {te : DT} {u : DA} {c c2 : Nat} {px py pt pos lpos : Pos} {kt k2 pt2} (hc : X.calm = true) (hN : X.N.Nodup) (hi : X.N[i]? = some x) (hj : X.N[j]? = some y) (hij : i ≠ j)
    (hx : X.env.scope.names.lookup x = some .local) (hy : X.env.scope.names.lookup y = some .local) (ha : DE G E X c a te) (hes : DEs G E X c2 es u) (hs1 : starEach [a, .List es lpos] X.env = (false, eval a X.env) :: starEach [.List es lpos] X.env := by rfl) (hs2 : starEach [.List es lpos] X.env = (false, eval (.List es lpos) X.env) :: starEach [] X.env := by rfl)
    (hw : swappedStores [.Tuple [.Name x px, .Name y py] kt pt] (.Tuple [a, .List es lpos] k2 pt2) X.env = pure (some [x, y]))
    (hs : swapsWithSole [.Tuple [.Name x px, .Name y py] kt pt] (.Tuple [a, .List es lpos] k2 pt2) pos.line X.env = pure false := by rfl) : DSt G E X (c + c2) (.Assign [.Tuple [.Name x px, .Name y py] kt pt] (.Tuple [a, .List es lpos] k2 pt2) pos) (sParVO i j te u) :=
  impS (ps_par hc hN hi hj hij hx hy (pa_cons ha (pa_cons (df_lst hes) pa_nil hs2) hs1) hw hs) fun Dn σ H h => by
    obtain ⟨W, hn, de, ht, k1, k2, k3, k4⟩ := h
    refine ⟨W, by omega, _, ht, fun v H1 d st hd hq => ?_⟩
    refine ⟨W.next st, by show W.m + c2 ≤ W.n - c; omega, fun ds => ∀ a, de.nx ((W.env.set i (.val d)).set j (.own a ds)), hq, fun p H2 ds xs st2 hp h2 hl hd2 hq2 => ?_⟩
    · refine ⟨v, .ref p, rfl, ?_⟩
      have hd' : Den G (W.next st).XB H1 d v := hd
      let W1 := (W.next st).put i hd'
      have st3 : Step W1 c2 H2 := ⟨st2.ext, st2.good⟩
      have hdp : DenL G (fun a => W1.XB a ∨ a = p) H2 ds xs := hd2.fewer fun b hb => hb.imp (fun z => xb_val (W.next st).len z) id
      obtain ⟨W', l1, l2⟩ := wd_own W1 st3 (i := j) hp h2 hl hdp
      exact k1 _ H2 W' ((((Later.next st).trans (Later.put _ i hd')).trans l1).more (by omega)) (by rw [l2]; exact hq2 p)
end
end Kn

set_option Elab.async false
set_option linter.all false
set_option maxRecDepth 100000
set_option maxHeartbeats 2100000
namespace Kn
open PySem L2 RZ
open PyProof.Rows (envOfC)
section
variable {G : Gd} {E : XK} {X : Cx} {σ : List (Option V)} {H H' : Hp} {k : Nat}
/-- x, y = [..], z -/
def sParOV (i j l : Nat) (u : DA) : DS := fun ex de env => ∃ d, env[l]? = some (.val d) ∧ u ex env fun ds => ds.length ≤ sizeLine ∧ ∀ a, de.nx ((env.set i (.own a ds)).set j (.val d))
theorem ds_parOV {i j l : Nat} {x y z : Str} {es : List Expr} {u : DA} {c2 : Nat} {px py pz pt pos lpos : Pos} {kt k2 pt2} (hc : X.calm = true) (hN : X.N.Nodup) (hi : X.N[i]? = some x) (hj : X.N[j]? = some y) (hij : i ≠ j)
    (hx : X.env.scope.names.lookup x = some .local) (hy : X.env.scope.names.lookup y = some .local) (hes : DEs G E X c2 es u) (hl : X.N[l]? = some z) (hv : Vis X.env.scope z := by first | exact Or.inl rfl | exact Or.inr (Or.inl rfl) | exact Or.inr (Or.inr rfl)) (hd : (z == ("__debug__" : Str)) = false := by decide) (hcd : (z == ("__classdict__" : Str)) = false := by decide)
    (hs1 : starEach [.List es lpos, .Name z pz] X.env = (false, eval (.List es lpos) X.env) :: starEach [.Name z pz] X.env := by rfl) (hs2 : starEach [.Name z pz] X.env = (false, eval (.Name z pz) X.env) :: starEach [] X.env := by rfl)
    (hw : swappedStores [.Tuple [.Name x px, .Name y py] kt pt] (.Tuple [.List es lpos, .Name z pz] k2 pt2) X.env = pure (some [x, y]))
    (hs : swapsWithSole [.Tuple [.Name x px, .Name y py] kt pt] (.Tuple [.List es lpos, .Name z pz] k2 pt2) pos.line X.env = pure false := by rfl) : DSt G E X c2 (.Assign [.Tuple [.Name x px, .Name y py] kt pt] (.Tuple [.List es lpos, .Name z pz] k2 pt2) pos) (sParOV i j l u) :=
  impS (ps_par hc hN hi hj hij hx hy (pa_cons (df_lst hes) (pa_cons (pe_var (i := l) hl hv hd hcd) pa_nil hs2) hs1) hw hs) fun Dn σ H h => by
    obtain ⟨W, hn, de, ⟨d, hed, ht⟩, k1, k2, k3, k4⟩ := h
    refine ⟨W, hn, fun ds => ∀ a, de.nx ((W.env.set i (.own a ds)).set j (.val d)), ht, fun p H2 ds xs st2 hp h2 hl hd2 hq2 => ?_⟩
    obtain ⟨v, hv, hdv⟩ := W.sl l _ hed
    refine ⟨v, join_some hv, .ref p, v, rfl, ?_⟩
    obtain ⟨W', l1, l2⟩ := wd_own W st2 (i := i) hp h2 hl hd2
    have hdv' : Den G W'.XB H2 d v := Den.keep (fun b o nb e => l1.keep b o nb e) (fun b hb => l1.xb b hb) d v hdv
    exact k1 _ H2 (W'.put j hdv') ((l1.trans (Later.put _ j hdv')).more (by omega)) (by show de.nx (W'.env.set j (.val d)); rw [l2]; exact hq2 p)
/-- a tuple of texts of the module -/
def strsD (ts : List Str) : List D := ts.map D.str
theorem denL_strs {B : Addr → Prop} {H : Hp} : ∀ (ts : List Str), DenL G B H (strsD ts) (ts.map V.str)
  | [] => rfl
  | t :: ts => ⟨_, _, rfl, rfl, denL_strs ts⟩
def GTup (G : Gd) (mg : Str → Option Value) (x : Str) (ts : List Str) : Prop := ∃ a, mg x = some (.ref a) ∧ KTup G.K a (ts.map V.str) ∧ ts.length ≤ sizeLine
theorem de_gtup {x : Str} {ts : List Str} {pos : Pos} (hm : GTup G X.mg x ts) (hg : Gl X x := by rfl) (hd : (x == ("__debug__" : Str)) = false := by decide) : DE G E X 0 (.Name x pos) (dC (.tup (strsD ts))) := by
  obtain ⟨a, h1, h2, h3⟩ := hm
  exact imp (pe_glob (v := .ref a) hg h1 rfl hd) fun _ _ _ h => lift_c (d := .tup (strsD ts)) (fun B H => (⟨a, ts.map V.str, rfl, .inr h2, .inr h2, by simpa using h3, denL_strs ts⟩ : Den G B H (.tup (strsD ts)) (.ref a))) h
end
end Kn

set_option Elab.async false
set_option linter.all false
set_option maxRecDepth 100000
set_option maxHeartbeats 2100000
namespace Kn
open PySem L2 RZ
/-! plain data compared: texts, ints, rows of ints -/
theorem shaped_str {x : Str} (h : PyData.strOk x = true) : SeqAt.shaped (.str x) = true := by
  unfold SeqAt.shaped
  rw [show PyData.canLay0 (.str x) = PyData.strOk x from rfl, h]; rfl
theorem shaped_int (i : Int) : SeqAt.shaped (.int i) = true := by rfl
theorem eq_str {a b : Str} {Q : D → Prop} (ha : PyData.strOk a = true) (hb : PyData.strOk b = true) (h : Q (.bl (a == b))) : gEq (.str a) (.str b) Q := ⟨_, _, rfl, rfl, shaped_str ha, shaped_str hb, h⟩
theorem ne_str {a b : Str} {Q : D → Prop} (ha : PyData.strOk a = true) (hb : PyData.strOk b = true) (h : Q (.bl (!(a == b)))) : gNe (.str a) (.str b) Q := ⟨_, _, rfl, rfl, shaped_str ha, shaped_str hb, h⟩
theorem eq_int {a b : Int} {Q : D → Prop} (h : Q (.bl (a == b))) : gEq (.int a) (.int b) Q := ⟨_, _, rfl, rfl, shaped_int a, shaped_int b, h⟩
theorem ne_int {a b : Int} {Q : D → Prop} (h : Q (.bl (!(a == b)))) : gNe (.int a) (.int b) Q := ⟨_, _, rfl, rfl, shaped_int a, shaped_int b, h⟩
theorem pdL_int : ∀ is : List Int, pdL (is.map D.int) = some (is.map PyData.int)
  | [] => rfl
  | i :: is => by simp [pdL, pd, pdL_int is]
theorem pdL_str : ∀ ts : List Str, pdL (strsD ts) = some (ts.map PyData.str)
  | [] => rfl
  | t :: ts => by
    have := pdL_str ts
    simp only [strsD, List.map_cons, pdL, pd] at this ⊢
    rw [this]
theorem eqvAll_int : ∀ is js : List Int, PyData.eqvAll (is.map PyData.int) (js.map PyData.int) = (is == js)
  | [], [] => rfl
  | [], _ :: _ => rfl
  | _ :: _, [] => rfl
  | i :: is, j :: js => by
    show ((i == j) && PyData.eqvAll (is.map PyData.int) (js.map PyData.int)) = _
    rw [eqvAll_int is js]
    rfl
theorem lay_int : ∀ is : List Int, PyData.canLayAll0 (is.map PyData.int) = true
  | [] => rfl
  | i :: is => by
    show (true && PyData.canLayAll0 (is.map PyData.int)) = true
    rw [lay_int is]; rfl
theorem depth_int : ∀ is : List Int, PyData.depthAll (is.map PyData.int) ≤ 1
  | [] => by decide
  | i :: is => by
    show max _ (PyData.depthAll (is.map PyData.int)) ≤ 1
    exact Nat.max_le.mpr ⟨Nat.zero_le _, depth_int is⟩
theorem eq_row {is js : List Int} {Q : D → Prop} (hr : ∀ is : List Int, SeqAt.shaped (.tuple (is.map PyData.int)) = true) (h : Q (.bl (is == js))) : gEq (.tup (is.map D.int)) (.tup (js.map D.int)) Q :=
  ⟨_, _, by simp [pd, pdL_int], by simp [pd, pdL_int], hr is, hr js, by rw [show PyData.eqv (.tuple (is.map PyData.int)) (.tuple (js.map PyData.int)) = PyData.eqvAll (is.map PyData.int) (js.map PyData.int) from rfl, eqvAll_int]; exact h⟩
theorem shaped_row (is : List Int) : SeqAt.shaped (.tuple (is.map PyData.int)) = true := by
  unfold SeqAt.shaped
  rw [show PyData.canLay0 (.tuple (is.map PyData.int)) = PyData.canLayAll0 (is.map PyData.int) from rfl, lay_int, Bool.true_and]
  have := depth_int is
  exact decide_eq_true (by show PyData.depthAll (is.map PyData.int) + 1 ≤ 64; omega)
end Kn

set_option Elab.async false
set_option linter.all false
set_option maxRecDepth 100000
set_option maxHeartbeats 2100000
namespace Kn
open PySem L2 RZ
section
variable {G : Gd} {E : XK} {X : Cx} {σ : List (Option V)} {H H' : Hp} {k : Nat}
theorem denL_rg {B : Addr → Prop} {H : Hp} (a : Int) : ∀ n : Nat, DenL G B H ((List.range n).map fun (i : Nat) => D.int (a + (i : Int))) ((List.range n).map fun i => V.int (a + (i : Nat))) := fun n => by
  have h : ∀ l : List Nat, DenL G B H (l.map fun (i : Nat) => D.int (a + (i : Int))) (l.map fun i => V.int (a + (i : Nat))) := fun l => by
    induction l with
    | nil => rfl
    | cons x l ih => exact ⟨_, _, rfl, rfl, ih⟩
  exact h _
/-- list(range(n)) -/
def dListRg (te : DT) : DT := fun ex env Q => te ex env fun d => ∃ n : Int, d = .int n ∧ n ≤ 16777216 ∧ -(2 ^ 62) ≤ n ∧ Q (.lst (rangeD 0 n.toNat))
theorem de_listRange {a : Expr} {c : Nat} {te : DT} {p p2 pos pos2 : Pos} (hc : X.calm = true) (hm : X.mg "list" = none) (hm2 : X.mg "range" = none) (ha : DE G E X c a te) (hg : Gl X "list" := by rfl) (hg2 : Gl X "range" := by rfl)
    (na : starEach [a] X.env = (false, eval a X.env) :: starEach [] X.env := by rfl) (nb : starEach [.Call (.Name "range" p2) [a] [] pos2] X.env = (false, eval (.Call (.Name "range" p2) [a] [] pos2) X.env) :: starEach [] X.env := by rfl) :
    DE G E X c (.Call (.Name "list" p) [.Call (.Name "range" p2) [a] [] pos2] [] pos) (dListRg te) :=
  imp (pe_listRg hc hg hm (prg_1 hg2 hm2 ha na) nb) fun σ H Q' h => by
    obtain ⟨W, hn, Q, ht, kk⟩ := h
    refine ⟨W, hn, _, ht, fun v H1 d st hd ⟨n, e, h1, h2, hq⟩ => ?_⟩
    subst e
    cases hd
    refine ⟨n, rfl, ⟨by omega, by omega, by omega, by omega, by omega⟩, fun q hq0 => ?_⟩
    have e2 : rgV 0 n = (List.range n.toNat).map fun i => V.int (0 + (i : Nat)) := by unfold rgV; rw [Int.sub_zero]
    refine kk _ _ (.lst (rangeD 0 n.toNat)) (st.new hq0) (den_lst hq0 ((W.next st).fresh hq0) (by rw [rgV_length, sizeLine_eq]; omega) ?_) hq
    rw [e2]
    exact denL_rg 0 n.toNat
end
end Kn

set_option Elab.async false
set_option linter.all false
set_option maxRecDepth 100000
set_option maxHeartbeats 2100000
namespace Kn
open PySem L2 RZ
section
variable {G : Gd} {E : XK} {X : Cx} {σ : List (Option V)} {H H' : Hp} {k : Nat}
/-- t == (), whatever t holds -/
def rEqE (K : PySem.W.Frag) : R2 := fun x y H Q => ∃ a b xs, x = .ref a ∧ y = .ref b ∧ SqT K H a xs ∧ SqT K H b [] ∧ Q (.bl xs.isEmpty) H
theorem op_eqE (hu : X.A.units < cLine) : OpR X (compareOp .Eq) (rEqE X.K) := by
  intro pins s σ H x y v u Q I rx ry h; obtain ⟨a, b, xs, rfl, rfl, ha, hb, q⟩ := h
  cases rx
  cases ry
  obtain ⟨its, r1, p1, _⟩ := I.tuple ha; obtain ⟨its2, r2, p2, _⟩ := I.tuple hb
  cases r2
  have hl := r1.length
  refine SeqAt.eq_tupleAt (e := fun _ => true) p1 p2 hu (fun i h1 h2 => absurd h2 (by simp)) ⟨.bl xs.isEmpty, H, I, ?_, q⟩
  cases r1 with
  | nil => rfl
  | cons r0 r1 =>
    show Value.bool _ = Value.bool false
    congr 1
def gEqE : G2 := fun d e Q => ∃ ds, d = .tup ds ∧ e = .tup [] ∧ Q (.bl ds.isEmpty)
theorem o_eqE (hK : X.K = G.K) (hu : X.A.units < cLine) : OpR X (compareOp .Eq) (rD G gEqE) := opr_imp (op_eqE hu) fun x y H Q' h => by
  obtain ⟨B, d, e, Q, hd, he, _, ⟨ds, rfl, rfl, hq⟩, kk⟩ := h
  obtain ⟨a, xs, rfl, na, ha, la, da⟩ := hd
  obtain ⟨b, ys, rfl, nb, hb, lb, db⟩ := he
  cases db
  refine ⟨a, b, xs, rfl, rfl, by rw [hK]; exact ha, by rw [hK]; exact hb, kk _ H (.bl xs.isEmpty) (Ext.refl _ _) (den_bl _) ?_⟩
  have e : xs.isEmpty = ds.isEmpty := by
    have := da.length
    cases xs <;> cases ds <;> first | rfl | (simp at this)
  rw [e]
  exact hq
end
end Kn

set_option Elab.async false
set_option linter.all false
set_option maxRecDepth 100000
set_option maxHeartbeats 2100000
/-! x in a tuple of things with an own == -/
namespace GQ
open PySem PySem.SeqAt PySem.Spec PyProof.Rows
open AutoSeq1
 (wpAny_loadPart')
open MeetsSeq
open MeetsSeq2 MeetsSeq3 SeqRoads2
section
variable {P : Program} {w : World} {A
  : Around} {R : Result → Shared → Prop}
theorem tup_hasG (l : Addr) (its : Array Value) (n : Nat) (dd : Option Addr) (sl : Array (Option Value)) (x : Value) (I : Nat → Shared → Prop)
    (turn : ∀ i (h : i < its.size) s, I i s → wpAny (model P w) A.in1 (eqBool its[i] x) (fun r s' => if r = true then R (.ok (.ret (.bool true))) s' else I (i + 1) s') (fun e s' => R (.error e) s') s)
    (fin : ∀ s, I its.size s → R (.ok (.ret (.bool false))) s) {s : Shared} (hl : s.heap.get? l = some { cls := .type "tuple", dict := dd, data := .seq its n, slots := sl }) (h : I 0 s) :
    wpAny (model P w) A.in1 (Builtin.«tuple.__contains__» ⟨[.ref l, x], []⟩) (FinOf P w A R) (fun e s' => R (.error e) s') s := by
  have h0 := h; obtain ⟨hp, g, d, tk, os⟩ := s
  wp_walk using wpAny_loadPart' hl, wpAny_forIn_array _ (fun rest b s' => b.1 = none ∧ ∃ i, rest = its.toList.drop i ∧ i ≤ its.size ∧ I i s') _
  case turn =>
    rintro y rest b s' ⟨hb', i, hz, hi, hI⟩
    have hlt : i < its.toList.length := by
      rcases Nat.lt_or_ge i its.toList.length with z | z
      · exact z
      · rw [List.drop_of_length_le z] at hz; cases hz
    have h1 : i < its.size := by simpa using hlt
    rw [List.drop_eq_getElem_cons
      hlt] at hz
    injection hz with hy hrest
    have hy' : y = its[i] := by simpa using hy
    subst hy'
    refine wpAny_bind (wpAny_mono (turn i h1 s' hI) (fun r s2 q2 => ?_) fun _ _ z => z)
    cases r with
    | true =>
      rw [if_pos rfl] at q2
      wp_walk
      simpa using q2
    | false =>
      rw [if_neg Bool.false_ne_true] at q2
      wp_walk
      exact ⟨rfl, i +
        1, hrest, h1, q2⟩
  case fin =>
    rintro ⟨b1, b2⟩ s' ⟨hb', i, hz, hi, hI⟩; simp only at hb'
    subst hb'
    have hge : its.size ≤ i := by
      rcases Nat.lt_or_ge i its.toList.length with z | z
      · rw [List.drop_eq_getElem_cons z] at hz; cases hz
      · simpa using z
    have e : i = its.size := by omega
    have hR := fin s' (e ▸ hI)
    wp_walk
    simpa using hR
  case h =>
    exact ⟨rfl, 0, rfl,
      Nat.zero_le _, h0⟩
end
section
variable {P : Program} {w : World} {A : Around}
  {E : Value → Shared → Prop} {s : Shared}
theorem in_tupG {l : Addr} {its : Array Value} {x : Value} {Q : Value → Shared → Prop} (hl : s.heap.IsTuple l its) (I : Nat → Shared → Prop)
    (turn : ∀ i (h : i < its.size) s, I i s → wpAny (model P w) A.in1 (eqBool its[i] x) (fun r s' => if r = true then Q (.bool true) s' else I (i + 1) s') E s)
    (fin : ∀ s, I its.size s → Q (.bool false) s) (h : I 0 s) : wpAny (model P w) A (compareOp .In x (.ref l)) Q E s := by
  obtain ⟨⟨cls, dd, data, sl⟩, ho, hc, n, hd⟩ := id hl; simp only at hc hd
  subst hc hd
  refine (?_ : wpAny _ A (do return .bool (← contains (.ref l) x)) Q E s)
  refine wpAny_bind (wpAny_contains_slot ⟨_, ho, rfl⟩ F.slot_tuple_contains (wpAny_mono (call_here (Q := fun v s' => ∃ b, v = .bool b ∧ Q (.bool b) s') F.slot_tuple_contains ⟨_, ho, rfl⟩ F.entry_tuple_contains (F.args_tuple_contains_2 _ _) ?_) (fun v s' hv => ?_) fun _ _ e => e))
  · exact tup_hasG (R := wants (fun v s' => ∃ b, v = .bool b ∧ Q (.bool b) s') E) l its n dd sl x I (fun i h1 s' q => wpAny_mono (turn i h1 s' q) (fun r s2 q2 => by
      cases r with
      | true => exact ⟨true, rfl, q2⟩
      | false => exact q2) fun _ _ z => z) (fun s' q => ⟨false, rfl, fin s' q⟩) ho h
  · obtain ⟨b, rfl, hq⟩ := hv
    exact wpAny_truthy_bool
      (wpAny_pure hq)
end
end GQ
namespace Kn
open PySem L2 RZ
section
variable {G : Gd} {E : XK} {X : Cx} {σ : List (Option V)} {H H' : Hp} {k : Nat}
/-- x in t: both of things of the class c with the own ==; whether each item is like x is told by its spec -/
def inI (c : Nat) (S : FSpec) (x : D) (Q : D → Prop) (ex : Exc → Prop) : List D → Prop
  | [] => Q (.bl false)
  | d :: ds => ∃ es, d = .ins c es ∧ Q (.bl true) ∧ S [d, x] (fun r => ∃ b, r = .bl b ∧ (b = false → inI c S x Q ex ds)) ex
end
end Kn

set_option Elab.async false
set_option linter.all false
set_option maxRecDepth 100000
set_option maxHeartbeats 2100000
namespace Kn
open PySem L2 RZ
section
variable {G : Gd} {E : XK} {X : Cx} {σ : List (Option V)} {H H' : Hp} {k : Nat}
def rInI (G : Gd) (E : XK) (c : Nat) (S : FSpec) : R2 := fun x y H Q' => ∃ (u : Option Ur) (n : Nat) (B : Addr → Prop) (es ds : List D) (Q : D → Prop) (ex : Exc → Prop), u = G.u ∧ (∀ p, Pr u p → B p.1 ∧ B p.2) ∧ (∀ a, B a → H a ≠ none) ∧ Good u H n ∧
  Den G B H (.ins c es) x ∧ Den G B H (.tup ds) y ∧ inI c S (.ins c es) Q ex ds ∧ (∀ r H' rd, Ext u H H' → Good u H' n → Den G B H' rd r → Q rd → Q' r H') ∧ (∀ z C d H', Ext u H H' → Good u H' n → ExcIs G B H' z C d → ex z → E C d H')
theorem op_inI {j c : Nat} {S : FSpec} (F : Fq G X.prog X.w X.mg X.base j c 0 S) (xk : Xk G E k X) (hj : j + 1 ≤ k := by decide) : OpR X (compareOp .In) (rInI G E c S) := by
  intro pins s σ H x y v u Q' I rx ry h
  obtain ⟨uu, n, B, es, ds, Q, ex, hug, hu, hB, hg, hx, hy, hin, kQ, kE⟩ := h
  obtain ⟨f, fd, ps, hF0, hs, hf, hbd, hp2⟩ := F.ex
  rw [← xk.K] at hs hf hbd
  have huB : ∀ p, Pr uu p → B p.1 := fun p e => (hu p e).1
  obtain ⟨ax, dx, fx, rfl, nax, hax, lax, dax⟩ := id hx
  obtain ⟨at', xs, rfl, nat', hat', lat', dat'⟩ := id hy
  cases rx
  cases ry
  rw [← xk.K] at hat'
  obtain ⟨its, r1, p1, hz⟩ := I.tuple hat'
  have hlen : its.toArray.size = ds.length := by rw [List.size_toArray, ← r1.length, dat'.length]
  have room1 : Room j X.A.in1 := (xk.room.mono hj).in1
  refine GQ.in_tupG p1 (fun i s' => ∃ H', Inv X pins σ H' s' ∧ Ext uu H H' ∧ Good uu H' n ∧ inI c S (.ins c es) Q ex (ds.drop i)) (fun i h1 s' hI => ?_) (fun s' hI => ?_) ⟨H, I, Ext.refl _ _, hg, hin⟩
  · obtain ⟨H1, I1, e1, g1, hin1⟩ := hI
    have hi : i < ds.length := by rw [← hlen]; exact h1
    rw [List.drop_eq_getElem_cons hi] at hin1
    obtain ⟨fs, ed, qt, hS⟩ := hin1
    have dd1 : DenL G B H1 ds xs := dat'.ext e1 huB
    obtain ⟨v1, hv1, dv1⟩ := dd1.get (List.getElem?_eq_getElem hi)
    rw [ed] at dv1
    obtain ⟨ai, di, fi, rfl, nai, hai, lai, dai⟩ := id dv1
    obtain ⟨ui, hui, rui⟩ := r1.get hv1
    have hax1 := ext_nb e1 huB nax hax
    have dx1 : Den G B H1 (.ins c es) (.ref ax) := hx.ext e1 huB
    have eit : its.toArray[i] = .ref ai := by
      have z := (List.getElem?_eq_some_iff.mp hui).2
      have rr : ui = .ref ai := rui
      rw [← rr, ← z]; simp
    rw [eit]
    by_cases hab : ai = ax
    · subst hab
      refine SeqAt.EqAt.same (A := X.A.in1) (s := s') (.ref ai) X.prog X.w X.xe _ ?_
      rw [if_pos rfl]
      exact ⟨.bl true, H1, I1, rfl, kQ _ H1 (.bl true) e1 g1 (den_bl _) qt⟩
    · refine GQ.eqBool_refG hab ?_
      obtain ⟨mA, J, _⟩ := ins_get I1.hok hai
      obtain ⟨mB, J', _⟩ := ins_get I1.hok hax1
      obtain ⟨od, J, _⟩ := J.look
      obtain ⟨od', J', _⟩ := J'.look; obtain ⟨m, hFr⟩ := I1.fr
      have hB1 : ∀ a, B a → H1 a ≠ none := fun a ha z => by
        cases q : H a with
        | none => exact hB a ha q
        | some o =>
          rcases NU.em (u := uu) (b := a) with hua | ⟨r, hr, rfl⟩
          · rw [e1 a o q hua] at z; cases z
          · obtain ⟨⟨_, z1⟩, _⟩ := g1.there hr
            rw [z1] at z; cases z
      have hl : liftF G 0 S [.ref ai, .ref ax] H1 (fun v H2 => ∃ b, v = .bl b ∧ Ext uu H H2 ∧ Good uu H2 n ∧ (b = false → inI c S (.ins c es) Q ex (ds.drop (i + 1)))) E :=
        ⟨uu, n, B, [.ins c fs, .ins c es], fun r => ∃ b, r = .bl b ∧ (b = false → inI c S (.ins c es) Q ex (ds.drop (i + 1))), ex, hug, Nat.zero_le _, hu, hB1, g1, ⟨_, _, rfl, dv1, _, _, rfl, dx1, rfl⟩, by rw [ed] at hS; exact hS, fun v H2 d e2 g2 hd ⟨b, eb, hb⟩ => by
          subst eb
          cases hd
          exact ⟨b, rfl, e1.trans e2, g2, hb⟩, fun z C d H2 e2 g2 hz hq => kE z C d H2 (e1.trans e2) g2 hz hq⟩
      refine PySem.W.cmp_K (op := .Eq) (tb := .ref (G.cl c)) room1.units0 hFr I1.ok.mod.kin J J'.type (by simp [PySem.W.notFirst]) hs hf (wpAny_call (codeAny_mono (hF0.run X.A.in1 X.stack s' H1 ⟨[.ref ai, .ref ax], []⟩ [.ref ai, .ref ax] [.ref ai, .ref ax] _ E room1 xk.gd (by rw [← xk.K]; exact I1.env0.in1) ?_ (.cons rfl (.cons rfl .nil)) hp2.symm hl) fun r s2 hq => ?_))
      · have z := hbd s' [.ref ai, .ref ax] I1.kIn (by rw [List.append_nil]; exact hp2.symm)
        rw [List.append_nil] at z
        exact z
      · cases r with
        | error e => exact xk.pass pins σ H1 s' e s2 I1 hq
        | ok fl =>
          cases fl with
          | ret w' =>
            obtain ⟨z, H2, I2, rz, b, eb, e2, g2, hb⟩ := I1.after hq
            subst eb
            refine SlX.cmpback rz ⟨b, ?_, ?_⟩
            · exact rz
            · cases b with
              | true => rw [if_pos rfl]; exact ⟨.bl true, H2, I2, rfl, kQ _ H2 (.bl true) e2 g2 (den_bl _) qt⟩
              | false => rw [if_neg Bool.false_ne_true]; exact ⟨H2, I2, e2, g2, hb rfl⟩
          | next => exact hq.elim
          | brk => exact hq.elim
          | cont => exact hq.elim
  · obtain ⟨H1, I1, e1, g1, hin1⟩ := hI
    rw [hlen, List.drop_length] at hin1
    exact ⟨.bl false, H1, I1, rfl, kQ _ H1 (.bl false) e1 g1 (den_bl _) hin1⟩
def dInI (c : Nat) (S : FSpec) (ta tb : DT) : DT := fun ex env Q => ta ex env fun d => tb ex env fun e => ∃ es ds, d = .ins c es ∧ e = .tup ds ∧ inI c S d Q ex ds
theorem de_inI {a b : Expr} {pos : Pos} {j c ca cb : Nat} {S : FSpec} {ta tb : DT} (F : Fq G X.prog X.w X.mg X.base j c 0 S) (xk : Xk G E k X) (ha : DE G E X ca a ta) (hb : DE G E X cb b tb) (hm : behindInMarks .In b = false) (hj : j + 1 ≤ k := by decide) : DE G E X (ca + cb) (.Compare a [.In] [b] pos) (dInI c S ta tb) :=
  imp (pe_cmpR (op_inI F xk hj) ha hb hm) fun σ H Q' h => by
    obtain ⟨W, hn, Q, ht, kk⟩ := h
    refine ⟨W, by omega, _, ht, fun v H1 d st hd hq => ⟨W.next st, by show W.m + cb ≤ W.n - ca; omega, _, hq, fun v2 H2 e st2 he ⟨es, ds, e1, e2, hs⟩ => ?_⟩⟩
    subst e1 e2
    have s12 := st.trans st2
    have hd2 : Den G W.XB H2 (.ins c es) v := (W.next st).den st2 hd
    refine ⟨W.u, W.n - (ca + cb), W.XB, es, ds, Q, W.ex, W.ug, fun p e => ⟨.inl (W.hu p e).1, .inl (W.hu p e).2⟩, fun q hq0 z => (W.next s12).fresh z hq0, s12.good, hd2, he, hs, fun r H' rd e g hr hq2 => kk r H' rd ⟨s12.ext.trans e, g⟩ hr hq2, fun z C d H' e g hz hq2 => ?_⟩
    obtain ⟨z1, dd, xs, z2, zn, z3, z4, z5⟩ := hz
    exact W.exc z C d H' ((W.fr.trans s12.ext).trans e) (g.less (by omega)) ⟨z1, dd, xs, z2, fun q => zn (.inl q), z3, z4, z5.fewer fun b z => .inl z⟩ hq2
end
end Kn

set_option Elab.async false
set_option linter.all false
set_option maxRecDepth 100000
set_option maxHeartbeats 2100000
namespace Kn
open PySem L2 RZ
/-! dicts with texts as keys: display of constants, in, lookup -/
section
variable {G : Gd} {E : XK} {X : Cx} {σ : List (Option V)} {H H' : Hp} {k : Nat}
def lookD : List Str → List D → Str → Option D
  | x :: ks, d :: ds, y => if x = y then some d else lookD ks ds y
  | _, _, _ => none
theorem look_val {B : Addr → Prop} {H : Hp} {y : Str} : ∀ {ks : List Str} {ds : List D} {kvs : List (Key × V)}, kvs.map (·.1) = ks.map Sum.inr → DenL G B H ds (kvs.map (·.2)) →
    (∀ d, lookD ks ds y = some d → ∃ v, valV kvs (Sum.inr y) = some v ∧ Den G B H d v) ∧ (valV kvs (Sum.inr y)).isSome = (lookD ks ds y).isSome
  | [], ds, kvs, hk, hd => by
    have e : kvs = [] := by simpa using hk
    subst e
    exact ⟨fun d h => by simp [lookD] at h, by simp [valV, lookD]⟩
  | x :: ks, [], kvs, hk, hd => by
    have e := hd.length
    have e2 := congrArg List.length hk
    simp at e e2
    omega
  | x :: ks, d :: ds, [], hk, hd => by simp at hk
  | x :: ks, d :: ds, p :: kvs, hk, hd => by
    obtain ⟨v, r, e, h1, h2⟩ := hd
    simp only [List.map_cons, List.cons.injEq] at hk e
    obtain ⟨e1, hk⟩ := hk
    obtain ⟨e2, e3⟩ := e
    rw [← e3] at h2
    obtain ⟨i1, i2⟩ := look_val (y := y) hk h2
    by_cases hxy : x = y
    · subst hxy
      have z : valV (p :: kvs) (Sum.inr x) = some p.2 := valV_pos e1
      refine ⟨fun d' h => ?_, ?_⟩
      · simp only [lookD, if_true] at h
        cases h
        exact ⟨p.2, z, by rw [e2]; exact h1⟩
      · rw [z]; simp [lookD]
    · have hne : ¬ p.1 = Sum.inr y := fun z => hxy (by rw [e1] at z; cases z; rfl)
      rw [valV_neg hne]
      simp only [lookD, if_neg hxy]
      exact ⟨i1, i2⟩
theorem lift_dct {d : D} {ks : List Str} {ds : List D} {B : Addr → Prop} {v : V} (h : Den G B H (.dct ks ds) v) : ∃ (a : Addr) (kvs : List (Key × V)), v = .ref a ∧ ¬ B a ∧ H a = some (.dK kvs) ∧ kvs.map (·.1) = ks.map Sum.inr ∧ DenL G B H ds (kvs.map (·.2)) := h
/-- d[x] -/
def gGet : G2 := fun d e Q => ∃ ks ds x v, d = .dct ks ds ∧ e = .str x ∧ lookD ks ds x = some v ∧ Q v
theorem de_dget {a b : Expr} {pos : Pos} {ca cb : Nat} {ta tb : DT} (hu : X.A.units + 1 < cLine) (ha : DE G E X ca a ta) (hb : DE G E X cb b tb) (hs : NoSl b := by intro _ _; rfl) : DE G E X (ca + cb) (.Subscript a b pos) (dOp gGet ta tb) :=
  imp (pe_dget hu ha hb hs) fun σ H Q' h => by
    obtain ⟨W, hn, Q, ht, kk⟩ := h
    refine ⟨W, by omega, _, ht, fun v H1 d st hd hq => ⟨W.next st, by show W.m + cb ≤ W.n - ca; omega, _, hq, fun v2 H2 e st2 he ⟨ks, ds, x, r, e1, e2, hl, hq2⟩ => ?_⟩⟩
    subst e1 e2
    cases he
    obtain ⟨a, kvs, rfl, na, hat, hk, hds⟩ := (W.next st).den st2 hd
    obtain ⟨z, hz, dz⟩ := (look_val (y := x) hk hds).1 r hl
    exact ⟨a, z, rfl, by rw [← hz]; exact DGet.k (k := Sum.inr x) hat, kk z H2 r (st.trans st2) dz hq2⟩
/-- x in d -/
def gInD : G2 := fun e d Q => ∃ ks ds x, d = .dct ks ds ∧ e = .str x ∧ Q (.bl (lookD ks ds x).isSome)
theorem lift_din {ca cb : Nat} {ta tb : DT} {Q' : VK} (h : lift G E (ca + cb) (dOp gInD ta tb) σ H Q') : tDIn (lift G E ca ta) (lift G E cb tb) σ H Q' := by
  obtain ⟨W, hn, Q, ht, kk⟩ := h
  refine ⟨W, by omega, _, ht, fun v H1 d st hd hq => ⟨W.next st, by show W.m + cb ≤ W.n - ca; omega, _, hq, fun v2 H2 e st2 he ⟨ks, ds, x, e1, e2, hq2⟩ => ?_⟩⟩
  subst e1 e2
  cases hd
  obtain ⟨a, kvs, rfl, na, hat, hk, hds⟩ := he
  exact ⟨a, valV kvs (Sum.inr x), rfl, DGet.k (k := Sum.inr x) hat, kk _ H2 (.bl _) (st.trans st2) (by rw [(look_val (y := x) hk hds).2]; exact den_bl _) hq2⟩
theorem de_din {a b : Expr} {pos : Pos} {ca cb : Nat} {ta tb : DT} (hu : X.A.units + 1 < cLine) (ha : DE G E X ca a ta) (hb : DE G E X cb b tb) (hm : behindInMarks .In b = false) : DE G E X (ca + cb) (.Compare a [.In] [b] pos) (dOp gInD ta tb) := imp (pe_cmp (pc_din hu ha hb) hm) fun _ _ _ h => lift_din h
theorem dt_din {a b : Expr} {pos : Pos} {ca cb : Nat} {ta tb : DT} (hu : X.A.units + 1 < cLine) (ha : DE G E X ca a ta) (hb : DE G E X cb b tb) (hm : behindInMarks .In b = false) : DPt G E X (ca + cb) (.Compare a [.In] [b] pos) (dTrue (dOp gInD ta tb)) := impT (pt_cmp (pc_din hu ha hb) hm) fun σ H Q' h => lift_din (lift_true h)
/-- {'a': 1, ..}: texts and ints as they stand -/
def dctI (cs : List (Str × Int)) : D := .dct (cs.map (·.1)) (cs.map fun p => .int p.2)
def kvsI (cs : List (Str × Int)) : List (Key × V) := cs.map fun p => (Sum.inr p.1, .int p.2)
theorem pairs_of : ∀ (cs : List (Str × Int)) {σ : List (Option V)} {H : Hp} {K : List (V × V) → Hp → Prop}, K (cs.map fun p => (V.str p.1, V.int p.2)) H → tPairs (cs.map fun p => (tC (.str p.1), tC (.int p.2))) σ H K
  | [], _, _, _, h => h
  | c :: cs, _, _, _, h => pairs_of cs h
theorem de_dct {cs : List (Str × Int)} {keys : List (Option Expr)} {values : List Expr} {pos : Pos} (h : PPs X pos keys values (cs.map fun p => (tC (.str p.1), tC (.int p.2)))) (hall : keys.all (·.isSome) = true) (hl : keys.length = values.length) (h0 : keys ≠ []) (h15 : keys.length ≤ 15) (hcs : cs.length ≤ 15) (hm : mergeK [] (kvsI cs) = kvsI cs) :
    DE G E X 0 (.Dict keys values pos) (dC (dctI cs)) := imp (pe_disp h hall hl h0 h15) fun σ H Q' hh => by
  obtain ⟨W, hn, Q, hq, kk⟩ := hh
  intro p hp
  refine pairs_of cs ⟨upd_same, kvsI cs, by unfold kvsI; rw [List.map_map]; rfl, by unfold kvsI; rw [List.length_map]; exact hcs, ?_⟩
  rw [hm]
  have e : L2.upd (L2.upd H p (.dK [])) p (.dK (kvsI cs)) = L2.upd H p (.dK (kvsI cs)) := by
    funext b
    by_cases hb : b = p
    · subst hb; rw [upd_same, upd_same]
    · rw [upd_ne hb, upd_ne hb, upd_ne hb]
  rw [e]
  have dl : ∀ l : List (Str × Int), DenL G W.XB (L2.upd H p (.dK (kvsI cs))) (l.map fun p => .int p.2) ((kvsI l).map (·.2)) := fun l => by
    induction l with
    | nil => rfl
    | cons c l ih => exact ⟨_, _, rfl, rfl, ih⟩
  refine kk (.ref p) _ (dctI cs) ((Step.refl W).new hp) ⟨p, kvsI cs, rfl, W.fresh hp, upd_same, ?_, dl cs⟩ hq
  unfold kvsI; rw [List.map_map, List.map_map]
  rfl
end
end Kn

set_option Elab.async false
set_option linter.all false
set_option maxRecDepth 100000
set_option maxHeartbeats 2100000
namespace Kn
open PySem L2
section
variable {G : Gd} {E : XK} {X : Cx}
/-! ### any target = a value (two cells of a pair) -/
def sAsg (te : DT) (t : DG) : DS := fun ex de env => te ex env fun d => t d env de.nx
theorem ds_asg {tg e : Expr} {c : Nat} {sl : List Nat} {te : DT} {t : DG} {pos : Pos} (he : DE G E X c e te) (hg : DTg G E X tg sl t) (hs : swapsWithSole [tg] e pos.line X.env = pure false := by rfl) (hw : swappedStores [tg] e X.env = pure none := by with_unfolding_all rfl)
    (h1 : (assignEach [tg] X.env).map (·.2) = [assign tg X.env] := by rfl) : DSt G E X c (.Assign [tg] e pos) (sAsg te t) :=
  impS (ps_asg he hg hs hw h1) fun Dn σ H h => by
    obtain ⟨W, hn, de, ht, k1, k2, k3, k4⟩ := h
    refine ⟨W, hn, _, ht, fun v H' d st hd hq => ?_⟩
    exact ⟨W.next st, d, de.nx, hd, hq, fun σ' W' al _ q => k1 σ' H' W' (((Later.next st).trans al.later).more (by omega)) q⟩
end
end Kn

set_option Elab.async false
set_option linter.all false
set_option maxRecDepth 100000
set_option maxHeartbeats 2100000
namespace Kn
open PySem L2
section
variable {G : Gd} {E : XK} {X : Cx} {σ : List (Option V)} {H H' : Hp}
/-! ### a thing of the frame's own, read: what comes of it holds no list and no thing -/
mutual
def flatD : D → Bool
  | .non => true
  | .bl _ => true
  | .int _ => true
  | .str _ => true
  | .tup ds => flatL ds
  | _ => false
def flatL : List D → Bool
  | [] => true
  | d :: ds => flatD d && flatL ds
end
/-- no tuple stands at b -/
def NoTup (H : Hp) (b : Addr) : Prop := ∃ o, H b = some o ∧ (∀ xs, o ≠ .tup xs) ∧ ∀ q xs, o ≠ .frz q (.tup xs)
mutual
theorem Den.flat {B B' : Addr → Prop} (hb : ∀ b, B' b → B b ∨ NoTup H b) : ∀ (d : D) (v : V), flatD d = true → Den G B H d v → Den G B' H d v
  | .non, _, _, h => h
  | .bl _, _, _, h => h
  | .int _, _, _, h => h
  | .str _, _, _, h => h
  | .tup ds, v, f, ⟨a, xs, e, nb, hs, hl, hd⟩ => by
    rcases nb with nb | nb
    · rcases hs with h | h
      · refine ⟨a, xs, e, .inl fun z => ?_, .inl h, hl, DenL.flat hb ds xs f hd⟩
        rcases hb a z with q | ⟨o, ho, n1, n2⟩
        · exact nb q
        · rcases h with h | ⟨q, h⟩
          · rw [h] at ho; cases ho; exact n1 xs rfl
          · rw [h] at ho; cases ho; exact n2 q xs rfl
      · exact ⟨a, xs, e, .inr h, .inr h, hl, DenL.flat hb ds xs f hd⟩
    · exact ⟨a, xs, e, .inr nb, hs, hl, DenL.flat hb ds xs f hd⟩
  | .lst _, _, f, _ => by simp [flatD] at f
  | .ins _ _, _, f, _ => by simp [flatD] at f
  | .opq _, _, f, _ => by simp [flatD] at f
  | .urn, _, f, _ => by simp [flatD] at f
  | .at_ _ _, _, f, _ => by simp [flatD] at f
  | .dct _ _, _, f, _ => by simp [flatD] at f
  | .tupn _, _, f, _ => by simp [flatD] at f
  | .exc _ _, _, f, _ => by simp [flatD] at f
  | .dic _ _, _, f, _ => by simp [flatD] at f
  | .dcT _ _, _, f, _ => by simp [flatD] at f
theorem DenL.flat {B B' : Addr → Prop} (hb : ∀ b, B' b → B b ∨ NoTup H b) : ∀ (ds : List D) (xs : List V), flatL ds = true → DenL G B H ds xs → DenL G B' H ds xs
  | [], _, _, h => h
  | d :: ds, xs, f, ⟨x, r, e, h1, h2⟩ => by
    have f' : (flatD d && flatL ds) = true := f
    rw [Bool.and_eq_true] at f'
    exact ⟨x, r, e, Den.flat hb d x f'.1 h1, DenL.flat hb ds r f'.2 h2⟩
end
/-- a slot of the frame's own, taken for a value -/
def LendOk (G : Gd) (s : Sl) (v : D) : Prop := (∃ a ds, s = .own a ds ∧ v = .lst ds) ∨ (∃ a dx c ds, s = .slf a dx c ds ∧ v = .ins c ds ∧ ds.length = (G.fl c).length) ∨ ∃ a ks ds, s = .dic a ks ds ∧ v = .dcT ks ds
theorem LendOk.mine {s : Sl} {v : D} (h : LendOk G s v) : s.mine = true := by
  rcases h with ⟨a, ds, rfl, _⟩ | ⟨a, dx, c, ds, rfl, _⟩ | ⟨a, ks, ds, rfl, _⟩ <;> rfl
/-- the state in which a slot of the frame's own is taken for a value -/
theorem wd_lend (W : Wd G E σ H) {i : Nat} {s : Sl} {v : D} (he : W.env[i]? = some s) (ok : LendOk G s v) :
    ∃ (W' : Wd G E σ H) (a : Addr), W'.env = W.env.set i (.val v) ∧ W'.u = W.u ∧ W'.n = W.n ∧ W'.m = W.m ∧ W'.B = W.B ∧ W'.ex = W.ex ∧ W'.H0 = W.H0 ∧ σ[i]? = some (some (.ref a)) ∧ W.H0 a = none ∧ NoTup H a ∧ (∀ b, W.XB b → W'.XB b ∨ b = a) ∧ (∀ b, W'.XB b → W.XB b ∧ b ≠ a) := by
  have hil : i < W.env.length := (List.getElem?_eq_some_iff.mp he).1
  have hm := ok.mine
  have hsl := W.sl i _ he
  have hat : ∃ a o, σ[i]?.join = some (V.ref a) ∧ W.H0 a = none ∧ H a = some o ∧ (∀ xs, o ≠ .tup xs) ∧ (∀ q xs, o ≠ .frz q (.tup xs)) := by
    rcases ok with ⟨a, ds, rfl, _⟩ | ⟨a, dx, c, ds, rfl, _⟩ | ⟨a, ks, ds, rfl, _⟩
    · obtain ⟨xs, e1, h0, ha, _⟩ := hsl
      exact ⟨a, _, e1, h0, ha, fun _ z => (by cases z), fun _ _ z => (by cases z)⟩
    · obtain ⟨xs, e1, h0, ha, _⟩ := hsl
      exact ⟨a, _, e1, h0, ha, fun _ z => (by cases z), fun _ _ z => (by cases z)⟩
    · obtain ⟨L, e1, h0, ha, _⟩ := hsl
      exact ⟨a, _, e1, h0, ha, fun _ z => (by cases z), fun _ _ z => (by cases z)⟩
  obtain ⟨a, o, e1, h0, ha, n1, n2⟩ := hat
  have hsi := join_some e1
  have xb : ∀ b, XBof W.B (W.env.set i (.val v)) σ b → W.XB b ∧ b ≠ a := fun b hb => by
    rcases hb with hb | ⟨j, t, f1, m1, f2⟩
    · exact ⟨.inl hb, fun z => W.own_ne h0 (by rw [← z]; exact hb)⟩
    · by_cases hj : i = j
      · subst hj
        rw [List.getElem?_set_self hil] at f1; cases f1; cases m1
      · rw [List.getElem?_set_ne hj] at f1
        exact ⟨.inr ⟨j, t, f1, m1, f2⟩, fun z => hj (W.nd i j a _ t he f1 hm m1 hsi (by rw [← z]; exact f2))⟩
  have old : ∀ {j : Nat} {t : Sl}, (W.env.set i (.val v))[j]? = some t → t.mine = true → W.env[j]? = some t := fun {j t} f m => by
    by_cases hj : i = j
    · subst hj; rw [List.getElem?_set_self hil] at f; cases f; cases m
    · rw [List.getElem?_set_ne hj] at f; exact f
  refine ⟨{ u := W.u, n := W.n, m := W.m, B := W.B, H0 := W.H0, env := W.env.set i (.val v), ex := W.ex, ug := W.ug, hu := W.hu, hB := W.hB, fr := W.fr, good := W.good, len := by rw [List.length_set]; exact W.len, sl := fun j t e => ?_, nd := fun j l b t r f1 f2 m1 m2 f3 f4 => W.nd j l b t r (old f1 m1) (old f2 m2) m1 m2 f3 f4, exc := W.exc }, a, rfl, rfl, rfl, rfl, rfl, rfl, rfl, hsi, h0, ⟨o, ha, n1, n2⟩, fun b hb => ?_, xb⟩
  · by_cases hj : i = j
    · subst hj
      rw [List.getElem?_set_self hil] at e
      cases e
      rcases ok with ⟨a', ds, rfl, rfl⟩ | ⟨a', dx, c, ds, rfl, rfl, hcl⟩ | ⟨a', ks, ds, rfl, rfl⟩
      · obtain ⟨xs, e2, _, ha', hl, hd⟩ := hsl
        rw [e1] at e2; cases e2
        exact ⟨.ref a, e1, a, xs, rfl, fun z => (xb a z).2 rfl, ha', hl, hd.fewer fun b hb => (xb b hb).1⟩
      · obtain ⟨xs, e2, _, ha', hl, hd⟩ := hsl
        rw [e1] at e2; cases e2
        exact ⟨.ref a, e1, a, dx, xs, rfl, fun z => (xb a z).2 rfl, ha', by rw [← hd.length]; exact hcl, hd.fewer fun b hb => (xb b hb).1⟩
      · obtain ⟨L, e2, _, ha', hk, hx, hd⟩ := hsl
        rw [e1] at e2; cases e2
        exact ⟨.ref a, e1, a, L, rfl, fun z => (xb a z).2 rfl, ha', hk, hx.keep (fun _ _ _ h => h) (fun b hb => .inl (xb b hb).1), hd.fewer fun b hb => (xb b hb).1⟩
    · rw [List.getElem?_set_ne hj] at e
      exact (W.sl j t e).fewer fun b hb => (xb b hb).1
  · rcases hb with hb | ⟨j, t, f1, m1, f2⟩
    · exact .inl (.inl hb)
    · by_cases hj : i = j
      · subst hj
        rw [hsi] at f2; cases f2
        exact .inr rfl
      · exact .inl (.inr ⟨j, t, by show (W.env.set i (.val v))[j]? = some t; rw [List.getElem?_set_ne hj]; exact f1, m1, f2⟩)
theorem NoTup.ext {u : Option Ur} {b : Addr} (h : NoTup H b) (e : Ext u H H') (n : NU u b) : NoTup H' b := by
  obtain ⟨o, ho, h1⟩ := h
  exact ⟨o, e b o ho n, h1⟩
def dLend (G : Gd) (i : Nat) (te : DT) : DT := fun ex env Q => ∃ s v, env[i]? = some s ∧ LendOk G s v ∧ te ex (env.set i (.val v)) fun d => flatD d = true ∧ Q d
def bLend (G : Gd) (i : Nat) (t : DB) : DB := fun ex env Q => ∃ s v, env[i]? = some s ∧ LendOk G s v ∧ t ex (env.set i (.val v)) Q
theorem lend_un (W : Wd G E σ H) {a : Addr} (h0 : W.H0 a = none) : NU W.u a := W.nu h0
theorem de_lend (i : Nat) {e : Expr} {c : Nat} {te : DT} (h : DE G E X c e te) : DE G E X c e (dLend G i te) := imp h fun σ H Q' hh => by
  obtain ⟨W, hn, Q, ⟨s, v, he, ok, ht⟩, kk⟩ := hh
  obtain ⟨W1, a, w1, w2, w3, w4, w5, w6, w7, hsi, h0, nt, x1, x2⟩ := wd_lend W he ok
  refine ⟨W1, by rw [w3, w4]; exact hn, fun d => flatD d = true ∧ Q d, by rw [w1, w6]; exact ht, fun x H' d st hd ⟨fl, hq⟩ => ?_⟩
  have st' : Step W c H' := ⟨by rw [← w2]; exact st.ext, by rw [← w2, ← w3]; exact st.good⟩
  refine kk x H' d st' (Den.flat (fun b hb => ?_) d x fl hd) hq
  rcases x1 b hb with z | rfl
  · exact .inl z
  · exact .inr (nt.ext st'.ext (lend_un W h0))
theorem dt_lend (i : Nat) {e : Expr} {c : Nat} {t : DB} (h : DPt G E X c e t) : DPt G E X c e (bLend G i t) := impT h fun σ H Q' hh => by
  obtain ⟨W, hn, Q, ⟨s, v, he, ok, ht⟩, kk⟩ := hh
  obtain ⟨W1, a, w1, w2, w3, w4, w5, w6, w7, hsi, h0, nt, x1, x2⟩ := wd_lend W he ok
  refine ⟨W1, by rw [w3, w4]; exact hn, Q, by rw [w1, w6]; exact ht, fun b H' st hq => ?_⟩
  exact kk b H' ⟨by rw [← w2]; exact st.ext, by rw [← w2, ← w3]; exact st.good⟩ hq
end
end Kn

set_option Elab.async false
set_option linter.all false
set_option maxRecDepth 100000
set_option maxHeartbeats 2100000
namespace Kn
open PySem L2 RZ
open PyProof.Rows (envOfC)
section
variable {G : Gd} {E : XK} {X : Cx} {σ : List (Option V)} {H H' : Hp} {k : Nat}

/-! ### a method that changes the fields of self -/
/-- fields, arguments; what holds of the answer and the new fields -/
abbrev MSpec := List D → List D → (D → List D → Prop) → Prop
def liftM (G : Gd) (c cid : Nat) (S : MSpec) : Sp := fun vs H Q _ => ∃ (u : Option Ur) (n : Nat) (B : Addr → Prop) (fs ds : List D) (R : D → List D → Prop) (x dx : Addr) (vs' xs : List V),
  u = G.u ∧ vs = .ref x :: vs' ∧ H x = some (.ins (G.cl cid) dx ((G.fl cid).zip xs)) ∧ xs.length = (G.fl cid).length ∧ ¬ B x ∧ (∀ p, Pr u p → x ≠ p.1 ∧ x ≠ p.2) ∧ c ≤ n ∧ (∀ p, Pr u p → B p.1 ∧ B p.2) ∧ (∀ a, B a → H a ≠ none) ∧ Good u H n ∧
  DenL G (fun a => B a ∨ a = x) H ds vs' ∧ DenL G (fun a => B a ∨ a = x) H fs xs ∧ S fs ds R ∧
  (∀ H' v xs' d fs', (∀ b o, H b = some o → b ≠ x → NU u b → H' b = some o) → Good u H' (n - c) → H' x = some (.ins (G.cl cid) dx ((G.fl cid).zip xs')) → xs'.length = (G.fl cid).length → DenL G (fun a => B a ∨ a = x) H' fs' xs' → Den G (fun a => B a ∨ a = x) H' d v → R d fs' → Q v H')
structure MutD (G : Gd) (P : Program) (w : World) (mg : Str → Option Value) (base : Heap) (k : Nat) (f : Addr) (fd : FuncData) (ps : List Str) (c cid : Nat) (S : MSpec) : Prop where
  run : ∀ (A : Around) (outer : List Env) (s : Shared) (H : Hp) (args : Args) (us : List Value) (vs : List V) (Q : VK) (E : XK), Room k A → A.guards = some [] → Env0 P w G.K mg base A outer s H →
    BindsTo s fd args (ps.zip us) → Vals vs us → vs.length = ps.length → liftM G c cid S vs H Q E → codeAny (model P w) A (.call (.ref f) args) (CR (L2.CX P w) outer P w H s Q E) s
theorem MutD.mono {P : Program} {w : World} {mg : Str → Option Value} {base : Heap} {j k : Nat} {f : Addr} {fd : FuncData} {ps : List Str} {c cid : Nat} {S : MSpec} (F : MutD G P w mg base j f fd ps c cid S) (h : j ≤ k) : MutD G P w mg base k f fd ps c cid S :=
  ⟨fun A outer s H args us vs Q E hr => F.run A outer s H args us vs Q E (hr.mono h)⟩
/-- the slots at the entry -/
def envM (N : List Str) (x dx : Addr) (cid : Nat) (fs ds : List D) : List Sl := Sl.slf x dx cid fs :: (ds.map Sl.val ++ List.replicate (N.length - 1 - ds.length) Sl.emp)
theorem envM_get {N : List Str} {x dx : Addr} {cid : Nat} {fs ds : List D} {i : Nat} {s : Sl} (h : (envM N x dx cid fs ds)[i]? = some s) : (i = 0 ∧ s = .slf x dx cid fs) ∨ (∃ j d, i = j + 1 ∧ ds[j]? = some d ∧ s = .val d) ∨ s = .emp := by
  unfold envM at h
  cases i with
  | zero => exact .inl ⟨rfl, (Option.some.inj h).symm⟩
  | succ j =>
    rw [List.getElem?_cons_succ] at h
    by_cases hi : j < ds.length
    · rw [List.getElem?_append_left (by simpa using hi), List.getElem?_map, List.getElem?_eq_getElem hi] at h
      exact .inr (.inl ⟨j, ds[j], rfl, List.getElem?_eq_getElem hi, (Option.some.inj h).symm⟩)
    · rw [List.getElem?_append_right (by simpa using hi), List.getElem?_replicate] at h
      split at h
      · exact .inr (.inr (Option.some.inj h).symm)
      · cases h
theorem wd_self {N : List Str} {vs : List V} {E : XK} {u : Option Ur} {n c cid : Nat} {B : Addr → Prop} {fs ds : List D} {x dx : Addr} {xs : List V} (hN : vs.length + 1 ≤ N.length) (hug : u = G.u) (hx : H x = some (.ins (G.cl cid) dx ((G.fl cid).zip xs))) (hxl : xs.length = (G.fl cid).length) (bx : ¬ B x)
    (hux : ∀ p, Pr u p → x ≠ p.1 ∧ x ≠ p.2) (hu : ∀ p, Pr u p → B p.1 ∧ B p.2) (hB : ∀ a, B a → H a ≠ none) (hg : Good u H n) (hd : DenL G (fun a => B a ∨ a = x) H ds vs) (hf : DenL G (fun a => B a ∨ a = x) H fs xs) :
    ∃ W : Wd G E (L2.start N (.ref x :: vs)) H, W.u = u ∧ W.n = n ∧ W.m = n - c ∧ W.B = B ∧ W.H0 = (fun b => if b = x then none else H b) ∧ W.env = envM N x dx cid fs ds ∧ W.ex = noX := by
  have hl := hd.length
  have h0 : ∀ b o, (if b = x then (none : Option HO) else H b) = some o → H b = some o ∧ b ≠ x := fun b o e => by
    by_cases hb : b = x
    · rw [if_pos hb] at e; cases e
    · rw [if_neg hb] at e; exact ⟨e, hb⟩
  have hmine : ∀ {i : Nat} {s : Sl}, (envM N x dx cid fs ds)[i]? = some s → s.mine = true → i = 0 := fun {i s} e hm => by
    rcases envM_get e with ⟨z, _⟩ | ⟨_, _, _, _, rfl⟩ | rfl
    · exact z
    · cases hm
    · cases hm
  refine ⟨{ u := u, n := n, m := n - c, B := B, H0 := fun b => if b = x then none else H b, env := envM N x dx cid fs ds, ex := noX, ug := hug, hu := hu, hB := fun a ha z => ?_, fr := fun b o e _ => (h0 b o e).1, good := hg, len := ?_, sl := ?_, nd := ?_, exc := fun y C d H' e g hy hq => hq.elim }, rfl, rfl, rfl, rfl, rfl, rfl, rfl⟩
  · rw [if_neg (fun q : a = x => bx (by rw [← q]; exact ha))] at z
    exact hB a ha z
  · unfold envM L2.start
    simp only [List.length_append, List.length_map, List.length_replicate, List.length_cons]
    omega
  · intro i s e
    have sub : ∀ b, XBof B (envM N x dx cid fs ds) (L2.start N (.ref x :: vs)) b → B b ∨ b = x := fun b hb => by
      rcases hb with hb | ⟨j, t, e1, hm, e2⟩
      · exact .inl hb
      · have := hmine e1 hm
        subst this
        rw [start_get (i := 0) (v := .ref x) rfl] at e2
        cases e2
        exact .inr rfl
    rcases envM_get e with ⟨rfl, rfl⟩ | ⟨j, d, rfl, hdj, rfl⟩ | rfl
    · exact ⟨xs, by rw [start_get (i := 0) (v := .ref x) rfl]; rfl, if_pos rfl, hx, Nat.le_of_eq hxl, hf.fewer sub⟩
    · obtain ⟨y, hy, hdy⟩ := hd.get hdj
      exact ⟨y, by rw [start_get (i := j + 1) (v := y) (by simpa using hy)]; rfl, hdy.fewer sub⟩
    · trivial
  · intro i j a s t e1 e2 m1 m2 _ _
    rw [hmine e1 m1, hmine e2 m2]
/-- THE RULE for a method that changes self -/
theorem mutd_of {P : Program} {w : World} {mg : Str → Option Value} {base : Heap} {f : Addr} {x qual : Str} {st : Stmt} {fd : FuncData} {N ps : List Str} {c cid : Nat} {S : MSpec} {ts : DS} (F : Fun G.K x qual st f fd) (Sc : FnScope N ps (defScope st))
    (hder : ∀ (cdv : Value) (A : Around) (outer : List Env) (s : Shared) (H : Hp) (E : XK), Room k (A.deeper (envOfC qual (defScope st) s.heap.objs.size f cdv)) → A.guards = some [] →
      DSs G E (cxOf (L2.CX P w) P w G.K mg base N qual (defScope st) f cdv A outer s H E) c (defBody st) ts)
    (hS : ∀ a dx fs ds R, ds.length + 1 = ps.length → fs.length = (G.fl cid).length → S fs ds R → ts noX { nx := fun env => ∃ fs', env[0]? = some (.slf a dx cid fs') ∧ fs'.length = (G.fl cid).length ∧ R .non fs', rt := fun d env => flatD d = true ∧ ∃ fs', env[0]? = some (.slf a dx cid fs') ∧ fs'.length = (G.fl cid).length ∧ R d fs' } (envM N a dx cid fs ds)) : MutD G P w mg base (k + 1) f fd ps c cid S := by
  constructor
  intro A outer s H args us vs Q E hr hgd e0 hb rv hlen hsp
  obtain ⟨u, n, B, fs, ds, R, a, dx, vs', xs, hug, rfl, hx, hxl, bx, hux, hc, hu, hB, hg, hd, hf, hs, hq⟩ := hsp
  have hNl : vs'.length + 1 ≤ N.length := by
    have h1 := congrArg List.length Sc.pre
    rw [List.length_take] at h1
    rw [List.length_cons] at hlen
    omega
  obtain ⟨oc, od, kV, doc, pm, an, cdv, ct, osl, rfl, lk, hcd⟩ := F.ex; have KX : G.K.In s.heap := PySem.W.Frag.In.keeps e0.mod.kin (fun b o e => (e0.bs b o e).1)
  have nolim : s.heap.NoLimit := Heap.NoLimit.keeps e0.mod.nolimit (fun b o e => (e0.bs b o e).1)
  have kinds : ∀ y ∈ ps.zip us, (defScope st).names.lookup y.1 = some .local ∨
      ((defScope st).names.lookup y.1 = some .cell ∧ ((cellsFrom (s.heap.objs.size + 1) (defScope st).names []).lookup y.1).isSome = true) := by
    intro y hy
    obtain ⟨n1, v1⟩ := y
    rcases Sc.par n1 (List.of_mem_zip hy).1 with z | z
    · exact .inl z
    · exact .inr ⟨z, PySem.W.cellsFrom_some _ _ _ (.inl z)⟩
  refine codeAny_call_function hr.depth (KX _ _ lk) rfl Sc.co Sc.gen rfl (PySem.W.codeRec_of KX hcd) ?_
  refine hb _ _ _ _ (wpAny_newFunctionEnv_cells Sc.kind kinds ?_)
  intro env he s1 ic
  subst he
  refine ⟨nolim.keeps ic.toInCall.keep, codeAny_func ?_⟩
  have I : Inv (cxOf (L2.CX P w) P w G.K mg base N qual (defScope st) f cdv A outer s H E) [] (L2.start N (.ref a :: vs')) H s1 := inv_start Sc hr.hd e0 hlen rv ic
  have hds : ds.length + 1 = ps.length := by rw [hd.length]; simpa using hlen
  have hfl : fs.length = (G.fl cid).length := by rw [hf.length]; exact hxl
  obtain ⟨W, w1, w2, w3, w4, w5, w6, w7⟩ := wd_self (N := N) (E := E) (c := c) hNl hug hx hxl bx hux hu hB hg hd hf
  have fin : ∀ {σ' : List (Option V)} {H' : Hp} (W' : Wd G E σ' H') {v : V} {d : D} {fs' : List D}, Later W c W' → W'.env[0]? = some (.slf a dx cid fs') → fs'.length = (G.fl cid).length → Den G (fun b => B b ∨ b = a) H' d v → R d fs' → Q v H' := fun {σ' H'} W' {v d fs'} lt h1 h2 hdv h3 => by
    obtain ⟨ys, ea, h0, ha, hlx, hdx⟩ := W'.sl 0 _ h1
    have hG : Good u H' (n - c) := by have z := W'.good; rw [lt.u, w1] at z; exact z.less (by have := lt.n; rw [w2] at this; omega)
    refine hq H' v ys d fs' (fun b o e n1 nu => ?_) hG ha (by rw [← hdx.length]; exact h2) (hdx.fewer fun b hb => ?_) hdv h3
    · have z := W'.fr b o (by rw [lt.H0, w5]; show (if b = a then none else H b) = some o; rw [if_neg n1]; exact e)
      rw [lt.u, w1] at z
      exact z nu
    · rcases hb with hb | rfl
      · exact .inl (by rw [lt.B, w4]; exact hb)
      · exact .inr ⟨0, _, h1, rfl, join_some ea⟩
  have body := (hder cdv A outer s H E (hr.deeper _) hgd).run [] s1 (L2.start N (.ref a :: vs')) H { nx := fun _ H' => Q .non H', rt := Q } I (by
    refine ⟨W, by rw [w2, w3]; omega, _, by rw [w6, w7]; exact hS a dx fs ds R hds hfl hs, ?_, ?_, ?_, ?_⟩
    · intro σ' H' W' lt ⟨fs', h1, h2, h3⟩
      exact fin W' lt h1 h2 (d := .non) (v := .non) rfl h3
    · intro v σ' H' W' d lt hd' ⟨fl, fs', h1, h2, h3⟩
      obtain ⟨ys, ea, h0, ha, _⟩ := W'.sl 0 _ h1
      refine fin W' lt h1 h2 (Den.flat (fun b hb => ?_) d v fl hd') h3
      rcases hb with hb | rfl
      · exact .inl (by rw [w4]; exact hb)
      · exact .inr ⟨_, ha, fun _ z => (by cases z), fun _ _ z => (by cases z)⟩
    · intro σ' H' W' lt z; exact z.elim
    · intro σ' H' W' lt z; exact z.elim)
  refine wpAny_mono body ?_ (fun e s' hs => hs)
  intro fl s' hfl
  cases fl with
  | next => obtain ⟨σ', H', J, q⟩ := hfl; exact ⟨.non, H', J.os, J.bare, J.base, J.hok, rfl, q⟩
  | ret v' => obtain ⟨v, σ', H', J, r1, q⟩ := hfl; exact ⟨v, H', J.os, J.bare, J.base, J.hok, r1, q⟩
  | brk => obtain ⟨σ', H', J, q⟩ := hfl; exact q.elim
  | cont => obtain ⟨σ', H', J, q⟩ := hfl; exact q.elim

/-! ### expressions that change a thing of the frame's own -/
abbrev DT2 := (Exc → Prop) → List Sl → (D → List Sl → Prop) → Prop
def lift2 (G : Gd) (E : XK) (c : Nat) (t : DT2) : TE := fun σ H Q' => ∃ W : Wd G E σ H, W.m + c ≤ W.n ∧ ∃ Q, t W.ex W.env Q ∧ ∀ v H' d (W' : Wd G E σ H'), Later W c W' → Den G W'.XB H' d v → Q d W'.env → Q' v H'
abbrev DE2 (G : Gd) (E : XK) (X : Cx) (c : Nat) (e : Expr) (t : DT2) : Prop := PE X e (lift2 G E c t)
def e2Pure (t : DT) : DT2 := fun ex env Q => t ex env fun d => Q d env
theorem d2_pure {e : Expr} {c : Nat} {t : DT} (h : DE G E X c e t) : DE2 G E X c e (e2Pure t) := imp h fun σ H Q' hh => by
  obtain ⟨W, hn, Q, ht, kk⟩ := hh
  exact ⟨W, hn, _, ht, fun v H' d st hd hq => kk v H' d (W.next st) (Later.next st) hd hq⟩
/-- the frame's own thing in slot i is changed, others stay -/
theorem wd_after (W : Wd G E σ H) {c : Nat} {i : Nat} {a dx : Addr} {cid : Nat} {fs fs' : List D} {xs' : List V} (he : W.env[i]? = some (.slf a dx cid fs)) (hsi : σ[i]? = some (some (.ref a))) (hc : c ≤ W.n) (kp : ∀ b o, H b = some o → b ≠ a → NU W.u b → H' b = some o) (hg : Good W.u H' (W.n - c))
    (ha : H' a = some (.ins (G.cl cid) dx ((G.fl cid).zip xs'))) (hl : xs'.length = (G.fl cid).length) (hd : DenL G W.XB H' fs' xs') : ∃ W' : Wd G E σ H', Later W c W' ∧ W'.env = W.env.set i (.slf a dx cid fs') ∧ ∀ b, W'.XB b → W.XB b := by
  have hil : i < W.env.length := (List.getElem?_eq_some_iff.mp he).1
  have xa : W.XB a := .inr ⟨i, _, he, rfl, hsi⟩
  obtain ⟨h0, oa, hoa⟩ := W.mine_at he rfl hsi
  have nB : ¬ W.B a := W.own_ne h0
  have xb : ∀ b, XBof W.B (W.env.set i (.slf a dx cid fs')) σ b → W.XB b := fun b hb => by
    rcases hb with hb | ⟨j, s, e1, m1, e2⟩
    · exact .inl hb
    · by_cases hj : i = j
      · subst hj
        exact .inr ⟨i, _, he, rfl, e2⟩
      · rw [List.getElem?_set_ne hj] at e1
        exact .inr ⟨j, s, e1, m1, e2⟩
  have kd : ∀ b o, ¬ W.XB b → H b = some o → H' b = some o := fun b o nb e => kp b o e (fun z => nb (by rw [z]; exact xa)) (W.nuX nb)
  have dk : ∀ {d : D} {v : V}, Den G W.XB H d v → Den G (XBof W.B (W.env.set i (.slf a dx cid fs')) σ) H' d v := fun {d v} h => (Den.keep kd (fun b hb => .inl hb) d v h).fewer xb
  have dkl : ∀ {ds : List D} {xs : List V}, DenL G W.XB H ds xs → DenL G (XBof W.B (W.env.set i (.slf a dx cid fs')) σ) H' ds xs := fun {ds xs} h => (DenL.keep kd (fun b hb => .inl hb) ds xs h).fewer xb
  refine ⟨{ u := W.u, n := W.n - c, m := W.m, B := W.B, H0 := W.H0, env := W.env.set i (.slf a dx cid fs'), ex := W.ex, ug := W.ug, hu := W.hu, hB := W.hB, fr := fun b o e nu => ?_, good := hg, len := by rw [List.length_set]; exact W.len, sl := fun j s e => ?_, nd := fun j l b s t e1 e2 m1 m2 e3 e4 => ?_, exc := W.exc }, ⟨rfl, rfl, rfl, rfl, rfl, by show W.n ≤ W.n - c + c; omega, kd, fun b hb => .inl (xb b hb)⟩, rfl, xb⟩
  · exact kp b o (W.fr b o e nu) (fun z => by rw [z, h0] at e; cases e) nu
  · by_cases hj : i = j
    · subst hj
      rw [List.getElem?_set_self hil] at e
      cases e
      rw [hsi]
      exact ⟨xs', rfl, h0, ha, Nat.le_of_eq hl, hd.fewer xb⟩
    · rw [List.getElem?_set_ne hj] at e
      have z := W.sl j s e
      have ow : ∀ b o, s.mine = true → σ[j]? = some (some (.ref b)) → H b = some o → H' b = some o := fun b o ms hb q => by
        refine kp b o q (fun z => ?_) (lend_un W (W.mine_at e ms hb).1)
        subst z
        exact hj (W.nd i j b _ s he e rfl ms hsi hb)
      cases s with
      | emp => trivial
      | val d => obtain ⟨x, e1, e2⟩ := z; exact ⟨x, e1, dk e2⟩
      | own b ds => obtain ⟨xs, e1, e2, e3, e4, e5⟩ := z; exact ⟨xs, e1, e2, ow b _ rfl (join_some e1) e3, e4, dkl e5⟩
      | slf b dx c ds => obtain ⟨xs, e1, e2, e3, e4, e5⟩ := z; exact ⟨xs, e1, e2, ow b _ rfl (join_some e1) e3, e4, dkl e5⟩
      | obj b o => obtain ⟨e1, e2, e3, e4⟩ := z; exact ⟨e1, e2, ow b _ rfl (join_some e1) e3, e4⟩
      | dic b ks es => obtain ⟨L, e1, e2, e3, e4, e5, e6⟩ := z; exact ⟨L, e1, e2, ow b _ rfl (join_some e1) e3, e4, e5.by dk, dkl e6⟩
  · have old : ∀ {j : Nat} {s : Sl}, (W.env.set i (.slf a dx cid fs'))[j]? = some s → s.mine = true → ∃ s', W.env[j]? = some s' ∧ s'.mine = true := fun {j s} e ms => by
      by_cases hj : i = j
      · subst hj; exact ⟨_, he, rfl⟩
      · rw [List.getElem?_set_ne hj] at e; exact ⟨s, e, ms⟩
    obtain ⟨s', f1, f2⟩ := old e1 m1
    obtain ⟨t', f3, f4⟩ := old e2 m2
    exact W.nd j l b s' t' f1 f3 f2 f4 e3 e4
end
end Kn

set_option Elab.async false
set_option linter.all false
set_option maxRecDepth 100000
set_option maxHeartbeats 2100000
namespace Kn
open PySem L2 RZ
open PyProof.Rows (envOfC)
section
variable {G : Gd} {E : XK} {X : Cx} {σ : List (Option V)} {H H' : Hp} {k : Nat}
theorem run_mut {k : Nat} {f : Addr} {fd : FuncData} {ps : List Str} {cf cid : Nat} {S : MSpec} {pins : List (Addr × Obj)} {s : Shared} {Q' : VK} {us : List Value} {vs : List V} {hK : X.K = G.K}
    (F : MutD G X.prog X.w X.mg X.base k f fd ps cf cid S) (hr : Room k X.A) (hgd : X.A.guards = some []) (hx : Passes (L2.CX X.prog X.w) X E) (I : Inv X pins σ H s) (r : Vals vs us) (hl : vs.length = ps.length) (args : Args) (hb : BindsTo s fd args (ps.zip us))
    (h : liftM G cf cid S vs H Q' E) : codeAny (model X.prog X.w) X.A (.call (.ref f) args) (fun r s' => match r with
      | .ok (.ret v) => EP X pins σ Q' v s'
      | .ok _ => False
      | .error e => X.xe e s') s := by
  have e0 : Env0 X.prog X.w G.K X.mg X.base X.A X.stack s H := by rw [← hK]; exact I.env0
  refine codeAny_mono (F.run X.A X.stack s H args us vs Q' E hr hgd e0 hb r hl h) fun r s' hq => ?_
  cases r with
  | error e =>
        exact hx pins σ H s e s' I hq
  | ok fl =>
    cases fl with
    | ret u => exact I.after hq
    | next => exact hq.elim
    | brk => exact hq.elim
    | cont => exact hq.elim
/-- a method of the class c that changes self -/
structure Fmm (G : Gd) (P : Program) (w : World) (mg : Str → Option Value) (base : Heap) (k : Nat) (c : Nat) (m : Str) (ps : List Str) (cf : Nat) (S : MSpec) : Prop where
  ex : ∃ (f : Addr) (fd : FuncData), MutD G P w mg base k f fd ps cf c S ∧ Meth G.K (G.cl c) m f ∧ Cls G.K (G.cl c) ∧ Binds G.K fd ps [] ∧ m ∉ G.fl c
def d2Meth (G : Gd) (i cid n : Nat) (S : MSpec) (u : DA) : DT2 := fun ex env Q => ∃ a dx fs, env[i]? = some (.slf a dx cid fs) ∧ fs.length = (G.fl cid).length ∧ u ex env fun as => as.length + 1 = n ∧ S fs as fun d fs' => fs'.length = (G.fl cid).length → Q d (env.set i (.slf a dx cid fs'))
theorem lift_mut {W : Wd G E σ H} {c cf i cid : Nat} {H2 : Hp} {S : MSpec} {a dx : Addr} {fs as : List D} {xs vs : List V} {Q : D → List Sl → Prop} {Q' : VK} (st : Step W c H2) (hn : W.m + (c + cf) ≤ W.n) (he : W.env[i]? = some (.slf a dx cid fs)) (hsi : σ[i]? = some (some (.ref a)))
    (hat : H a = some (.ins (G.cl cid) dx ((G.fl cid).zip xs))) (hxs : DenL G W.XB H fs xs) (hfl : fs.length = (G.fl cid).length) (has : DenL G W.XB H2 as vs) (hs : S fs as fun d fs' => fs'.length = (G.fl cid).length → Q d (W.env.set i (.slf a dx cid fs')))
    (kk : ∀ v H' d (W' : Wd G E σ H'), Later W (c + cf) W' → Den G W'.XB H' d v → Q d W'.env → Q' v H') : liftM G cf cid S (.ref a :: vs) H2 Q' E := by
  obtain ⟨h0, _⟩ := W.mine_at he rfl hsi
  have nB : ¬ W.B a := W.own_ne h0
  have xa : W.XB a := .inr ⟨i, _, he, rfl, hsi⟩
  have both : ∀ b, ((W.XB b ∧ b ≠ a) ∨ b = a) → W.XB b := fun b hb => hb.elim (fun z => z.1) fun z => by rw [z]; exact xa
  have both' : ∀ b, W.XB b → ((W.XB b ∧ b ≠ a) ∨ b = a) := fun b hb => by
    by_cases q : b = a
    · exact .inr q
    · exact .inl ⟨hb, q⟩
  have hxl : xs.length = (G.fl cid).length := by rw [← hxs.length]; exact hfl
  refine ⟨W.u, W.n - c, fun b => W.XB b ∧ b ≠ a, fs, as, _, a, dx, vs, xs, W.ug, rfl, st.ext a _ hat (lend_un W h0), hxl, fun z => z.2 rfl, fun p e => ⟨fun z => nB (by rw [z]; exact (W.hu p e).1), fun z => nB (by rw [z]; exact (W.hu p e).2)⟩, by omega, fun p e => ⟨⟨.inl (W.hu p e).1, fun z => nB (by rw [← z]; exact (W.hu p e).1)⟩, ⟨.inl (W.hu p e).2, fun z => nB (by rw [← z]; exact (W.hu p e).2)⟩⟩, fun b hb z => ?_, st.good, has.fewer both, (hxs.ext st.ext W.huX).fewer both, hs, fun H' v xs' d fs' kp g hx hl2 hd2 hdv hr => ?_⟩
  · exact (W.next st).fresh z hb.1
  · have hd2' : DenL G W.XB H' fs' xs' := hd2.fewer fun b hb => both' b hb
    obtain ⟨W', l1, l2, l3⟩ := wd_after (c := cf) (W.next st) (i := i) (a := a) (dx := dx) (cid := cid) (fs := fs) (fs' := fs') he hsi (by show cf ≤ W.n - c; omega) kp g hx hl2 hd2'
    refine kk v H' d W' ((Later.next st).trans l1) (hdv.fewer fun b hb => both' b (l3 b hb)) ?_
    rw [l2]
    exact hr (by rw [hd2'.length]; exact hl2)
theorem d2_meth {j i cid ca cf : Nat} {m y : Str} {ps : List Str} {S : MSpec} {e : Expr} {es : List Expr} {u : DA} {pos apos p : Pos} {pl : Sem Bool} (F : Fmm G X.prog X.w X.mg X.base j cid m ps cf S) (xk : Xk G E k X) (hN : X.N[i]? = some y) (ha : DEs G E X ca (e :: es) u) (hj : j ≤ k := by decide)
    (hv : Vis X.env.scope y := by first | exact Or.inl rfl | exact Or.inr (Or.inl rfl) | exact Or.inr (Or.inr rfl)) (hd : (y == ("__debug__" : Str)) = false := by decide) (hcd : (y == ("__classdict__" : Str)) = false := by decide)
    (hst : starEach (e :: es) X.env = (false, eval e X.env) :: starEach es X.env :=
          by rfl) (hpl : (backTo pos (starEach es X.env)).any (·.1) = false := by rfl)
    (ht : eval (.Call (.Attribute (.Name y p) m
      apos) (e :: es) [] pos) X.env = (do
        let ov ← eval (.Name y p) X.env
        standAt apos.atName
        let (f, first) ← holding
          [ov] (getMethod ov m pl)
        callWith pos f first (backTo pos (starEach (e :: es) X.env)) (backToKw pos (keywordEach [] X.env))) := by rfl) : DE2 G E X (ca + cf) (.Call (.Attribute (.Name y p) m apos) (e :: es) [] pos) (d2Meth G i cid ps.length S u) := by
  obtain ⟨f, fd, hF0, hM, hC, hb, hmf⟩ := F.ex
  have hF := hF0.mono hj
  rw [← xk.K] at hM hC hb
  constructor
  intro pins s σ H Q' I h
  obtain ⟨W, hn, Q, ⟨a, dx, fs, he, hfl, hu⟩, kk⟩ := h
  obtain ⟨xs, hsi, hat, hl, hxs⟩ := lift_slf he
  have recv := (pe_var (X := X) (pos := p) (i := i) hN hv hd hcd).run pins s σ H (fun x H1 => x = .ref a ∧ H1 = H) I ⟨.ref a, hsi, rfl, rfl⟩
  refine PySem.W.methodCall_KW (pl := pl) (thn recv ?_) ht
  rintro uv s1 ⟨x, H1, I1, rx, rfl, rfl⟩
  cases rx
  refine getmeth_ok I1 hat hC hM (zip_none hmf) ?_
  refine PySem.W.callWith_K (first := [.ref a]) (h₀ := X.base) I.ok.mod.kin hM.kp (thn (ha.run pos pins s1 σ _ (fun vs H2 => vs.length + 1 = ps.length ∧ liftM G cf cid S (.ref a :: vs) H2 Q' E) I1 ⟨W, by omega, _, hu, fun vs H2 as st2 has ⟨hlen, hs⟩ => ⟨by rw [← has.length]; exact hlen, lift_mut st2 hn he hsi hat hxs hfl has hs kk⟩⟩) ?_) hst hpl
  rintro us s2 ⟨vs, H2, I2, r2, hl2, q2⟩
  refine ⟨I2.kIn, wpAny_call ?_⟩
  have hb' : BindsTo s2 fd ⟨.ref a :: us, []⟩ (ps.zip (.ref a :: us)) := by
    have z := hb s2 (.ref a :: us) I2.kIn (by rw [List.append_nil, List.length_cons, ← r2.length]; exact hl2)
    rw [List.append_nil] at z
    exact z
  exact run_mut (hK := xk.K) (vs := .ref a :: vs) hF xk.room xk.gd xk.pass I2 (.cons rfl r2) hl2 _ hb' q2
/-! ### statements with such expressions -/
def s2Set (i : Nat) (t : DT2) : DS := fun ex de env => t ex env fun d env' => de.nx (env'.set i (.val d))
theorem ds2_set {i : Nat} {x : Str} {e : Expr} {pos pos' : Pos} {c : Nat} {t : DT2} (hN : X.N.Nodup) (hi : X.N[i]? = some x) (hx : Loc X.env.scope x) (he : DE2 G E X c e t) (hs : swapsWith e (some (.Name x pos')) pos.line X.env = pure false := by rfl)
    (hf : X.fn x = true ∨ X.env.scope.names.lookup x = some .local := by first | exact .inl rfl | exact .inr rfl) : DSt G E X c (.Assign [.Name x pos'] e pos) (s2Set i t) :=
  impS (ps_set hN hi hx he hs hf) fun Dn σ H h => by
    obtain ⟨W, hn, de, ht, k1, k2, k3, k4⟩ := h
    exact ⟨W, hn, _, ht, fun v H' d W' lt hd hq => k1 _ H' (W'.put i hd) ((lt.trans (Later.put W' i hd)).more (by omega)) hq⟩
def s2Expr (t : DT2) : DS := fun ex de env => t ex env fun _ env' => de.nx env'
theorem ds2_expr {e : Expr} {pos : Pos} {c : Nat} {t : DT2} (he : DE2 G E X c e t) (hs : swapsWith e none pos.line X.env = pure false := by rfl) : DSt G E X c (.Expr e pos) (s2Expr t) :=
  impS (ps_expr he hs) fun Dn σ H h => by
    obtain ⟨W, hn, de, ht, k1, k2, k3, k4⟩ := h
    exact ⟨W, hn, _, ht, fun v H' d W' lt hd hq => k1 _ H' W' lt hq⟩
/-- x = [e] -/
def s2One (i : Nat) (t : DT2) : DS := fun ex de env => t ex env fun d env' => ∀ a, de.nx (env'.set i (.own a [d]))
theorem ds2_one {i : Nat} {x : Str} {e : Expr} {pos pos' lpos : Pos} {c : Nat} {t : DT2} (hN : X.N.Nodup) (hi : X.N[i]? = some x) (hx : Loc X.env.scope x) (he : DE2 G E X c e t) (hse : starEach [e] X.env = (false, eval e X.env) :: starEach [] X.env := by rfl) (hs : swapsWith (.List [e] lpos) (some (.Name x pos')) pos.line X.env = pure false := by rfl)
    (hf : X.fn x = true ∨ X.env.scope.names.lookup x = some .local := by first | exact .inl rfl | exact .inr rfl) : DSt G E X c (.Assign [.Name x pos'] (.List [e] lpos) pos) (s2One i t) :=
  impS (ps_set hN hi hx (pe_lst (pa_cons he pa_nil hse)) hs hf) fun Dn σ H h => by
    obtain ⟨W, hn, de, ht, k1, k2, k3, k4⟩ := h
    refine ⟨W, hn, _, ht, fun v H1 d W' lt hd hq => ⟨by rw [sizeLine_eq]; simp, fun p hp => ?_⟩⟩
    have hd' : DenL G (fun a => W'.XB a ∨ a = p) (upd H1 p (.lst [v])) [d] [v] := ⟨v, [], rfl, Den.keep (fun b o nb e => by rw [upd_ne (ne_of_none e hp)]; exact e) (fun b hb => hb.imp id fun z => by rw [z]; exact hp) d v hd, rfl⟩
    obtain ⟨W2, l1, l2⟩ := wd_own W' (c := 0) ((Step.refl W').new hp) (i := i) hp upd_same (by rw [sizeLine_eq]; simp) hd'
    exact k1 _ _ W2 ((lt.trans l1).more (by omega)) (by rw [l2]; exact hq p)
/-- x.append(e) -/
def s2App (i : Nat) (t : DT2) : DS := fun ex de env => ∃ a ds, env[i]? = some (.own a ds) ∧ t ex env fun d env' => ds.length < sizeLine ∧ env'[i]? = some (.own a ds) ∧ de.nx (env'.set i (.own a (ds ++ [d])))
theorem ds2_app {i : Nat} {x : Str} {e : Expr} {pos p apos cpos : Pos} {c : Nat} {t : DT2} (hN : X.N[i]? = some x) (he : DE2 G E X c e t) (hv : Vis X.env.scope x := by first | exact Or.inl rfl | exact Or.inr (Or.inl rfl) | exact Or.inr (Or.inr rfl)) (hd : (x == ("__debug__" : Str)) = false := by decide) (hcd : (x == ("__classdict__" : Str)) = false := by decide)
    (hbase : attributeBase (.Name x p) "append" X.env (eval (.Name x p) X.env) = eval (.Name x p) X.env := by rfl)
    (hfew : ((backTo cpos (starEach [e] X.env)).all (fun x => !x.1) && (backToKw cpos (keywordEach [] X.env)).all (fun x => x.1.isSome) && decide (([e] : List Expr).length + ([] : List Keyword).length + (if ([] : List Keyword).isEmpty then 0 else 1) < 30)) = true := by rfl)
    (hline : (apos.endLine == cpos.line) = true := by rfl) (hs : starEach [e] X.env = (false, eval e X.env) :: starEach [] X.env := by rfl) (hplain : (backTo cpos (starEach [] X.env)).any (·.1) = false := by rfl)
    (hsw : swapsWith (.Call (.Attribute (.Name x p) "append" apos) [e] [] cpos) none pos.line X.env = pure false := by rfl) : DSt G E X c (.Expr (.Call (.Attribute (.Name x p) "append" apos) [e] [] cpos) pos) (s2App i t) :=
  impS (ps_expr (pe_bm PySem.F.plainAttrs_list PySem.F.slot_list_append PySem.F.type_list_append mt_append (pe_var (i := i) hN hv hd hcd) (pa_cons he pa_nil hs) hbase hfew hline hs hplain) hsw) fun Dn σ H h => by
    obtain ⟨W, hn, de, ⟨a, ds, hei, ht⟩, k1, k2, k3, k4⟩ := h
    obtain ⟨xs, hsi, h0, ha, hl, hds⟩ := lift_own hei
    refine ⟨.ref a, hsi, .inl ⟨rfl, xs, SqL.of ha⟩, W, hn, _, ht, fun v H1 d W' lt hdv ⟨hlt, hei', hq⟩ => ?_⟩
    obtain ⟨ys, hsi1, h01, ha1, hl1, hds1⟩ := lift_own hei'
    have el := hds1.length
    obtain ⟨W2, l1, l2⟩ := own_step (xs := ys) (ys := ys ++ [v]) (es := ds ++ [d]) (Step.refl W') hei' hsi1 h01 (by rw [List.length_append]; show ys.length + 1 ≤ _; omega) (hds1.append ⟨v, [], rfl, hdv, rfl⟩)
    exact ⟨a, ys, v, rfl, rfl, ha1, by omega, k1 σ _ W2 ((lt.trans l1).more (by omega)) (by rw [l2]; exact hq)⟩
/-! ### self.f += e (ints) -/
theorem put_at {f : Str} {z v : V} : ∀ {ns : List Str} {xs : List V}, f ∈ ns → xs[ns.idxOf f]? = some v → putF f z (ns.zip xs) = ns.zip (xs.set (ns.idxOf f) z)
  | [], _, h, _ => by cases h
  | n :: ns, [], _, e => by simp at e
  | n :: ns, x :: xs, h, e => by
    by_cases q : n = f
    · subst q
      show (if n = n then (n, z) :: ns.zip xs else _) = _
      rw [if_pos rfl, List.idxOf_cons_self]
      rfl
    · have h' : f ∈ ns := (List.mem_cons.mp h).resolve_left fun z => q z.symm
      have ei : (n :: ns).idxOf f = ns.idxOf f + 1 := by rw [List.idxOf_cons, beq_false_of_ne q]; rfl
      rw [ei] at e ⊢
      show (if n = f then _ else (n, x) :: putF f z (ns.zip xs)) = _
      rw [if_neg q, put_at h' (by simpa using e)]
      rfl
def sFldInc (G : Gd) (i : Nat) (f : Str) (te : DT) : DS := fun ex de env => ∃ a dx c ds, env[i]? = some (.slf a dx c ds) ∧ f ∈ G.fl c ∧ ∃ n : Int, ds[(G.fl c).idxOf f]? = some (.int n) ∧ te ex env fun d => ∃ m : Int, d = .int m ∧ de.nx (env.set i (.slf a dx c (ds.set ((G.fl c).idxOf f) (.int (n + m)))))
theorem ds_fldInc {i : Nat} {x f : Str} {e : Expr} {pos pos' p : Pos} {c : Nat} {te : DT} (hK : X.K = G.K) (fo : FldOk G f) (sm : ∀ c, (G.fl c).length ≤ 100) (hN : X.N[i]? = some x) (he : DE G E X c e te) (hv : Vis X.env.scope x := by first | exact Or.inl rfl | exact Or.inr (Or.inl rfl) | exact Or.inr (Or.inr rfl))
    (hd : (x == ("__debug__" : Str)) = false := by decide) (hcd : (x == ("__classdict__" : Str)) = false := by decide) : DSt G E X c (.AugAssign (.Attribute (.Name x p) f pos') .Add e pos) (sFldInc G i f te) :=
  impS (ps_fldaug (pe_var (i := i) hN hv hd hcd) he in_add) fun Dn σ H h => by
    obtain ⟨W, hn, de, ⟨a, dx, cc, ds, hei, hfm, n, hdn, ht⟩, k1, k2, k3, k4⟩ := h
    obtain ⟨xs, hsi, ha, hl, hxs⟩ := lift_slf hei
    obtain ⟨o1, o2⟩ := fo.ok cc hfm
    obtain ⟨y, hy, hdy⟩ := hxs.get hdn
    have ey : y = .int n := hdy
    subst ey
    obtain ⟨h0, _⟩ := W.mine_at hei rfl hsi
    refine ⟨.ref a, hsi, a, G.cl cc, dx, _, _, rfl, ha, by rw [hK]; exact o1, by rw [hK]; exact o2, zip_lookup hy hfm, W, hn, _, ht, fun v H1 d st hdv ⟨m, e1, hq⟩ => ?_⟩
    subst e1
    cases hdv
    have ha1 : H1 a = some (.ins (G.cl cc) dx ((G.fl cc).zip xs)) := st.ext a _ ha (lend_un W h0)
    refine ⟨n, m, rfl, rfl, dx, _, ha1, by rw [List.length_zip]; have := sm cc; omega, ?_⟩
    rw [put_at hfm hy]
    have hei' : (W.next st).env[i]? = some (.slf a dx cc ds) := hei
    have kp := mut_keep (o1 := .ins (G.cl cc) dx ((G.fl cc).zip (xs.set ((G.fl cc).idxOf f) (.int (n + m))))) (W.next st) hei' rfl hsi
    have hxs1 : DenL G (W.next st).XB H1 ds xs := hxs.ext st.ext W.huX
    obtain ⟨W', l1, l2, l3⟩ := wd_mut (o1 := .ins (G.cl cc) dx ((G.fl cc).zip (xs.set ((G.fl cc).idxOf f) (.int (n + m))))) (s1 := .slf a dx cc (ds.set ((G.fl cc).idxOf f) (.int (n + m)))) (W.next st) hei' rfl hsi rfl
      ⟨_, rfl, h0, upd_same, by rw [List.length_set]; exact hl, (DenL.keep kp (fun b hb => .inl hb) _ _ hxs1).set _ rfl⟩
    exact k1 σ _ W' (((Later.next st).trans l1).more (by omega)) (by rw [l2]; exact hq)
end
end Kn

set_option Elab.async false
set_option linter.all false
set_option maxRecDepth 100000
set_option maxHeartbeats 2100000
namespace Kn
open PySem L2 RZ
section
variable {G : Gd} {E : XK} {X : Cx} {σ : List (Option V)} {H H' : Hp} {k : Nat}
/-- slot i holds a new thing that nothing else holds -/
theorem wd_ownI (W : Wd G E σ H) {c : Nat} {H2 : Hp} (st : Step W c H2) {i : Nat} {p : Addr} {xs : List V} {ds : List D} (hp : H p = none) {dx : Addr} {cid : Nat} (h2 : H2 p = some (.ins (G.cl cid) dx ((G.fl cid).zip xs))) (hl : xs.length ≤ (G.fl cid).length) (hd : DenL G (fun a => W.XB a ∨ a = p) H2 ds xs) :
    ∃ W' : Wd G E (σ.set i (some (.ref p))) H2, Later W c W' ∧ W'.env = W.env.set i (.slf p dx cid ds) := by
  have fr0 : ¬ W.XB p := W.fresh hp
  have h0 : W.H0 p = none := by
    cases q : W.H0 p with
    | none => rfl
    | some o =>
      exfalso
      rw [W.fr p o q (W.nuX fr0)] at hp; cases hp
  let W1 := W.next st
  have npo : ∀ {j : Nat} {s : Sl} {b : Addr}, W.env[j]? = some s → s.mine = true → σ[j]? = some (some (.ref b)) → b ≠ p := fun {j s b} e hm es z => by
    obtain ⟨_, o, ho⟩ := W.mine_at e hm es
    rw [z, hp] at ho; cases ho
  have xb : ∀ b, XBof W.B (W.env.set i (.slf p dx cid ds)) (σ.set i (some (.ref p))) b → W.XB b ∨ b = p := fun b hb => by
    rcases hb with hb | ⟨j, s, e1, m1, e2⟩
    · exact .inl (.inl hb)
    · by_cases hj : i = j
      · subst hj
        by_cases hi : i < σ.length
        · rw [List.getElem?_set_self hi] at e2; cases e2; exact .inr rfl
        · rw [List.getElem?_eq_none (by rw [List.length_set]; omega)] at e2; cases e2
      · rw [List.getElem?_set_ne hj] at e1 e2
        exact .inl (.inr ⟨j, s, e1, m1, e2⟩)
  have dk : ∀ {d : D} {v : V}, Den G W.XB H d v → Den G (XBof W.B (W.env.set i (.slf p dx cid ds)) (σ.set i (some (.ref p)))) H2 d v := fun {d v} h =>
    Den.keep (fun b o nb e => st.keep nb e) (fun b hb => (xb b hb).imp id fun z => by rw [z]; exact hp) d v h
  have dkl : ∀ {es : List D} {ys : List V}, DenL G W.XB H es ys → DenL G (XBof W.B (W.env.set i (.slf p dx cid ds)) (σ.set i (some (.ref p)))) H2 es ys := fun {es ys} h =>
    DenL.keep (fun b o nb e => st.keep nb e) (fun b hb => (xb b hb).imp id fun z => by rw [z]; exact hp) es ys h
  have own_st : ∀ {j : Nat} {s : Sl} {b : Addr} {o : HO}, W.env[j]? = some s → s.mine = true → σ[j]? = some (some (.ref b)) → H b = some o → H2 b = some o := fun {j s b o} e hm es ho => st.ext b o ho (W.nu (W.mine_at e hm es).1)
  refine ⟨{ u := W.u, n := W.n - c, m := W.m, B := W.B, H0 := W.H0, env := W.env.set i (.slf p dx cid ds), ex := W.ex, ug := W.ug, hu := W.hu, hB := W.hB, fr := W.fr.trans st.ext, good := st.good, len := by rw [List.length_set, List.length_set]; exact W.len, sl := fun j s e => ?_, nd := fun j l b s t e1 e2 m1 m2 e3 e4 => ?_, exc := W.exc },
    ⟨rfl, rfl, rfl, rfl, rfl, by show W.n ≤ W.n - c + c; omega, fun b o nb e => st.keep nb e, fun b hb => (xb b hb).imp id fun z => by rw [z]; exact hp⟩, rfl⟩
  · by_cases hj : i = j
    · subst hj
      by_cases hi : i < W.env.length
      · rw [List.getElem?_set_self hi] at e
        cases e
        rw [getD_set, if_pos ⟨rfl, by rw [← W.len]; exact hi⟩]
        exact ⟨xs, rfl, h0, h2, hl, hd.fewer xb⟩
      · rw [List.getElem?_eq_none (by simpa using hi)] at e; cases e
    · rw [List.getElem?_set_ne hj] at e
      rw [getD_set, if_neg (fun z => hj z.1)]
      have z := W.sl j s e
      cases s with
      | emp => trivial
      | val d => obtain ⟨x, e1, e2⟩ := z; exact ⟨x, e1, dk e2⟩
      | own b es => obtain ⟨ys, e1, e2, e3, e4, e5⟩ := z; exact ⟨ys, e1, e2, own_st e rfl (join_some e1) e3, e4, dkl e5⟩
      | slf b dx cc es => obtain ⟨ys, e1, e2, e3, e4, e5⟩ := z; exact ⟨ys, e1, e2, own_st e rfl (join_some e1) e3, e4, dkl e5⟩
      | obj b o => obtain ⟨e1, e2, e3, e4⟩ := z; exact ⟨e1, e2, own_st e rfl (join_some e1) e3, e4⟩
      | dic b ks es => obtain ⟨L, e1, e2, e3, e4, e5, e6⟩ := z; exact ⟨L, e1, e2, own_st e rfl (join_some e1) e3, e4, e5.by dk, dkl e6⟩
  · by_cases hj : i = j
    · by_cases hlk : i = l
      · exact hj.symm.trans hlk
      · subst hj
        exfalso
        rw [List.getElem?_set_ne hlk] at e2 e4
        have hi : i < σ.length := by
          by_cases q : i < σ.length
          · exact q
          · rw [List.getElem?_eq_none (by rw [List.length_set]; omega)] at e3; cases e3
        rw [List.getElem?_set_self hi] at e3
        cases e3
        exact npo e2 m2 e4 rfl
    · rw [List.getElem?_set_ne hj] at e1 e3
      by_cases hlk : i = l
      · subst hlk
        exfalso
        have hi : i < σ.length := by
          by_cases q : i < σ.length
          · exact q
          · rw [List.getElem?_eq_none (by rw [List.length_set]; omega)] at e4; cases e4
        rw [List.getElem?_set_self hi] at e4
        cases e4
        exact npo e1 m1 e3 rfl
      · rw [List.getElem?_set_ne hlk] at e2 e4
        exact W.nd j l b s t e1 e2 m1 m2 e3 e4


/-! ### plain values, where a thing of an own class stands -/
mutual
def plainD : D → Bool
  | .non => true
  | .bl _ => true
  | .int _ => true
  | .str _ => true
  | .tup ds => plainL ds
  | .lst ds => plainL ds
  | _ => false
def plainL : List D → Bool
  | [] => true
  | d :: ds => plainD d && plainL ds
end
mutual
theorem Den.beside {B B' : Addr → Prop} (hb : ∀ b, B' b → B b ∨ ∃ C dx fs, H b = some (.ins C dx fs)) : ∀ (d : D) (v : V), plainD d = true → Den G B H d v → Den G B' H d v
  | .non, _, _, h => h
  | .bl _, _, _, h => h
  | .int _, _, _, h => h
  | .str _, _, _, h => h
  | .tup ds, v, f, ⟨a, xs, e, nb, hs, hl, hd⟩ => by
    rcases nb with nb | nb
    · rcases hs with h | h
      · refine ⟨a, xs, e, .inl fun z => ?_, .inl h, hl, DenL.beside hb ds xs f hd⟩
        rcases hb a z with q | ⟨C, dx, fs, ho⟩
        · exact nb q
        · rcases h with h | ⟨q, h⟩
          · rw [h] at ho; cases ho
          · rw [h] at ho; cases ho
      · exact ⟨a, xs, e, .inr h, .inr h, hl, DenL.beside hb ds xs f hd⟩
    · exact ⟨a, xs, e, .inr nb, hs, hl, DenL.beside hb ds xs f hd⟩
  | .lst ds, v, f, ⟨a, xs, e, nb, hs, hl, hd⟩ => by
    refine ⟨a, xs, e, fun z => ?_, hs, hl, DenL.beside hb ds xs f hd⟩
    rcases hb a z with q | ⟨C, dx, fs, ho⟩
    · exact nb q
    · rw [hs] at ho; cases ho
  | .ins _ _, _, f, _ => by simp [plainD] at f
  | .opq _, _, f, _ => by simp [plainD] at f
  | .urn, _, f, _ => by simp [plainD] at f
  | .at_ _ _, _, f, _ => by simp [plainD] at f
  | .dct _ _, _, f, _ => by simp [plainD] at f
  | .tupn _, _, f, _ => by simp [plainD] at f
  | .exc _ _, _, f, _ => by simp [plainD] at f
  | .dic _ _, _, f, _ => by simp [plainD] at f
  | .dcT _ _, _, f, _ => by simp [plainD] at f
theorem DenL.beside {B B' : Addr → Prop} (hb : ∀ b, B' b → B b ∨ ∃ C dx fs, H b = some (.ins C dx fs)) : ∀ (ds : List D) (xs : List V), plainL ds = true → DenL G B H ds xs → DenL G B' H ds xs
  | [], _, _, h => h
  | d :: ds, xs, f, ⟨x, r, e, h1, h2⟩ => by
    have f' : (plainD d && plainL ds) = true := f
    rw [Bool.and_eq_true] at f'
    exact ⟨x, r, e, Den.beside hb d x f'.1 h1, DenL.beside hb ds r f'.2 h2⟩
end

/-! ### x = C(..), a thing of the frame's own -/
def liftMk (G : Gd) (E : XK) (c cid : Nat) (t : DA) : TE := fun σ H Q' => ∃ W : Wd G E σ H, W.m + c ≤ W.n ∧ ∃ Q, t W.ex W.env Q ∧
  ∀ x dx H' xs ds, Step W c H' → H x = none → H' x = some (.ins (G.cl cid) dx ((G.fl cid).zip xs)) → xs.length = (G.fl cid).length → DenL G W.XB H' ds xs → Q ds → Q' (.ref x) H'
def aMake (cid n : Nat) (S : FSpec) (u : DA) : DA := fun ex env Q => u ex env fun as => as.length = n ∧ S as (fun d => ∀ ds', d = .ins cid ds' → Q ds') ex
theorem pe_makeF {j : Nat} {x : Str} {cid : Nat} {ps : List Str} {c cf : Nat} {S : FSpec} {e : Expr} {es : List Expr} {u : DA} {p pos : Pos} (F : Fc G X.prog X.w X.mg X.base j x cid ps cf S) (xk : Xk G E k X) (ha : DEs G E X c (e :: es) u) (hj : j + 1 ≤ k := by decide) (hg : Gl X x := by rfl) (hdb : (x == ("__debug__" : Str)) = false := by decide)
    (he : starEach (e :: es) X.env = (false, eval e X.env) :: starEach es X.env := by rfl) (hpl : (backTo pos (starEach es X.env)).any (·.1) = false := by rfl) : PE X (.Call (.Name x p) (e :: es) [] pos) (liftMk G E (c + cf) cid (aMake cid (ps.length - 1) S u)) := by
  obtain ⟨f, fd, hF, hm, M, hb, hps⟩ := F.ex
  rw [← xk.K] at M hb
  have room1 : Room (j + 1) X.A := xk.room.mono hj
  constructor
  intro pins s σ H Q' I h
  obtain ⟨W, hn, Q, ht, kk⟩ := h
  have args := ha.run pos pins s σ H (fun vs H1 => vs.length = ps.length - 1 ∧ ∃ (st : Step W c H1) (ds : List D), DenL G W.XB H1 ds vs ∧ S ds (fun d => ∀ ds', d = .ins cid ds' → Q ds') W.ex) I ⟨W, by omega, _, ht, fun vs H1 ds st hd ⟨hl, hs⟩ => ⟨by rw [← hd.length]; exact hl, st, ds, hd, hs⟩⟩
  refine wpAny_Call_Name_kw (ld_glob I hg hm ?_ hdb); refine PySem.W.callWith_K (h₀ := X.base) I.ok.mod.kin M.kp (thn args ?_) he hpl
  rintro us s1 ⟨vs, H1, I1, r1, hl, st, ds, hd, hs⟩
  refine ⟨I1.kIn, ?_⟩
  have f0 : H1 s1.heap.objs.size = none := I1.hok.fresh (Nat.le_refl _)
  have f1 : H1 (s1.heap.objs.size + 1) = none := I1.hok.fresh (Nat.le_succ _)
  have I2 := Inv.made (C := G.cl cid) I1
  have nx : s1.heap.objs.size ≠ s1.heap.objs.size + 1 := Nat.ne_of_lt (Nat.lt_succ_self _)
  have W1 := W.next st
  have bnd : ∀ b o, H1 b = some o → upd (upd H1 s1.heap.objs.size (.own (s1.heap.objs.size + 1))) (s1.heap.objs.size + 1) (.ins (G.cl cid) s1.heap.objs.size []) b = some o := fun b o e => by
    rw [upd_ne (ne_of_none e f1), upd_ne (ne_of_none e f0)]; exact e
  have hs' : liftN G cf cid S (.ref (s1.heap.objs.size + 1) :: vs) (upd (upd H1 s1.heap.objs.size (.own (s1.heap.objs.size + 1))) (s1.heap.objs.size + 1) (.ins (G.cl cid) s1.heap.objs.size [])) (fun v H2 => v = .non ∧ Q' (.ref (s1.heap.objs.size + 1)) H2) E := by
    refine ⟨W.u, W.n - c, W.XB, ds, _, W.ex, _, s1.heap.objs.size, vs, W.ug, rfl, upd_same, Ne.symm nx, (W.next st).fresh f1, (W.next st).fresh f0, fun p e => ?_, by omega, fun p e => ⟨.inl (W.hu p e).1, .inl (W.hu p e).2⟩, fun a ha z => ?_, ?_, ?_, hs, fun H' xs ds' kp g hx hl2 hd2 hr => ⟨rfl, ?_⟩, fun y C d H' kp g hx hy => ?_⟩
    · have n1 : ¬ W.XB (s1.heap.objs.size + 1) := (W.next st).fresh f1
      have n0 : ¬ W.XB s1.heap.objs.size := (W.next st).fresh f0
      exact ⟨fun z => n1 (by rw [z]; exact .inl (W.hu p e).1), fun z => n1 (by rw [z]; exact .inl (W.hu p e).2), fun z => n0 (by rw [z]; exact .inl (W.hu p e).1), fun z => n0 (by rw [z]; exact .inl (W.hu p e).2)⟩
    · cases q : H1 a with
      | none => exact (W.next st).fresh q ha
      | some o => rw [bnd a o q] at z; cases z
    · refine Good.ext st.good fun b o e _ => bnd b o e
    · refine DenL.keep (fun b o nb e => bnd b o e) (fun b hb => ?_) ds vs hd
      rcases hb with hb | rfl | rfl
      · exact .inl hb
      · exact .inr f1
      · exact .inr f0
    · refine kk _ s1.heap.objs.size H' xs ds' ⟨fun b o e nu => ?_, by rw [Nat.sub_add_eq]; exact g⟩ ?_ hx hl2 hd2 (hr ds' rfl)
      · have e1 := st.ext b o e nu
        exact kp b o (bnd b o e1) (ne_of_none e1 f1) (ne_of_none e1 f0) nu
      · cases q : H (s1.heap.objs.size + 1) with
        | none => rfl
        | some o =>
          exfalso
          rw [st.ext _ o q (W.nuX ((W.next st).fresh f1))] at f1; cases f1
    · refine W.exc y C d H' (fun b o e nu => ?_) (g.less (by omega)) ?_ hy
      · have e1 := (W.fr.trans st.ext) b o e nu
        exact kp b o (bnd b o e1) (ne_of_none e1 f1) (ne_of_none e1 f0) nu
      · obtain ⟨e1, dd, xs, e2, nd, e3, e4, e5⟩ := hx
        exact ⟨e1, dd, xs, e2, fun z => nd (.inl z), e3, e4, e5.fewer fun b z => .inl z⟩
  have hlen2 : (V.ref (s1.heap.objs.size + 1) :: vs).length = ps.length := by rw [List.length_cons, hl]; omega
  refine wpAny_call (make_map (f := f) I1.kIn M.makes M.init (beq_iff_eq.mp M.fn) (codeAny_mono (hF.run _ X.stack _ _ ⟨.ref (s1.heap.objs.size + 1) :: us, []⟩ (.ref (s1.heap.objs.size + 1) :: us) (.ref (s1.heap.objs.size + 1) :: vs) _ E (room1.make (G.cl cid) us []) (guards_make.trans xk.gd) (by rw [← xk.K]; exact I2.env0.make (G.cl cid) us []) ?_ (.cons rfl r1) hlen2 hs') ?_))
  · have z := hb { s1 with heap := (s1.heap.push PySem.W.emptyDict).push (PySem.W.instObj (G.cl cid) s1.heap.objs.size) } (.ref (s1.heap.objs.size + 1) :: us) I2.kIn (by rw [List.append_nil, List.length_cons, ← r1.length, hl]; omega)
    rw [List.append_nil] at z
    exact z
  · intro r s' hq
    cases r with
    | error e => exact xk.pass pins σ _ _ e s' I2 hq
    | ok fl =>
      cases fl with
      | ret u =>
        obtain ⟨v, H', I3, rv, ev, q3⟩ := I2.after hq
        subst ev
        exact ⟨rv, ⟨V.ref (s1.heap.objs.size + 1), H', I3, rfl, q3⟩⟩
      | next => exact hq.elim
      | brk => exact hq.elim
      | cont => exact hq.elim

def sMake (G : Gd) (i cid n : Nat) (S : FSpec) (u : DA) : DS := fun ex de env => u ex env fun as => as.length = n ∧ S as (fun d => ∀ ds', d = .ins cid ds' → plainL ds' = true ∧ (ds'.length = (G.fl cid).length → ∀ a dx, de.nx (env.set i (.slf a dx cid ds')))) ex
theorem ds_make {i j : Nat} {y x : Str} {cid : Nat} {ps : List Str} {c cf : Nat} {S : FSpec} {e : Expr} {es : List Expr} {u : DA} {p pos pos' spos : Pos} (hN : X.N.Nodup) (hi : X.N[i]? = some y) (hy : Loc X.env.scope y) (F : Fc G X.prog X.w X.mg X.base j x cid ps cf S) (xk : Xk G E k X) (ha : DEs G E X c (e :: es) u) (hj : j + 1 ≤ k := by decide) (hg : Gl X x := by rfl) (hdb : (x == ("__debug__" : Str)) = false := by decide)
    (he : starEach (e :: es) X.env = (false, eval e X.env) :: starEach es X.env :=
          by rfl) (hpl : (backTo pos (starEach es X.env)).any (·.1) = false := by rfl)
    (hs : swapsWith (.Call (.Name x p) (e :: es) [] pos) (some (.Name y pos')) spos.line X.env = pure false := by rfl)
    (hf : X.fn y = true ∨ X.env.scope.names.lookup y = some .local := by first | exact .inl rfl | exact .inr rfl) : DSt G E X (c + cf) (.Assign [.Name y pos'] (.Call (.Name x p) (e :: es) [] pos) spos) (sMake G i cid (ps.length - 1) S u) :=
  impS (ps_set hN hi hy (pe_makeF F xk ha hj hg hdb he hpl) hs hf) fun Dn σ H h => by
    obtain ⟨W, hn, de, ht, k1, k2, k3, k4⟩ := h
    refine ⟨W, hn, fun ds' => plainL ds' = true ∧ (ds'.length = (G.fl cid).length → ∀ a dx, de.nx (W.env.set i (.slf a dx cid ds'))), ?_, fun a dx H' xs ds st hp h2 hl hd ⟨hpl, hq⟩ => ?_⟩
    · exact ht
    · obtain ⟨W', l1, l2⟩ := wd_ownI W st (i := i) hp h2 (Nat.le_of_eq hl) (DenL.beside (fun b hb => hb.imp id fun z => by rw [z]; exact ⟨_, _, _, h2⟩) ds xs hpl hd)
      exact k1 _ H' W' l1 (by rw [l2]; exact hq (by rw [hd.length]; exact hl) a dx)
end
end Kn

set_option Elab.async false
set_option linter.all false
set_option maxRecDepth 100000
set_option maxHeartbeats 2100000
namespace Kn
open PySem L2 RZ
open PyProof.Rows (envOfC)
section
variable {G : Gd} {E : XK} {X : Cx} {σ : List (Option V)} {H H' : Hp} {k : Nat}
theorem denL_strs' {B : Addr → Prop} {H : Hp} : ∀ {ts : List Str} {xs : List V}, DenL G B H (ts.map D.str) xs → xs = ts.map V.str
  | [], _, h => h
  | t :: ts, _, ⟨x, r, e, h1, h2⟩ => by subst e; rw [show x = V.str t from h1, denL_strs' h2]; rfl
/-! ### a.join(l), a.split(b) -/
def dJoin (te tv : DT) : DT := fun ex env Q => te ex env fun d => ∃ a : Str, d = .str a ∧ tv ex env fun e => ∃ ys : List Str, (e = .lst (ys.map D.str) ∨ e = .tup (ys.map D.str)) ∧ (ys.map (·.length)).sum + ys.length * a.length ≤ 16777216 ∧ Q (.str (Txt.join a ys))
theorem de_join {o e : Expr} {apos cpos : Pos} {c c2 : Nat} {te tv : DT} (hK : X.K = G.K) (ho : DE G E X c o te) (he : DE G E X c2 e tv)
    (hbase : attributeBase o "join" X.env (eval o X.env) = eval o X.env := by rfl)
    (hfew : ((backTo cpos (starEach [e] X.env)).all (fun x => !x.1) && (backToKw cpos (keywordEach [] X.env)).all (fun x => x.1.isSome) && decide (([e] : List Expr).length + ([] : List Keyword).length + (if ([] : List Keyword).isEmpty then 0 else 1) < 30)) = true := by rfl)
    (hline : (apos.endLine == cpos.line) = true := by rfl) (hs : starEach [e] X.env = (false, eval e X.env) ::
          starEach [] X.env := by rfl) (hplain : (backTo cpos (starEach [] X.env)).any (·.1) = false := by rfl) :
    DE G E X (c + c2) (.Call (.Attribute o "join" apos) [e] [] cpos) (dJoin te tv) :=
  imp (pe_bm PySem.F.plainAttrs_str PySem.F.slot_str_join PySem.F.type_str_join mt_join ho (pa_cons he pa_nil hs) hbase hfew hline hs hplain) fun σ H Q' h => by
    obtain ⟨W, hn, Q, ht, kk⟩ := h
    refine ⟨W, by omega, _, ht, fun v H1 d st hd ⟨a, e, hq⟩ => ?_⟩
    subst e
    cases hd
    refine ⟨rfl, W.next st, by show W.m + c2 ≤ W.n - c; omega, _, hq, fun v2 H2 e2 st2 he2 ⟨ys, ey, hz, hq2⟩ => ?_⟩
    rcases ey with rfl | rfl
    · obtain ⟨p, xs, rfl, np, hp, lp, dp⟩ := he2
      rw [denL_strs' dp] at hp
      exact ⟨a, p, ys, rfl, rfl, .inl (SqL.of hp), hz, kk _ H2 (.str _) (st.trans st2) (den_str _) hq2⟩
    · obtain ⟨p, xs, rfl, np, hp, lp, dp⟩ := he2
      rw [denL_strs' dp] at hp
      exact ⟨a, p, ys, rfl, rfl, .inr (by rw [hK]; exact hp), hz, kk _ H2 (.str _) (st.trans st2) (den_str _) hq2⟩
def dSplit (te tv : DT) : DT := fun ex env Q => te ex env fun d => ∃ a : Str, d = .str a ∧ tv ex env fun e => ∃ b : Str, e = .str b ∧ (b.length == 0) = false ∧ a.length + 2 ≤ sizeLine ∧ (Txt.split a b).length ≤ sizeLine ∧ Q (.lst ((Txt.split a b).map D.str))
theorem den_strl {B : Addr → Prop} {H : Hp} : ∀ (ts : List Str), DenL G B H (ts.map D.str) (ts.map V.str)
  | [] => rfl
  | t :: ts => ⟨_, _, rfl, rfl, den_strl ts⟩
theorem de_split {o e : Expr} {apos cpos : Pos} {c c2 : Nat} {te tv : DT} (ho : DE G E X c o te) (he : DE G E X c2 e tv)
    (hbase : attributeBase o "split" X.env (eval o X.env) = eval o X.env := by rfl)
    (hfew : ((backTo cpos (starEach [e] X.env)).all (fun x => !x.1) && (backToKw cpos (keywordEach [] X.env)).all (fun x => x.1.isSome) && decide (([e] : List Expr).length + ([] : List Keyword).length + (if ([] : List Keyword).isEmpty then 0 else 1) < 30)) = true := by rfl)
    (hline : (apos.endLine == cpos.line) = true := by rfl) (hs : starEach [e] X.env = (false, eval e X.env) ::
          starEach [] X.env := by rfl) (hplain : (backTo cpos (starEach [] X.env)).any (·.1) = false := by rfl) :
    DE G E X (c + c2) (.Call (.Attribute o "split" apos) [e] [] cpos) (dSplit te tv) :=
  imp (pe_bm PySem.F.plainAttrs_str PySem.F.slot_str_split PySem.F.type_str_split mt_split ho (pa_cons he pa_nil hs) hbase hfew hline hs hplain) fun σ H Q' h => by
    obtain ⟨W, hn, Q, ht, kk⟩ := h
    refine ⟨W, by omega, _, ht, fun v H1 d st hd ⟨a, e, hq⟩ => ?_⟩
    subst e
    cases hd
    refine ⟨rfl, W.next st, by show W.m + c2 ≤ W.n - c; omega, _, hq, fun v2 H2 e2 st2 he2 ⟨b, eb, hb, hz, hl, hq2⟩ => ?_⟩
    subst eb
    cases he2
    refine ⟨a, b, rfl, rfl, hb, hz, fun p hp => ?_⟩
    exact kk _ _ (.lst ((Txt.split a b).map D.str)) ((st.trans st2).new hp) (den_lst hp (((W.next st).next st2).fresh hp) (by rw [List.length_map]; exact hl) (den_strl _)) hq2
/-! ### f'..' -/
def dFmt (te : DT) : DT := fun ex env Q => te ex env fun d => (∃ y : Str, d = .str y ∧ y.length ≤ sizeLine ∧ Q (.str y)) ∨ ∃ i : Int, d = .int i ∧ i.natAbs.log2 < 1920 ∧ Q (.str (toString i))
theorem de_fmt {e : Expr} {c : Nat} {te : DT} {pos : Pos} (he : DE G E X c e te) : DE G E X c (.FormattedValue e (-1) none pos) (dFmt te) := imp (pe_fmt he) fun σ H Q' h => by
  obtain ⟨W, hn, Q, ht, kk⟩ := h
  refine ⟨W, hn, _, ht, fun v H1 d st hd hq => ?_⟩
  rcases hq with ⟨y, rfl, hz, hq⟩ | ⟨i, rfl, hz, hq⟩
  · cases hd
    exact .inl ⟨y, rfl, hz, kk _ H1 (.str y) st (den_str _) hq⟩
  · cases hd
    exact .inr ⟨i, rfl, hz, kk _ H1 (.str _) st (den_str _) hq⟩
inductive DJ (G : Gd) (E : XK) (X : Cx) : Nat → List Expr → List DT → Prop where
  | nil : DJ G E X 0 [] []
  | cons {c d : Nat} {e : Expr} {t : DT} {es : List Expr} {ts : List DT} (h : DE G E X c e t) (r : DJ G E X d es ts) : DJ G E X (c + d) (e :: es) (t :: ts)
def dJs : List DT → Str → (Exc → Prop) → List Sl → (Str → Prop) → Prop
  | [], acc, _, _, Q => Q acc
  | t :: ts, acc, ex, env, Q => t ex env fun d => ∃ y : Str, d = .str y ∧ (acc ++ y).length ≤ sizeLine ∧ dJs ts (acc ++ y) ex env Q
theorem lift_js {c : Nat} {es : List Expr} {ts : List DT} (h : DJ G E X c es ts) : ∃ us : List TE, PJ X es us ∧ ∀ (acc : Str) (σ : List (Option V)) (H : Hp) (Q' : Str → Hp → Prop) (W : Wd G E σ H), W.m + c ≤ W.n → ∀ Q : Str → Prop, dJs ts acc W.ex W.env Q → (∀ out H', Step W c H' → Q out → Q' out H') → tJs us acc σ H Q' := by
  induction h with
  | nil => exact ⟨[], .nil, fun acc σ H Q' W hn Q hq kk => kk acc H (Step.refl W) hq⟩
  | @cons c d e t es ts he r ih =>
    obtain ⟨us, hus, go⟩ := ih
    refine ⟨_ :: us, .cons he hus, fun acc σ H Q' W hn Q hq kk => ?_⟩
    refine ⟨W, by omega, _, hq, fun v H1 dd st hd ⟨y, e1, hl, hr⟩ => ?_⟩
    subst e1
    cases hd
    exact ⟨y, rfl, hl, go (acc ++ y) σ H1 Q' (W.next st) (by show W.m + d ≤ W.n - c; omega) Q hr fun out H' st2 q => kk out H' (st.trans st2) q⟩
def dJoined (ts : List DT) : DT := fun ex env Q => dJs ts Str.empty ex env fun out => Q (.str out)
theorem de_joined {v1 v2 : Expr} {rest : List Expr} {c : Nat} {ts : List DT} {pos : Pos} (h : DJ G E X c (v1 :: v2 :: rest) ts) : DE G E X c (.JoinedStr (v1 :: v2 :: rest) pos) (dJoined ts) := by
  obtain ⟨us, hus, go⟩ := lift_js h
  refine imp (pe_joined hus) fun σ H Q' hh => ?_
  obtain ⟨W, hn, Q, ht, kk⟩ := hh
  exact go Str.empty σ H _ W hn _ ht fun out H' st q => kk _ H' (.str out) st (den_str _) q
/-! ### while -/
def sWhile (tc : DB) (tb : DS) : DS := fun ex de env => ∃ I : Nat → List Sl → Prop, (∃ m, m < 16777216 ∧ I m env) ∧ ∀ m env, I m env → tc ex env fun b => if b = true then tb ex { de with nx := fun env' => ∃ m', m' < m ∧ I m' env', ct := fun env' => ∃ m', m' < m ∧ I m' env', bk := de.nx } env else de.nx env
theorem ds_while {ce : Expr} {body : List Stmt} {cc cb : Nat} {tc : DB} {tb : DS} {pos : Pos} (hp : PassesOwn (model X.prog X.w) X.A X.env X.xe) (hc : DPt G E X cc ce tc) (hb : DSs G E X cb body tb) : DSt G E X (16777216 * (cc + cb)) (.While ce body [] pos) (sWhile tc tb) :=
  impS (ps_while hp hc hb) fun Dn σ H h => by
    obtain ⟨W, hn, de, ⟨I, ⟨m0, hm0, hI0⟩, step⟩, k1, k2, k3, k4⟩ := h
    refine ⟨fun m σ' H' => ∃ W' : Wd G E σ' H', Later W ((m0 - m) * (cc + cb)) W' ∧ m ≤ m0 ∧ I m W'.env, ⟨m0, W, (Later.refl W).more (by omega), Nat.le_refl _, hI0⟩, ?_⟩
    rintro m σ' H' ⟨W', lt, hm, hI⟩
    have c1 : (m0 - m) * (cc + cb) + (cc + cb) ≤ 16777216 * (cc + cb) := by
      have : (m0 - m + 1) * (cc + cb) ≤ 16777216 * (cc + cb) := Nat.mul_le_mul_right _ (by omega)
      rw [Nat.add_mul, Nat.one_mul] at this
      exact this
    have hw : W'.m + (cc + cb) ≤ W'.n := by have := lt.n; rw [lt.m]; omega
    refine ⟨W', by omega, _, by rw [lt.ex]; exact step m _ hI, fun b H1 st hq => ?_⟩
    cases b with
    | false => exact k1 _ H1 (W'.next st) ((lt.trans (Later.next st)).more (by omega)) hq
    | true =>
      have l1 := lt.trans (Later.next st)
      refine ⟨fun σ2 H2 => ∃ W2 : Wd G E σ2 H2, ∃ m', m' < m ∧ Later W ((m0 - m') * (cc + cb)) W2 ∧ I m' W2.env, fun σ2 H2 ⟨W2, m', h1, h2, h3⟩ => ⟨m', h1, W2, h2, by omega, h3⟩, ?_⟩
      refine ⟨W'.next st, by show W'.m + cb ≤ W'.n - cc; omega, { de with nx := fun env' => ∃ m', m' < m ∧ I m' env', ct := fun env' => ∃ m', m' < m ∧ I m' env', bk := de.nx }, by show tb W'.ex _ _; rw [lt.ex]; exact hq, fun σ2 H2 W2 l2 ⟨m', g1, g2⟩ => ?_, fun v σ2 H2 W2 d l2 hd hr => ?_, fun σ2 H2 W2 l2 q => ?_, fun σ2 H2 W2 l2 ⟨m', g1, g2⟩ => ?_⟩
      · refine ⟨W2, m', g1, (l1.trans l2).more ?_, g2⟩
        have : (m0 - m + 1) * (cc + cb) ≤ (m0 - m') * (cc + cb) := Nat.mul_le_mul_right _ (by omega)
        rw [Nat.add_mul, Nat.one_mul] at this
        omega
      · refine k2 v σ2 H2 W2 d ((l1.trans l2).more (by omega)) (by rw [show (W'.next st).B = W'.B from rfl, lt.B] at hd; exact hd) hr
      · exact k1 _ H2 W2 ((l1.trans l2).more (by omega)) q
      · refine ⟨W2, m', g1, (l1.trans l2).more ?_, g2⟩
        have : (m0 - m + 1) * (cc + cb) ≤ (m0 - m') * (cc + cb) := Nat.mul_le_mul_right _ (by omega)
        rw [Nat.add_mul, Nat.one_mul] at this
        omega
end
end Kn

set_option Elab.async false
set_option linter.all false
set_option maxRecDepth 100000
set_option maxHeartbeats 2100000
namespace Kn
open PySem L2 RZ
open PyProof.Rows (envOfC)
section
variable {G : Gd} {E : XK} {X : Cx} {σ : List (Option V)} {H H' : Hp} {k : Nat}
/-! ### str(x), x of a class with its own __str__ -/
structure Fs (G : Gd) (P : Program) (w : World) (mg : Str → Option Value) (base : Heap) (k : Nat) (c : Nat) (cf : Nat) (S : FSpec) : Prop where
  ex : ∃ (f : Addr) (fd : FuncData) (ps : List Str), FnD G P w mg base k f fd ps cf S ∧ PySem.W.findIn G.K (.ref (G.cl c)) "__str__" = some (some (.ref f)) ∧ PySem.W.isFn G.K (.ref f) = true ∧ Binds G.K fd ps [] ∧ ps.length = 1
def rStrI (G : Gd) (E : XK) (c cf : Nat) (S : FSpec) : List V → Hp → VK → Prop := fun xs H Q' => ∃ a dx fs, xs = [.ref a] ∧ H a = some (.ins (G.cl c) dx fs) ∧ liftF G cf S [.ref a] H (fun v H' => (∃ y, v = .str y) ∧ Q' v H') E
theorem cr_strI {j c cf : Nat} {S : FSpec} (F : Fs G X.prog X.w X.mg X.base j c cf S) (xk : Xk G E k X) (hj : j + 2 ≤ k := by decide) : CallR X (.type "str") (rStrI G E c cf S) := by
  intro pins s σ H xs us Q I r h; obtain ⟨a, dx, fs, rfl, ha, hl⟩ := h
  obtain ⟨f, fd, ps, hF, hs, hf, hbd, hp1⟩ := F.ex
  rw [← xk.K] at hs hf hbd
  rw [Vals.ref1 r]
  obtain ⟨mA, J, _⟩ := ins_get I.hok ha; obtain ⟨od, J, _⟩ := J.look
  have rm : Room j X.A.in1.in1 := (Room.in1 (Room.in1 (xk.room.mono hj)))
  have e0 : Env0 X.prog X.w G.K X.mg X.base X.A.in1.in1 X.stack s H := by
    have e := I.env0
    rw [← xk.K]
    exact ⟨e.frames, e.mod, e.bs, e.bsz, e.funs, e.frf, e.hok, e.bare⟩
  have hb : BindsTo s fd ⟨[.ref a], []⟩ (ps.zip [.ref a]) := by
    have z := hbd s [.ref a] I.kIn (by rw [List.append_nil]; exact hp1.symm)
    rw [List.append_nil] at z
    exact z
  refine PySem.W.kso_call (by have := xk.room.un; show X.A.units + 1 + 1 < cLine; omega) I.kIn J hs hf (wpAny_call (codeAny_mono (hF.run X.A.in1.in1 X.stack s H ⟨[.ref a], []⟩ [.ref a] [.ref a] _ E rm xk.gd e0 hb (.cons rfl .nil) hp1.symm hl) fun r s' hq => ?_))
  cases r with
  | error e => exact xk.pass pins σ H s e s' I hq
  | ok fl =>
    cases fl with
    | ret u =>
      obtain ⟨v, H', I', rv, ⟨y, ey⟩, q⟩ := I.after hq
      subst ey
      obtain ⟨t, rfl⟩ := rv
      exact ⟨.str y, H', I', ⟨t, rfl⟩, q⟩
    | next => exact hq.elim
    | brk => exact hq.elim
    | cont => exact hq.elim
def dStrI (c : Nat) (S : FSpec) (te : DT) : DT := fun ex env Q => te ex env fun d => ∃ ds, d = .ins c ds ∧ S [d] (fun r => (∃ y, r = .str y) ∧ Q r) ex
theorem de_strI {j c cf ce : Nat} {S : FSpec} {e : Expr} {te : DT} {p pos : Pos} (F : Fs G X.prog X.w X.mg X.base j c cf S) (xk : Xk G E k X) (hm : X.mg "str" = none) (he : DE G E X ce e te) (hj : j + 2 ≤ k := by decide) (hg : Gl X "str" := by rfl)
    (hst : starEach [e] X.env = (false, eval e X.env) :: starEach [] X.env := by rfl) (hpl : (backTo pos (starEach [] X.env)).any (·.1) = false := by rfl) : DE G E X (ce + cf) (.Call (.Name "str" p) [e] [] pos) (dStrI c S te) :=
  imp (pe_callTy (cr_strI F xk hj) hg hm (by decide +kernel) (pa_cons he pa_nil hst) (by decide) (by decide) hst hpl) fun σ H Q' h => by
    obtain ⟨W, hn, Q, ht, kk⟩ := h
    refine ⟨W, by omega, _, ht, fun v H1 d st hd ⟨ds, e1, hs⟩ => ?_⟩
    subst e1
    have hd0 := hd
    obtain ⟨a, dx, xs, rfl, na, ha, la, da⟩ := hd
    exact ⟨a, dx, _, rfl, ha, lift_callee st hn (ds := [.ins c ds]) ⟨_, _, rfl, hd0, rfl⟩ hs fun v H' d st3 hd3 ⟨⟨y, ey⟩, hq3⟩ => by
      subst ey
      cases hd3
      exact ⟨⟨y, rfl⟩, kk _ H' (.str y) st3 (den_str _) hq3⟩⟩
/-! ### calls by keyword -/
structure KkM (K : PySem.W.Frag) (fd : FuncData) (ps ks : List Str) (ix : List Nat) : Prop where
  to : ∀ (s : Shared) (self : Value) (us : List Value), K.In s.heap → us.length = ks.length → BindsTo s fd ⟨[self], ks.zip us⟩ (ps.zip (self :: ix.map fun i => us.getD i .none))
  ok : ∀ i ∈ ix, i < ks.length
  len : ix.length + 1 = ps.length
theorem KkM.all {K : PySem.W.Frag} {fd : FuncData} {ps ks : List Str} {ix : List Nat} (h : ∀ (self : Value) (us : List Value), us.length = ks.length → bindArgs fd ⟨[self], ks.zip us⟩ = pure (ps.zip (self :: ix.map fun i => us.getD i .none))) (h2 : ∀ i ∈ ix, i < ks.length) (h3 : ix.length + 1 = ps.length) : KkM K fd ps ks ix :=
  ⟨fun s self us _ hl => .of_eq (h self us hl), h2, h3⟩
/-- the class x, made by keyword -/
structure Fck (G : Gd) (P : Program) (w : World) (mg : Str → Option Value) (base : Heap) (k : Nat) (x : Str) (cid : Nat) (ps ks : List Str) (ix : List Nat) (cf : Nat) (S : FSpec) : Prop where
  ex : ∃ (f : Addr) (fd : FuncData), InitD G P w mg base k f fd ps cf cid S ∧ mg x = some (.ref (G.cl cid)) ∧ Mk G.K (G.cl cid) f ∧ KkM G.K fd ps ks ix
theorem de_makek {j : Nat} {x : Str} {cid : Nat} {ps : List Str} {c cf : Nat} {ks : List Str} {ix : List Nat} {S : FSpec} {kws : List Keyword} {u : DA} {p pos : Pos} (F : Fck G X.prog X.w X.mg X.base j x cid ps ks ix cf S) (xk : Xk G E k X) (ha : DK G E X c kws u) (hj : j + 1 ≤ k := by decide) (hg : Gl X x := by rfl) (hdb : (x == ("__debug__" : Str)) = false := by decide)
    (hall : (backToKw pos (keywordEach kws X.env)).all (·.1.isSome) = true := by rfl) (hks : (backToKw pos (keywordEach kws X.env)).filterMap (·.1) = ks := by rfl)
    (hpl : ((backTo pos (starEach [] X.env)).any (·.1) || (backToKw pos (keywordEach kws X.env)).any (·.1.isNone)) = false := by rfl) : DE G E X (c + cf) (.Call (.Name x p) [] kws pos) (dCallK ks.length ix S u) := by
  obtain ⟨f, fd, hF, hm, M, hb⟩ := F.ex
  rw [← xk.K] at M hb
  have room1 : Room (j + 1) X.A := xk.room.mono hj
  constructor
  intro pins s σ H Q' I h
  obtain ⟨W, hn, Q, ht, kk⟩ := h
  have args := ha.run pos pins s σ H (fun vs H1 => vs.length = ks.length ∧ ∃ (st : Step W c H1) (ds : List D), DenL G W.XB H1 ds (ix.map fun i => vs.getD i .non) ∧ S ds Q W.ex) I ⟨W, by omega, _, ht, fun vs H1 ds st hd ⟨hl, hs⟩ => ⟨by rw [← hd.length]; exact hl, st, _, denL_perm hd fun i hi => by rw [hl]; exact hb.ok i hi, hs⟩⟩
  refine wpAny_Call_Name_kw (ld_glob I hg hm ?_ hdb); refine PySem.W.callWith_KW0 (h₀ := X.base) I.ok.mod.kin M.kp hall (thn args ?_) hpl
  rintro us0 s1 ⟨vs0, H1, I1, r0, hl, st, ds, hd, hs⟩
  refine ⟨I1.kIn, ?_⟩
  rw [hks]
  have r1 := vals_perm r0 (ix := ix) fun i hi => by rw [hl]; exact hb.ok i hi
  have lus : us0.length = ks.length := by rw [← r0.length]; exact hl
  generalize evs : (ix.map fun i => vs0.getD i .non) = vs at *
  generalize eus : (ix.map fun i => us0.getD i Value.none) = us at *
  have hlv : vs.length + 1 = ps.length := by rw [← evs, List.length_map]; exact hb.len
  have f0 : H1 s1.heap.objs.size = none := I1.hok.fresh (Nat.le_refl _)
  have f1 : H1 (s1.heap.objs.size + 1) = none := I1.hok.fresh (Nat.le_succ _)
  have I2 := Inv.made (C := G.cl cid) I1
  have nx : s1.heap.objs.size ≠ s1.heap.objs.size + 1 := Nat.ne_of_lt (Nat.lt_succ_self _)
  have W1 := W.next st
  have bnd : ∀ b o, H1 b = some o → upd (upd H1 s1.heap.objs.size (.own (s1.heap.objs.size + 1))) (s1.heap.objs.size + 1) (.ins (G.cl cid) s1.heap.objs.size []) b = some o := fun b o e => by
    rw [upd_ne (ne_of_none e f1), upd_ne (ne_of_none e f0)]; exact e
  have hs' : liftN G cf cid S (.ref (s1.heap.objs.size + 1) :: vs) (upd (upd H1 s1.heap.objs.size (.own (s1.heap.objs.size + 1))) (s1.heap.objs.size + 1) (.ins (G.cl cid) s1.heap.objs.size [])) (fun v H2 => v = .non ∧ Q' (.ref (s1.heap.objs.size + 1)) H2) E := by
    refine ⟨W.u, W.n - c, W.XB, ds, Q, W.ex, _, s1.heap.objs.size, vs, W.ug, rfl, upd_same, Ne.symm nx, (W.next st).fresh f1, (W.next st).fresh f0, fun p e => ?_, by omega, fun p e => ⟨.inl (W.hu p e).1, .inl (W.hu p e).2⟩, fun a ha z => ?_, ?_, ?_, hs, fun H' xs ds' kp g hx hl2 hd2 hr => ⟨rfl, ?_⟩, fun y C d H' kp g hx hy => ?_⟩
    · have n1 : ¬ W.XB (s1.heap.objs.size + 1) := (W.next st).fresh f1
      have n0 : ¬ W.XB s1.heap.objs.size := (W.next st).fresh f0
      exact ⟨fun z => n1 (by rw [z]; exact .inl (W.hu p e).1), fun z => n1 (by rw [z]; exact .inl (W.hu p e).2), fun z => n0 (by rw [z]; exact .inl (W.hu p e).1), fun z => n0 (by rw [z]; exact .inl (W.hu p e).2)⟩
    · cases q : H1 a with
      | none => exact (W.next st).fresh q ha
      | some o => rw [bnd a o q] at z; cases z
    · refine Good.ext st.good fun b o e _ => bnd b o e
    · refine DenL.keep (fun b o nb e => bnd b o e) (fun b hb => ?_) ds vs hd
      rcases hb with hb | rfl | rfl
      · exact .inl hb
      · exact .inr f1
      · exact .inr f0
    · refine kk _ H' (.ins cid ds') ⟨fun b o e nu => ?_, by rw [Nat.sub_add_eq]; exact g⟩ ⟨_, _, xs, rfl, (W.next st).fresh f1, hx, hl2, hd2⟩ hr
      have e1 := st.ext b o e nu
      exact kp b o (bnd b o e1) (ne_of_none e1 f1) (ne_of_none e1 f0) nu
    · refine W.exc y C d H' (fun b o e nu => ?_) (g.less (by omega)) ?_ hy
      · have e1 := (W.fr.trans st.ext) b o e nu
        exact kp b o (bnd b o e1) (ne_of_none e1 f1) (ne_of_none e1 f0) nu
      · obtain ⟨e1, dd, xs, e2, nd, e3, e4, e5⟩ := hx
        exact ⟨e1, dd, xs, e2, fun z => nd (.inl z), e3, e4, e5.fewer fun b z => .inl z⟩
  have hlen2 : (V.ref (s1.heap.objs.size + 1) :: vs).length = ps.length := by rw [List.length_cons]; exact hlv
  refine wpAny_call (make_map (f := f) I1.kIn M.makes M.init (beq_iff_eq.mp M.fn) (codeAny_mono (hF.run _ X.stack _ _ ⟨[.ref (s1.heap.objs.size + 1)], ks.zip us0⟩ (.ref (s1.heap.objs.size + 1) :: us) (.ref (s1.heap.objs.size + 1) :: vs) _ E (room1.make (G.cl cid) [] (ks.zip us0)) (guards_make.trans xk.gd) (by rw [← xk.K]; exact I2.env0.make (G.cl cid) [] (ks.zip us0)) ?_ (.cons rfl r1) hlen2 hs') ?_))
  · have z := hb.to { s1 with heap := (s1.heap.push PySem.W.emptyDict).push (PySem.W.instObj (G.cl cid) s1.heap.objs.size) } (.ref (s1.heap.objs.size + 1)) us0 I2.kIn lus
    rw [eus] at z
    exact z
  · intro r s' hq
    cases r with
    | error e => exact xk.pass pins σ _ _ e s' I2 hq
    | ok fl =>
      cases fl with
      | ret u =>
        obtain ⟨v, H', I3, rv, ev, q3⟩ := I2.after hq
        subst ev
        exact ⟨rv, ⟨V.ref (s1.heap.objs.size + 1), H', I3, rfl, q3⟩⟩
      | next => exact hq.elim
      | brk => exact hq.elim
      | cont => exact hq.elim
/-- a method, called by keyword -/
structure Fmk (G : Gd) (P : Program) (w : World) (mg : Str → Option Value) (base : Heap) (k : Nat) (c : Nat) (m : Str) (ps ks : List Str) (ix : List Nat) (cf : Nat) (S : FSpec) : Prop where
  ex : ∃ (f : Addr) (fd : FuncData), FnD G P w mg base k f fd ps cf S ∧ Meth G.K (G.cl c) m f ∧ Cls G.K (G.cl c) ∧ KkM G.K fd ps ks ix ∧ m ∉ G.fl c
def dMethK (c n : Nat) (ix : List Nat) (S : FSpec) (te : DT) (u : DA) : DT := fun ex env Q => te ex env fun d => ∃ ds, d = .ins c ds ∧ u ex env fun as => as.length = n ∧ S (.ins c ds :: ix.map fun i => as.getD i .non) Q ex
theorem de_methk {j c ce ca cf : Nat} {m : Str} {ps ks : List Str} {ix : List Nat} {S : FSpec} {o : Expr} {kws : List Keyword} {te : DT} {u : DA} {pos apos : Pos} {pl : Sem Bool} (F : Fmk G X.prog X.w X.mg X.base j c m ps ks ix cf S) (xk : Xk G E k X) (ho : DE G E X ce o te) (ha : DK G E X ca kws u) (hj : j ≤ k := by decide)
    (hall : (backToKw pos (keywordEach kws X.env)).all (·.1.isSome) = true := by rfl) (hks : (backToKw pos (keywordEach kws X.env)).filterMap (·.1) = ks := by rfl)
    (hpl : ((backTo pos (starEach [] X.env)).any (·.1) || (backToKw pos (keywordEach kws X.env)).any (·.1.isNone)) = false := by rfl)
    (ht : eval (.Call (.Attribute o m apos) [] kws pos) X.env = (do
        let ov ← eval o X.env
        standAt apos.atName
        let (f, first) ← holding
          [ov] (getMethod ov m pl)
        callWith pos f first (backTo pos (starEach [] X.env)) (backToKw pos (keywordEach kws X.env))) := by rfl) : DE G E X (ce + ca + cf) (.Call (.Attribute o m apos) [] kws pos) (dMethK c ks.length ix S te u) := by
  obtain ⟨f, fd, hF0, hM, hC, hb, hmf⟩ := F.ex
  have hF := hF0.mono hj
  rw [← xk.K] at hM hC hb
  constructor
  intro pins s σ H Q' I h
  obtain ⟨W, hn, Q, hte, kk⟩ := h
  have recv := ho.run pins s σ H (fun x H1 => ∃ a, x = .ref a ∧ ∃ dx fs, H1 a = some (.ins (G.cl c) dx fs) ∧ fs.lookup m = none ∧ liftA G E ca u σ H1 fun vs H2 => vs.length = ks.length ∧ liftF G cf S (.ref a :: ix.map fun i => vs.getD i .non) H2 Q' E) I
    ⟨W, by omega, _, hte, fun v H1 d st hd ⟨ds, e1, hu⟩ => by
      subst e1
      have hd0 := hd
      obtain ⟨a, dx, xs, rfl, na, hat, hl, hds⟩ := hd
      refine ⟨a, rfl, dx, _, hat, zip_none hmf, W.next st, by show W.m + ca ≤ W.n - ce; omega, _, hu, fun vs H2 as st2 has ⟨hlen, hs⟩ => ⟨by rw [← has.length]; exact hlen, ?_⟩⟩
      exact lift_callee1 st st2 hn hd0 (denL_perm has fun i hi => by rw [hlen]; exact hb.ok i hi) hs kk⟩
  refine PySem.W.methodCall_KW (pl := pl) (thn recv ?_) ht
  rintro uv s1 ⟨x, H1, I1, rx, a, rfl, dx, fs, hat, hlk, q⟩
  cases rx
  refine getmeth_ok I1 hat hC hM hlk ?_
  refine PySem.W.callWith_KW0 (first := [.ref a]) (h₀ := X.base) I.ok.mod.kin hM.kp hall (thn (ha.run pos pins s1 σ H1 _ I1 q) ?_) hpl
  rintro us s2 ⟨vs, H2, I2, r2, hl, q2⟩
  refine ⟨I2.kIn, ?_⟩
  rw [hks]
  refine wpAny_call ?_
  have rp := vals_perm r2 (ix := ix) fun i hi => by rw [hl]; exact hb.ok i hi
  exact run_fnd (hK := xk.K) (us := .ref a :: ix.map fun i => us.getD i .none) (vs := .ref a :: ix.map fun i => vs.getD i .non) hF xk.room xk.gd xk.pass I2 (.cons rfl rp) (by rw [List.length_cons, List.length_map]; exact hb.len) _ (hb.to s2 (.ref a) us I2.kIn (by rw [← r2.length]; exact hl)) q2
/-! ### C.m(k = v, ..), m a static method -/
structure Fsk (G : Gd) (P : Program) (w : World) (mg : Str → Option Value) (base : Heap) (k : Nat) (x : Str) (c : Nat) (m : Str) (ps ks : List Str) (ix : List Nat) (cf : Nat) (S : FSpec) : Prop where
  ex : ∃ (f p : Addr) (fd : FuncData) (mc : Value), FnD G P w mg base k f fd ps cf S ∧ mg x = some (.ref (G.cl c)) ∧ ClX.CRead G.K (G.cl c) mc ∧ PySem.W.findCls G.K (.ref (G.cl c)) mc m = some (.get (.builtin "staticmethod.__get__") (.ref p) .none (.ref (G.cl c))) ∧
    (∃ rest, PySem.W.recIn G.K p "staticmethod" = some (.ref f :: rest)) ∧ PySem.W.handedIn (.ref f) = true ∧ PySem.W.keepIn G.K (.ref f) = true ∧ Kk G.K fd ps ks ix
theorem getsm_ok {pins : List (Addr × Obj)} {s : Shared} {A : Around} {C p f : Addr} {m : Str} {mc : Value} {rest : List Value} {pl : Sem Bool} {Er : Value → Shared → Prop} {Q : Value × List Value → Shared → Prop} (I : Inv X pins σ H s) (r : ClX.CRead X.K C mc)
    (hat : PySem.W.findCls X.K (.ref C) mc m = some (.get (.builtin "staticmethod.__get__") (.ref p) .none (.ref C))) (hp : PySem.W.recIn X.K p "staticmethod" = some (.ref f :: rest)) (hh : PySem.W.handedIn (.ref f) = true) (h : ∀ s', Inv X pins σ H s' → Q (.ref f, []) s') :
    wpAny (model X.prog X.w) A (getMethod (.ref C) m pl) Q Er s := by
  refine PySem.W.method_cls I.kIn r.ga (PySem.W.cls_bind I.kIn r.rd hat ?_)
  exact wpAny_call (PySem.W.sm_get (s := { s with toks := s.toks + 1 }) I.kIn hp (PySem.W.handed_on hh (h _ (I.tok _))))
theorem de_statk {j c ca cf : Nat} {x m : Str} {ps ks : List Str} {ix : List Nat} {S : FSpec} {kws : List Keyword} {u : DA} {p pos apos : Pos} {pl : Sem Bool} (F : Fsk G X.prog X.w X.mg X.base j x c m ps ks ix cf S) (xk : Xk G E k X) (ha : DK G E X ca kws u) (hj : j ≤ k := by decide) (hg : Gl X x := by rfl) (hdb : (x == ("__debug__" : Str)) = false := by decide)
    (hall : (backToKw pos (keywordEach kws X.env)).all (·.1.isSome) = true := by rfl) (hks : (backToKw pos (keywordEach kws X.env)).filterMap (·.1) = ks := by rfl)
    (hpl : ((backTo pos (starEach [] X.env)).any (·.1) || (backToKw pos (keywordEach kws X.env)).any (·.1.isNone)) = false := by rfl)
    (ht : eval (.Call (.Attribute (.Name x p) m apos) [] kws pos) X.env = (do
        let ov ← eval (.Name x p) X.env
        standAt apos.atName
        let (f, first) ← holding
          [ov] (getMethod ov m pl)
        callWith pos f first (backTo pos (starEach [] X.env)) (backToKw pos (keywordEach kws X.env))) := by rfl) : DE G E X (ca + cf) (.Call (.Attribute (.Name x p) m apos) [] kws pos) (dCallK ks.length ix S u) := by
  obtain ⟨f, q, fd, mc, hF0, hm, hr, hat, ⟨rest, hp⟩, hh, hk, hb⟩ := F.ex
  have hF := hF0.mono hj
  rw [← xk.K] at hr hat hp hk hb
  constructor
  intro pins s σ H Q' I h
  obtain ⟨W, hn, Q, ht', kk⟩ := h
  refine PySem.W.methodCall_KW (pl := pl) (ld_glob I hg hm ?_ hdb) ht
  refine getsm_ok I hr hat hp hh fun s' I' => ?_
  have args := ha.run pos pins s' σ H (fun vs H1 => vs.length = ks.length ∧ liftF G cf S (ix.map fun i => vs.getD i .non) H1 Q' E) I' ⟨W, by omega, _, ht', fun vs H1 ds st hd ⟨hl, hs⟩ => ⟨by rw [← hd.length]; exact hl, lift_callee st hn (denL_perm hd fun i hi => by rw [hl]; exact hb.ok i hi) hs kk⟩⟩
  refine PySem.W.callWith_KW0 (h₀ := X.base) I.ok.mod.kin hk hall (thn args fun us s1 ⟨vs, H1, I1, r1, hl, q1⟩ => ⟨I1.kIn, ?_⟩) hpl
  rw [hks]
  refine wpAny_call ?_
  exact run_fnd (hK := xk.K) hF xk.room xk.gd xk.pass I1 (vals_perm r1 fun i hi => by rw [hl]; exact hb.ok i hi) (by rw [List.length_map]; exact hb.len) _ (hb.to s1 us I1.kIn (by rw [← r1.length]; exact hl)) q1
end
end Kn

set_option Elab.async false
set_option linter.all false
set_option maxRecDepth 100000
set_option maxHeartbeats 2100000
/-! == and != of a thing with its own ==, whatever stands on the right -/
namespace NeX
open PySem
open PySem.W PyProof.Rows
section
variable {prog : Program} {w : World} {M : Model} {A : Around} {E : Value → Shared → Prop} {s : Shared} {K : Frag} {x C f L : Addr} {ox : Obj} {od : Option Obj} {b tb : Value} {h₀ : Heap} {m : Str → Option Value}
theorem bound_b {name : Str} {id : String} {args : List Value} {Q : Option Value → Shared → Prop} (X : K.In s.heap) (I : InstAt s.heap x ox C od) (hs : findIn K (.ref C) name = some (some (.builtin id))) (hb : ∀ self, bindSpecial (.builtin id) self = pure (.builtin id, [self]))
    (h : wpAny M A (call (.builtin id) (.ref x :: args)) (fun v => Q (some v)) E s) : wpAny M A (callSpecialIfBound? (.ref x) name args) Q E s := by
  simp only [callSpecialIfBound?, bindSpecialIfBound?]; refine wpAny_holding (wpAny_bind (wpAny_bind (wpAny_bind (I.type.here ((looks_findIn X hs).here ?_)))))
  refine wpAny_bind (wpAny_askSetting (wpAny_ite ?_)); have fin : wpAny M A (call (.builtin id) ([.ref x] ++ args) >>= fun v => pure (some v)) Q E s := wpAny_bind (wpAny_mono h (fun v s' h' => wpAny_pure h') fun _ _ h' => h')
  split
  · exact wpAny_bind ((Looks.of_pure (hb _)).here (wpAny_pure (by exact fin)))
  · exact wpAny_tryCatch (wpAny_bind ((Looks.of_pure (hb _)).here (wpAny_pure (by exact fin))))
theorem obj_ne {Q : Value → Shared → Prop} (hu : A.in1.units < cLine) (X : K.In s.heap) (I : InstAt s.heap x ox C od) (hm : mroIn K C (.type "object") = some true) (hs : findIn K (.ref C) "__eq__" = some (some (.ref f))) (hf : isFn K (.ref f) = true)
    (h : wpAny (model prog w) A.in1 (call (.ref f) [.ref x, b]) (fun v s' => ∃ c, v = .bool c ∧ Q (.bool (!c)) s') E s) : wpAny (model prog w) A (call (.builtin "object.__ne__") [.ref x, b]) Q E s := by
  refine wpAny_call (codeAny_call_builtin PySem.F.cmp_object.ne.plain PySem.F.cmpEntry_ne (check_slot (i := "object.__ne__") (owner := "object") (n := "__ne__") PySem.F.cmpKind_ne PySem.F.cmpSplit_ne (I.type.andThen (looks_mroIn X hm)) (PySem.F.cmpArgs_ne _ _) ?_))
  unfold Builtin.«object.__ne__»; refine wpAny_bind (m := slotArgs "__ne__" 1 _) (wpAny_pure ?_)
  refine wpAny_bind (m := cRoomFor _ _) (wpAny_cRoomFor hu ?_); refine wpAny_bind (m := callSpecialIfBound? (.ref x) (Str.ofString "__eq__") _) (ifBound_K X I hs hf (wpAny_mono h (fun r s' hq => ?_) fun _ _ y => y))
  obtain ⟨c, rfl, hq⟩ := hq
  exact wpAny_bind (m := truthy (.bool c)) (wpAny_truthy_bool (wpAny_pure hq))
theorem ne_K {Q : Value → Shared → Prop} (hu : A.in1.units < cLine) (hu0 : A.units < cLine) (F : Fr h₀ L s.heap m) (X₀ : K.In h₀) (I : InstAt s.heap x ox C od) (hb : Looks (model prog w) s.heap (typeOf b) tb) (hn : notFirst K C tb = true)
    (hm : mroIn K C (.type "object") = some true) (hne : findIn K (.ref C) "__ne__" = some (some (.builtin "object.__ne__"))) (hs : findIn K (.ref C) "__eq__" = some (some (.ref f))) (hf : isFn K (.ref f) = true)
    (h : wpAny (model prog w) A.in1 (call (.ref f) [.ref x, b]) (fun v s' => ∃ c, v = .bool c ∧ Q (.bool (!c)) s') E s) : wpAny (model prog w) A (richCompare .NotEq (.ref x) b) Q E s := by
  have X := X₀.keeps F.keep
  have one : wpAny (model prog w) A (tryCompare (.ref x) "__ne__" b) (fun r s' => ∃ v, r = some v ∧ Q v s') E s := by
    unfold tryCompare
    refine wpAny_bind (bound_b X I hne PySem.F.cmp_object.ne.bind (obj_ne hu X I hm hs hf (wpAny_mono h (fun v s' hv => ?_) fun _ _ e => e)))
    obtain ⟨c, rfl, hq⟩ := hv
    exact ⟨c, rfl, wpAny_pure ⟨_, rfl, hq⟩⟩
  unfold richCompare
  simp only [oneThing_ref]
  refine wpAny_holding (wpAny_bind (wpAny_cRoomFor hu0 ?_)); refine wpAny_bind (I.type.here (wpAny_bind (hb.here ?_)))
  split
  · rename_i q
    have e : subIn K tb (.ref
          C) = some false := by
      rcases Bool.or_eq_true_iff.mp
            hn with e | e
      · rw [beq_iff_eq.mp
            e] at q; simp at q
      · exact beq_iff_eq.mp e
    refine wpAny_bind ((looks_subIn X e).here ?_); simp only [Bool.false_eq_true, if_false]
    refine wpAny_bind (wpAny_mono one (fun r s' z => ?_) fun _ _ e => e); obtain ⟨v, rfl, hq⟩ := z
    exact wpAny_pure hq
  · refine wpAny_bind
        (wpAny_pure ?_)
    simp only [Bool.false_eq_true, if_false]; refine wpAny_bind (wpAny_mono one (fun r s' z => ?_) fun _ _ e => e)
    obtain ⟨v, rfl, hq⟩ := z
    exact wpAny_pure hq
end
end NeX

set_option Elab.async false
set_option linter.all false
set_option maxRecDepth 100000
set_option maxHeartbeats 2100000
namespace Kn
open PySem L2 RZ
open PyProof.Rows (envOfC)
section
variable {G : Gd} {E : XK} {X : Cx} {σ : List (Option V)} {H H' : Hp} {k : Nat}
/-- what may stand on the right of == and != -/
def tyOk (c : Nat) (e : D) : Prop := (∃ es, e = .ins c es) ∨ (∃ es, e = .tup es) ∨ ∃ x, e = .str x
theorem not_first_tup {K : PySem.W.Frag} {C : Addr} : PySem.W.notFirst K C (.type "tuple") = true := by
  unfold PySem.W.notFirst
  rw [show PySem.W.subIn K (.type "tuple") (.ref C) = some false by unfold PySem.W.subIn; rfl]
  simp
theorem not_first_str {K : PySem.W.Frag} {C : Addr} : PySem.W.notFirst K C (.type "str") = true := by
  unfold PySem.W.notFirst
  rw [show PySem.W.subIn K (.type "str") (.ref C) = some false by unfold PySem.W.subIn; rfl]
  simp
theorem den_type {pins : List (Addr × Obj)} {s : Shared} {B : Addr → Prop} {c : Nat} {e : D} {v : V} {u : Value} (ok : tyOk c e) (I : Inv X pins σ H s) (hK : X.K = G.K) (he : Den G B H e v) (r : L2.RelV v u) :
    ∃ tb, PySem.W.Looks (model X.prog X.w) s.heap (typeOf u) tb ∧ PySem.W.notFirst X.K (G.cl c) tb = true := by
  rcases ok with ⟨es, rfl⟩ | ⟨es, rfl⟩ | ⟨x, rfl⟩
  · obtain ⟨a, dx, xs, rfl, na, ha, la, da⟩ := he
    cases r
    obtain ⟨mA, J, _⟩ := ins_get I.hok ha; obtain ⟨od, J, _⟩ := J.look
    exact ⟨_, J.type, by simp [PySem.W.notFirst]⟩
  · obtain ⟨a, xs, rfl, na, ha, la, da⟩ := he
    cases r
    obtain ⟨its, _, ⟨o, ho, hc, _⟩, _⟩ := I.tuple (by rw [hK]; exact ha)
    exact ⟨.type "tuple", hc ▸ (PySem.W.Looks.ld ho).andThen .now, not_first_tup⟩
  · cases he
    obtain ⟨t, rfl⟩ := r
    exact ⟨.type "str", PySem.W.Looks.of_pure rfl, not_first_str⟩
structure Fqn (G : Gd) (P : Program) (w : World) (mg : Str → Option Value) (base : Heap) (k : Nat) (c : Nat) (cf : Nat) (S : FSpec) : Prop where
  ex : ∃ (f : Addr) (fd : FuncData) (ps : List Str), FnD G P w mg base k f fd ps cf S ∧ PySem.W.findIn G.K (.ref (G.cl c)) "__eq__" = some (some (.ref f)) ∧ PySem.W.isFn G.K (.ref f) = true ∧ Binds G.K fd ps [] ∧ ps.length = 2 ∧
    PySem.W.mroIn G.K (G.cl c) (.type "object") = some true ∧ PySem.W.findIn G.K (.ref (G.cl c)) "__ne__" = some (some (.builtin "object.__ne__"))
def rCmpI (neg : Bool) (G : Gd) (E : XK) (c cf : Nat) (S : FSpec) : R2 := fun x y H Q' => ∃ a dx fs B e, x = .ref a ∧ H a = some (.ins (G.cl c) dx fs) ∧ tyOk c e ∧ Den G B H e y ∧ liftF G cf S [.ref a, y] H (fun v H' => ∃ b, v = .bl b ∧ Q' (.bl (if neg then !b else b)) H') E
theorem run_own {j cf : Nat} {S : FSpec} {pins : List (Addr × Obj)} {s : Shared} {f a : Addr} {fd : FuncData} {ps : List Str} {y : V} {u : Value} {Q : Value → Shared → Prop} {Q' : VK} {A : Around} (hF : FnD G X.prog X.w X.mg X.base j f fd ps cf S) (xk : Xk G E k X) (rm : Room j A) (hfr : A.frames = X.A.frames) (hgd : A.guards = some []) (hbd : Binds X.K fd ps []) (hp2 : ps.length = 2)
    (I : Inv X pins σ H s) (ry : L2.RelV y u) (hl : liftF G cf S [.ref a, y] H Q' E) (hq : ∀ v s', EP X pins σ Q' v s' → Q v s') : wpAny (model X.prog X.w) A (call (.ref f) [.ref a, u]) Q X.xe s := by
  have e0 : Env0 X.prog X.w G.K X.mg X.base A X.stack s H := by
    have e := I.env0
    rw [← xk.K]
    exact ⟨by rw [hfr]; exact e.frames, e.mod, e.bs, e.bsz, e.funs, e.frf, e.hok, e.bare⟩
  have hb : BindsTo s fd ⟨[.ref a, u], []⟩ (ps.zip [.ref a, u]) := by
    have z := hbd s [.ref a, u] I.kIn (by rw [List.append_nil]; exact hp2.symm)
    rw [List.append_nil] at z
    exact z
  refine wpAny_call (codeAny_mono (hF.run A X.stack s H ⟨[.ref a, u], []⟩ [.ref a, u] [.ref a, y] _ E rm hgd e0 hb (.cons rfl (.cons ry .nil)) hp2.symm hl) fun r s' h => ?_)
  cases r with
  | error e => exact xk.pass pins σ H s e s' I h
  | ok fl =>
    cases fl with
    | ret u => exact hq u s' (I.after h)
    | next => exact h.elim
    | brk => exact h.elim
    | cont => exact h.elim
theorem op_eqO {j c cf : Nat} {S : FSpec} (F : Fqn G X.prog X.w X.mg X.base j c cf S) (xk : Xk G E k X) (hj : j ≤ k := by decide) : OpR X (compareOp .Eq) (rCmpI false G E c cf S) := by
  intro pins s σ H x y v u Q I rx ry h; obtain ⟨a, dx, fs, B, e, rfl, ha, ok, he, hl⟩ := h
  obtain ⟨f, fd, ps, hF0, hs, hf, hbd, hp2, hm, hne⟩ := F.ex
  obtain ⟨tb, ht, hnf⟩ := den_type ok I xk.K he ry
  rw [← xk.K] at hs hf hbd hm hne
  cases rx
  obtain ⟨mA, J, _⟩ := ins_get I.hok ha; obtain ⟨od, J, _⟩ := J.look; obtain ⟨m, hFr⟩ := I.fr
  refine (?_ : wpAny (model X.prog X.w) X.A (richCompare .Eq (.ref a) u) (EP X pins σ Q) X.xe s)
  refine PySem.W.cmp_K (op := .Eq) (tb := tb) xk.room.units0 hFr I.ok.mod.kin J ht hnf hs hf (run_own hF0 xk (xk.room.mono hj) rfl xk.gd hbd hp2 I ry hl fun w s' z => ?_)
  obtain ⟨z', H', I', rz, b, eb, qz⟩ := z
  subst eb
  exact SlX.cmpback rz ⟨.bl b, H', I', rz, qz⟩
theorem op_neO {j c cf : Nat} {S : FSpec} (F : Fqn G X.prog X.w X.mg X.base j c cf S) (xk : Xk G E k X) (hj : j + 1 ≤ k := by decide) : OpR X (compareOp .NotEq) (rCmpI true G E c cf S) := by
  intro pins s σ H x y v u Q I rx ry h; obtain ⟨a, dx, fs, B, e, rfl, ha, ok, he, hl⟩ := h
  obtain ⟨f, fd, ps, hF0, hs, hf, hbd, hp2, hm, hne⟩ := F.ex
  obtain ⟨tb, ht, hnf⟩ := den_type ok I xk.K he ry
  rw [← xk.K] at hs hf hbd hm hne
  cases rx
  obtain ⟨mA, J, _⟩ := ins_get I.hok ha; obtain ⟨od, J, _⟩ := J.look; obtain ⟨m, hFr⟩ := I.fr
  refine (?_ : wpAny (model X.prog X.w) X.A (richCompare .NotEq (.ref a) u) (EP X pins σ Q) X.xe s)
  refine NeX.ne_K (tb := tb) (by have := xk.room.un; show X.A.units + 1 < cLine; omega) (by have := xk.room.un; omega) hFr I.ok.mod.kin J ht hnf hm hne hs hf (run_own hF0 xk (Room.in1 (xk.room.mono hj)) rfl xk.gd hbd hp2 I ry hl fun w s' z => ?_)
  obtain ⟨z', H', I', rz, b, eb, qz⟩ := z
  subst eb
  cases rz
  exact ⟨b, rfl, .bl (!b), H', I', rfl, qz⟩
def dCmpI (neg : Bool) (c : Nat) (S : FSpec) (ta tb : DT) : DT := fun ex env Q => ta ex env fun d => tb ex env fun e => ∃ ds, d = .ins c ds ∧ tyOk c e ∧ S [d, e] (fun r => ∃ b, r = .bl b ∧ Q (.bl (if neg then !b else b))) ex
theorem lift_cmpI {neg : Bool} {ca cb cf c : Nat} {S : FSpec} {ta tb : DT} {Q' : VK} (h : lift G E (ca + cb + cf) (dCmpI neg c S ta tb) σ H Q') : tOp (rCmpI neg G E c cf S) (lift G E ca ta) (lift G E cb tb) σ H Q' := by
  obtain ⟨W, hn, Q, ht, kk⟩ := h
  refine ⟨W, by omega, _, ht, fun v H1 d st hd hq => ⟨W.next st, by show W.m + cb ≤ W.n - ca; omega, _, hq, fun v2 H2 e st2 he ⟨ds, e1, ok, hs⟩ => ?_⟩⟩
  subst e1
  have hd2 : Den G W.XB H2 (.ins c ds) v := (W.next st).den st2 hd
  have he2 : Den G W.XB H2 e v2 := he
  obtain ⟨a, dx, xs, rfl, na, ha, la, da⟩ := id hd2
  refine ⟨a, dx, _, W.XB, e, rfl, ha, ok, he2, lift_callee (st.trans st2) hn (ds := [.ins c ds, e]) ⟨_, _, rfl, hd2, _, _, rfl, he2, rfl⟩ hs fun v H' d st3 hd3 ⟨bb, eb, hq3⟩ => ?_⟩
  subst eb
  cases hd3
  exact ⟨bb, rfl, kk _ H' (.bl _) st3 (den_bl _) hq3⟩
theorem de_eqO {a b : Expr} {pos : Pos} {j c ca cb cf : Nat} {S : FSpec} {ta tb : DT} (F : Fqn G X.prog X.w X.mg X.base j c cf S) (xk : Xk G E k X) (ha : DE G E X ca a ta) (hb : DE G E X cb b tb) (hm : behindInMarks .Eq b = false) (hj : j ≤ k := by decide) : DE G E X (ca + cb + cf) (.Compare a [.Eq] [b] pos) (dCmpI false c S ta tb) :=
  imp (pe_cmpR (op_eqO F xk hj) ha hb hm) fun _ _ _ h => lift_cmpI h
theorem de_neO {a b : Expr} {pos : Pos} {j c ca cb cf : Nat} {S : FSpec} {ta tb : DT} (F : Fqn G X.prog X.w X.mg X.base j c cf S) (xk : Xk G E k X) (ha : DE G E X ca a ta) (hb : DE G E X cb b tb) (hm : behindInMarks .NotEq b = false) (hj : j + 1 ≤ k := by decide) : DE G E X (ca + cb + cf) (.Compare a [.NotEq] [b] pos) (dCmpI true c S ta tb) :=
  imp (pe_cmpR (op_neO F xk hj) ha hb hm) fun _ _ _ h => lift_cmpI h
theorem dt_eqO {a b : Expr} {pos : Pos} {j c ca cb cf : Nat} {S : FSpec} {ta tb : DT} (F : Fqn G X.prog X.w X.mg X.base j c cf S) (xk : Xk G E k X) (ha : DE G E X ca a ta) (hb : DE G E X cb b tb) (hm : behindInMarks .Eq b = false) (hj : j ≤ k := by decide) : DPt G E X (ca + cb + cf) (.Compare a [.Eq] [b] pos) (dTrue (dCmpI false c S ta tb)) :=
  impT (pt_cmpR (op_eqO F xk hj) ha hb hm) fun _ _ _ h => lift_cmpI (lift_true h)
theorem dt_neO {a b : Expr} {pos : Pos} {j c ca cb cf : Nat} {S : FSpec} {ta tb : DT} (F : Fqn G X.prog X.w X.mg X.base j c cf S) (xk : Xk G E k X) (ha : DE G E X ca a ta) (hb : DE G E X cb b tb) (hm : behindInMarks .NotEq b = false) (hj : j + 1 ≤ k := by decide) : DPt G E X (ca + cb + cf) (.Compare a [.NotEq] [b] pos) (dTrue (dCmpI true c S ta tb)) :=
  impT (pt_cmpR (op_neO F xk hj) ha hb hm) fun _ _ _ h => lift_cmpI (lift_true h)
end
end Kn

set_option Elab.async false
set_option linter.all false
set_option maxRecDepth 100000
set_option maxHeartbeats 2100000
namespace Kn
open PySem L2 RZ
open PyProof.Rows (envOfC)
section
variable {G : Gd} {E : XK} {X : Cx} {σ : List (Option V)} {H H' : Hp} {k : Nat}
/-! ### type(x) is C, x whatever -/
def gTypeA : D → (D → Prop) → Prop := fun d Q => (∃ c ds, d = .ins c ds ∧ Q (.opq (.ref (G.cl c)))) ∨ (∃ ds, d = .tup ds ∧ Q (.opq (.ty "tuple"))) ∨ (∃ x, d = .str x ∧ Q (.opq (.ty "str")))
theorem c_typeA (hK : X.K = G.K) : CallR X (.type "type") (rDL G (g1 (gTypeA (G := G)))) := by
  intro pins s σ H vs us Q' I r h
  obtain ⟨B, d, x, Q, rfl, hd, hf, hg, kk⟩ := rDL1 h
  rcases hg with ⟨c, ds, rfl, hq⟩ | ⟨ds, rfl, hq⟩ | ⟨y, rfl, hq⟩
  · obtain ⟨a, dx, ys, rfl, na, ha, la, da⟩ := hd
    exact cr_type pins s σ H _ us Q' I r ⟨a, _, dx, _, rfl, ha, kk _ H (.opq (.ref (G.cl c))) (Ext.refl _ _) (den_opq _) hq⟩
  · obtain ⟨a, ys, rfl, na, ha, la, da⟩ := hd
    rw [Vals.ref1 r]
    obtain ⟨its, _, ⟨o, ho, hc, _⟩, _⟩ := I.tuple (by rw [hK]; exact ha)
    exact PySem.W.kto_cont (T := "tuple") ⟨o, ho, hc⟩ (by decide +kernel) ⟨.ty "tuple", H, I, rfl, kk _ H (.opq (.ty "tuple")) (Ext.refl _ _) (den_opq _) hq⟩
  · cases hd
    cases r with
    | cons r1 rs =>
      cases rs
      obtain ⟨t, rfl⟩ := r1
      exact call_type_of (typeIs_str _ _ _) (by decide +kernel) ⟨.ty "str", H, I, rfl, kk _ H (.opq (.ty "str")) (Ext.refl _ _) (den_opq _) hq⟩
def gIsA (f : Bool → Bool) : G2 := fun d e Q => (∃ a, d = .opq (.ref a) ∧ e = .opq (.ref a) ∧ Q (.bl (f true))) ∨ ∃ n a, d = .opq (.ty n) ∧ e = .opq (.ref a) ∧ Q (.bl (f false))
theorem o_isA : OpR X (compareOp .Is) (rD G (gIsA id)) := by
  intro pins s σ H x y v u Q' I rx ry h
  obtain ⟨B, d, e, Q, hd, he, _, hg, kk⟩ := h
  rcases hg with ⟨a, rfl, rfl, hq⟩ | ⟨n, a, rfl, rfl, hq⟩
  · cases hd; cases he
    exact op_is_cls pins s σ H _ _ v u Q' I rx ry ⟨a, a, rfl, rfl, .inl rfl, kk _ H (.bl true) (Ext.refl _ _) (by rw [decide_eq_true rfl]; exact den_bl _) hq⟩
  · cases hd; cases he
    cases rx; cases ry
    exact wpAny_is_other rfl (fun z => by cases z) ⟨.bl false, H, I, rfl, kk _ H (.bl false) (Ext.refl _ _) (den_bl _) hq⟩
theorem o_isnA : OpR X (compareOp .IsNot) (rD G (gIsA not)) := by
  intro pins s σ H x y v u Q' I rx ry h
  obtain ⟨B, d, e, Q, hd, he, _, hg, kk⟩ := h
  rcases hg with ⟨a, rfl, rfl, hq⟩ | ⟨n, a, rfl, rfl, hq⟩
  · cases hd; cases he
    exact op_isnot_cls pins s σ H _ _ v u Q' I rx ry ⟨a, a, rfl, rfl, .inl rfl, kk _ H (.bl false) (Ext.refl _ _) (by rw [decide_eq_true rfl]; exact den_bl _) hq⟩
  · cases hd; cases he
    cases rx; cases ry
    exact wpAny_isNot_other rfl (fun z => by cases z) ⟨.bl true, H, I, rfl, kk _ H (.bl true) (Ext.refl _ _) (den_bl _) hq⟩
/-! ### three names of a list of three -/
def tgThreeL (i j l : Nat) : DG := fun d env Q => ∃ a b c, d = .lst [a, b, c] ∧ Q (((env.set i (.val a)).set j (.val b)).set l (.val c))
theorem denL3 {B : Addr → Prop} {H : Hp} {d e f : D} {xs : List V} (h : DenL G B H [d, e, f] xs) : ∃ x y z, xs = [x, y, z] ∧ Den G B H d x ∧ Den G B H e y ∧ Den G B H f z := by
  obtain ⟨x, r, rfl, h1, h2⟩ := h
  obtain ⟨y, z, rfl, h3, h4⟩ := denL2 h2
  exact ⟨x, y, z, rfl, h1, h3, h4⟩
theorem dg_threeL {i j l : Nat} {x y z : Str} {pos p1 p2 p3 : Pos} {k : Nat} (hc : X.calm = true) (h1 : PG X (.Name x p1) (gName i)) (h2 : PG X (.Name y p2) (gName j)) (h3 : PG X (.Name z p3) (gName l)) : DTg G E X (.Tuple [.Name x p1, .Name y p2, .Name z p3] k pos) [i, j, l] (tgThreeL i j l) :=
  impG (pg_lst (n := 3) hc (pgs_cons h1 (pgs_cons h2 (pgs_cons h3 pgs_nil)))) fun v σ H Q' h => by
    obtain ⟨W, d, Q, hd, ⟨a, b, c, rfl, ht⟩, kk⟩ := h
    obtain ⟨p, xs, rfl, np, hp, lp, dl⟩ := hd
    obtain ⟨u, w, q, rfl, hu, hw, hq⟩ := denL3 dl
    refine ⟨p, [u, w, q], rfl, SqL.of hp, rfl, u, [w, q], rfl, w, [q], rfl, q, [], rfl, rfl, ?_⟩
    have hu' : Den G W.XB H a u := hu
    have hw' : Den G (W.put i hu').XB H b w := hw.fewer fun b hb => xb_val W.len hb
    have hq' : Den G ((W.put i hu').put j hw').XB H c q := hq.fewer fun b hb => xb_val W.len (xb_val (W.put i hu').len hb)
    exact kk _ (((W.put i hu').put j hw').put l hq') ⟨(((Later.put W i hu').trans (Later.put _ j hw')).trans (Later.put _ l hq')).more (by omega), rfl⟩ ⟨(fun m hm => by
      rw [List.getElem?_set_ne (fun z => hm (by rw [← z]; simp)), List.getElem?_set_ne (fun z => hm (by rw [← z]; simp)), List.getElem?_set_ne (fun z => hm (by rw [← z]; simp))]), by rw [List.length_set, List.length_set, List.length_set]⟩ ht
/-! ### max of a list of ints -/
def gMaxL : D → (D → Prop) → Prop := fun d Q => ∃ ns : List Int, d = .lst (ns.map D.int) ∧ 0 < ns.length ∧ ∀ m, m ∈ ns → (∀ y, y ∈ ns → y ≤ m) → Q (.int m)
theorem c_maxL (hc : X.calm = true) : CallR X (.builtin "max") (rDL G (g1 gMaxL)) := callr_imp (cr_max hc) fun xs H Q' h => by
  obtain ⟨B, d, x, Q, rfl, hd, hf, ⟨ns, rfl, hl, hq⟩, kk⟩ := rDL1 h
  obtain ⟨a, ys, rfl, na, ha, la, da⟩ := hd
  rw [da.ints] at ha
  exact ⟨a, ns, rfl, SqL.of ha, hl, fun m h1 h2 => kk _ H (.int m) (Ext.refl _ _) (den_int _) (hq m h1 h2)⟩
end
end Kn

set_option Elab.async false
set_option linter.all false
set_option maxRecDepth 100000
set_option maxHeartbeats 2100000
namespace Kn
open PySem L2 RZ
section
variable {G : Gd} {E : XK} {X : Cx} {σ : List (Option V)} {H H' : Hp} {k : Nat}
/-- list(e), a new list -/
theorem df_list {e : Expr} {p pos : Pos} {c : Nat} {te : DT} (hK : X.K = G.K) (hm : X.mg "list" = none) (he : DE G E X c e te) (hg : Gl X "list" := by rfl) (hst : starEach [e] X.env = (false, eval e X.env) :: starEach [] X.env := by rfl) (hpl : (backTo pos (starEach [] X.env)).any (·.1) = false := by rfl) :
    DF G E X c (.Call (.Name "list" p) [e] [] pos) (fList te) := imp (pe_callTy call_list_of hg hm (by decide +kernel) (pa_cons he pa_nil hst) (by decide) (by decide) hst hpl) fun σ H Q' h => by
  obtain ⟨W, hn, Q, ht, kk⟩ := h
  refine ⟨W, hn, _, ht, fun v H1 d st hd hq => ?_⟩
  have hp0 : ∀ p, H1 p = none → H p = none := fun p hp => by
    cases q : H p with
    | none => rfl
    | some o =>
      exfalso
      rw [st.ext p o q (W.nuX ((W.next st).fresh hp))] at hp; cases hp
  have fin : ∀ (p : Addr) (ds : List D) (xs : List V), H1 p = none → xs.length ≤ sizeLine → DenL G W.XB H1 ds xs → Q ds → Q' (.ref p) (L2.upd H1 p (.lst xs)) := fun p ds xs hp la da hq => by
    refine kk p _ ds xs (st.new hp) (hp0 p hp) upd_same la ?_ hq
    exact DenL.keep (fun b o nb e => by rw [upd_ne (ne_of_none e hp)]; exact e) (fun b hb => hb.imp id fun z => by rw [z]; exact hp) ds xs da
  cases d <;> try exact hq.elim
  · obtain ⟨a, ys, rfl, na, ha, la, da⟩ := hd
    exact ⟨_, ys, rfl, .inl (SqL.of ha), fun p hp => fin p _ ys hp la da hq⟩
  · obtain ⟨a, ys, rfl, na, ha, la, da⟩ := hd
    exact ⟨_, ys, rfl, .inr (by rw [hK]; exact ha), fun p hp => fin p _ ys hp la da hq⟩
/-- == and != of texts, whatever they hold -/
def gEqS : G2 := fun d e Q => ∃ a b, d = .str a ∧ e = .str b ∧ Q (.bl (decide (a = b)))
def gNeS : G2 := fun d e Q => ∃ a b, d = .str a ∧ e = .str b ∧ Q (.bl (!decide (a = b)))
theorem o_eqS : OpR X (compareOp .Eq) (rD G gEqS) := opr_imp op_eq fun x y H Q' h => by
  obtain ⟨B, d, e, Q, hd, he, _, ⟨a, b, rfl, rfl, hq⟩, kk⟩ := h
  cases hd; cases he
  refine ⟨rfl, kk _ H (.bl (decide (a = b))) (Ext.refl _ _) ?_ hq⟩
  show V.bl _ = V.bl _
  congr 1
  simp
theorem o_neS : OpR X (compareOp .NotEq) (rD G gNeS) := opr_imp op_ne fun x y H Q' h => by
  obtain ⟨B, d, e, Q, hd, he, _, ⟨a, b, rfl, rfl, hq⟩, kk⟩ := h
  cases hd; cases he
  refine ⟨rfl, kk _ H (.bl (!decide (a = b))) (Ext.refl _ _) ?_ hq⟩
  show V.bl _ = V.bl _
  congr 1
  simp
end
end Kn

set_option Elab.async false
set_option linter.all false
set_option maxRecDepth 100000
set_option maxHeartbeats 2100000
namespace Kn
open PySem L2 RZ
open PyProof.Rows (envOfC)
section
variable {G : Gd} {E : XK} {X : Cx} {σ : List (Option V)} {H H' : Hp} {k : Nat}
theorem d2_meth0 {j i cid cf : Nat} {m y : Str} {ps : List Str} {S : MSpec} {pos apos p : Pos} {pl : Sem Bool} (F : Fmm G X.prog X.w X.mg X.base j cid m ps cf S) (xk : Xk G E k X) (hN : X.N[i]? = some y) (hj : j ≤ k := by decide)
    (hv : Vis X.env.scope y := by first | exact Or.inl rfl | exact Or.inr (Or.inl rfl) | exact Or.inr (Or.inr rfl)) (hd : (y == ("__debug__" : Str)) = false := by decide) (hcd : (y == ("__classdict__" : Str)) = false := by decide)
    (ht : eval (.Call (.Attribute (.Name y p) m
      apos) [] [] pos) X.env = (do
        let ov ← eval (.Name y p) X.env
        standAt apos.atName
        let (f, first) ← holding
          [ov] (getMethod ov m pl)
        callWith pos f first (backTo pos (starEach [] X.env)) (backToKw pos (keywordEach [] X.env))) := by rfl) : DE2 G E X cf (.Call (.Attribute (.Name y p) m apos) [] [] pos) (d2Meth G i cid ps.length S aNil) := by
  obtain ⟨f, fd, hF0, hM, hC, hb, hmf⟩ := F.ex
  have hF := hF0.mono hj
  rw [← xk.K] at hM hC hb
  constructor
  intro pins s σ H Q' I h
  obtain ⟨W, hn, Q, ⟨a, dx, fs, he, hfl, hlen, hs⟩, kk⟩ := h
  obtain ⟨xs, hsi, hat, hl, hxs⟩ := lift_slf he
  have recv := (pe_var (X := X) (pos := p) (i := i) hN hv hd hcd).run pins s σ H (fun x H1 => x = .ref a ∧ H1 = H) I ⟨.ref a, hsi, rfl, rfl⟩
  refine PySem.W.methodCall_KW (pl := pl) (thn recv ?_) ht
  rintro uv s1 ⟨x, H1, I1, rx, rfl, rfl⟩
  cases rx
  refine getmeth_ok I1 hat hC hM (zip_none hmf) ?_
  have q2 : liftM G cf cid S [.ref a] H1 Q' E := lift_mut (W := W) (c := 0) (as := []) (vs := []) (Step.refl W) (by omega) he hsi hat hxs hfl rfl hs (by rw [Nat.zero_add]; exact kk)
  refine PySem.W.callWith_K0 (first := [.ref a]) I1.kIn hM.kp (wpAny_call ?_)
  have hb' : BindsTo s1 fd ⟨[.ref a], []⟩ (ps.zip [.ref a]) := by
    have z := hb s1 [.ref a] I1.kIn (by rw [List.append_nil]; exact hlen)
    rw [List.append_nil] at z
    exact z
  exact run_mut (hK := xk.K) (vs := [.ref a]) hF xk.room xk.gd xk.pass I1 (.cons rfl .nil) hlen _ hb' q2
end
end Kn

set_option Elab.async false
set_option linter.all false
set_option maxRecDepth 100000
set_option maxHeartbeats 2100000
namespace Kn
open PySem L2 RZ
section
variable {G : Gd} {E : XK} {X : Cx} {σ : List (Option V)} {H H' : Hp} {k : Nat}
/-! ### an own list lent to what answers a thing that holds no list -/
mutual
def noLst : D → Bool
  | .non => true
  | .bl _ => true
  | .int _ => true
  | .str _ => true
  | .tup ds => noLstL ds
  | .ins _ ds => noLstL ds
  | _ => false
def noLstL : List D → Bool
  | [] => true
  | d :: ds => noLst d && noLstL ds
end
mutual
theorem Den.offLst {B B' : Addr → Prop} (hb : ∀ b, B' b → B b ∨ ∃ xs, H b = some (.lst xs)) : ∀ (d : D) (v : V), noLst d = true → Den G B H d v → Den G B' H d v
  | .non, _, _, h => h
  | .bl _, _, _, h => h
  | .int _, _, _, h => h
  | .str _, _, _, h => h
  | .tup ds, v, f, ⟨a, xs, e, nb, hs, hl, hd⟩ => by
    rcases nb with nb | nb
    · rcases hs with h | h
      · refine ⟨a, xs, e, .inl fun z => ?_, .inl h, hl, DenL.offLst hb ds xs f hd⟩
        rcases hb a z with q | ⟨ys, ho⟩
        · exact nb q
        · rcases h with h | ⟨q, h⟩
          · rw [h] at ho; cases ho
          · rw [h] at ho; cases ho
      · exact ⟨a, xs, e, .inr h, .inr h, hl, DenL.offLst hb ds xs f hd⟩
    · exact ⟨a, xs, e, .inr nb, hs, hl, DenL.offLst hb ds xs f hd⟩
  | .ins c ds, v, f, ⟨a, dx, xs, e, nb, hs, hl, hd⟩ => by
    refine ⟨a, dx, xs, e, fun z => ?_, hs, hl, DenL.offLst hb ds xs f hd⟩
    rcases hb a z with q | ⟨ys, ho⟩
    · exact nb q
    · rw [hs] at ho; cases ho
  | .lst _, _, f, _ => by simp [noLst] at f
  | .opq _, _, f, _ => by simp [noLst] at f
  | .urn, _, f, _ => by simp [noLst] at f
  | .at_ _ _, _, f, _ => by simp [noLst] at f
  | .dct _ _, _, f, _ => by simp [noLst] at f
  | .tupn _, _, f, _ => by simp [noLst] at f
  | .exc _ _, _, f, _ => by simp [noLst] at f
  | .dic _ _, _, f, _ => by simp [noLst] at f
  | .dcT _ _, _, f, _ => by simp [noLst] at f
theorem DenL.offLst {B B' : Addr → Prop} (hb : ∀ b, B' b → B b ∨ ∃ xs, H b = some (.lst xs)) : ∀ (ds : List D) (xs : List V), noLstL ds = true → DenL G B H ds xs → DenL G B' H ds xs
  | [], _, _, h => h
  | d :: ds, xs, f, ⟨x, r, e, h1, h2⟩ => by
    have f' : (noLst d && noLstL ds) = true := f
    rw [Bool.and_eq_true] at f'
    exact ⟨x, r, e, Den.offLst hb d x f'.1 h1, DenL.offLst hb ds r f'.2 h2⟩
end
def dLendL (i : Nat) (te : DT) : DT := fun ex env Q => ∃ a ds, env[i]? = some (.own a ds) ∧ te ex (env.set i (.val (.lst ds))) fun d => noLst d = true ∧ Q d
theorem de_lendL (i : Nat) {e : Expr} {c : Nat} {te : DT} (h : DE G E X c e te) : DE G E X c e (dLendL i te) := imp h fun σ H Q' hh => by
  obtain ⟨W, hn, Q, ⟨a0, ds, he, ht⟩, kk⟩ := hh
  obtain ⟨W1, a, w1, w2, w3, w4, w5, w6, w7, hsi, h0, nt, x1, x2⟩ := wd_lend (v := .lst ds) W he (.inl ⟨a0, ds, rfl, rfl⟩)
  have hat : ∃ xs, H a = some (.lst xs) := by
    obtain ⟨xs, e1, _, ha, _⟩ := W.sl i _ he
    rw [hsi] at e1
    cases e1
    exact ⟨xs, ha⟩
  refine ⟨W1, by rw [w3, w4]; exact hn, fun d => noLst d = true ∧ Q d, by rw [w1, w6]; exact ht, fun x H' d st hd ⟨fl, hq⟩ => ?_⟩
  have st' : Step W c H' := ⟨by rw [← w2]; exact st.ext, by rw [← w2, ← w3]; exact st.good⟩
  refine kk x H' d st' (Den.offLst (fun b hb => ?_) d x fl hd) hq
  rcases x1 b hb with z | rfl
  · exact .inl z
  · obtain ⟨xs, ha⟩ := hat
    exact .inr ⟨xs, st'.ext b _ ha (lend_un W h0)⟩
/-! ### tuple(range(n)) -/
def dTupRg (te : DT) : DT := fun ex env Q => te ex env fun d => ∃ n : Int, d = .int n ∧ n ≤ 16777216 ∧ -(2 ^ 62) ≤ n ∧ Q (.tup (rangeD 0 n.toNat))
theorem de_tupleRange {a : Expr} {c : Nat} {te : DT} {p p2 pos pos2 : Pos} (hc : X.calm = true) (hm : X.mg "tuple" = none) (hm2 : X.mg "range" = none) (ha : DE G E X c a te) (hg : Gl X "tuple" := by rfl) (hg2 : Gl X "range" := by rfl)
    (na : starEach [a] X.env = (false, eval a X.env) :: starEach [] X.env := by rfl) (nb : starEach [.Call (.Name "range" p2) [a] [] pos2] X.env = (false, eval (.Call (.Name "range" p2) [a] [] pos2) X.env) :: starEach [] X.env := by rfl) :
    DE G E X c (.Call (.Name "tuple" p) [.Call (.Name "range" p2) [a] [] pos2] [] pos) (dTupRg te) :=
  imp (pe_tupRg hc hg hm (prg_1 hg2 hm2 ha na) nb) fun σ H Q' h => by
    obtain ⟨W, hn, Q, ht, kk⟩ := h
    refine ⟨W, hn, _, ht, fun v H1 d st hd ⟨n, e, h1, h2, hq⟩ => ?_⟩
    subst e
    cases hd
    refine ⟨n, rfl, ⟨by omega, by omega, by omega, by omega, by omega⟩, fun q hq0 => ?_⟩
    have e2 : rgV 0 n = (List.range n.toNat).map fun i => V.int (0 + (i : Nat)) := by unfold rgV; rw [Int.sub_zero]
    refine kk _ _ (.tup (rangeD 0 n.toNat)) (st.new hq0) (den_tup hq0 ((W.next st).fresh hq0) (by rw [rgV_length, sizeLine_eq]; omega) ?_) hq
    rw [e2]
    exact denL_rg 0 n.toNat
end
end Kn

set_option Elab.async false
set_option linter.all false
set_option maxRecDepth 100000
set_option maxHeartbeats 2100000
namespace Kn
open PySem L2 RZ
section
variable {G : Gd} {E : XK} {X : Cx} {σ : List (Option V)} {H H' : Hp} {k : Nat}
theorem DenL.eraseIdx {B : Addr → Prop} {H : Hp} : ∀ (i : Nat) {ds : List D} {xs : List V}, DenL G B H ds xs → DenL G B H (ds.eraseIdx i) (xs.eraseIdx i)
  | _, [], xs, h => by
    cases (show xs = [] from h)
    exact rfl
  | 0, d :: ds, xs, ⟨x, r, e, h1, h2⟩ => by subst e; exact h2
  | i + 1, d :: ds, xs, ⟨x, r, e, h1, h2⟩ => by subst e; exact ⟨x, _, rfl, h1, h2.eraseIdx i⟩
/-- x.extend(e), a list -/
def sExt (i : Nat) (te : DT) : DS := fun ex de env => ∃ a ds, env[i]? = some (.own a ds) ∧ te ex env fun d => ∃ es, d = .lst es ∧ ds.length + es.length ≤ sizeLine ∧ de.nx (env.set i (.own a (ds ++ es)))
theorem ds_ext {i : Nat} {x : Str} {e : Expr} {pos p apos cpos : Pos} {c : Nat} {te : DT} (hN : X.N[i]? = some x) (he : DE G E X c e te) (hv : Vis X.env.scope x := by first | exact Or.inl rfl | exact Or.inr (Or.inl rfl) | exact Or.inr (Or.inr rfl)) (hd : (x == ("__debug__" : Str)) = false := by decide) (hcd : (x == ("__classdict__" : Str)) = false := by decide)
    (hbase : attributeBase (.Name x p) "extend" X.env (eval (.Name x p) X.env) = eval (.Name x p) X.env := by rfl)
    (hfew : ((backTo cpos (starEach [e] X.env)).all (fun x => !x.1) && (backToKw cpos (keywordEach [] X.env)).all (fun x => x.1.isSome) && decide (([e] : List Expr).length + ([] : List Keyword).length + (if ([] : List Keyword).isEmpty then 0 else 1) < 30)) = true := by rfl)
    (hline : (apos.endLine == cpos.line) = true := by rfl) (hs : starEach [e] X.env = (false, eval e X.env) :: starEach [] X.env := by rfl) (hplain : (backTo cpos (starEach [] X.env)).any (·.1) = false := by rfl)
    (hsw : swapsWith (.Call (.Attribute (.Name x p) "extend" apos) [e] [] cpos) none pos.line X.env = pure false := by rfl) : DSt G E X c (.Expr (.Call (.Attribute (.Name x p) "extend" apos) [e] [] cpos) pos) (sExt i te) :=
  impS (ps_expr (pe_bm PySem.F.plainAttrs_list PySem.F.slot_list_extend PySem.F.type_list_extend mt_extend (pe_var (i := i) hN hv hd hcd) (pa_cons he pa_nil hs) hbase hfew hline hs hplain) hsw) fun Dn σ H h => by
    obtain ⟨W, hn, de, ⟨a, ds, hei, ht⟩, k1, k2, k3, k4⟩ := h
    obtain ⟨xs, hsi, h0, ha, hl, hds⟩ := lift_own hei
    refine ⟨.ref a, hsi, .inl ⟨rfl, xs, SqL.of ha⟩, W, hn, _, ht, fun v H1 d st hdv ⟨es, ed, hlt, hq⟩ => ?_⟩
    subst ed
    obtain ⟨b, zs, rfl, nb, hb, lb, db⟩ := hdv
    have el := hds.length
    have eb := db.length
    have ha1 : H1 a = some (.lst xs) := st.ext a _ ha (lend_un W h0)
    have hds1 : DenL G W.XB H1 ds xs := hds.ext st.ext W.huX
    obtain ⟨W', l1, l2⟩ := own_step (xs := xs) (ys := xs ++ zs) (es := ds ++ es) st hei hsi h0 (by rw [List.length_append]; omega) (hds1.append db)
    exact ⟨a, b, xs, zs, rfl, rfl, ha1, hb, by omega, k1 σ _ W' l1 (by rw [l2]; exact hq)⟩
/-- x.pop(e) -/
def d2Pop (i : Nat) (te : DT) : DT2 := fun ex env Q => ∃ a ds, env[i]? = some (.own a ds) ∧ te ex env fun d => ∃ (j : Nat) (y : D), d = .int j ∧ ds[j]? = some y ∧ Q y (env.set i (.own a (ds.eraseIdx j)))
theorem seq_at {j n : Nat} (h : j < n) : seqIndex? (j : Int) n = some j := by
  have h1 : ixN n (j : Int) = some j := by
    unfold ixN
    rw [if_pos (by omega), if_pos (by omega), Int.toNat_natCast]
  exact (ixN_seq h1).1
theorem pop_xb {W0 : Wd G E σ H} (W' : Wd G E σ H') {i : Nat} {a : Addr} {ds es : List D} (e : W'.env = W0.env.set i (.own a es)) (he : W0.env[i]? = some (.own a ds)) (hsi : σ[i]? = some (some (.ref a))) (hb : W'.B = W0.B) (b : Addr) (h : W'.XB b) : W0.XB b := by
  rcases h with h | ⟨j, s, e1, m1, e2⟩
  · exact .inl (by rw [← hb]; exact h)
  · by_cases hj : i = j
    · subst hj
      exact .inr ⟨i, _, he, rfl, e2⟩
    · rw [e, List.getElem?_set_ne hj] at e1
      exact .inr ⟨j, s, e1, m1, e2⟩
theorem d2_pop {i : Nat} {x : Str} {e : Expr} {p apos cpos : Pos} {c : Nat} {te : DT} (hN : X.N[i]? = some x) (he : DE G E X c e te) (hv : Vis X.env.scope x := by first | exact Or.inl rfl | exact Or.inr (Or.inl rfl) | exact Or.inr (Or.inr rfl)) (hd : (x == ("__debug__" : Str)) = false := by decide) (hcd : (x == ("__classdict__" : Str)) = false := by decide)
    (hbase : attributeBase (.Name x p) "pop" X.env (eval (.Name x p) X.env) = eval (.Name x p) X.env := by rfl)
    (hfew : ((backTo cpos (starEach [e] X.env)).all (fun x => !x.1) && (backToKw cpos (keywordEach [] X.env)).all (fun x => x.1.isSome) && decide (([e] : List Expr).length + ([] : List Keyword).length + (if ([] : List Keyword).isEmpty then 0 else 1) < 30)) = true := by rfl)
    (hline : (apos.endLine == cpos.line) = true := by rfl) (hs : starEach [e] X.env = (false, eval e X.env) ::
          starEach [] X.env := by rfl) (hplain : (backTo cpos (starEach [] X.env)).any (·.1) = false := by rfl) :
    DE2 G E X c (.Call (.Attribute (.Name x p) "pop" apos) [e] [] cpos) (d2Pop i te) :=
  imp (pe_bm PySem.F.plainAttrs_list PySem.F.slot_list_pop PySem.F.type_list_pop mt_popAt (pe_var (i := i) hN hv hd hcd) (pa_cons he pa_nil hs) hbase hfew hline hs hplain) fun σ H Q' h => by
    obtain ⟨W, hn, Q, ⟨a, ds, hei, ht⟩, kk⟩ := h
    obtain ⟨xs, hsi, h0, ha, hl, hds⟩ := lift_own hei
    refine ⟨.ref a, hsi, .inl ⟨rfl, xs, SqL.of ha⟩, W, hn, _, ht, fun v H1 d st hdv ⟨j, y, ed, hy, hq⟩ => ?_⟩
    subst ed
    cases hdv
    have ha1 : H1 a = some (.lst xs) := st.ext a _ ha (lend_un W h0)
    have hds1 : DenL G W.XB H1 ds xs := hds.ext st.ext W.huX
    obtain ⟨v, hv1, hdv⟩ := hds1.get hy
    have hj : j < xs.length := (List.getElem?_eq_some_iff.mp hv1).1
    have hle : (xs.eraseIdx j).length ≤ sizeLine := by rw [List.length_eraseIdx]; split <;> omega
    have hei1 : (W.next st).env[i]? = some (.own a ds) := hei
    have kp := mut_keep (o1 := .lst (xs.eraseIdx j)) (W.next st) hei1 rfl hsi
    obtain ⟨W', l1, l2, l3⟩ := wd_mut (o1 := .lst (xs.eraseIdx j)) (s1 := .own a (ds.eraseIdx j)) (W.next st) hei1 rfl hsi rfl ⟨_, rfl, h0, upd_same, hle, DenL.keep kp (fun b hb => .inl hb) _ _ (hds1.eraseIdx j)⟩
    refine ⟨a, xs, (j : Int), j, v, rfl, rfl, ha1, by omega, by rw [sizeLine_eq] at hl; omega, seq_at hj, hv1, ?_⟩
    exact kk v _ y W' (((Later.next st).trans l1).more (by omega)) (Den.keep kp (fun b hb => .inl (pop_xb W' l2 hei1 hsi l1.B b hb)) y v hdv) (by rw [l2]; exact hq)
/-- o.index(e), o a list of plain data that holds it -/
def dIndex (te tv : DT) : DT := fun ex env Q => te ex env fun d => ∃ ds ps, d = .lst ds ∧ pdL ds = some ps ∧ SeqAt.shaped (.list ps) = true ∧ tv ex env fun e => ∃ (p : PyData) (j : Nat) (z : PyData), pd e = some p ∧ SeqAt.shaped p = true ∧ ps[j]? = some z ∧ PyData.eqv z p = true ∧ (∀ (m : Nat) (z' : PyData), m < j → ps[m]? = some z' → PyData.eqv z' p = false) ∧ Q (.int (j : Nat))
theorem de_index {o e : Expr} {apos cpos : Pos} {c c2 : Nat} {te tv : DT} (xk : Xk G E k X) (ho : DE G E X c o te) (he : DE G E X c2 e tv)
    (hbase : attributeBase o "index" X.env (eval o X.env) = eval o X.env := by rfl)
    (hfew : ((backTo cpos (starEach [e] X.env)).all (fun x => !x.1) && (backToKw cpos (keywordEach [] X.env)).all (fun x => x.1.isSome) && decide (([e] : List Expr).length + ([] : List Keyword).length + (if ([] : List Keyword).isEmpty then 0 else 1) < 30)) = true := by rfl)
    (hline : (apos.endLine == cpos.line) = true := by rfl) (hs : starEach [e] X.env = (false, eval e X.env) ::
          starEach [] X.env := by rfl) (hplain : (backTo cpos (starEach [] X.env)).any (·.1) = false := by rfl) :
    DE G E X (c + c2) (.Call (.Attribute o "index" apos) [e] [] cpos) (dIndex te tv) :=
  imp (pe_bm PySem.F.plainAttrs_list PySem.F.slot_list_index PySem.F.type_list_index (mt_indexD xk.u65) ho (pa_cons he pa_nil hs) hbase hfew hline hs hplain) fun σ H Q' h => by
    obtain ⟨W, hn, Q, ht, kk⟩ := h
    refine ⟨W, by omega, _, ht, fun v H1 d st hd ⟨ds, ps, ed, hp, hsh, hq⟩ => ?_⟩
    subst ed
    have hd' := hd
    obtain ⟨a, xs, rfl, na, ha, la, da⟩ := hd'
    refine ⟨.inl ⟨rfl, _, SqL.of ha⟩, W.next st, by show W.m + c2 ≤ W.n - c; omega, _, hq, fun v2 H2 e st2 he2 ⟨p, j, z, e2, h2, h3, h4, h5, hq2⟩ => ?_⟩
    have hd2 : Den G W.XB H2 (.lst ds) (.ref a) := (W.next st).den st2 hd
    exact ⟨a, v2, p, ps, j, z, rfl, rfl, by rw [xk.K]; exact Den.dp (.lst ds) _ (.list ps) hd2 (by show (pdL ds).map PyData.list = _; rw [hp]; rfl), by rw [xk.K]; exact Den.dp e v2 p he2 e2, hsh, h2, h3, h4, h5, kk _ H2 (.int (j : Nat)) (st.trans st2) (den_int _) hq2⟩
end
end Kn

set_option Elab.async false
set_option linter.all false
set_option maxRecDepth 100000
set_option maxHeartbeats 2100000
namespace Kn
open PySem L2 RZ
open PyProof.Rows (envOfC)
section
variable {G : Gd} {E : XK} {X : Cx} {σ : List (Option V)} {H H' : Hp} {tg : Expr}
/-! ### [e for ..] where e changes the frame's own thing in slot i0 -/
def compM (G : Gd) (tg : DG) (te : DT2) (i0 : Nat) (a dx : Addr) (cid : Nat) (Q : List D → List D → Prop) (base : List Sl) : List D → List D → List D → Prop
  | [], acc, fs => Q acc fs
  | d :: ds, acc, fs => tg d (base.set i0 (.slf a dx cid fs)) fun env2 => te noX env2 fun y env3 => ∃ fs', env3[i0]? = some (.slf a dx cid fs') ∧ fs'.length = (G.fl cid).length ∧ compM G tg te i0 a dx cid Q base ds (acc ++ [y]) fs'
def d2Comp (G : Gd) (i0 : Nat) (vs : List Nat) (ti : DA) (tg : DG) (te : DT2) : DT2 := fun ex env Q => ∃ a dx cid fs, env[i0]? = some (.slf a dx cid fs) ∧ fs.length = (G.fl cid).length ∧ ti ex env fun ds => compM G tg te i0 a dx cid (fun rs fs' => Q (.lst rs) (env.set i0 (.slf a dx cid fs'))) (inEnv env vs) ds [] fs
/-- the state in which one item is made: the own thing at a stands in slot i0, all else of the frame's own is out of reach -/
def Wd.innerM (W : Wd G E σ H) {c : Nat} {H1 : Hp} (st : Step W c H1) (vs : List Nat) (Dn : Addr) (H2 : Hp) (n2 : Nat) (hD : H1 Dn = none) (hD2 : H2 Dn ≠ none) {i0 : Nat} {a dx : Addr} {cid : Nat} {fs0 fs : List D} {xs : List V} (he : W.env[i0]? = some (.slf a dx cid fs0)) (hsi : σ[i0]? = some (some (.ref a))) (hv : i0 ∉ vs)
    (k : ∀ b o, H1 b = some o → b ≠ a → NU W.u b → H2 b = some o) (hg : Good W.u H2 n2) (ha : H2 a = some (.ins (G.cl cid) dx ((G.fl cid).zip xs))) (hl : xs.length ≤ (G.fl cid).length) (hd : DenL G (fun b => W.XB b ∨ b = Dn) H2 fs xs) (hna : H1 a ≠ none) :
    Wd G E0 (wipe σ vs) H2 where
  u := W.u
  n := n2
  m := W.m
  B := fun b => (W.XB b ∧ b ≠ a) ∨ b = Dn
  H0 := fun b => if b = a then none else H2 b
  env := (inEnv W.env vs).set i0 (.slf a dx cid fs)
  ex := fun _ => False
  ug := W.ug
  hu := fun p e => by
    have nB : ¬ W.B a := W.own_ne (W.mine_at he rfl hsi).1
    exact ⟨.inl ⟨.inl (W.hu p e).1, fun z => nB (by rw [← z]; exact (W.hu p e).1)⟩, .inl ⟨.inl (W.hu p e).2, fun z => nB (by rw [← z]; exact (W.hu p e).2)⟩⟩
  hB := fun b hb z => by
    have nDa : Dn ≠ a := fun q => hna (by rw [← q]; exact hD)
    rcases hb with ⟨hb, hba⟩ | rfl
    · rw [if_neg hba] at z
      cases q : H1 b with
      | none => exact (W.next st).fresh q hb
      | some o =>
        rcases NU.em (u := W.u) (b := b) with hu | ⟨r, hr, rfl⟩
        · rw [k b o q hba hu] at z; cases z
        · obtain ⟨⟨_, h1⟩, _⟩ := hg.there hr
          rw [h1] at z; cases z
    · rw [if_neg nDa] at z
      exact hD2 z
  fr := fun b o e0 _ => by
    have e : (if b = a then none else H2 b) = some o := e0
    by_cases q : b = a
    · rw [if_pos q] at e; cases e
    · rw [if_neg q] at e; exact e
  good := hg
  len := by unfold inEnv; rw [List.length_set, wipeE_len, List.length_map, wipe_length]; exact W.len
  sl := fun i s e => by
    have xa : W.XB a := .inr ⟨i0, _, he, rfl, hsi⟩
    have sub : ∀ b, XBof (fun b => (W.XB b ∧ b ≠ a) ∨ b = Dn) ((inEnv W.env vs).set i0 (.slf a dx cid fs)) (wipe σ vs) b → W.XB b ∨ b = Dn := fun b hb => by
      rcases hb with (hb | hb) | ⟨j, t, e1, m1, e2⟩
      · exact .inl hb.1
      · exact .inr hb
      · by_cases hj : i0 = j
        · subst hj
          rw [wipe_get, if_neg (fun z => hv z.1), hsi] at e2
          cases e2
          exact .inl xa
        · rw [List.getElem?_set_ne hj] at e1
          exact (inEnv_noown e1 m1).elim
    by_cases hj : i0 = i
    · subst hj
      have hil : i0 < (inEnv W.env vs).length := by
        unfold inEnv; rw [wipeE_len, List.length_map]; exact (List.getElem?_eq_some_iff.mp he).1
      rw [List.getElem?_set_self hil] at e
      cases e
      rw [wipe_get, if_neg (fun z => hv z.1), hsi]
      exact ⟨xs, rfl, if_pos rfl, ha, hl, hd.fewer sub⟩
    · rw [List.getElem?_set_ne hj] at e
      rcases inEnv_get e with z | ⟨hi, s', h1, z⟩
      · subst z; trivial
      · subst z
        have so := (W.next st).sl i s' h1
        have ew : (wipe σ vs)[i]? = σ[i]? := by rw [wipe_get, if_neg (fun z => hi z.1)]
        rw [ew]
        cases s' with
        | emp => trivial
        | own a ds => trivial
        | slf a dx c ds => trivial
        | obj a o => trivial
        | dic a ks ds => trivial
        | val d =>
          obtain ⟨x, e1, e2⟩ := so
          refine ⟨x, e1, ?_⟩
          have e2' : Den G W.XB H1 d x := e2
          refine Den.keep (fun b o nb hb => k b o hb (fun z => nb (by rw [z]; exact xa)) (W.nuX nb)) (fun b hb => ?_) d x e2'
          · rcases sub b hb with q | rfl
            · exact .inl q
            · exact .inr hD
  nd := fun i j b s t h1 h2 m1 m2 _ _ => by
    have key : ∀ {i : Nat} {s : Sl}, ((inEnv W.env vs).set i0 (.slf a dx cid fs))[i]? = some s → s.mine = true → i = i0 := fun {i s} e m => by
      by_cases hj : i0 = i
      · exact hj.symm
      · rw [List.getElem?_set_ne hj] at e
        exact (inEnv_noown e m).elim
    rw [key h1 m1, key h2 m2]
  exc := fun _ _ _ _ _ _ _ z => z.elim
/-- what stands between two turns -/
structure AccM (G : Gd) {E : XK} {σ : List (Option V)} {H : Hp} (W : Wd G E σ H) (H1 : Hp) (D0 a dx : Addr) (cid b : Nat) (H2 : Hp) (acc fs : List D) : Prop where
  at_ : ∃ xs, H2 D0 = some (.lst xs) ∧ xs.length ≤ sizeLine ∧ DenL G (fun a => W.XB a ∨ a = D0) H2 acc xs
  own : ∃ ys, H2 a = some (.ins (G.cl cid) dx ((G.fl cid).zip ys)) ∧ ys.length = (G.fl cid).length ∧ DenL G (fun a => W.XB a ∨ a = D0) H2 fs ys
  keep : ∀ b o, H1 b = some o → b ≠ a → NU W.u b → H2 b = some o
  good : Good W.u H2 b
theorem lift_compM {ci ce i0 : Nat} {ti : DA} {t : DG} {te : DT2} {vs sl : List Nat} (hsl : ∀ i ∈ sl, i ∈ vs) (hv : i0 ∉ vs) {Q' : VK} (h : lift2 G E (ci + 16777216 * ce) (d2Comp G i0 vs ti t te) σ H Q') :
    tLc (liftI G E ci ti) (liftG G E0 sl t) (liftB G E0 0 bYes) (lift2 G E0 ce te) vs σ H Q' := by
  obtain ⟨W, hn, Q, ⟨a, dx, cid, fs0, he, hfl0, ht⟩, k⟩ := h
  refine ⟨W, by omega, _, ht, fun J H1 ds st wk hq => ?_⟩
  intro D0 hD
  have hlen : ds.length ≤ 16777216 := by have := wk.len; rw [sizeLine_eq] at this; exact this
  have fr0 : ¬ W.XB D0 := (W.next st).fresh hD
  obtain ⟨ys0, hsi, hat, hl0, hy0⟩ := lift_slf he
  obtain ⟨h0, _⟩ := W.mine_at he rfl hsi
  have nB : ¬ W.B a := W.own_ne h0
  have xa : W.XB a := .inr ⟨i0, _, he, rfl, hsi⟩
  have una : NU W.u a := lend_un W h0
  have ha1 : H1 a = some (.ins (G.cl cid) dx ((G.fl cid).zip ys0)) := st.ext a _ hat una
  have nDa : D0 ≠ a := fun q => by rw [← q, hD] at ha1; cases ha1
  have hy1 : DenL G W.XB H1 fs0 ys0 := hy0.ext st.ext W.huX
  have nu0 : NU W.u D0 := W.nuX fr0
  refine ⟨fun i m H2 => ∃ acc fs, AccM G W H1 D0 a dx cid (W.n - ci - i * ce) H2 acc fs ∧ acc.length ≤ i ∧ i ≤ ds.length ∧ m = ds.length - i ∧ fs.length = (G.fl cid).length ∧ compM G t te i0 a dx cid (fun rs fs' => Q (.lst rs) (W.env.set i0 (.slf a dx cid fs'))) (inEnv W.env vs) (ds.drop i) acc fs,
    ⟨ds.length, [], fs0, ⟨⟨[], upd_same, by simp, rfl⟩, ⟨ys0, by rw [upd_ne (Ne.symm nDa)]; exact ha1, by rw [← hy0.length]; exact hfl0, ?_⟩, fun b o hb _ _ => by rw [upd_ne (ne_of_none hb hD)]; exact hb, ?_⟩, Nat.le_refl _, Nat.zero_le _, rfl, hfl0, hq⟩, ?_⟩
  · exact DenL.keep (fun b o nb e => by rw [upd_ne (ne_of_none e hD)]; exact e) (fun b hb => hb.imp id fun z => by rw [z]; exact hD) _ _ hy1
  · have g := st.good
    rw [Nat.zero_mul, Nat.sub_zero]
    exact g.ext (Ext.new hD)
  rintro i m H2 ⟨acc, fs, A, hacc, hi, rfl, hfl, hq2⟩
  obtain ⟨xs, hxs, hxl, hxd⟩ := A.at_
  obtain ⟨ys, hys, hyl, hyd⟩ := A.own
  have keepX : ∀ b o, ¬ W.XB b → H1 b = some o → H2 b = some o := fun b o nb hb => A.keep b o hb (fun z => nb (by rw [z]; exact xa)) (W.nuX nb)
  by_cases hlt : i < ds.length
  · have hmul : (i + 1) * ce ≤ 16777216 * ce := Nat.mul_le_mul_right _ (by omega)
    have hmul2 : (i + 1) * ce = i * ce + ce := by rw [Nat.add_mul, Nat.one_mul]
    obtain ⟨go, yl⟩ := wk.go i H2 (fun a => W.XB a ∨ a = D0) keepX (fun b hb => by
      rcases hb with hb | rfl
      · exact .inl hb
      · exact .inr hD) (fun p hp hb => by
      rcases hb with hb | rfl
      · cases q : H1 p with
        | none => exact (W.next st).fresh q hb
        | some o =>
          rcases NU.em (u := W.u) (b := p) with hu | ⟨r, hr, rfl⟩
          · by_cases hpa : p = a
            · rw [hpa, hys] at hp; cases hp
            · rw [A.keep p o q hpa hu] at hp; cases hp
          · obtain ⟨⟨_, h1⟩, _⟩ := A.good.there hr
            rw [h1] at hp; cases hp
      · rw [hxs] at hp; cases hp) hlt
    refine .inr ⟨go, fun H5 => ∃ acc2 fs2, AccM G W H1 D0 a dx cid (W.n - ci - (i + 1) * ce) H5 acc2 fs2 ∧ acc2.length ≤ i + 1 ∧ fs2.length = (G.fl cid).length ∧ compM G t te i0 a dx cid (fun rs fs' => Q (.lst rs) (W.env.set i0 (.slf a dx cid fs'))) (inEnv W.env vs) (ds.drop (i + 1)) acc2 fs2,
      fun H5 ⟨acc2, fs2, a2, l2, f2, q2⟩ => ⟨ds.length - (i + 1), by omega, acc2, fs2, a2, l2, hlt, rfl, f2, q2⟩, fun x H3 hy => ?_⟩
    obtain ⟨ex2, d, hd, hden⟩ := yl x H3 hy
    rw [drop_cons hd] at hq2
    have hD3 : H3 D0 = some (.lst xs) := ex2 _ _ hxs NU.none
    have ha3 : H3 a = some (.ins (G.cl cid) dx ((G.fl cid).zip ys)) := ex2 _ _ hys NU.none
    have hy3 : DenL G (fun a => W.XB a ∨ a = D0) H3 fs ys := hyd.ext (u := none) ex2 (fun _ z => z.none.elim)
    have k3 : ∀ b o, H1 b = some o → b ≠ a → NU W.u b → H3 b = some o := fun b o hb na nu => ex2 _ _ (A.keep b o hb na nu) NU.none
    let W3 : Wd G E0 (wipe σ vs) H3 := W.innerM st vs D0 H3 (W.n - ci - i * ce) hD (by rw [hD3]; simp) he hsi hv k3 (A.good.ext ex2) ha3 (Nat.le_of_eq hyl) hy3 (by rw [ha1]; simp)
    have sub3 : ∀ b, W3.XB b → W.XB b ∨ b = D0 := fun b hb => by
      rcases hb with (hb | hb) | ⟨j, s, e1, m1, e2⟩
      · exact .inl hb.1
      · exact .inr hb
      · by_cases hj : i0 = j
        · subst hj
          rw [wipe_get, if_neg (fun z => hv z.1), hsi] at e2
          cases e2
          exact .inl xa
        · have e1' : ((inEnv W.env vs).set i0 (.slf a dx cid fs))[j]? = some s := e1
          rw [List.getElem?_set_ne hj] at e1'
          exact (inEnv_noown e1' m1).elim
    have hden3 : Den G W3.XB H3 d x := hden.fewer sub3
    refine ⟨W3, d, _, hden3, hq2, fun σ4 W4 al hsl4 hq4 => ⟨wipe_same hsl hsl4.1 (by rw [hsl4.2, wipe_length]), ?_⟩⟩
    have l4 := al.later
    have n4 : W4.n = W.n - ci - i * ce := al.n
    have m4 : W4.m = W.m := l4.m
    have u4 : W4.u = W.u := l4.u
    have B4 : W4.B = fun b => (W.XB b ∧ b ≠ a) ∨ b = D0 := l4.B
    have H04 : W4.H0 = fun b => if b = a then none else H3 b := l4.H0
    have s4 : σ4[i0]? = some (some (.ref a)) := by rw [hsl4.1 i0 (fun z => hv (hsl i0 z)), wipe_get, if_neg (fun z => hv z.1)]; exact hsi
    refine ⟨W4, by rw [n4, m4]; omega, fun b => b = true, rfl, fun b H5 st5 hb => ?_⟩
    subst hb
    show lift2 G E0 ce te σ4 H5 _
    have e5 : Ext W.u H3 H5 := by have z := st5.ext; rw [u4] at z; exact z
    refine ⟨W4.next st5, by show W4.m + ce ≤ W4.n - 0; rw [n4, m4]; omega, _, by rw [show (W4.next st5).ex = noX from l4.ex]; exact hq4, fun y H6 e6 W5 lt hy6 hq5 => ?_⟩
    obtain ⟨fs', he5, hfl5, hq6⟩ := hq5
    have u5 : W5.u = W.u := lt.u.trans u4
    have B5 : W5.B = fun b => (W.XB b ∧ b ≠ a) ∨ b = D0 := lt.B.trans B4
    have H05 : W5.H0 = fun b => if b = a then none else H3 b := lt.H0.trans H04
    have k6 : ∀ b o, H3 b = some o → b ≠ a → NU W.u b → H6 b = some o := fun b o hb na nu => W5.fr b o (by rw [H05]; show (if b = a then none else H3 b) = some o; rw [if_neg na]; exact hb) (by rw [u5]; exact nu)
    have x5 : ∀ b, (W.XB b ∨ b = D0) → W5.XB b := fun b hb => by
      by_cases q : b = a
      · exact .inr ⟨i0, _, he5, rfl, by rw [q]; exact s4⟩
      · exact .inl (by rw [B5]; exact hb.imp (fun z => ⟨z, q⟩) id)
    obtain ⟨ys6, hs6, ha6, hl6, hd6⟩ := lift_slf he5
    have ey6 : ys6.length = (G.fl cid).length := by rw [← hd6.length]; exact hfl5
    have g6 : Good W.u H6 (W.n - ci - i * ce - ce) := by
      have z := W5.good
      rw [u5] at z
      refine z.less ?_
      have := lt.n
      have h2 : (W4.next st5).n = W4.n - 0 := rfl
      rw [h2, n4] at this
      omega
    have hD6 : H6 D0 = some (.lst xs) := k6 _ _ hD3 nDa nu0
    have hxl2 : xs.length < sizeLine := by have := hxd.length; rw [sizeLine_eq]; omega
    have dacc : DenL G (fun a => W.XB a ∨ a = D0) H6 acc xs := by
      have z : DenL G (fun a => W.XB a ∨ a = D0) H3 acc xs := hxd.ext (u := none) ex2 (fun _ z => z.none.elim)
      exact DenL.keep (fun b o nb e => k6 b o e (fun z => nb (.inl (by rw [z]; exact xa))) (W.nuX fun q => nb (.inl q))) (fun b hb => .inl hb) _ _ z
    have dy : Den G (fun a => W.XB a ∨ a = D0) H6 e6 y := hy6.fewer x5
    have kk : ∀ b o, ¬ (W.XB b ∨ b = D0) → H6 b = some o → upd H6 D0 (.lst (xs ++ [y])) b = some o := fun b o nb hb => by rw [upd_ne (fun z => nb (.inr z))]; exact hb
    refine ⟨xs, hD6, hxl2, acc ++ [e6], fs', ⟨⟨xs ++ [y], upd_same, by rw [List.length_append]; exact hxl2, ?_⟩, ⟨ys6, by rw [upd_ne (Ne.symm nDa)]; exact ha6, ey6, DenL.keep kk (fun b hb => .inl hb) _ _ (hd6.fewer x5)⟩, fun b o hb na nu => ?_, ?_⟩, by rw [List.length_append]; simp; omega, hfl5, hq6⟩
    · exact (DenL.keep kk (fun b hb => .inl hb) _ _ dacc).append ⟨y, [], rfl, Den.keep kk (fun b hb => .inl hb) _ _ dy, rfl⟩
    · rw [upd_ne (ne_of_none hb hD)]
      exact k6 _ _ (k3 b o hb na nu) na nu
    · refine (g6.upd (fun p e => ⟨fun z => fr0 (by rw [show D0 = p.1 from z]; exact W.huX p e), fun z => fr0 (by rw [show D0 = p.2 from z]; exact .inl (W.hu p e).2)⟩) (fun φ z => by rw [hD6] at z; cases z)).less (by omega)
  · have e : i = ds.length := by omega
    have hmul : i * ce ≤ 16777216 * ce := Nat.mul_le_mul_right _ (by omega)
    rw [e, List.drop_length] at hq2
    obtain ⟨W', l1, l2, l3⟩ := wd_after (c := ci + 16777216 * ce) W (i := i0) (fs' := fs) he hsi (by omega) (fun b o hb na nu => A.keep b o (st.ext b o hb nu) na nu) (A.good.less (by omega)) hys hyl (hyd.fewer fun b z => .inl z)
    have hden : Den G W'.XB H2 (.lst acc) (.ref D0) := ⟨D0, xs, rfl, fun z => fr0 (l3 D0 z), hxs, hxl, hxd.fewer fun b z => .inl (l3 b z)⟩
    have hq3 : Q (.lst acc) W'.env := by rw [l2]; exact hq2
    exact .inl ⟨wk.stop i H2 keepX (by omega), k (.ref D0) H2 (.lst acc) W' l1 hden hq3⟩
theorem d2_comp {elt iter : Expr} {scope : Scope} {own : List (Str × Nat)} {pos : Pos} {ci ce i0 : Nat} {ti : DA} {t : DG} {te : DT2} {sl : List Nat} {k : Nat} (xk : Xk G E k X) (hN : X.N.Nodup) (hi : DI G E X tg ci iter ti) (ok : BlkOk X.N X.env.scope scope own)
    (hg : ∀ (s : Shared) (H : Hp) (C : Addr) (cl : List (Str × Addr)) (fp : List Addr), DTg G E0 (X.blk s H scope (compEnvC scope cl C X.env) fp) tg sl t)
    (he : ∀ (s : Shared) (H : Hp) (C : Addr) (cl : List (Str × Addr)) (fp : List Addr), DE2 G E0 (X.blk s H scope (compEnvC scope cl C X.env) fp) ce elt te) (hsl : ∀ i ∈ sl, i ∈ own.map (·.2)) (hv : i0 ∉ own.map (·.2)) (hs : ∀ x, foldedSetIterable iter X.env x = pure x := by intro _; rfl) :
    DE2 G E X (ci + 16777216 * ce) (.ListComp elt [⟨tg, iter, [], 0⟩] scope pos) (d2Comp G i0 (own.map (·.2)) ti t te) :=
  imp (pe_lc xk.calm hN hi ok hg (fun s H C cl fp => dts_nil) he hs) fun _ _ _ h => lift_compM hsl hv h
/-- x = [..] -/
theorem ds2_setComp {i : Nat} {y : Str} {py : Pos} {elt iter : Expr} {scope : Scope} {own : List (Str × Nat)} {pos spos : Pos} {ci ce i0 : Nat} {ti : DA} {t : DG} {te : DT2} {sl : List Nat} {k : Nat} (xk : Xk G E k X) (hN : X.N.Nodup) (hy : X.N[i]? = some y) (hyl : X.env.scope.names.lookup y = some .local)
    (hsw : swapsWith (.ListComp elt [⟨tg, iter, [], 0⟩] scope pos) (some (.Name y py)) spos.line X.env = pure true) (hi : DI G E X tg ci iter ti) (ok : BlkOk X.N X.env.scope scope own)
    (hg : ∀ (s : Shared) (H : Hp) (C : Addr) (cl : List (Str × Addr)) (fp : List Addr), DTg G E0 (X.blk s H scope (compEnvC scope cl C X.env) fp) tg sl t)
    (he : ∀ (s : Shared) (H : Hp) (C : Addr) (cl : List (Str × Addr)) (fp : List Addr), DE2 G E0 (X.blk s H scope (compEnvC scope cl C X.env) fp) ce elt te) (hsl : ∀ i ∈ sl, i ∈ own.map (·.2)) (hv : i0 ∉ own.map (·.2)) (hs : ∀ x, foldedSetIterable iter X.env x = pure x := by intro _; rfl) :
    DSt G E X (ci + 16777216 * ce) (.Assign [.Name y py] (.ListComp elt [⟨tg, iter, [], 0⟩] scope pos) spos) (s2Set i (d2Comp G i0 (own.map (·.2)) ti t te)) :=
  impS (ps_setLc xk.calm hN hy hyl hsw hi ok hg (fun s H C cl fp => dts_nil) he hs) fun Dn σ H h => by
    obtain ⟨W, hn, de, hq, k1, k2, k3, k4⟩ := h
    refine lift_compM (Q' := fun v H' => gName i v σ H' Dn.nx) hsl hv ⟨W, hn, _, hq, fun v H' d W' lt hd hr => ?_⟩
    exact k1 _ H' (W'.put i hd) ((lt.trans (Later.put W' i hd)).more (by omega)) hr
end
end Kn

set_option Elab.async false
set_option linter.all false
set_option maxRecDepth 100000
set_option maxHeartbeats 2100000
namespace Kn
open PySem L2 RZ
section
variable {G : Gd} {E : XK} {X : Cx} {σ : List (Option V)} {H H' : Hp} {k : Nat}
/-! ### sets of texts of the frame's own -/
theorem wd_ownO (W : Wd G E σ H) {c : Nat} {H2 : Hp} (st : Step W c H2) {i : Nat} {p : Addr} {o : HO} (hp : H p = none) (h2 : H2 p = some o) (hc : ∀ q, o ≠ LamX.CodeO p q) :
    ∃ W' : Wd G E (σ.set i (some (.ref p))) H2, Later W c W' ∧ W'.env = W.env.set i (.obj p o) := by
  have fr0 : ¬ W.XB p := W.fresh hp
  have h0 : W.H0 p = none := by
    cases q : W.H0 p with
    | none => rfl
    | some o =>
      exfalso
      rw [W.fr p o q (W.nuX fr0)] at hp; cases hp
  have npo : ∀ {j : Nat} {s : Sl} {b : Addr}, W.env[j]? = some s → s.mine = true → σ[j]? = some (some (.ref b)) → b ≠ p := fun {j s b} e hm es z => by
    obtain ⟨_, o, ho⟩ := W.mine_at e hm es
    rw [z, hp] at ho; cases ho
  have xb : ∀ b, XBof W.B (W.env.set i (.obj p o)) (σ.set i (some (.ref p))) b → W.XB b ∨ b = p := fun b hb => by
    rcases hb with hb | ⟨j, s, e1, m1, e2⟩
    · exact .inl (.inl hb)
    · by_cases hj : i = j
      · subst hj
        by_cases hi : i < σ.length
        · rw [List.getElem?_set_self hi] at e2; cases e2; exact .inr rfl
        · rw [List.getElem?_eq_none (by rw [List.length_set]; omega)] at e2; cases e2
      · rw [List.getElem?_set_ne hj] at e1 e2
        exact .inl (.inr ⟨j, s, e1, m1, e2⟩)
  have sp : ∀ b, XBof W.B (W.env.set i (.obj p o)) (σ.set i (some (.ref p))) b → W.XB b ∨ H b = none := fun b hb => (xb b hb).imp id fun z => by rw [z]; exact hp
  have dk : ∀ {d : D} {v : V}, Den G W.XB H d v → Den G (XBof W.B (W.env.set i (.obj p o)) (σ.set i (some (.ref p)))) H2 d v := fun {d v} h => Den.keep (fun b o nb e => st.keep nb e) sp d v h
  have dkl : ∀ {es : List D} {ys : List V}, DenL G W.XB H es ys → DenL G (XBof W.B (W.env.set i (.obj p o)) (σ.set i (some (.ref p)))) H2 es ys := fun {es ys} h => DenL.keep (fun b o nb e => st.keep nb e) sp es ys h
  have own_st : ∀ {j : Nat} {s : Sl} {b : Addr} {o : HO}, W.env[j]? = some s → s.mine = true → σ[j]? = some (some (.ref b)) → H b = some o → H2 b = some o := fun {j s b o} e hm es ho => st.ext b o ho (lend_un W (W.mine_at e hm es).1)
  refine ⟨{ u := W.u, n := W.n - c, m := W.m, B := W.B, H0 := W.H0, env := W.env.set i (.obj p o), ex := W.ex, ug := W.ug, hu := W.hu, hB := W.hB, fr := W.fr.trans st.ext, good := st.good, len := by rw [List.length_set, List.length_set]; exact W.len, sl := fun j s e => ?_, nd := fun j l b s t e1 e2 m1 m2 e3 e4 => ?_, exc := W.exc },
    ⟨rfl, rfl, rfl, rfl, rfl, by show W.n ≤ W.n - c + c; omega, fun b o nb e => st.keep nb e, sp⟩, rfl⟩
  · by_cases hj : i = j
    · subst hj
      by_cases hi : i < W.env.length
      · rw [List.getElem?_set_self hi] at e
        cases e
        rw [getD_set, if_pos ⟨rfl, by rw [← W.len]; exact hi⟩]
        exact ⟨rfl, h0, h2, hc⟩
      · rw [List.getElem?_eq_none (by simpa using hi)] at e; cases e
    · rw [List.getElem?_set_ne hj] at e
      rw [getD_set, if_neg (fun z => hj z.1)]
      have z := W.sl j s e
      cases s with
      | emp => trivial
      | val d => obtain ⟨x, e1, e2⟩ := z; exact ⟨x, e1, dk e2⟩
      | own b es => obtain ⟨ys, e1, e2, e3, e4, e5⟩ := z; exact ⟨ys, e1, e2, own_st e rfl (join_some e1) e3, e4, dkl e5⟩
      | slf b dx cc es => obtain ⟨ys, e1, e2, e3, e4, e5⟩ := z; exact ⟨ys, e1, e2, own_st e rfl (join_some e1) e3, e4, dkl e5⟩
      | obj b o => obtain ⟨e1, e2, e3, e4⟩ := z; exact ⟨e1, e2, own_st e rfl (join_some e1) e3, e4⟩
      | dic b ks es => obtain ⟨L, e1, e2, e3, e4, e5, e6⟩ := z; exact ⟨L, e1, e2, own_st e rfl (join_some e1) e3, e4, e5.by dk, dkl e6⟩
  · by_cases hj : i = j
    · by_cases hlk : i = l
      · exact hj.symm.trans hlk
      · subst hj
        exfalso
        rw [List.getElem?_set_ne hlk] at e2 e4
        have hi : i < σ.length := by
          by_cases q : i < σ.length
          · exact q
          · rw [List.getElem?_eq_none (by rw [List.length_set]; omega)] at e3; cases e3
        rw [List.getElem?_set_self hi] at e3
        cases e3
        exact npo e2 m2 e4 rfl
    · rw [List.getElem?_set_ne hj] at e1 e3
      by_cases hlk : i = l
      · subst hlk
        exfalso
        have hi : i < σ.length := by
          by_cases q : i < σ.length
          · exact q
          · rw [List.getElem?_eq_none (by rw [List.length_set]; omega)] at e4; cases e4
        rw [List.getElem?_set_self hi] at e4
        cases e4
        exact npo e1 m1 e3 rfl
      · rw [List.getElem?_set_ne hlk] at e2 e4
        exact W.nd j l b s t e1 e2 m1 m2 e3 e4
theorem lift_obj {i : Nat} {W : Wd G E σ H} {o : HO} {a : Addr} (he : W.env[i]? = some (.obj a o)) : σ[i]? = some (some (.ref a)) ∧ W.H0 a = none ∧ H a = some o := by
  obtain ⟨e1, e2, e3, _⟩ := W.sl i _ he
  exact ⟨join_some e1, e2, e3⟩
theorem codeO_ne_setK {P : Program} {w : World} {a : Addr} {S : Key → Bool} {n : Nat} (q : Str) : SetK P w a S n ≠ LamX.CodeO a q := fun z => by
  unfold SetK LamX.CodeO at z
  injection z with z
  let o : Obj := { cls := .none, data := .fields #[.none, .str q default] }
  let h : Heap := { objs := Array.replicate (a + 1) o }
  have hg : h.get? a = some o := by
    show (match (Array.replicate (a + 1) o)[a]? with | some ⟨_, _, .freed, _⟩ => none | o => o) = some o
    rw [Array.getElem?_replicate, if_pos (Nat.lt_succ_self a)]
  have e := congrFun z h
  have c : h.SetOf (mixKind P w) a S n := by
    rw [e]
    exact ⟨o, _, default, hg, rfl, rfl⟩
  obtain ⟨o', es, ep, t, h1, _, h2, _⟩ := c
  rw [hg] at h1
  cases h1
  cases h2
/-- x = set() -/
def sSet0 (P : Program) (w : World) (i : Nat) : DS := fun ex de env => ∀ a, de.nx (env.set i (.obj a (SetK P w a (fun _ => false) 0)))
theorem ds_set0 {P : Program} {w : World} {i : Nat} {x : Str} {p pos pos' cpos : Pos} (hN : X.N.Nodup) (hi : X.N[i]? = some x) (hx : Loc X.env.scope x) (hm : X.mg "set" = none) (hg : Gl X "set" := by rfl)
    (hs : swapsWith (.Call (.Name "set" p) [] [] cpos) (some (.Name x pos')) pos.line X.env = pure false := by rfl) (hf : X.fn x = true ∨ X.env.scope.names.lookup x = some .local := by first | exact .inl rfl | exact .inr rfl)  (hP : X.prog = P := by rfl) (hw : X.w = w := by rfl) :
    DSt G E X 0 (.Assign [.Name x pos'] (.Call (.Name "set" p) [] [] cpos) pos) (sSet0 P w i) := by
  subst hP; subst hw
  exact impS (ps_set hN hi hx (pe_callTy0 cr_set0K hg hm (by decide +kernel)) hs hf) fun Dn σ H h => by
    obtain ⟨W, hn, de, ht, k1, k2, k3, k4⟩ := h
    refine ⟨rfl, fun p hp => ?_⟩
    obtain ⟨W', l1, l2⟩ := wd_ownO W (c := 0) ((Step.refl W).new hp) (i := i) hp upd_same (codeO_ne_setK ·)
    exact k1 _ _ W' l1 (by rw [l2]; exact ht p)
/-- e in x -/
def bSin (P : Program) (w : World) (i : Nat) (te : DT) : DB := fun ex env Q => ∃ a S n, env[i]? = some (.obj a (SetK P w a S n)) ∧ te ex env fun d => ∃ t : Str, d = .str t ∧ Q (S (.inr t))
theorem dt_sin {P : Program} {w : World} {i : Nat} {x : Str} {e : Expr} {p pos : Pos} {c : Nat} {te : DT} (hN : X.N[i]? = some x) (he : DE G E X c e te) (hm : behindInMarks .In (.Name x p) = false := by rfl) (hv : Vis X.env.scope x := by first | exact Or.inl rfl | exact Or.inr (Or.inl rfl) | exact Or.inr (Or.inr rfl))
    (hd : (x == ("__debug__" : Str)) = false := by decide) (hcd : (x == ("__classdict__" : Str)) = false := by decide) (hP : X.prog = P := by rfl) (hw : X.w = w := by rfl) : DPt G E X c (.Compare e [.In] [.Name x p] pos) (bSin P w i te) := by
  subst hP; subst hw
  exact impT (pt_cmpR or_sinK he (pe_var (i := i) hN hv hd hcd) hm) fun σ H Q' h => by
    obtain ⟨W, hn, Q, ⟨a, S, n, hei, ht⟩, kk⟩ := h
    obtain ⟨hsi, h0, ha⟩ := lift_obj hei
    refine ⟨W, hn, _, ht, fun v H1 d st hd ⟨t, e, hq⟩ => ?_⟩
    subst e
    cases hd
    have ha1 : H1 a = some (SetK X.prog X.w a S n) := st.ext a _ ha (lend_un W h0)
    exact ⟨.ref a, hsi, .inr t, a, S, n, rfl, rfl, ha1, _, rfl, kk _ H1 st hq⟩
/-- x.add(e) -/
def sSadd (P : Program) (w : World) (i : Nat) (te : DT) : DS := fun ex de env => ∃ a S n, env[i]? = some (.obj a (SetK P w a S n)) ∧ te ex env fun d => ∃ t : Str, d = .str t ∧ n + 1 < scanBound ∧ de.nx (env.set i (.obj a (SetK P w a (fun j => S j || decide (j = .inr t)) (if S (.inr t) = true then n else n + 1))))
theorem ds_sadd {P : Program} {w : World} {i : Nat} {x : Str} {e : Expr} {pos p apos cpos : Pos} {c : Nat} {te : DT} (hN : X.N[i]? = some x) (he : DE G E X c e te) (hv : Vis X.env.scope x := by first | exact Or.inl rfl | exact Or.inr (Or.inl rfl) | exact Or.inr (Or.inr rfl)) (hd : (x == ("__debug__" : Str)) = false := by decide) (hcd : (x == ("__classdict__" : Str)) = false := by decide)
    (hbase : attributeBase (.Name x p) "add" X.env (eval (.Name x p) X.env) = eval (.Name x p) X.env := by rfl)
    (hfew : ((backTo cpos (starEach [e] X.env)).all (fun x => !x.1) && (backToKw cpos (keywordEach [] X.env)).all (fun x => x.1.isSome) && decide (([e] : List Expr).length + ([] : List Keyword).length + (if ([] : List Keyword).isEmpty then 0 else 1) < 30)) = true := by rfl)
    (hline : (apos.endLine == cpos.line) = true := by rfl) (hs : starEach [e] X.env = (false, eval e X.env) :: starEach [] X.env := by rfl) (hplain : (backTo cpos (starEach [] X.env)).any (·.1) = false := by rfl)
    (hsw : swapsWith (.Call (.Attribute (.Name x p) "add" apos) [e] [] cpos) none pos.line X.env = pure false := by rfl) (hP : X.prog = P := by rfl) (hw : X.w = w := by rfl) : DSt G E X c (.Expr (.Call (.Attribute (.Name x p) "add" apos) [e] [] cpos) pos) (sSadd P w i te) := by
  subst hP; subst hw
  exact impS (ps_expr (pe_saddK (pe_var (i := i) hN hv hd hcd) (pa_cons he pa_nil hs) hbase hfew hline hs hplain) hsw) fun Dn σ H h => by
    obtain ⟨W, hn, de, ⟨a, S, n, hei, ht⟩, k1, k2, k3, k4⟩ := h
    obtain ⟨hsi, h0, ha⟩ := lift_obj hei
    refine ⟨.ref a, hsi, ⟨a, S, n, rfl, ha⟩, W, hn, _, ht, fun v H1 d st hdv ⟨t, ed, hlt, hq⟩ => ?_⟩
    subst ed
    cases hdv
    have ha1 : H1 a = some (SetK X.prog X.w a S n) := st.ext a _ ha (lend_un W h0)
    have hei1 : (W.next st).env[i]? = some (.obj a (SetK X.prog X.w a S n)) := hei
    obtain ⟨W', l1, l2, l3⟩ := wd_mut (o1 := SetK X.prog X.w a (fun j => S j || decide (j = .inr t)) (if S (.inr t) = true then n else n + 1)) (s1 := .obj a (SetK X.prog X.w a (fun j => S j || decide (j = .inr t)) (if S (.inr t) = true then n else n + 1))) (W.next st) hei1 rfl hsi rfl ⟨rfl, h0, upd_same, codeO_ne_setK⟩
    exact ⟨a, .inr t, S, n, rfl, rfl, ha1, hlt, k1 σ _ W' (((Later.next st).trans l1).more (by omega)) (by rw [l2]; exact hq)⟩
end
end Kn

set_option Elab.async false
set_option linter.all false
set_option maxRecDepth 100000
set_option maxHeartbeats 2100000
namespace Kn
open PySem L2 RZ
section
variable {G : Gd} {E : XK} {X : Cx} {σ : List (Option V)} {H H' : Hp} {k : Nat}
/-- t.index(i), t a tuple of ints that holds it -/
theorem mt_tindexI : MtR X "tuple.index" (fun x xs H Q => ∃ p, ∃ ns : List Int, ∃ z j, x = .ref p ∧ xs = [.int z] ∧ SqT X.K H p (ns.map V.int) ∧ ns[j]? = some z ∧ (∀ m, m < j → ns[m]? ≠ some z) ∧ Q (.int (j : Nat)) H) := by
  intro pins s σ H x xs v us Q I rx rs hh
  obtain ⟨l, ns, z, j, rfl, rfl, tup, hz, first, q⟩ := hh
  cases rx
  obtain ⟨w0, rfl, tk, rfl⟩ := vals1 rs
  obtain ⟨its, rel, pl, lim⟩ := I.tuple tup
  obtain ⟨⟨cc, dd, data, slots⟩, look, c1, m, c2⟩ := pl
  simp only at c1 c2
  subst c1
  subst c2
  have size : its.toArray.size = ns.length := by
    have len := rel.length
    rw [List.length_map] at len
    rw [List.size_toArray]
    exact len.symm
  have inside : j < its.toArray.size := size ▸ (List.getElem?_eq_some_iff.mp hz).1
  have plain : (ns.map V.int).all flatV = true := List.all_eq_true.mpr fun y hy => by
    obtain ⟨i, _, rfl⟩ := List.mem_map.mp hy
    rfl
  have item : ∀ (i : Nat) (hi : i < its.toArray.size), ∃ (y : Int) (t' : Tok), ns[i]? = some y ∧ its.toArray[i] = Value.int y t' := fun i hi => by
    have hn : i < ns.length := size ▸ hi
    obtain ⟨w1, e1, t', e2⟩ := rel.get (i := i) (x := .int ns[i]) (by rw [List.getElem?_map, List.getElem?_eq_getElem hn]; rfl)
    obtain ⟨_, e3⟩ := List.getElem?_eq_some_iff.mp e1
    exact ⟨ns[i], t', List.getElem?_eq_getElem hn, by rw [← e2, ← e3]; simp⟩
  have go := TI.tuple_indexAt l its.toArray m dd slots (.int z tk) (eqU (.int z)) j inside (by
    obtain ⟨y, t', h1, h2⟩ := item j inside
    rw [h2]
    cases hz.symm.trans h1
    exact beq_self_eq_true (a := z)) (fun i hi below => by
    obtain ⟨y, t', h1, h2⟩ := item i hi
    rw [h2]
    have other : y ≠ z := fun e => first i below (e ▸ h1)
    show (y == z) = false
    simpa using other)
  exact call_meets PySem.F.slot_tuple_index ⟨_, look, rfl⟩ PySem.F.entry_tuple_index (PySem.F.args_tuple_index_2 _ _) go ⟨look, fun u hu => mem_eqAt (x := .int z) ⟨tk, rfl⟩ rfl rel plain u (by simpa using hu), ⟨.int (j : Nat), H, I.tok _, ⟨_, rfl⟩, q⟩⟩
/-- the place of i in a row -/
def AtFirst (ns : List Int) (z : Int) (j : Nat) : Prop := ns[j]? = some z ∧ ∀ m, m < j → ns[m]? ≠ some z
end
end Kn

set_option Elab.async false
set_option linter.all false
set_option maxRecDepth 100000
set_option maxHeartbeats 2100000
namespace Kn
open PySem L2 RZ PyProof.Rows
section
variable {G : Gd} {E : XK} {X : Cx} {σ : List (Option V)} {H H' : Hp} {k : Nat}
/-! ### tuples that are known to have no dict: their methods -/
/-- tuple(l), l a list: what is made is known -/
theorem call_tupleN : CallR X (.type "tuple") (fun xs H Q => ∃ p ys, xs = [.ref p] ∧ SqL X.K H p ys ∧ ∀ l o, H l = none → o.cls = .type "tuple" → o.dict = none → Q (.ref l) (upd H l (.frz o (.tup ys)))) := by
  intro pins s σ H xs us Q I r h; obtain ⟨p, ys, rfl, hq, q⟩ := h
  obtain ⟨u, rfl, rx⟩ := vals1 r; cases rx
  obtain ⟨its, r', pl, hz⟩ := I.list hq
  have hlen := r'.length
  refine call_tuple_list pl.isList (fun h' kp => ?_) (by simp only [List.size_toArray] <;> omega); have I1 : Inv X pins σ H { s with heap := h' } := I.kept (t' := s.toks) kp
  have I2 : Inv X pins σ (upd H h'.objs.size (.frz { cls := .type "tuple", data := .seq its.toArray } (.tup ys))) { s with heap := h'.push { cls := .type "tuple", data := .seq its.toArray } } :=
    I1.laid (t' := s.toks) (fun b o e => Heap.get?_push_of_some _ e) (Nat.le_refl _) (show ObjOk X.prog X.w _ _ _ (.frz _ (.tup ys)) from ⟨Heap.get?_push_size _ rfl, hz, its, r', IsTup.new _ _⟩)
  exact ⟨.ref h'.objs.size, _, I2, rfl, q _ _ (I1.hok.fresh (Nat.le_refl _)) rfl rfl⟩
theorem den_tupn {B : Addr → Prop} {H : Hp} {p : Addr} {o : Obj} {ds : List D} {xs : List V} (hp : H p = none) (nb : ¬ B p) (hc : o.cls = .type "tuple") (hd : o.dict = none) (hl : xs.length ≤ sizeLine) (h : DenL G B H ds xs) : Den G B (upd H p (.frz o (.tup xs))) (.tupn ds) (.ref p) :=
  ⟨p, xs, o, rfl, nb, upd_same, hc, hd, hl, denL_upd hp h⟩
/-- it is a tuple -/
theorem Den.ofN {B : Addr → Prop} {H : Hp} {ds : List D} {v : V} (h : Den G B H (.tupn ds) v) : Den G B H (.tup ds) v := by
  obtain ⟨a, xs, o, rfl, nb, hs, _, _, hl, hd⟩ := h
  exact ⟨a, xs, rfl, .inl nb, .inl (.inr ⟨o, hs⟩), hl, hd⟩
def gTupN : D → (D → Prop) → Prop := fun d Q => ∃ ds, d = .lst ds ∧ Q (.tupn ds)
theorem c_tupleN (hK : X.K = G.K) : CallR X (.type "tuple") (rDL G (g1 gTupN)) := callr_imp call_tupleN fun xs H Q' h => by
  obtain ⟨B, d, x, Q, rfl, hd, hf, ⟨ds, rfl, hq⟩, kk⟩ := rDL1 h
  obtain ⟨a, ys, rfl, na, ha, la, da⟩ := hd
  refine ⟨a, ys, rfl, SqL.of ha, fun l o hl hc hdn => ?_⟩
  exact kk _ _ (.tupn ds) (Ext.new hl) (den_tupn hl (hf l hl) hc hdn la da) hq
/-- a name read, a known tuple as a tuple -/
def D.asT : D → D
  | .tupn ds => .tup ds
  | d => d
def dVarN (i : Nat) : DT := fun _ env Q => ∃ d, env[i]? = some (.val d) ∧ Q d.asT
theorem Den.asT {B : Addr → Prop} {H : Hp} {d : D} {v : V} (h : Den G B H d v) : Den G B H d.asT v := by
  cases d <;> first | exact h | exact Den.ofN h
theorem dvn (i : Nat) {x : Str} {pos : Pos} (hN : X.N[i]? = some x := by rfl) (hv : Vis X.env.scope x := by first | exact Or.inl rfl | exact Or.inr (Or.inl rfl) | exact Or.inr (Or.inr rfl)) (hd : (x == ("__debug__" : Str)) = false := by decide) (hcd : (x == ("__classdict__" : Str)) = false := by decide) : DE G E X 0 (.Name x pos) (dVarN i) :=
  imp (dv i hN hv hd hcd) fun σ H Q' h => by
    obtain ⟨W, hn, Q, ⟨d, he, hq⟩, kk⟩ := h
    exact ⟨W, hn, fun e => e = d, ⟨d, he, rfl⟩, fun v H' e st hd he2 => kk v H' d.asT st (by rw [← he2]; exact hd.asT) hq⟩
end
end Kn

set_option Elab.async false
set_option linter.all false
set_option maxRecDepth 100000
set_option maxHeartbeats 2100000
namespace Kn
open PySem L2 RZ PyProof.Rows
section
variable {G : Gd} {E : XK} {X : Cx} {σ : List (Option V)} {H H' : Hp} {k : Nat}
/-- a method of a tuple that is known to have no dict -/
def tBMN (r : V → List V → Hp → VK → Prop) (to : TE) (t : TA) : TE := fun σ H Q => to σ H fun x H1 => (∃ a o xs, x = .ref a ∧ H1 a = some (.frz o (.tup xs)) ∧ o.cls = .type "tuple" ∧ o.dict = none) ∧ t σ H1 fun xs H2 => r x xs H2 Q
theorem pe_bmN {o e : Expr} {es : List Expr} {to : TE} {t : TA} {name : Str} {apos cpos : Pos} {id : String} {r : V → List V → Hp → VK → Prop} (slot : Slot "tuple" name id) (hty : typeOf (.builtin id) = pure (.type "method_descriptor")) (hm : MtR X id r) (ho : PE X o to) (ha : PA X (e :: es) t)
    (hbase : attributeBase o name X.env
          (eval o X.env) = eval o X.env := by rfl)
    (hfew : ((backTo cpos (starEach (e :: es) X.env)).all (fun x => !x.1)
          && (backToKw cpos (keywordEach [] X.env)).all (fun x => x.1.isSome)
      && decide ((e :: es).length + ([] : List Keyword).length + (if ([]
            : List Keyword).isEmpty then 0 else 1) < 30)) = true := by rfl)
    (hline : (apos.endLine == cpos.line) = true := by rfl) (hs : starEach (e :: es) X.env = (false, eval e X.env)
          :: starEach es X.env := by rfl) (hplain : (backTo cpos (starEach es X.env)).any (·.1) = false := by rfl) :
    PE X (.Call (.Attribute o name apos) (e :: es) [] cpos) (tBMN r to t) := by
  constructor
  intro pins s σ H Q I h
  refine wpAny_Call_method_late hbase hfew hline rfl (thn (ho.run pins s σ H _ I h) fun v s1 ⟨x, H1, I1, r1, ty, q1⟩ => ?_); obtain ⟨a, ob, xs, rfl, hat, hc, hdn⟩ := ty
  cases r1
  obtain ⟨hget, _⟩ := I1.hok a _ hat
  refine ⟨"tuple", id, PySem.F.plainAttrs_tuple, slot, hty, ⟨ob, hget, hc⟩, fun b e2 => ?_, ?_⟩
  · cases e2
    exact ⟨ob, hget, hdn⟩
  · have hA := ha.run cpos pins s1 σ H1 _ I1 q1
    rw [hs] at hA ⊢
    refine Calls.callWith_builtin (by show (false || (backTo cpos (starEach es X.env)).any (·.1)) = false; rw [hplain] <;> rfl) (Calls.evalArgs_plain ?_); exact thn hA fun us s2 ⟨vs, H2, I2, r2, q2⟩ => hm pins s2 σ H2 (.ref a) vs (.ref a) us Q I2 rfl r2 q2
/-- x.index(e), x a row of ints: a list, or a tuple known to have no dict -/
def dIndexV (i : Nat) (tv : DT) : DT := fun ex env Q => ∃ (d : D) (ns : List Int), env[i]? = some (.val d) ∧ (d = .lst (ns.map D.int) ∨ d = .tupn (ns.map D.int)) ∧ tv ex env fun e => ∃ (z : Int) (j : Nat), e = .int z ∧ AtFirst ns z j ∧ Q (.int (j : Nat))
theorem de_indexV {i : Nat} {x : Str} {e : Expr} {p apos cpos : Pos} {c : Nat} {tv : DT} (xk : Xk G E k X) (hN : X.N[i]? = some x) (he : DE G E X c e tv) (hv : Vis X.env.scope x := by first | exact Or.inl rfl | exact Or.inr (Or.inl rfl) | exact Or.inr (Or.inr rfl)) (hd : (x == ("__debug__" : Str)) = false := by decide) (hcd : (x == ("__classdict__" : Str)) = false := by decide)
    (hbase : attributeBase (.Name x p) "index" X.env (eval (.Name x p) X.env) = eval (.Name x p) X.env := by rfl)
    (hfew : ((backTo cpos (starEach [e] X.env)).all (fun x => !x.1) && (backToKw cpos (keywordEach [] X.env)).all (fun x => x.1.isSome) && decide (([e] : List Expr).length + ([] : List Keyword).length + (if ([] : List Keyword).isEmpty then 0 else 1) < 30)) = true := by rfl)
    (hline : (apos.endLine == cpos.line) = true := by rfl) (hs : starEach [e] X.env = (false, eval e X.env) ::
          starEach [] X.env := by rfl) (hplain : (backTo cpos (starEach [] X.env)).any (·.1) = false := by rfl) :
    DE G E X c (.Call (.Attribute (.Name x p) "index" apos) [e] [] cpos) (dIndexV i tv) := by
  have p1 := pe_bm PySem.F.plainAttrs_list PySem.F.slot_list_index PySem.F.type_list_index (mt_indexD xk.u65) (pe_var (i := i) hN hv hd hcd) (pa_cons he pa_nil hs) hbase hfew hline hs hplain
  have p2 := pe_bmN PySem.F.slot_tuple_index PySem.F.type_tuple_index (mt_tindexI (X := X)) (pe_var (i := i) hN hv hd hcd) (pa_cons he pa_nil hs) hbase hfew hline hs hplain
  constructor
  intro pins s σ H Q' I h
  obtain ⟨W, hn, Q, ⟨d, ns, hei, hd, ht⟩, kk⟩ := h
  obtain ⟨x0, e0, hden⟩ := W.sl i _ hei
  have hsi := join_some e0
  rcases hd with rfl | rfl
  · obtain ⟨a, xs, rfl, na, ha, la, da⟩ := id hden
    refine p1.run pins s σ H Q' I ⟨.ref a, hsi, .inl ⟨rfl, _, SqL.of ha⟩, W, hn, _, ht, fun v H1 e st hde ⟨z, j, ee, hat, hq⟩ => ?_⟩
    subst ee
    cases hde
    have hd2 : Den G W.XB H1 (.lst (ns.map D.int)) (.ref a) := W.den st hden
    have dp : Dp X.K H1 (.ref a) (.list (ns.map PyData.int)) := by rw [xk.K]; exact Den.dp _ _ _ hd2 (by show (pdL (ns.map D.int)).map PyData.list = _; rw [pdL_int]; rfl)
    have at_ : ∀ {m : Nat} {z' : PyData}, (ns.map PyData.int)[m]? = some z' → ∃ i : Int, ns[m]? = some i ∧ z' = .int i := fun {m z'} h => by
      rw [List.getElem?_map] at h
      obtain ⟨i, h1, h2⟩ := Option.map_eq_some_iff.mp h
      exact ⟨i, h1, h2.symm⟩
    refine ⟨a, .int z, .int z, _, j, .int z, rfl, rfl, dp, .int z, ?_, shaped_int z, by rw [List.getElem?_map, hat.1]; rfl, by show (z == z) = true; exact beq_self_eq_true z, fun m z' hm hz' => ?_, kk _ H1 (.int (j : Nat)) st (den_int _) hq⟩
    · unfold SeqAt.shaped
      rw [show PyData.canLay0 (.list (ns.map PyData.int)) = PyData.canLayAll0 (ns.map PyData.int) from rfl, lay_int, Bool.true_and]
      have := depth_int ns
      exact decide_eq_true (by show PyData.depthAll (ns.map PyData.int) + 1 ≤ 64; omega)
    · obtain ⟨i, h1, rfl⟩ := at_ hz'
      show (i == z) = false
      have hne : i ≠ z := fun e => hat.2 m hm (by rw [h1, e])
      simpa using hne
  · obtain ⟨a, xs, o, rfl, na, ha, hc, hdn, la, da⟩ := id hden
    refine p2.run pins s σ H Q' I ⟨.ref a, hsi, ⟨a, o, xs, rfl, ha, hc, hdn⟩, W, hn, _, ht, fun v H1 e st hde ⟨z, j, ee, hat, hq⟩ => ?_⟩
    subst ee
    cases hde
    have hd2 : Den G W.XB H1 (.tup (ns.map D.int)) (.ref a) := Den.ofN (W.den st hden)
    obtain ⟨a2, ys, e2, nb2, hs2, hl2, hd2'⟩ := hd2
    cases e2
    rw [hd2'.ints] at hs2
    exact ⟨a, ns, z, j, rfl, rfl, by rw [xk.K]; exact hs2, hat.1, hat.2, kk _ H1 (.int (j : Nat)) st (den_int _) hq⟩
end
end Kn

set_option Elab.async false
set_option linter.all false
set_option maxRecDepth 100000
set_option maxHeartbeats 2100000
/-! K52: exceptions as values: a caught one is tracked behind its suite; isinstance, fields. -/
namespace Kn
open PySem PySem.Spec L2 RZ
open PyProof.Rows
section
variable {X : Cx} {pins : List (Addr × Obj)} {σ : List (Option V)} {H : Hp} {s : Shared}
theorem exK_ok {P : Program} {w : World} {h : Heap} {a : Addr} {cls : Value} {d : Option Addr} {oe : Obj} {vs : Array Value} (e : h.get? a = some oe) (z : Zc cls d oe) (q : oe.data = .fields vs) : ObjOk P w H h a (ExK cls d a) := by
  refine ⟨⟨oe, vs, e, z, q⟩, ⟨oe, e⟩, ?_⟩
  rintro h1 h2 ⟨o, v, q1, r⟩ k
  exact ⟨o, v, k o q1, r⟩
/-- what was pinned is tracked from now on -/
theorem inv_track {a : Addr} {oe : Obj} {o : HO} (J : Inv X ((a, oe) :: pins) σ H s) (n0 : X.s_0.heap.get? a = none) (np : ∀ p ∈ X.pn ++ pins, p.1 ≠ a) (new : ObjOk X.prog X.w (upd H a o) s.heap a o) : Inv X pins σ (upd H a o) s := by
  have me : (a, oe) ∈ X.pn ++ (a, oe) :: pins := List.mem_append_right _ List.mem_cons_self
  obtain ⟨pa, pH, pL, pF, pC⟩ := J.pin _ me
  have pa : s.heap.get? a = some oe := pa
  have pH : H a = none := pH
  have ne : ∀ {b u}, H b = some u → b ≠ a := fun {b u} e z => by
    rw [z, pH] at e; cases e
  have B := J.base
  refine { ok := J.ok, os := J.os, bare := J.bare, base := ⟨B.keep, B.slot, fun b ob e n hx => ?_, B.there, fun b xs e => ?_, fun b ob u e => ?_, fun b ps e => ?_⟩, loc := J.loc, cell := J.cell, free := ?_, freeC := fun x c e => ?_, pin := fun p hp => ?_, hok := HOk.laidN J.hok (fun _ _ e => e) pH new, len := J.len }
  · have nb : b ≠ a := fun z => by
      rw [z, n0] at e; cases e
    rw [upd_ne nb]; exact B.free b ob e n hx
  · have q := B.tups b xs e
    rw [upd_ne (ne q)]; exact q
  · have q := B.frzs b ob u e
    rw [upd_ne (ne q)]; exact q
  · obtain ⟨m, q⟩ := B.tbls b ps e
    exact ⟨m, by rw [upd_ne (ne q)]; exact q⟩
  · rw [upd_ne (Ne.symm pL)]; exact J.free
  · have nc : c ≠ a := fun z => by
      obtain ⟨v, ob, h1, h2⟩ := J.cell x c e
      rw [z, pa] at h1
      cases h1
      exact pC _ h2
    rw [upd_ne nc]; exact J.freeC x c e
  · have hp' : p ∈ X.pn ++ (a, oe) :: pins := by
      rcases List.mem_append.mp
            hp with z | z
      · exact List.mem_append_left _ z
      · exact List.mem_append_right _ (List.mem_cons_of_mem _ z)
    obtain ⟨h1, h2, h3⟩ := J.pin p hp'
    exact ⟨h1, by rw [upd_ne (np p hp)]; exact h2, h3⟩
/-- out of the suite, what the suite holds still pinned -/
theorem inv_held {a : Addr} {q : Addr × Obj} {pn' : List (Addr × Obj)} (I : Inv (X.suite a (q :: (X.pn ++ pins))) pn' σ H s) (ok : X.Ok) : Inv X (q :: pins) σ H s :=
  { ok := ok, os := I.os, bare := I.bare, base := I.base, loc := I.loc, cell := I.cell, free := I.free, freeC := I.freeC, hok := I.hok, len := I.len,
    pin := fun p hp => I.pin p (List.mem_append_left _ (by
      rcases List.mem_append.mp
            hp with z | z
      · exact List.mem_cons_of_mem _ (List.mem_append_left _ z)
      · rcases List.mem_cons.mp
            z with z | z
        · rw [z]; exact List.mem_cons_self
        · exact List.mem_cons_of_mem _ (List.mem_append_right _ z))) }
end
/-- behind the suite the exception stands at a, and the clause's name is gone -/
def keptEnds (i : Nat) (a : Addr) (cls : Value) (d : Option Addr) (D : Ends) : Ends where
  nx := fun σ H => D.nx (σ.set i none) (upd H a (ExK cls d a))
  rt := fun v H => D.rt v (upd H a (ExK cls d a))
  bk := fun σ H => D.bk (σ.set i none) (upd H a (ExK cls d a))
  ct := fun σ H => D.ct (σ.set i none) (upd H a (ExK cls d a))
/-- what the clause wishes of an exception of the body -/
def wKeep (K : PySem.W.Frag) (c : Value) (i : Nat) (ts : Addr → Value → Option Addr → TS) (Wout : WX) (D : Ends) : WX := fun cls d σ H =>
  ∃ b, PySem.W.exmOne K cls c = some b ∧ (b = true → ∀ a, H a = none → ts a cls d (keptEnds i a cls d D) (σ.set i (some (.ref a))) H) ∧ (b = false → Wout cls d σ H)
section
variable {X : Cx} {x n : Str} {c : Value} {i : Nat} {body suite : List Stmt} {b₀ : Stmt}
      {np pos pos' : Pos} {tb : WX → TS} {ts : Addr → Value → Option Addr → TS} {Wout : WX}
/-- try: body / except x as n: suite, where the exception is read behind the suite, too -/
theorem ps_try_keep (hs : X.stack = X.env :: X.outer) (hf : X.env.frame = some X.env.locals) (hN : X.N.Nodup) (hi : X.N[i]? = some n) (hln : X.env.kindOf n = some .local) (hc : Names X x c) (tk : Takes X Wout) (hx : X.ex = [])
    (hb : ∀ (W : WX) (pn : List (Addr × Obj)) (xe : Value → Shared → Prop), Takes (X.tr
          pn xe) W → PassesOwn (model X.prog X.w) X.A X.env xe → PSs (X.tr pn xe) body (tb W))
    (hsu : ∀ (a : Addr) (oe : Obj) (cls : Value) (d : Option Addr) (pn : List (Addr × Obj)), Zc cls d
          oe → (∃ vs, oe.data = .fields vs) → PSs (X.suite a ((a, oe) :: pn)) (b₀ :: suite) (ts a cls d)) :
    PS X (.Try body [.ExceptHandler (some (.Name x np)) (some n) (b₀ :: suite) pos'] [] [] pos) (fun D σ H => tb (wKeep X.K c i ts Wout D) D σ H) := by
  constructor
  intro pins s σ H D I h
  have ok := I.ok
  have frames : X.A.frames = some (X.env :: X.outer) := by rw [ok.frames, hs]
  let hd : ExceptHandler := .ExceptHandler (some (.Name x np)) (some n) (b₀ :: suite) pos'
  let catch_ : Value → Shared → Prop := fun e s₁ => wpAny (model X.prog X.w) X.A (noteFrame e X.env) (fun _ s₂ => wpAny (model X.prog X.w) X.A (setFlight e none) (fun _ s₃ => wpAny (model X.prog X.w) X.A (handleBy e X.env [hd]) (SP X pins D) X.xe s₃) X.xe s₂) X.xe s₁
  have caught : ∀ u s', XE (X.tr (X.pn ++ pins) catch_) (wKeep X.K c i ts Wout D) u s' → catch_ u s' := by
    rintro u s' ⟨a, B, sI, pins', σ', H', cls, d, rfl, J0, nb, up, sky, na, os, ag, b, hb1, hyes, hno⟩
    have J : Inv X pins σ' H' sI := J0.ofTry ok
    rw [show (X.tr (X.pn ++ pins) catch_).stack = X.env :: X.outer from hs] at sky
    refine Sky.land Zc.steady frames hf sky fun h3 fl up3 => ?_
    have J3 : Inv X pins σ' H' { s' with heap := h3 } := J.landed nb fl.1 (up.trans up3) os ag
    have Ba : B.get? a = none := fl.2.1
    have off : a ∉ frs (X.env :: X.outer) := fun hm => by
      obtain ⟨o1, v1, e1, _, d1⟩ := fl.there
      obtain ⟨_, o2, e2, nf⟩ := fl.2.2.1.mem hm
      rw [e1] at e2
      cases e2
      exact nf _ d1
    have nL : a ≠ X.env.locals := fun z => off (List.mem_filterMap.mpr ⟨X.env, List.mem_cons_self, by rw [hf, z]⟩)
    have nF : a ∉ X.fs
          := fun hm => by
      obtain ⟨e, he, q⟩ := List.mem_filterMap.mp hm; exact off (List.mem_filterMap.mpr ⟨e, List.mem_cons_of_mem _ he, q⟩)
    have inB : ∀ b o, sI.heap.get? b = some o → b ≠ a := fun b o e z => by
      have q := nb b o e (by rw [show (X.tr (X.pn ++ pins) catch_).stack = X.env :: X.outer from hs, z]; exact off)
      rw [z, Ba] at q; cases q
    have n0 : X.s_0.heap.get?
          a = none := by
      cases q : X.s_0.heap.get? a with
      | none => rfl
      | some o =>
        obtain ⟨o', q'⟩ := J.base.there a o q (by rw [hx]; exact fun z => nomatch z)
        exact (inB a o' q' rfl).elim
    have npin : ∀ p ∈ X.pn ++ pins, p.1 ≠ a := fun p hp => inB p.1 p.2 (J.pin p hp).1
    obtain ⟨o3, v3, e3, z3, d3⟩ := fl.there
    have S3 := J3.suite e3 d3 na nL nF
    refine wpAny_handleBy_cons (codeAny_handlers_test ?_) (fun q => by cases q)
    have ty : PySem.W.Looks (model X.prog X.w) h3 (typeOf (.ref a)) cls := fun A Q E s k q => wpAny_typeOf_ref (k _ _ e3) (by rw [z3.1]; exact q)
    have fits := PySem.W.exm_one (M := model X.prog X.w) J3.kIn ty hb1
    have name : ∀ {Q : Value → Shared → Prop} {E : Value → Shared → Prop}, Q c { s' with heap := h3 } → wpAny (model X.prog X.w) (X.A.mark (some (.ref a))) (eval (.Name x np) X.env) Q E { s' with heap := h3 } := fun {Q E} q => by
      rcases hc with ⟨hg, hdb, hm | ⟨hm, hv, hnn⟩⟩
      · exact ld_glob S3 hg hm q hdb
      · exact ld_blt S3 hg hm hv q hnn hdb
    refine name (fits.here ?_)
    cases b with
    | true =>
      refine codeAny_handlers_suite_as (HandSPX.lands_againZ fl fun h4 fl4 up4 => ?_)
      have J4 : Inv X pins σ' H' { s' with heap := h4 } := J.landed nb fl4.1 ((up.trans up3).trans up4) os ag; obtain ⟨o4, v4, e4, z4, d4⟩ := fl4.there
      have S4 := J4.suite e4 d4 na nL nF
      refine store_ok (X := X.suite a ((a, o4) :: (X.pn ++ pins))) (v := .ref a) S4 hN hi (.inl hln) rfl (fun s5 S5 => ?_) (.inr hln)
      have inner := (hsu a o4 cls d (X.pn ++ pins) z4 ⟨_, d4⟩).run [] s5 _ H' _ S5 (hyes rfl a na)
      have leave : ∀ {σ6 : L2.St} {H6 : Hp} {s6 : Shared} {Q : Shared → Prop}, Inv (X.suite a ((a, o4) :: (X.pn ++ pins))) [] σ6 H6 s6 → (∀ s7, Inv X pins (σ6.set i none) (upd H6 a (ExK cls d a)) s7 → Q s7) →
          wpAny (model X.prog X.w) X.A (do bindName X.env n .none; unbindBehindTheSuite X.env n pos') (fun _ s7 => Q s7) X.xe s6 := fun {σ6 H6 s6 Q} S6 hq =>
        gone_ok (inv_held S6 ok) hN hi hln fun s7 J7 => hq s7 (inv_track J7 n0 npin (exK_ok (J7.pin (a, o4) (List.mem_append_right _ List.mem_cons_self)).1 z4 d4))
      refine wpAny_mono inner (fun f s6 hsp => ?_) (fun _ _ z => z.elim)
      cases f with
      | next => obtain ⟨σ6, H6, S6, q6⟩ := hsp; exact leave S6 fun s7 J7 => ⟨_, _, J7, q6⟩
      | brk => obtain ⟨σ6, H6, S6, q6⟩ := hsp; exact leave S6 fun s7 J7 => ⟨_, _, J7, q6⟩
      | cont => obtain ⟨σ6, H6, S6, q6⟩ := hsp; exact leave S6 fun s7 J7 => ⟨_, _, J7, q6⟩
      | ret u => obtain ⟨w6, σ6, H6, S6, r6, q6⟩ := hsp; exact leave S6 fun s7 J7 => ⟨w6, _, _, J7, r6, q6⟩
    | false =>
      show wpAny _ X.A (handleBy (.ref a) X.env []) _ _ _; refine wpAny_handleBy_nil ?_
      obtain ⟨_, _, _, oe, vs, T, oT, tv, g1, _, g2, g3, _⟩ := id fl
      have out : wpAny (model X.prog X.w) X.A (setFlight (.ref a) X.env.frame) (fun _ s4 => wpAny (model X.prog X.w) X.A (throw (.ref a) : Sem Flow) (SP X pins D) X.xe s4) X.xe { s' with heap := h3 } := by
        rw [hf]
        exact HandSPX.setFlight_upZ fl fun h4 hh up4 => wpAny_throw (tk _ _ ⟨a, B, sI, pins, σ', H', cls, d, rfl, J, nb, (up.trans up3).trans up4, .inr (.inr (by rw [hs]; exact hh)), na, os, ag, hno rfl⟩)
      unfold PySem.passOn
      refine wpAny_bind (wpAny_field g1 g2 g3 ?_); rw [if_neg (show ¬ ((Value.ref T == Value.none) = true) from by simp)]
      first
        | exact wpAny_bind (wpAny_pure (wpAny_bind out))
        | exact wpAny_bind out
  have hx2 := (hb (wKeep X.K c i ts Wout D) (X.pn ++ pins) catch_ caught PassesOwn.looking).run [] s σ H D (I.toTry _) h
  refine wpAny_Try_except (wpAny_mono hx2 (fun f s1 hsp => ?_) (fun e s1 he => he))
  cases f with
  | next => obtain ⟨σ', H', J, q⟩ := hsp; exact wpAny_execs_nil ⟨σ', H', J.ofTry ok, q⟩
  | brk => obtain ⟨σ', H', J, q⟩ := hsp; exact ⟨σ', H', J.ofTry ok, q⟩
  | cont => obtain ⟨σ', H', J, q⟩ := hsp; exact ⟨σ', H', J.ofTry ok, q⟩
  | ret u => obtain ⟨v, σ', H', J, r, q⟩ := hsp; exact ⟨v, σ', H', J.ofTry ok, r, q⟩
end
end Kn

set_option Elab.async false
set_option linter.all false
set_option maxRecDepth 100000
set_option maxHeartbeats 2100000
/-! K53: raise of an own exception class whose __init__ keeps its arguments. -/
namespace Kn
open PySem L2 RZ
section
variable {G : Gd} {E : XK} {X : Cx} {σ : List (Option V)} {H H' : Hp} {k : Nat}
theorem DenL.snoc {B : Addr → Prop} : ∀ {ds : List D} {xs : List V}, DenL G B H ds xs → DenL G B H ds.reverse xs.reverse
  | [], _, h => by cases h; rfl
  | d :: ds, _, ⟨x, r, e, h1, h2⟩ => by
    subst e
    rw [List.reverse_cons, List.reverse_cons]; exact (DenL.snoc h2).append ⟨x, [], rfl, h1, rfl⟩
/-- the __init__ of an exception class: the arguments become its fields, the last one first -/
def spX (C : Addr) (fl : List Str) : Sp := fun vs H Q _ => ∃ (a : Addr) (ws : List V), vs = .ref a :: ws ∧ ws.length = fl.length ∧ H a = some (exo a C none) ∧
  ∀ (H' : Hp) (dx : Addr), (∀ b o, H b = some o → b ≠ a → H' b = some o) → H dx = none → dx ≠ a → H' a = some (exo a C (some dx)) → H' dx = some (exd dx (fl.zip ws.reverse)) → Q .non H'
/-- the exception class x of the module, of the number cid, with n arguments -/
structure Fx (G : Gd) (P : Program) (w : World) (mg : Str → Option Value) (base : Heap) (k : Nat) (x : Str) (cid n : Nat) : Prop where
  ex : ∃ (fI : Addr) (fd : FuncData) (ps : List Str), FnOk P w G.K mg base (L2.CX P w) k fI fd ps (spX (G.cl cid) (G.fl cid)) ∧ OexC G.K (G.cl cid) ∧ PySem.W.findIn G.K (.ref (G.cl cid)) "__init__" = some (some (.ref fI)) ∧ PySem.W.typeIn G.K (.ref fI) = some (.type "function") ∧
    Binds G.K fd ps [] ∧ mg x = some (.ref (G.cl cid)) ∧ (G.fl cid).length = n
def sRaise (cid n : Nat) (u : DA) : DS := fun ex de env => u ex env fun ds => ds.length = n ∧ ex ⟨cid, ds.reverse⟩
theorem ds_raise {j c cid n : Nat} {x : Str} {e : Expr} {es : List Expr} {u : DA} {p pos pos' : Pos} (F : Fx G X.prog X.w X.mg X.base j x cid n) (xk : Xk G E k X) (ha : DEs G E X c (e :: es) u) (hn : n ≤ 1000 := by decide) (hj : j + 1 ≤ k := by decide) (hg : Gl X x := by rfl) (hdb : (x == ("__debug__" : Str)) = false := by decide)
    (he : starEach (e :: es) X.env = (false, eval e X.env) :: starEach es X.env := by rfl) (hpl : (backTo pos (starEach es X.env)).any (·.1) = false := by rfl) : DSt G E X c (.Raise (some (.Call (.Name x p) (e :: es) [] pos)) none pos') (sRaise cid n u) := by
  obtain ⟨fI, fd, ps, F1, T, iC, tI, hb, hm, hfl⟩ := F.ex
  rw [← xk.K] at F1 T iC tI hb
  have mk : PMk X (.Call (.Name x p) (e :: es) [] pos) (tMkO (G.cl cid) (spX (G.cl cid) (G.fl cid)) [] (liftA G E c u)) :=
    pmk_oex (CX := L2.CX X.prog X.w) T iC tI F1 (xk.room.mono hj) hb .nil (fun _ _ _ _ _ _ _ ⟨_, _, _, _, _, _, _, _, _, _, _, _, z⟩ => z.elim) hg hm ha hdb he hpl
  refine impS (ps_raise xk.calm xk.tk mk) fun Dn σ H h => ?_
  obtain ⟨W, hW, de, ht, k1, k2, k3, k4⟩ := h
  refine ⟨W, hW, _, ht, fun vs H1 ds st hd ⟨hl, hx⟩ => ?_⟩
  have el := hd.length
  refine ⟨by omega, fun a ha => ?_⟩
  rw [List.append_nil]
  refine ⟨a, vs, rfl, by omega, upd_same, fun H2 dx kp hdx nda e1 e2 => ⟨rfl, dx, _, e1, e2, ?_, ?_⟩⟩
  · rw [upd_ne nda] at hdx; exact hdx
  · have hdx1 : H1 dx = none := by rw [upd_ne nda] at hdx; exact hdx
    have ext : Ext none H1 (upd (L2.del H2 a) dx (.xd ((G.fl cid).zip vs.reverse))) := fun b o hb _ => by
      have nb : b ≠ a := ne_of_none hb ha
      rw [upd_ne (ne_of_none hb hdx1), del_ne nb]
      exact kp b o (by rw [upd_ne nb]; exact hb) nb
    have st' := st.pure ext
    refine W.exc ⟨cid, ds.reverse⟩ _ _ _ (W.fr.trans st'.ext) (st'.good.less (by omega)) ⟨rfl, dx, vs.reverse, rfl, fun z => (W.next st).fresh hdx1 (.inl z), upd_same, (List.length_reverse).trans (show vs.length = (G.fl cid).length by omega), ?_⟩ hx
    exact ((hd.ext (u := none) ext (fun _ z => z.none.elim)).fewer fun b z => .inl z).snoc
end
end Kn

set_option Elab.async false
set_option linter.all false
set_option maxRecDepth 100000
set_option maxHeartbeats 2100000
/-! K54: isinstance of own classes, of errors; fields of errors. -/
namespace Kn
open PySem L2 RZ
section
variable {G : Gd} {E : XK} {X : Cx} {σ : List (Option V)} {H H' : Hp} {k : Nat}
/-- what isinstance asks of an own class of errors -/
structure XcC (K : PySem.W.Frag) (C : Addr) : Prop where
  cs : (PySem.W.clsIn K C).isSome = true
  ga : PySem.W.findIn K (.ref C) "__getattribute__" =
        some (some (.builtin "BaseException.__getattribute__"))
  gg : PySem.W.findIn K (.ref
        C) "__getattr__" = some none
  sb : PySem.W.subIn K (.ref C) (.type "BaseException") = some true
  ca : PySem.W.findIn K (.ref C) "__class__"
        = some (some (.builtin "object.__class__"))
  gn : PySem.W.specialIn K (.builtin "object.__class__") "__get__" = some (some (.builtin "getset_descriptor.__get__"))
  tk : PySem.W.takesIn K (.builtin "object.__class__") = some true
  mr : PySem.W.mroIn K C (.type "object") = some true
/-- .. of another own class -/
structure InC (K : PySem.W.Frag) (C : Addr) : Prop where
  cl : Cls K C
  ca : PySem.W.findIn K (.ref C) "__class__"
        = some (some (.builtin "object.__class__"))
  gn : PySem.W.specialIn K (.builtin "object.__class__") "__get__" = some (some (.builtin "getset_descriptor.__get__"))
  tk : PySem.W.takesIn K (.builtin "object.__class__") = some true
  mr : PySem.W.mroIn K C (.type "object") = some true
/-- the type of a value -/
def TyD (G : Gd) (d : D) (t : Value) : Prop :=
  (∃ s, kindS d = some s ∧ t = .type s) ∨ (∃ c ds, d = .exc c ds ∧ XcC G.K (G.cl c) ∧ t = .ref (G.cl c)) ∨ (∃ c ds, d = .ins c ds ∧ InC G.K (G.cl c) ∧ t = .ref (G.cl c))
theorem Den.kit {pins : List (Addr × Obj)} {s : Shared} {B : Addr → Prop} {d : D} {x : V} {u t : Value} (I : Inv X pins σ H s) (hK : X.K = G.K) (rx : RelV x u) (h : Den G B H d x) (ty : TyD G d t) :
    ∃ P : Heap → Prop, PySem.W.KitX X.K u t P ∧ P s.heap ∧ u ≠ .builtin "__main__.__loader__#opaque" := by
  rcases ty with ⟨n, hs, rfl⟩ | ⟨c, ds, rfl, T, rfl⟩ | ⟨c, ds, rfl, T, rfl⟩
  · exact kit_of I rx (by rw [hK]; exact h.tyx hs)
  · obtain ⟨a, dd, xs, rfl, _, _, ha, hd, _⟩ := h
    cases rx
    obtain ⟨⟨oe, vs, e1, e2, e3⟩, _, _⟩ := (show ObjOk X.prog X.w H s.heap a (ExK (.ref (G.cl c)) (some dd) a) from I.hok a _ ha)
    obtain ⟨mA, hns, _⟩ := (show ObjOk X.prog X.w H s.heap dd (.xd _) from I.hok dd _ hd)
    obtain ⟨od, ho, _⟩ := lookIn_ns hns
    have J : PySem.W.InstAt s.heap a oe (G.cl c) (some od) := ⟨e1, e2.1, by unfold PySem.W.notCls; rw [e3] <;> rfl, by rw [e2.2]; exact ho⟩
    rw [← hK] at T
    exact ⟨_, PySem.W.kitx_exc T.cs T.ga T.gg T.sb T.ca T.gn T.tk T.mr, J, fun z => nomatch z⟩
  · obtain ⟨a, dx, xs, rfl, _, ha, _⟩ := h
    rw [← hK] at T
    exact kit_of I rx (.base (.ins ha T.cl T.ca T.gn T.tk T.mr))
/-- isinstance(x, C), C an own class or a built-in one -/
def gIsiC (G : Gd) : G2 := fun d c Q => ∃ (v : V) (u t : Value) (b : Bool), c = .opq v ∧ ClsV v u ∧ TyD G d t ∧ PySem.W.kitOne G.K t u = some b ∧ Q (.bl b)
theorem c_isiC (hK : X.K = G.K) : CallR X (.builtin "isinstance") (rDL G (g2 (gIsiC G))) := by
  intro pins s σ H xs us Q' I r h
  obtain ⟨B, d, c, x, y, Q, rfl, hd, hc, hf, ⟨v, u, t, b, rfl, kv, ty, e, hq⟩, kk⟩ := rDL2 h
  cases hc
  obtain ⟨u1, u2, rfl, r1, r2⟩ := vals2 r; have e2 := kv.eq r2
  subst e2
  obtain ⟨P, Z, p, hx⟩ := hd.kit I hK r1 ty
  exact PySem.W.kia_one Z I.kIn p (by rw [hK]; exact e) hx fun tk => ⟨.bl b, H, I.tok tk, rfl, kk _ H (.bl b) (Ext.refl _ _) (den_bl b) hq⟩
/-- isinstance(x, (C1, C2, ..)) -/
def dIsiCs (G : Gd) (us : List Value) (te : DT) : DT := fun ex env Q => te ex env fun d => ∃ (t : Value) (b : Bool), TyD G d t ∧ PySem.W.kitAny G.K t us = some b ∧ Q (.bl b)
theorem c_isiCs (hK : X.K = G.K) : CallR X (.builtin "isinstance") (fun xs H Q' => ∃ (B : Addr → Prop) (d : D) (x : V) (p : Addr) (cs : List V) (us : List Value) (t : Value) (b : Bool) (Q : D → Prop), xs = [x, .ref p] ∧ Den G B H d x ∧ H p = some (.tup cs) ∧ Paired ClsV cs us ∧ TyD G d t ∧ PySem.W.kitAny G.K t us = some b ∧ Q (.bl b) ∧ ∀ r H' rd, Ext none H H' → Den G B H' rd r → Q rd → Q' r H') := by
  intro pins s σ H xs us Q' I r h
  obtain ⟨B, d, x, p, cs, ws, t, b, Q, rfl, hd, hp, pr, ty, e, hq, kk⟩ := h
  obtain ⟨u1, u2, rfl, r1, r2⟩ := vals2 r; cases (show u2 = Value.ref p from r2)
  obtain ⟨P, Z, pp, hx⟩ := hd.kit I hK r1 ty
  obtain ⟨_, its, rv, o, h1, h2, n, h3⟩ := (show ObjOk X.prog X.w H s.heap p (.tup cs) from I.hok p _ hp)
  have e3 := ClsV.all pr rv
  subst e3
  obtain ⟨oc, od, dt, sl⟩ := o
  simp only at h2 h3
  subst h2 h3
  exact PySem.W.kia_tup Z I.kIn pp h1 (by rw [hK]; exact e) hx fun tk => ⟨.bl b, H, I.tok tk, rfl, kk _ H (.bl b) (Ext.refl _ _) (den_bl b) hq⟩
theorem de_isiCs {e : Expr} {es : List Expr} {p pos p2 : Pos} {x1 c : Nat} {te : DT} {cs : List V} {us : List Value} (hK : X.K = G.K) (hm : X.mg "isinstance" = none) (he : DE G E X c e te) (hes : PA X es (fun σ H Q => Q cs H)) (pr : Paired ClsV cs us) (hl : cs.length ≤ 1000 := by decide) (hg : Gl X "isinstance" := by rfl) (hv : bootBuiltins "isinstance" = some (.builtin "isinstance") := by decide +kernel)
    (hs : starEach [e, .Tuple es x1 p2] X.env = (false, eval e X.env) :: starEach [.Tuple es x1 p2] X.env := by rfl) (hs2 : starEach [.Tuple es x1 p2] X.env = (false, eval (.Tuple es x1 p2) X.env) :: starEach [] X.env := by rfl) (hpl : (backTo pos (starEach [.Tuple es x1 p2] X.env)).any (·.1) = false := by rfl) :
    DE G E X c (.Call (.Name "isinstance" p) [e, .Tuple es x1 p2] [] pos) (dIsiCs G us te) :=
  imp (pe_callB (c_isiCs (G := G) hK) hg hm hv (pa_cons he (pa_cons (pe_tup hes) pa_nil hs2) hs) (by decide) (by decide) hs hpl) fun σ H Q' h => by
    obtain ⟨W, hn, Q, ht, kk⟩ := h
    refine ⟨W, hn, _, ht, fun v H1 d st hd ⟨t, b, ty, hb, hq⟩ => ⟨by rw [sizeLine_eq]; omega, fun q hq0 => ?_⟩⟩
    exact ⟨W.XB, d, v, q, cs, us, t, b, Q, rfl, den_upd hq0 hd, upd_same, pr, ty, hb, hq, fun r H' rd ex hr hq2 => kk r H' rd ((st.new hq0).pure ex) hr hq2⟩
/-- a class of the module among others -/
theorem ps_cls {x : Str} {C : Addr} {pos : Pos} (hm : X.mg x = some (.ref C)) (hg : Gl X x := by rfl) (hd : (x == ("__debug__" : Str)) = false := by decide) : PE X (.Name x pos) (tC (.ref C)) := pe_glob (v := .ref C) hg hm rfl hd

/-! ### fields of errors -/
structure XfF (K : PySem.W.Frag) (C : Addr) (f : Str) : Prop where
  x : XcC K C
  hd : PySem.W.hasDictIn
        K C = true
  no : PySem.W.findIn K (.ref C) f = some none
/-- x.f, x an error -/
def dXfl (G : Gd) (f : Str) (te : DT) : DT := fun ex env Q => te ex env fun d => ∃ c ds x, d = .exc c ds ∧ XfF G.K (G.cl c) f ∧ f ∈ G.fl c ∧ ds[(G.fl c).idxOf f]? = some x ∧ Q x
theorem de_xfl {e : Expr} {f : Str} {pos : Pos} {c : Nat} {te : DT} (hK : X.K = G.K) (he : DE G E X c e te) (hb : attributeBase e f X.env (eval e X.env) = eval e X.env := by rfl) : DE G E X c (.Attribute e f pos) (dXfl G f te) := by
  constructor
  intro pins s σ H Q' I h
  obtain ⟨W, hn, Q, ht, kk⟩ := h
  refine attr_of hb (thn (he.run pins s σ H (fun v H1 => ∃ (c : Nat) (ds : List D) (x : D) (a dd : Addr) (xs : List V), v = .ref a ∧ XfF G.K (G.cl c) f ∧ f ∈ G.fl c ∧ ds[(G.fl c).idxOf f]? = some x ∧ H1 a = some (ExK (.ref (G.cl c)) (some dd) a) ∧ H1 dd = some (.xd ((G.fl c).zip xs)) ∧ DenL G W.XB H1 ds xs ∧ ∀ y, Den G W.XB H1 x y → Q' y H1) I ⟨W, hn, _, ht, ?_⟩) fun u s1 hh => ?_)
  · rintro v H1 d st hd ⟨c, ds, x, rfl, T, hf, hx, hq⟩
    obtain ⟨a, dd, xs, rfl, _, _, ha, hdd, hl, hds⟩ := hd
    exact ⟨c, ds, x, a, dd, xs, rfl, T, hf, hx, ha, hdd, hds, fun y hy => kk y H1 x st hy hq⟩
  · obtain ⟨v, H1, I1, rv, c, ds, x, a, dd, xs, rfl, T, hf, hx, ha, hdd, hds, q⟩ := hh
    obtain rfl : u = Value.ref a := rv
    rw [← hK] at T
    obtain ⟨y, hy, hdy⟩ := hds.get hx
    obtain ⟨⟨oe, vs, e1, e2, e3⟩, _, _⟩ := (show ObjOk X.prog X.w H1 s1.heap a (ExK (.ref (G.cl c)) (some dd) a) from I1.hok a _ ha)
    obtain ⟨mA, hns, hr⟩ := (show ObjOk X.prog X.w H1 s1.heap dd (.xd _) from I1.hok dd _ hdd)
    obtain ⟨od, ho, hlk⟩ := lookIn_ns hns
    have J : PySem.W.InstAt s1.heap a oe (G.cl c) (some od) := ⟨e1, e2.1, by unfold PySem.W.notCls; rw [e3] <;> rfl, by rw [e2.2]; exact ho⟩
    obtain ⟨w', hw, rw'⟩ := RelO.some_of (v := y) (o := mA f) (by rw [← zip_lookup hy hf]; exact hr f)
    exact PySem.HandSPX.exc_get I1.kIn J T.x.ga T.x.gg T.x.sb (PySem.W.findObj_own T.hd T.no rfl (by rw [hlk, hw])) (handed_of rw') ⟨y, H1, I1.tok _, rw', q y hdy⟩
end
end Kn

set_option Elab.async false
set_option linter.all false
set_option maxRecDepth 100000
set_option maxHeartbeats 2100000
/-! K55: a lambda without parameters, handed to a def that calls it once within a try. -/
namespace Kn
open PySem PySem.Spec L2 RZ LamX
open PyProof.Rows (envOfC)
/-- the call of what was handed, at slot i: W is what the context takes of errors -/
def tAct (i : Nat) (f c' : Addr) (q : Str) (W : WX) (tl : XK → Hp → VK → Prop) : TE := fun σZ HZ Q => σZ[i]? = some (some (.ref f)) ∧ HZ c' = some (CodeO c' q) ∧ ∃ E : XK, (∀ cls d H', E cls d H' → W cls d σZ H') ∧ tl E HZ Q
section
variable {X : Cx} {pins : List (Addr ×
      Obj)} {σ : L2.St} {H : Hp} {s : Shared}
theorem pe_actS {CXg : CXT} {Eg : XK} {Ng : List Str} {qg : Str} {sg : Scope} {g f c' : Addr} {cdg pm ctv : Value} {params : Arguments} {body : Expr} {scope : Scope} {k i : Nat} {a : Str} {pn : List (Addr × Obj)} {xe : Value → Shared → Prop} {W : WX} {tb : XK → TE} {p1 p2 : Pos}
    (I : Inv X pins σ H s) (L : LamS X.env.scope scope) (hf : s.heap.get? f = some (PySem.W.kla_obj "<lambda>" (X.env.qual ++
          "<lambda>") params body scope (cloFrom X.env.cells scope.names []) pm c' ctv)) (hfn : H f = none) (hfr : f ∉ frs X.stack)
    (hbind : bindArgs (PySem.W.kla_fn "<lambda>" (X.env.qual ++ "<lambda>") params body
          scope (cloFrom X.env.cells scope.names []) pm (.ref c') ctv) ⟨[], []⟩ = pure [])
    (tk : Takes ((cxOf CXg X.prog X.w X.K X.mg X.base Ng qg sg g cdg X.A X.stack s H Eg).tr pn xe) W) (hr : Room (k + 1) (X.A.deeper (envOfC qg sg s.heap.objs.size g cdg)))
    (hbody : ∀ (A : Around) (outer : List Env) (s : Shared) (H : Hp) (E : XK), Room k (A.deeper (lamEnv X scope s.heap.objs.size f c')) → A.guards = some [] → PE (lamCx X A outer s H E scope f c') body (tb E)) (hgd : X.A.guards = some [])
    (hN : Ng[i]? = some a) (hv : Vis sg a) (hd : (a == ("__debug__" : Str)) = false
          := by decide) (hcd : (a == ("__classdict__" : Str)) = false := by decide) :
    PE ((cxOf CXg X.prog X.w X.K X.mg X.base Ng qg sg g cdg X.A X.stack s H Eg).tr pn xe) (.Call (.Name a p1) [] [] p2) (tAct i f c' (X.env.qual ++ "<lambda>") W fun E HZ Q => tb E σ HZ Q) := by
  constructor
  intro pinsZ sZ σZ HZ Q IZ h
  obtain ⟨hs, hc, E, hW, ht⟩ := h
  have at0 := (pe_var (pos := p1) (i := i) hN hv hd hcd).run pinsZ sZ σZ HZ (fun v H1 => v = .ref f ∧ H1 = HZ) IZ ⟨.ref f, hs, rfl, rfl⟩
  refine wpAny_Call_Name_kw (thn at0 ?_)
  rintro u s1 ⟨v, H1, I1, r1, rfl, rfl⟩
  obtain rfl : u = Value.ref f := r1; have there : s1.heap.get? f = some (PySem.W.kla_obj "<lambda>" (X.env.qual ++ "<lambda>") params body scope (cloFrom X.env.cells scope.names []) pm c' ctv) := I1.base.keep f _ hf hfn hfr (fun z => nomatch (show f ∈ ([] : List Addr) from z))
  have since : Un (frs X.stack) [] H H1 s.heap s1.heap := I1.base
  obtain ⟨⟨oc, vs, t, hoc, hdc, hvc⟩, _, _⟩ := I1.hok c' _ hc; have inner : codeAny (model X.prog X.w) (X.A.deeper (envOfC qg sg s.heap.objs.size g cdg)) (.call (.ref f) ⟨[], []⟩) (CR (L2.CX X.prog X.w) (envOfC qg sg s.heap.objs.size g cdg :: X.stack) X.prog X.w H1 s1 Q E) s1 := by
    refine PySem.W.kla_callFunE hr.depth there rfl L.co L.gen rfl ⟨c', oc, vs, t, rfl, hoc, hdc, hvc⟩ ?_
    rw [hbind]
    refine wpAny_pure (wpAny_newFunctionEnv (fun y hy => (L.own y hy).2) (fun y hy => by cases hy) (fun h₁ hns hsb => ?_) L.kind)
    refine ⟨I1.nolimit.fresh _ hsb, ?_⟩
    show codeAny _ _ (.expr body (lamEnv X scope s1.heap.objs.size f c')) _ _; have kept : ∀ b o, s1.heap.get? b = some o → h₁.get? b = some o := fun b o e => hsb.extBut b o (Nat.ne_of_lt (Heap.lt_size e)) (Heap.get?_push_of_some _ e)
    have J := lam_start2 (E := E) (f := f) (c' := c') (tk := s1.toks + ([] : List (Str × Value)).length) I L I1.env0 hr.hd since hns kept
    have run := (hbody _ _ s1 H1 E (hr.deeper _) hgd).run [] _ _ H1 Q J ht
    refine PySem.W.kla_codeExpr (wpAny_mono run ?_ fun e s' hq => hq)
    rintro v s' ⟨w', H', J', rv, q⟩; exact ⟨w', H', J'.os, J'.bare, J'.base, J'.hok, rv, q⟩
  refine PySem.W.callWith_F0 ⟨_, _, _, _, there⟩ (wpAny_call (codeAny_mono inner ?_))
  intro r s' hq
  cases r with
  | error e => exact tk e s' (XE.of_call I1 hW hq)
  | ok fl =>
    cases fl with
    | ret u => exact I1.after hq
    | next => exact hq.elim
    | brk => exact hq.elim
    | cont => exact hq.elim
end
end Kn

set_option Elab.async false
set_option linter.all false
set_option maxRecDepth 100000
set_option maxHeartbeats 2100000
/-! K56: the making of a lambda, a def that is handed one, its call. -/
namespace Kn
open PySem PySem.Spec L2 RZ LamX
open PyProof.Rows (envOfC)
section
variable {X : Cx} {pins : List (Addr ×
      Obj)} {σ : L2.St} {H : Hp} {s : Shared}
/-- a lambda is made: but the table at P all stays -/
theorem lam_laid {T : List (Addr × Str)} {c P : Addr} {params : Arguments} {body : Expr} {scope : Scope} {pos : Pos} {E : Value → Shared → Prop} {Q : Value → Shared → Prop} (I : Inv X pins σ H s) (TB : TabB X.base X.mg c P) (hcode : X.env.code = .ref c)
    (hm : (P, X.env.qual ++ "<lambda>") ∈ T) (hu : ∀ p ∈ T, p.1 = P → p.2 = X.env.qual ++ "<lambda>") (hT : Tabs T H) (hdef
          : defaultsOf params X.env = ([], [])) (hfree : ∀ y ∈ scope.names, y.2 = .free → ∃ c, X.env.cells.lookup y.1 = some c)
    (h : ∀ (f c' : Addr) (pm ctv : Value) (H1 : Hp) (s' : Shared), Inv X pins σ H1 s' → (∀ b o, H b = some o → b ≠ P → H1 b = some o) → Tabs T H1 →
      s'.heap.get? f = some (PySem.W.kla_obj "<lambda>" (X.env.qual ++ "<lambda>") params body scope (cloFrom X.env.cells scope.names
            []) pm c' ctv) → H1 f = none → f ∉ frs X.stack → H1 c' = some (CodeO c' (X.env.qual ++ "<lambda>")) → Q (.ref f) s') :
    wpAny (model X.prog X.w) X.A (eval (.Lambda
          params body scope pos) X.env) Q E s := by
  obtain ⟨ps, hP, ht, ha⟩ := hT _ hm; have bP : s.heap.BuiltinsAt X.mg P := TB.bm.keeps I.bk
  have hP' : s.heap.get? P = some { cls := .none, data := .fields ps } := I.hok P _ hP; have off : ∀ f, s.heap.objs.size ≤ f → f ∉ frs X.stack := by
    intro f hf z; rcases List.mem_cons.mp (I.stkSub _ z) with e | e
    · have h1 := I.lt
      rw [← e] at h1; exact absurd (Nat.lt_of_lt_of_le h1 hf) (Nat.lt_irrefl _)
    · exact I.nofs hf e
  refine PySem.W.kla_eval hdef ?_; cases hc : codeAmong pos ps.toList with
  | some cv =>
    obtain ⟨c', rfl, hco⟩ := ha pos cv hc
    refine PySem.W.kla_makeFunctionHit (mg := X.mg) (c := c) (P := P) (ps := ps) (closure_ok hfree) I.ok.glob (I.mod.glob.keeps I.bk) hcode (TB.code.keeps I.bk) hP' ht hc bP fun ctv h' tk hx hsz => ?_; exact h h'.objs.size c' ((X.mg "__name__").getD .none) ctv H _ (I.kept fun b o e => Heap.get?_push_of_some _ (hx b o e)) (fun _ _ e _ => e) hT (Heap.get?_push_size _ rfl) (I.hok.fresh hsz) (off _ hsz) hco
  | none =>
    refine PySem.W.kla_makeFunction (mg := X.mg) (c := c) (P := P) (ps := ps) (closure_ok hfree) I.ok.glob (I.mod.glob.keeps I.bk) hcode (TB.code.keeps I.bk) hP' ht hc TB.gP bP fun c' ctv h' tk hx hge hlt hrec htb => ?_; obtain ⟨c2, oc, vs, t, e2, hoc, hd, hv⟩ := hrec
    cases e2
    have hsz : s.heap.objs.size ≤ h'.objs.size := Nat.le_trans hge (Nat.le_of_lt hlt); have nC : H c' = none := I.hok.fresh hge
    have nPc : P ≠ c' := ne_of_none hP nC; have I1 := inv_table (t' := tk) (more := #[rawInt pos.line, rawInt pos.col, .ref c']) (h' := h'.push (PySem.W.kla_obj "<lambda>" (X.env.qual ++ "<lambda>") params body scope (cloFrom X.env.cells scope.names []) ((X.mg "__name__").getD .none) c' ctv)) I hP
      (fun b o hb e => Heap.get?_push_of_some _ (hx b o hb e)) (Heap.get?_push_of_some
            _ htb) hge ⟨oc, vs, t, Heap.get?_push_of_some _ hoc, hd, hv⟩
    have keep : ∀ b o, H b = some o → b ≠ P → upd (upd H P (.tbl (ps ++ #[rawInt pos.line, rawInt pos.col, .ref c']))) c' (CodeO c' (X.env.qual ++ "<lambda>")) b = some o := fun b o e nb => by
      rw [upd_ne (ne_of_none e nC), upd_ne nb]; exact e
    have eL : (ps ++ #[rawInt pos.line, rawInt pos.col, .ref c']).toList
          = ps.toList ++ [rawInt pos.line, rawInt pos.col, .ref c'] := by simp
    have codeNe : ∀ {b : Addr} {q : Str}, H b = some (CodeO b q) → b ≠ P := fun {b q} e z => by
      rw [z, hP] at e
      exact codeO_ne ps (Option.some.inj e).symm
    refine h h'.objs.size c' ((X.mg "__name__").getD .none) ctv _ _ I1 keep (fun p hp => ?_) (Heap.get?_push_size _ rfl) ?_ (off _ hsz) upd_same
    · by_cases hb : p.1 = P
      · rw [hu p hp hb, hb]
        refine ⟨_, by rw [upd_ne nPc, upd_same], by rw [eL]; exact PySem.TriplesOk_snoc _ _ _ _ ht, fun p' cv hcv => ?_⟩
        rw [eL] at hcv; rcases among_app _ ht hcv with z | z
        · obtain ⟨c0, e1,
              e2⟩ := ha p' cv z
          exact ⟨c0, e1, keep _ _ e2 (codeNe e2)⟩
        · exact ⟨c', z, upd_same⟩
      · obtain ⟨ps', a1,
            a2, a3⟩ := hT p hp
        refine ⟨ps', keep _ _ a1 hb, a2, fun pos cv hcv => ?_⟩
        obtain ⟨c0, e1, e2⟩ := a3 pos cv hcv
        exact ⟨c0, e1, keep _ _ e2 (codeNe e2)⟩
    · have n1 : h'.objs.size
          ≠ c' := Nat.ne_of_gt hlt
      have n2 : h'.objs.size ≠ P := Nat.ne_of_gt (Nat.lt_of_lt_of_le (Heap.lt_size hP') hsz); rw [upd_ne n1, upd_ne n2]
      exact I.hok.fresh hsz
end
/-- a def of the module whose code object stands at c -/
structure FunC (K : PySem.W.Frag) (x qual : Str) (st : Stmt) (f : Addr) (fd : FuncData) (c : Addr) : Prop where
  ex : ∃ (oc : Value) (od : Option Addr) (kV doc pm : Value) (an : Option Addr) (ct : Value) (osl : Array (Option Value)),
    fd = PySem.W.fnOf x qual (defArgs st) (defBody st) (defScope st) .none kV doc pm an (.ref c) ct ∧ K.lookup f = some ⟨oc, od, .func fd, osl⟩ ∧ PySem.W.codeIn K (.ref c) qual = true
  kp : PySem.W.keepIn
        K (.ref f) = true
theorem FunC.fun {K : PySem.W.Frag} {x qual : Str} {st : Stmt} {f : Addr} {fd : FuncData} {c : Addr} (F : FunC K x qual st f fd c) : Fun K x qual st f fd := by
  obtain ⟨oc, od, kV, doc, pm, an, ct, osl, h1, h2, h3⟩ := F.ex
  exact ⟨⟨oc, od, kV, doc, pm, an, .ref c, ct, osl, h1, h2, h3⟩, F.kp⟩
/-- the reading of what is handed, what is wanted of the answer -/
abbrev LSpec := ((D → Prop) → (Exc → Prop) → Prop) → (D → Prop) → Prop
section
variable {G : Gd} {P : Program} {w : World} {mg : Str → Option Value} {base : Heap}
/-- what is handed at the heap H0, where B counts: read by T later, at most c draws -/
def Thunk (G : Gd) (c : Nat) (H0 : Hp) (B : Addr → Prop) (tl : XK → Hp → VK → Prop) (T : (D → Prop) → (Exc → Prop) → Prop) : Prop :=
  ∀ (E : XK) (HZ : Hp) (B' : Addr → Prop) (n : Nat) (Q0 : D → Prop) (ex0 : Exc → Prop) (Q' : VK), Ext G.u H0 HZ → Good G.u HZ n → c ≤ n → (∀ p, Pr G.u p → B' p.1 ∧ B' p.2) → (∀ b, B' b → B b ∨ H0 b = none) → (∀ b, B' b → HZ b ≠ none) → T Q0 ex0 →
    (∀ v H' d, Ext G.u HZ H' → Good G.u H' (n - c) → Den G B' H' d v → Q0 d → Q' v H') → (∀ x C d H', Ext G.u HZ H' → Good G.u H' (n - c) → ExcIs G B' H' x C d → ex0 x → E C d H') → tl E HZ Q'
/-- what a def that is handed a lambda asks -/
def liftL (G : Gd) (c : Nat) (S : LSpec) (tl : XK → Hp → VK → Prop) (H : Hp) (Q : VK) : Prop := ∃ (n : Nat) (B : Addr → Prop) (T : (D → Prop) → (Exc → Prop) → Prop) (R : D → Prop),
  c ≤ n ∧ (∀ p, Pr G.u p → B p.1 ∧ B p.2) ∧ (∀ a, B a → H a ≠ none) ∧ Good G.u H n ∧ Thunk G c H B tl T ∧ S T R ∧ ∀ v H' d, Ext G.u H H' → Good G.u H' (n - c) → Den G B H' d v → R d → Q v H'
/-- no error leaves -/
abbrev E1 : XK := fun _ _ _ => False
/-- what stands at slot 0 of the def at g can be called as tl -/
def ActOk (P : Program) (w : World) (K : PySem.W.Frag) (mg : Str → Option Value) (base : Heap) (N : List Str) (qg : Str) (sg : Scope) (g : Addr) (A : Around) (outer : List Env) (s : Shared) (H : Hp) (a : Str) (f c' : Addr) (q : Str) (tl : XK → Hp → VK → Prop) : Prop :=
  ∀ (cdv : Value) (W : WX) (pn : List (Addr × Obj)) (xe : Value → Shared → Prop) (p1 p2 : Pos), Takes ((cxOf (L2.CX P w) P w K mg base N qg sg g cdv A outer s H E1).tr pn xe) W →
    PE ((cxOf (L2.CX P w) P w K mg base N qg sg g cdv A outer s H E1).tr pn xe) (.Call (.Name a p1) [] [] p2) (tAct 0 f c' q W tl)
/-- the def x, that calls what it is handed -/
structure FnL (G : Gd) (P : Program) (w : World) (mg : Str → Option Value) (base : Heap) (k : Nat) (g : Addr) (fd : FuncData) (N : List Str) (qg : Str) (sg : Scope) (a : Str) (c : Nat) (S : LSpec) : Prop where
  hN : N[0]? = some a
  vis : Vis sg a
  run : ∀ (A : Around) (outer : List Env) (s : Shared) (H : Hp) (f c' : Addr) (q : Str) (tl : XK → Hp → VK → Prop) (Q : VK), Room k A → A.guards = some [] → Env0 P w G.K mg base A outer s H → BindsTo s fd ⟨[.ref f], []⟩ [(a, .ref f)] →
    ActOk P w G.K mg base N qg sg g A outer s H a f c' q tl → H c' = some (CodeO c' q) → liftL G c S tl H Q → codeAny (model P w) A (.call (.ref g) ⟨[.ref f], []⟩) (CR (L2.CX P w) outer P w H s Q E1) s
end
end Kn

set_option Elab.async false
set_option linter.all false
set_option maxRecDepth 100000
set_option maxHeartbeats 2100000
/-! K57: rules over trees: x(lambda: e); the def x that calls it within try .. except C as n: y = n. -/
namespace Kn
open PySem PySem.Spec L2 RZ LamX
open PyProof.Rows (envOfC)
section
variable {G : Gd} {P : Program} {w : World} {mg : Str → Option Value} {base : Heap}
/-- what a def that makes lambdas knows of its code object and its table -/
structure LamT (G : Gd) (base : Heap) (mg : Str → Option Value) (c : Addr) (q : Str) : Prop where
  ex : ∃ (Pt : Addr) (r : Ur), TabB base mg c Pt ∧ G.u = some r ∧ (Pt, q) ∈ r.2 ∧ ∀ p ∈ r.2, p.1 = Pt → p.2 = q
/-- the def x of the module, that calls what it is handed -/
structure Fl (G : Gd) (P : Program) (w : World) (mg : Str → Option Value) (base : Heap) (k : Nat) (x : Str) (N : List Str) (sg : Scope) (a : Str) (c : Nat) (S : LSpec) : Prop where
  ex : ∃ (g : Addr) (fd : FuncData), FnL G P w mg base k g fd N x sg a c S ∧ mg x = some (.ref g) ∧ PySem.W.keepIn G.K (.ref g) = true ∧ Binds G.K fd [a] []
theorem FnL.mono {j k : Nat} {g : Addr} {fd : FuncData} {N : List Str} {qg : Str} {sg : Scope} {a : Str} {c : Nat} {S : LSpec} (F : FnL G P w mg base j g fd N qg sg a c S) (h : j ≤ k) : FnL G P w mg base k g fd N qg sg a c S :=
  ⟨F.hN, F.vis, fun A outer s H f c' q tl Q hr => F.run A outer s H f c' q tl Q (hr.mono h)⟩
/-- within a lambda's body -/
theorem xk_lam {X : Cx} {E : XK} {k : Nat} {A : Around} {outer : List Env} {s : Shared} {H : Hp} {scope : Scope} {f c' : Addr} (hK : X.K = G.K) (hr : Room k (A.deeper (lamEnv X scope s.heap.objs.size f c'))) (hg : A.guards = some []) : Xk G E k (lamCx X A outer s H E scope f c') where
  K := hK
  room := hr
  gd := hg
  pass := passes_call (W := fun cls d _ H => E cls d H) (takes_of rfl rfl rfl rfl) fun _ _ _ _ h => h
  calm := rfl
  tk := takes_of rfl rfl rfl rfl
theorem inEnv_val {env : List Sl} {i : Nat} {d : D} (h : env[i]? = some (.val d)) : (inEnv env [])[i]? = some (.val d) := by
  show (env.map noOwn)[i]? = _
  rw [List.getElem?_map, h]; rfl
/-- the state of the maker's slots at a later heap, where the lambda's body is read -/
theorem wd_lam {E E' : XK} {σ : List (Option V)} {H H1 HZ : Hp} (W : Wd G E σ H) (st : Step W 0 H1) {B' : Addr → Prop} {n m : Nat} {ex0 : Exc → Prop} (he : Ext G.u H1 HZ) (hg : Good G.u HZ n) (hu : ∀ p, Pr G.u p → B' p.1 ∧ B' p.2) (hB : ∀ b, B' b → W.XB b ∨ H1 b = none) (hZ : ∀ b, B' b → HZ b ≠ none)
    (kx : ∀ x C d H', Ext G.u HZ H' → Good G.u H' m → ExcIs G B' H' x C d → ex0 x → E' C d H') :
    ∃ W' : Wd G E' σ HZ, W'.u = G.u ∧ W'.n = n ∧ W'.m = m ∧ W'.env = inEnv W.env [] ∧ W'.ex = ex0 ∧ ∀ b, W'.XB b ↔ B' b := by
  have xb : ∀ b, XBof B' (inEnv W.env []) σ b → B' b := fun b h => xb_in h
  refine ⟨{ u := G.u, n := n, m := m, B := B', H0 := HZ, env := inEnv W.env [], ex := ex0, ug := rfl, hu := hu, hB := hZ, fr := Ext.refl _ _, good := hg, len := ?_, sl := fun i s e => ?_, nd := fun i j a s t h1 _ hm => (inEnv_noown h1 hm).elim, exc := kx }, rfl, rfl, rfl, rfl, rfl, fun b => ⟨xb b, .inl⟩⟩
  · unfold inEnv; rw [wipeE_len, List.length_map]; exact W.len
  · rcases inEnv_get e with z | ⟨_, s', h1, z⟩
    · subst z; trivial
    · subst z
      have so := (W.next st).sl i s' h1
      cases s' with
      | emp => trivial
      | own a ds => trivial
      | slf a dx c ds => trivial
      | obj a o => trivial
      | dic a ks ds => trivial
      | val d =>
        obtain ⟨x, e1, e2⟩ := so
        have e2' : Den G W.XB H1 d x := e2
        exact ⟨x, e1, Den.keep (fun b o nb hb => he b o hb (by rw [← W.ug]; exact W.nuX nb)) (fun b hb => hB b (xb b hb)) d x e2'⟩
def dLam (S : LSpec) (te : DT) : DT := fun ex env Q => S (fun Q0 ex0 => te ex0 (inEnv env []) Q0) Q
/-- x(lambda: body) -/
theorem de_lamcall {E : XK} {X : Cx} {j k kb cb cL : Nat} {x a : Str} {N : List Str} {sg : Scope} {S : LSpec} {c : Addr} {params : Arguments} {body : Expr} {scope : Scope} {te : DT} {p lpos pos : Pos} (F : Fl G X.prog X.w X.mg X.base j x N sg a cL S) (xk : Xk G E k X) (lt : LamT G X.base X.mg c (X.env.qual ++ "<lambda>")) (hcode : X.env.code = .ref c)
    (L : LamS X.env.scope scope) (hbody : ∀ (A : Around) (outer : List Env) (s : Shared) (H : Hp) (E' : XK) (f c' : Addr), Xk G E' kb (lamCx X A outer s H E' scope f c') → DE G E' (lamCx X A outer s H E' scope f c') cb body te) (hj : j ≤ k := by decide) (hkb : kb + 2 ≤ k := by decide) (hcb : cb ≤ cL := by decide)
    (hdef : defaultsOf params X.env = ([], []) := by rfl) (hbind : ∀ (q : Str) (cl : List (Str × Addr)) (pm cv ctv : Value), bindArgs (PySem.W.kla_fn "<lambda>" q params body scope cl pm cv ctv) ⟨[], []⟩ = pure [] := by (intros; rfl))
    (hg : Gl X x := by rfl) (hdb : (x == ("__debug__" : Str)) = false := by decide) (hd : (a == ("__debug__" : Str)) = false := by decide) (hcd : (a == ("__classdict__" : Str)) = false := by decide) :
    DE G E X cL (.Call (.Name x p) [.Lambda params body scope lpos] [] pos) (dLam S te) := by
  obtain ⟨g, fd, hF0, hm, hk, hb⟩ := F.ex
  obtain ⟨Pt, r, TB, hur, hmem, huq⟩ := lt.ex
  have hF := hF0.mono hj
  rw [← xk.K] at hk hb
  constructor
  intro pins s σ H Q' I h
  obtain ⟨W, hn, Q, hs, kk⟩ := h
  refine wpAny_Call_Name_kw (ld_glob I hg hm ?_ hdb); refine PySem.W.callWith_K (h₀ := X.base) I.ok.mod.kin hk ?_ (by rfl) (by rfl)
  show wpAny _ _ (spliced ((false, eval (.Lambda params body scope lpos) X.env) :: backTo pos (starEach [] X.env))) _ _ s; have hgood := W.good
  rw [W.ug, hur] at hgood
  obtain ⟨⟨ua, ub⟩, T⟩ := r
  obtain ⟨⟨cells, kI, rI, g1, g2, g3⟩, gT⟩ := hgood
  refine Calls.spliced_cons (lam_laid I TB hcode hmem huq gT hdef (L.has I.ok) fun f c' pm' ctv H1 s' I1 keep T1 hf hfn hfr hco => ?_)
  have atP : ∃ ps, H Pt = some (.tbl ps) := by
    obtain ⟨ps, e, _⟩ := gT _ hmem; exact ⟨ps, e⟩
  obtain ⟨ps, hP⟩ := atP
  have st : Step W 0 H1 := ⟨fun b o e nu => keep b o e (fun z => nu (Pt, Pt) ⟨_, by rw [W.ug, hur], .inr ⟨_, hmem, rfl⟩⟩ z.symm), by
    rw [W.ug, hur]
    exact ⟨⟨cells, kI, rI, keep _ _ g1 (fun z => by rw [z, hP] at g1; cases g1), keep _ _ g2 (fun z => by rw [z, hP] at g2; cases g2), g3⟩, T1⟩⟩
  have hug := W.ug
  have thunk : Thunk G cL H1 W.XB (fun E' H' Q' => lift G E' cb te σ H' Q') (fun Q0 ex0 => te ex0 (inEnv W.env []) Q0) := by
    intro E' HZ B' n' Q0 ex0 Q2 he hg' hc hu' hB' hZ ht kv kx
    obtain ⟨W', w1, w2, w3, w4, w5, w6⟩ := wd_lam (E' := E') (m := n' - cL) W st he hg' hu' hB' hZ kx
    refine ⟨W', by omega, Q0, by rw [w4, w5]; exact ht, fun v H' d st' hd hq => kv v H' d (by rw [← w1]; exact st'.ext) (by have z := st'.good; rw [w1, w2] at z; exact z.less (by omega)) (hd.fewer fun b z => (w6 b).2 z) hq⟩
  have lf : liftL G cL S (fun E' H' Q' => lift G E' cb te σ H' Q') H1 Q' := by
    refine ⟨W.n, W.XB, _, Q, by omega, fun p e => ⟨.inl (W.hu p (by rw [hug]; exact e)).1, .inl (W.hu p (by rw [hug]; exact e)).2⟩, fun a ha z => (W.next st).fresh z ha, by have z := st.good; rw [hug] at z; exact z, thunk, hs, fun v H' d e g' hd hq => kk v H' d ⟨st.ext.trans (by rw [hug]; exact e), by rw [hug]; exact g'⟩ hd hq⟩
  have act : ActOk X.prog X.w G.K X.mg X.base N x sg g X.A X.stack s' H1 a f c' (X.env.qual ++ "<lambda>") (fun E' H' Q' => lift G E' cb te σ H' Q') := by
    rw [← xk.K]
    intro cdv W0 pn xe p1 p2 tk
    exact pe_actS (k := kb) (tb := fun E' => lift G E' cb te) I1 L hf hfn hfr (hbind _ _ _ _ _) tk ((xk.room.mono (by omega : kb + 1 + 1 ≤ k)).deeper _) (fun A outer s H E' hr hgd => hbody A outer s H E' f c' (xk_lam xk.K hr hgd)) xk.gd hF.hN hF.vis hd hcd
  refine Calls.spliced_nil ⟨I1.kIn, ?_⟩; have rc : codeAny (model X.prog X.w) X.A (.call (.ref g) ⟨[.ref f], []⟩) (CR (L2.CX X.prog X.w) X.stack X.prog X.w H1 s' Q' E1) s' :=
    hF.run X.A X.stack s' H1 f c' _ _ Q' xk.room xk.gd (by rw [← xk.K]; exact I1.env0) (hb s' [.ref f] I1.kIn rfl) act hco lf
  refine wpAny_call (codeAny_mono rc fun r s2 hq => ?_); cases r with
  | error e => obtain ⟨_, _, _, _, _, _, _, _, _, _, _, _, z⟩ := hq; exact z.elim
  | ok fl =>
    cases fl with
    | ret u => exact I1.after hq
    | next => exact hq.elim
    | brk => exact hq.elim
    | cont => exact hq.elim
/-- a def that makes lambdas -/
theorem fnd_ofC {k : Nat} {f : Addr} {x qual : Str} {st : Stmt} {fd : FuncData} {N ps : List Str} {c : Nat} {S : FSpec} {ts : DS} {cd : Addr} (F : FunC G.K x qual st f fd cd) (Sc : FnScope N ps (defScope st))
    (hder : ∀ (A : Around) (outer : List Env) (s : Shared) (H : Hp) (E : XK), Room k (A.deeper (envOfC qual (defScope st) s.heap.objs.size f (.ref cd))) → A.guards = some [] →
      DSs G E (cxOf (L2.CX P w) P w G.K mg base N qual (defScope st) f (.ref cd) A outer s H E) c (defBody st) ts)
    (hS : ∀ ds R ex, ds.length = ps.length → S ds R ex → ts ex { nx := fun _ => R .non, rt := fun d _ => R d } (env0 N ds)) : FnD G P w mg base (k + 1) f fd ps c S := fnd_at F.ex Sc hder hS
end
end Kn

set_option Elab.async false
set_option linter.all false
set_option maxRecDepth 100000
set_option maxHeartbeats 2100000
/-! K58: y = None; try: a() except C as n: y = n; and what follows. -/
namespace Kn
open PySem PySem.Spec L2 RZ LamX
open PyProof.Rows (envOfC)
theorem set_gone {α : Type} {l : List (Option α)} {i j : Nat} {x y : Option α} (h : i ≠ j) (hl : l[j]? = some none) : ((l.set j x).set i y).set j none = l.set i y := by
  rw [List.set_comm _ _ (Ne.symm h), List.set_set]
  rw [List.set_comm _ _ h]
  congr 1
  apply List.ext_getElem?
  intro m
  by_cases hm : j = m
  · subst hm
    rw [hl, List.getElem?_set_self]
    exact (List.getElem?_eq_some_iff.mp hl).1
  · rw [List.getElem?_set_ne hm]
section
variable {G : Gd} {P : Program} {w : World} {mg : Str → Option Value} {base : Heap}
/-- what the clause's class says of an error's class -/
def Fits (G : Gd) (CV : Value) (e : Exc) : Prop := PySem.W.exmOne G.K (.ref (G.cl e.c)) CV = some true
theorem fnl_of {k : Nat} {g : Addr} {x a : Str} {st : Stmt} {fd : FuncData} {N : List Str} {c : Nat} {S : LSpec} {ts : DS} {i j : Nat} {CN err : Str} {CV : Value} {s0 s1 : Stmt} {rest : List Stmt} {p1 p2 p3 p4 p5 np : Pos} (F : Fun G.K x x st g fd) (Sc : FnScope N [a] (defScope st))
    (hb : defBody st = s0 :: .Try [.Expr (.Call (.Name a p1) [] [] p2) p3] [.ExceptHandler (some (.Name CN np)) (some err) [s1] p4] [] [] p5 :: rest)
    (h0 : ∀ (cdv : Value) (A : Around) (outer : List Env) (s : Shared) (H : Hp), PS (cxOf (L2.CX P w) P w G.K mg base N x (defScope st) g cdv A outer s H E1) s0 (tAsg (tC .non) (gName i)))
    (h1 : ∀ (cdv : Value) (A : Around) (outer : List Env) (s : Shared) (H : Hp) (ea : Addr) (pn : List (Addr × Obj)), PS ((cxOf (L2.CX P w) P w G.K mg base N x (defScope st) g cdv A outer s H E1).suite ea pn) s1 (tAsg (tVar j) (gName i)))
    (hN : N[0]? = some a) (hj : N[j]? = some err) (hln : (defScope st).names.lookup err = some .local) (hij : i ≠ j) (hj0 : 0 < j) (hi0 : 0 < i) (hvis : Vis (defScope st) a) (hcl : (defScope st).names.lookup CN = some .globalImplicit) (hcm : mg CN = some CV) (hcd : (CN == ("__debug__" : Str)) = false)
    (hder : ∀ (cdv : Value) (A : Around) (outer : List Env) (s : Shared) (H : Hp), Room k (A.deeper (envOfC x (defScope st) s.heap.objs.size g cdv)) → A.guards = some [] → DSs G E1 (cxOf (L2.CX P w) P w G.K mg base N x (defScope st) g cdv A outer s H E1) 0 rest ts)
    (hS : ∀ (f : Addr) T R, S T R → T (fun _ => ts noX { nx := fun _ => R .non, rt := fun d _ => R d } ((env0 N [.opq (.ref f)]).set i (.val .non)))
      (fun e => Fits G CV e ∧ ts noX { nx := fun _ => R .non, rt := fun d _ => R d } ((env0 N [.opq (.ref f)]).set i (.val (.exc e.c e.ds))))) : FnL G P w mg base (k + 1) g fd N x (defScope st) a c S := by
  refine ⟨hN, hvis, ?_⟩
  intro A outer s H f c' q tl Q hr hgd e0 hbind act hco hl
  obtain ⟨n, B, T, R, hcn, hu, hB, hg, th, hST, hQ⟩ := hl
  obtain ⟨oc, od, kV, doc, pm, an, cdv, ct, osl, rfl, lk, hcd2⟩ := F.ex
  refine run_ofS (N := N) (ps := [a]) (us := [.ref f]) (vs := [.ref f]) lk hcd2 Sc hr e0 hbind (.cons rfl .nil) rfl fun hr' => ?_
  rw [hb]
  have X0ok := act cdv
  have tk : Takes (cxOf (L2.CX P w) P w G.K mg base N x (defScope st) g cdv A outer s H E1) (fun cls d _ H => E1 cls d H) := takes_of rfl rfl rfl rfl
  have tr := ps_try_keep (X := cxOf (L2.CX P w) P w G.K mg base N x (defScope st) g cdv A outer s H E1) (x := CN) (n := err) (c := CV) (i := j) (np := np) (pos := p5) (pos' := p4)
    (tb := fun W => tDrop (tAct 0 f c' q W tl)) (ts := fun _ _ _ => tAsg (tVar j) (gName i)) (Wout := fun cls d _ H => E1 cls d H) rfl rfl Sc.nd hj hln ⟨hcl, hcd, .inl hcm⟩ tk rfl
    (fun W pn xe tk' _ => pss_one (ps_expr (pos := p3) (X0ok W pn xe p1 p2 tk'))) (fun ea oe cls d pn _ _ => pss_one (h1 cdv A outer s H ea _))
  refine ⟨_, pss_cons (h0 cdv A outer s H) (pss_cons tr (hder cdv A outer s H hr' hgd)), ?_⟩
  -- the slots behind y = None
  have st0 : (L2.start N [V.ref f])[0]? = some (some (.ref f)) := start_get (i := 0) rfl
  have hlenN : 1 ≤ N.length := by
    have := (List.getElem?_eq_some_iff.mp hN).1; omega
  have hjl : j < N.length := (List.getElem?_eq_some_iff.mp hj).1
  have stj : ((L2.start N [V.ref f]).set i (some V.non))[j]? = some none := by
    rw [List.getElem?_set_ne hij]
    show (([V.ref f].map some) ++ List.replicate (N.length - 1) none)[j]? = some none
    rw [List.getElem?_append_right (by show 1 ≤ j; omega), List.getElem?_replicate, if_pos (by simp; omega)]
  have hd0 : DenL G B H [.opq (.ref f)] [V.ref f] := ⟨_, _, rfl, rfl, rfl⟩
  obtain ⟨W0, w1, w2, w3, w4, w5, w6, w7⟩ := wd_start (E := E1) (N := N) (u := G.u) (n := n) (c := c) (ex := noX) (by simpa using hlenN) rfl hcn hu hB hg hd0 (fun _ _ _ _ _ _ _ z => z.elim)
  let W1 : Wd G E1 ((L2.start N [V.ref f]).set i (some V.non)) H := W0.put i (d := .non) (v := .non) rfl
  let D : Ends := { nx := fun _ H' => Q .non H', rt := Q }
  let de : DEnds := { nx := fun _ => R .non, rt := fun d _ => R d }
  -- the end of the body
  have fin : ∀ {τ : List (Option V)} {HZ : Hp} (W : Wd G E1 τ HZ), W.u = G.u → W.B = B → W.H0 = H → n - c ≤ W.n → W.m ≤ W.n → ts W.ex de W.env → liftS G E1 0 ts D τ HZ := by
    intro τ HZ W u1 u2 u3 u4 u5 ht
    refine ⟨W, u5, de, ht, ?_, ?_, fun _ _ _ _ z => z.elim, fun _ _ _ _ z => z.elim⟩
    · intro σ' H' W' lt hr'
      exact hQ .non H' .non (by have z := W'.fr; rw [lt.u, lt.H0, u1, u3] at z; exact z) (by have z := W'.good; rw [lt.u, u1] at z; exact z.less (by have := lt.n; omega)) rfl hr'
    · intro v σ' H' W' d lt hd' hr'
      rw [u2] at hd'
      exact hQ v H' d (by have z := W'.fr; rw [lt.u, lt.H0, u1, u3] at z; exact z) (by have z := W'.good; rw [lt.u, u1] at z; exact z.less (by have := lt.n; omega)) hd' hr'
  show tSeq (tAsg (tC .non) (gName i)) _ D (L2.start N [V.ref f]) H
  show tDrop (tAct 0 f c' q (wKeep G.K CV j (fun _ _ _ => tAsg (tVar j) (gName i)) (fun cls d _ H => E1 cls d H) { D with nx := liftS G E1 0 ts D }) tl) { D with nx := liftS G E1 0 ts D } ((L2.start N [V.ref f]).set i (some V.non)) H
  refine ⟨by rw [List.getElem?_set_ne (by omega)]; exact st0, hco, fun cls d H' => wKeep G.K CV j (fun _ _ _ => tAsg (tVar j) (gName i)) (fun cls d _ H => E1 cls d H) { D with nx := liftS G E1 0 ts D } cls d ((L2.start N [V.ref f]).set i (some V.non)) H', fun _ _ _ z => z, ?_⟩
  refine th _ H B n _ _ _ (Ext.refl _ _) hg hcn hu (fun b z => .inl z) hB (hS f T R hST) ?_ ?_
  · intro v H' d he hg' hd' ht
    let W2 := W1.next (c := c) (H' := H') ⟨by show Ext W0.u H H'; rw [w1]; exact he, by show Good W0.u H' (W0.n - c); rw [w1, w2]; exact hg'⟩
    refine fin W2 (by show W0.u = _; exact w1) (by show W0.B = _; exact w4) (by show W0.H0 = _; exact w5) (by show n - c ≤ W0.n - c; omega) (by show W0.m ≤ W0.n - c; omega) ?_
    show ts W0.ex de (W0.env.set i (.val .non))
    rw [w6, w7]
    exact ht
  · rintro e C d H' he hg' ⟨rfl, dd, xs, rfl, nd, e3, e4, e5⟩ ⟨hfit, ht⟩
    refine ⟨true, hfit, fun _ a' ha' => ?_, fun z => by cases z⟩
    -- the suite stores it; behind it the name is gone
    refine ⟨.ref a', by rw [List.getElem?_set_self]; rw [List.length_set]; unfold L2.start; simp only [List.length_append, List.length_map, List.length_replicate, List.length_cons, List.length_nil]; omega, ?_⟩
    show liftS G E1 0 ts D (((((L2.start N [V.ref f]).set i (some V.non)).set j (some (.ref a'))).set i (some (.ref a'))).set j none) (upd H' a' (ExK (.ref (G.cl e.c)) (some dd) a'))
    rw [set_gone hij stj]
    let W2 := W1.next (c := c) (H' := H') ⟨by show Ext W0.u H H'; rw [w1]; exact he, by show Good W0.u H' (W0.n - c); rw [w1, w2]; exact hg'⟩
    have fr : ¬ W1.XB a' := W2.fresh ha'
    let W3 := W2.next (c := 0) (H' := upd H' a' (ExK (.ref (G.cl e.c)) (some dd) a')) ((Step.refl W2).new ha')
    have xb : ∀ b, W1.XB b → B b := fun b z => by
      have z' := xb_val W0.len z
      rcases z' with z' | ⟨i', s', q1, q2, _⟩
      · rw [← w4]; exact z'
      · rw [w6] at q1
        rcases env0_get q1 with ⟨_, _, y⟩ | y <;> (subst y; cases q2)
    have den : Den G W3.XB (upd H' a' (ExK (.ref (G.cl e.c)) (some dd) a')) (.exc e.c e.ds) (.ref a') := by
      refine ⟨a', dd, xs, rfl, fr, fun z => nd (xb dd z), upd_same, by rw [upd_ne (ne_of_none e3 ha')]; exact e3, e4, ?_⟩
      exact (e5.fewer (fun b z => xb b z)).ext (u := none) (Ext.new ha') (fun _ z => z.none.elim)
    let W4 := W3.put i den
    have e6 : W4.env = (env0 N [.opq (.ref f)]).set i (.val (.exc e.c e.ds)) := by
      show (W0.env.set i (.val .non)).set i (.val (.exc e.c e.ds)) = _
      rw [List.set_set, w6]
    have e7 : W4.ex = noX := w7
    refine fin W4 (by show W0.u = _; exact w1) (by show W0.B = _; exact w4) (by show W0.H0 = _; exact w5) (by show n - c ≤ W0.n - c - 0; omega) (by show W0.m ≤ W0.n - c - 0; omega) ?_
    rw [e6, e7]
    exact ht
end
end Kn

set_option Elab.async false
set_option linter.all false
set_option maxRecDepth 100000
set_option maxHeartbeats 2100000
/-! K59: the end of a law's row, where tables of code objects are known. -/
namespace Kn
open PySem PySem.Spec L2 RZ LamX
open PyProof.Rows (envOfC AllBare IntsAre)
/-- the law's def answers True from the entry on, over the heap of which the script and the tables of cs may be known -/
def LawOkT (P : Program) (w : World) (K : PySem.W.Frag) (mg : Str → Option Value) (fa a : Addr) (ns : List Int) (s₁ : Shared) (cs : List (Addr × Addr)) : Prop :=
  ∀ (base : Heap) (H : Hp), K.In base → base.Ns mainGlobals mg → (∀ p ∈ cs, TabB base mg p.1 p.2) → (∀ p ∈ cs, H p.2 = some (.tbl #[])) → SqL K H a (ns.map V.int) → Env0 P w K mg base callerA [] s₁ H →
    codeAny (model P w) callerA (.call (.ref fa) ⟨[.ref a], []⟩) (CR (L2.CX P w) [] P w H s₁ (fun v _ => v = .bl true) (fun _ _ _ => False)) s₁
section
variable {P : Program} {w : World} {K : PySem.W.Frag} {mg mb : Str → Option Value} {fa a : Addr} {s₁ : Shared} {vs : List Value} {ns : List Int} {cs : List (Addr × Addr)}
theorem law_coreT (KX : K.In s₁.heap) (hns : s₁.heap.Ns mainGlobals mg) (hb : s₁.heap.Ns builtinsNs mb) (hbb : ∀ x : Str, x ≠ "__name__" → mb x = bootBuiltins x) (hlim : s₁.heap.NoLimit) (hg : s₁.gens = #[])
    (hbm : ∃ (bm : Addr) (ob : Obj), mg "__builtins__" = some (.ref bm) ∧ bm ≠ builtinsNs ∧
          s₁.heap.get? bm = some ob ∧ ob.cls = .type "module" ∧ ob.dict = some builtinsNs ∧ ob.data = .plain)
    (ha : s₁.heap.get? a = some { cls := .type "list", data := .seq vs.toArray }) (hT : ∀ p ∈ cs, s₁.heap.get? p.2 = some (PySem.W.tabObj #[])) (nT : ∀ p ∈ cs, K.lookup p.2 = none) (C : ∀ p ∈ cs, PySem.W.CodeHd s₁.heap p.1 p.2) (F : LawOkT P w K mg fa a ns s₁ cs)
    (H : Hp) (hH : ∀ p ∈ cs, H p.2 = some (.tbl #[])) (hO : ∀ b o, H b = some o → (b = a ∧ ∃ ob xs, o = .frz ob (.lst xs)) ∨ ∃ p ∈ cs, b = p.2) (hS : SqL K H a (ns.map V.int)) (ok : HOk P w H s₁.heap) (hK : H a ≠ none → K.lookup a = none) :
    codeAny (model P w) callerA (.call (.ref fa) ⟨[.ref a], []⟩) (fun r s' => r = .ok
      (.ret (.bool true)) ∧ OldK s₁.heap s'.heap ∧ s'.os = s₁.os ∧ AllBare s'.gens) s₁ := by
  -- what is neither a list nor an empty record is not tracked
  have off : ∀ {b : Addr} {o : Obj}, s₁.heap.get? b = some o → (∀ xs n, o.data ≠ .seq xs n) → o.data ≠ .fields #[] → H b = none := by
    intro b o e n1 n2
    cases q : H b with
    | none => rfl
    | some u =>
      exfalso
      rcases hO b u q with ⟨rfl, _⟩ | ⟨p, hp, rfl⟩
      · rw [ha] at e; cases e; exact n1 _ _ rfl
      · rw [hT p hp] at e; cases e; exact n2 rfl
  have dict_off : ∀ {b : Addr} {o : Obj} {es : Array DictEntry} {ep : Nat}, s₁.heap.get? b = some o → o.data = .dict es ep → H b = none := fun {b o es ep} e d =>
    off e (fun xs n z => by rw [d] at z; cases z) (fun z => by rw [d] at z; cases z)
  have kb : K.In (hidT s₁.heap H) := by
    intro b o e
    refine hidT_get (KX b o e) ?_
    cases q : H b with
    | none => rfl
    | some u =>
      exfalso
      rcases hO b u q with ⟨rfl, _⟩ | ⟨p, hp, rfl⟩
      · rw [hK (by rw [q]; simp)] at e; cases e
      · rw [nT p hp] at e; cases e
  have gl := ns_hid dict_off hns
  obtain ⟨mc, l1, l2⟩ := hlim
  have hM : Mod K mg (hidT s₁.heap H) := ⟨kb, gl, ⟨mb, ns_hid dict_off hb, hbb⟩, ⟨mc, ns_hid dict_off l1, l2⟩⟩
  have e0 : Env0 P w K mg (hidT s₁.heap H) callerA [] s₁ H := {
    frames := rfl, mod := hM, bs := fun b o e => of_hidT e, bsz := Nat.le_of_eq (hidT_size _ _), funs := trivial, frf := fun b hb => (List.not_mem_nil hb).elim, hok := ok, bare := .of_eq hg }
  have tb : ∀ p ∈ cs, TabB (hidT s₁.heap H) mg p.1 p.2 := by
    intro p hp
    have at_ := hT p hp
    refine ⟨?_, ?_, fun z => ?_⟩
    · obtain ⟨o, us, x1, x2, x3, x4, x5, x6, x7, e1, e2, e3, e4, r⟩ := C p hp
      refine ⟨o, us, x1, x2, x3, x4, x5, x6, x7, hidT_get e1 (off e1 (fun xs n z => by rw [e3] at z; cases z) fun z => ?_), e2, e3, e4, r⟩
      rw [e3] at z
      cases z
      cases e4
    · obtain ⟨bm, ob, b1, b2,
          b3, b4, b5, b6⟩ := hbm
      refine ⟨bm, ob, b1, b2, fun q => ?_, fun q => ?_, hidT_get b3 (off b3 (fun xs n z => by rw [b6] at z; cases z) fun z => by rw [b6] at z; cases z), b4, b5, b6⟩
      · obtain ⟨o, es, ep, e, d, _⟩ := hns
        rw [q, e] at b3
        cases b3
        rw [d] at b6; cases b6
      · rw [q, at_] at b3
        cases b3; cases b6
    · obtain ⟨o, es, ep, e, d, _⟩ := hns
      rw [z, at_] at e
      cases e; cases d
  refine codeAny_mono (F _ H kb gl tb hH hS e0) ?_
  intro r s' h
  cases r with
  | error e =>
    exfalso
    obtain ⟨_, _, _, _, _, _, _, _, _, _, _, _, z⟩ := h; exact z.elim
  | ok fl =>
    cases fl with
    | next => exact h.elim
    | brk => exact h.elim
    | cont => exact h.elim
    | ret u =>
      obtain ⟨v, H', os, bare, un, hok', r', q⟩ := h; rw [show v = .bl true from q] at r'
      cases r'
      have grown : ∀ p ∈ cs, ∃ more, s'.heap.get? p.2 = some (PySem.W.tabObj more) := fun p hp => by
        obtain ⟨more, z⟩ := un.tbls p.2 #[] (hH p hp); exact ⟨_, hok' p.2 _ z⟩
      have same : ∀ b o, (∀ p ∈ cs, b ≠ p.2) → s₁.heap.get? b = some o → s'.heap.get? b = some o := by
        intro b o nb e
        cases hq : H b with
        | none => exact un.keep b o e hq (by intro z; cases z) (by intro z; cases z)
        | some x =>
          rcases hO b x hq with ⟨_, ob, xs, rfl⟩ | ⟨p, hp, z⟩
          · have g1 := (ok b _ hq).1
            have g2 := (hok' b _ (un.frzs b ob _ hq)).1
            rw [e] at g1
            cases g1
            exact g2
          · exact (nb p hp z).elim
      refine ⟨rfl, ⟨fun b o e => ?_,
            fun b o e => ?_⟩, os, bare⟩
      · by_cases hb : ∃ p ∈ cs, b = p.2
        · obtain ⟨p, hp, rfl⟩ := hb
          obtain ⟨more, hm⟩ := grown p hp; rw [hT p hp] at e
          cases e; exact .inr (.inl ⟨((C p hp).tab (hT p hp)).isCodeTable, rfl, #[], more, rfl, by rw [Array.empty_append]; exact hm⟩)
        · exact .inl (same b o (fun p hp z => hb ⟨p, hp, z⟩) e)
      · by_cases hb : ∃ p ∈ cs, b = p.2
        · obtain ⟨p, hp, rfl⟩ := hb
          obtain ⟨more, hm⟩ := grown p hp; exact ⟨_, hm⟩
        · exact ⟨o, same b o (fun p hp z => hb ⟨p, hp, z⟩) e⟩
theorem law_topT (KX : K.In s₁.heap) (hns : s₁.heap.Ns mainGlobals mg) (hb : s₁.heap.Ns builtinsNs mb) (hbb : ∀ x : Str, x ≠ "__name__" → mb x = bootBuiltins x) (hlim : s₁.heap.NoLimit) (hg : s₁.gens = #[])
    (hbm : ∃ (bm : Addr) (ob : Obj), mg "__builtins__" = some (.ref bm) ∧ bm ≠ builtinsNs ∧
          s₁.heap.get? bm = some ob ∧ ob.cls = .type "module" ∧ ob.dict = some builtinsNs ∧ ob.data = .plain)
    (ha : s₁.heap.get? a = some { cls := .type "list", data := .seq vs.toArray }) (hi : IntsAre vs ns) (hl : ns.length ≤ sizeLine) (hT : ∀ p ∈ cs, s₁.heap.get? p.2 = some (PySem.W.tabObj #[])) (nT : ∀ p ∈ cs, K.lookup p.2 = none) (C : ∀ p ∈ cs, PySem.W.CodeHd s₁.heap p.1 p.2) (F : LawOkT P w K mg fa a ns s₁ cs) :
    codeAny (model P w) callerA (.call (.ref fa) ⟨[.ref a], []⟩) (fun r s' => r = .ok
      (.ret (.bool true)) ∧ OldK s₁.heap s'.heap ∧ s'.os = s₁.os ∧ AllBare s'.gens) s₁ := by
  have rv := vals_ints hi
  have nat : ∀ p ∈ cs, p.2 ≠ a := fun p hp z => by
    have e := hT p hp
    rw [z, ha] at e; cases e
  open Classical in
  let Tb : Addr → Option HO := fun b => if ∃ p ∈ cs, b = p.2 then some (.tbl #[]) else none
  have tb1 : ∀ p ∈ cs, Tb p.2 = some (.tbl #[]) := fun p hp => if_pos ⟨p, hp, rfl⟩
  have tb2 : ∀ b o, Tb b = some o → (∃ p ∈ cs, b = p.2) ∧ o = .tbl #[] := fun b o e => by
    by_cases h : ∃ p ∈ cs, b = p.2
    · rw [show Tb b = some (.tbl #[]) from if_pos h] at e
      exact ⟨h, (Option.some.inj e).symm⟩
    · rw [show Tb b = none from if_neg h] at e; cases e
  have okT : ∀ {H : Hp} b o, Tb b = some o → ObjOk P w H s₁.heap b o := fun {H} b o e => by
    obtain ⟨⟨p, hp, rfl⟩, rfl⟩ := tb2 b o e
    exact hT p hp
  cases hk : K.lookup a with
  | some o =>
    have e := KX a o hk
    rw [ha] at e
    cases e
    refine law_coreT KX hns hb hbb hlim hg hbm ha hT nT C F Tb tb1 (fun b u z => .inr (tb2 b u z).1) (.inr ⟨_, vs.toArray, _, hk, rfl, rfl, rfl, by rw [List.size_toArray, hi.length]; exact hl, by simpa using rv⟩) (fun b u z => okT b u z) (fun z => ?_)
    cases q : Tb a with
    | none => exact (z q).elim
    | some u =>
      obtain ⟨⟨p, hp, e⟩, _⟩ := tb2 a u q
      exact (nat p hp e.symm).elim
  | none =>
    let H : Hp := fun b => if b = a then some (.frz { cls := .type "list", data := .seq vs.toArray } (.lst (ns.map V.int))) else Tb b
    have Ha : H a = some (.frz { cls := .type "list", data := .seq vs.toArray } (.lst (ns.map V.int))) := if_pos rfl
    have Hn : ∀ {b}, b ≠ a → H b = Tb b := fun {b} hb => if_neg hb
    refine law_coreT KX hns hb hbb hlim hg hbm ha hT nT C F H (fun p hp => by rw [Hn (nat p hp)]; exact tb1 p hp) (fun b u z => ?_) (.inl (.inr ⟨_, Ha⟩)) (fun b u z => ?_) (fun _ => hk)
    · by_cases h : b = a
      · rw [h, Ha] at z
        cases z
        exact .inl ⟨h, _, _, rfl⟩
      · rw [Hn h] at z
        exact .inr (tb2 b u z).1
    · by_cases h : b = a
      · rw [h, Ha] at z
        cases z
        rw [h]; exact ⟨ha, by rw [List.length_map]; exact hl, vs, _, rv, ha⟩
      · rw [Hn h] at z
        exact okT b u z
end
/-- the end of a law's row with tables: cs, for each def that makes lambdas its name, its code object, its table -/
theorem law_rowT {l : PySem.W.OpenLaw} {n : Nat} {q : Program} {loose : List Str} {XP : (Str → Option Value) → Heap → Prop} {YP : World → Heap → Prop} {d : DefRec} {K : Params → PySem.W.Frag}
    (hn : l.most = some n) (hn2 : n ≤ sizeLine) (hdf : d.params.defaults = []) (hY : ∀ (w : World) (h : Heap), YP w h → (K w.params).In h)
    (F : ∀ (w : World) (mg : Str → Option Value) (fa a : Addr) (h : Heap) (s : Shared) (ns : List Int), (K w.params).In h → h.Ns mainGlobals mg → mg d.name = some (.ref fa) → ns.length ≤ n →
      ∃ cs : List (Str × Addr × Addr), (∀ x ∈ cs, ((PyProof.Rows.recsOf q).find? (fun e => e.name == x.1)).isSome = true ∧ PySem.W.tabIn (K w.params) x.1 = some x.2 ∧ (K w.params).lookup x.2.2 = none) ∧ LawOkT l.prog w (K w.params) mg fa a ns s (cs.map (·.2))) :
    PySem.W.WalkO q loose XP YP l.row.toRowW
      d [] (fun f vs => PySem.call f vs) := by
  refine Att.attach_call hn hdf ?_
  intro w s₀ s₁ mg mb fa o pm cd doc a vs ns Gx Y ho hd hcd hmg hobj hints hlen hg
  have KX := hY w _ Y
  obtain ⟨cs, hcs, hF⟩ := F w mg fa a _ s₁ ns KX Gx.T.g hmg hlen
  have tabs : ∀ p ∈ cs.map (·.2), PySem.W.CodeHd s₁.heap p.1 p.2 ∧ s₁.heap.get? p.2 = some (PySem.W.tabObj #[]) ∧ (K w.params).lookup p.2 = none := fun p hp => by
    obtain ⟨x, hx, rfl⟩ := List.mem_map.mp hp
    obtain ⟨h1, h2, h3⟩ := hcs x hx
    obtain ⟨dr, h1⟩ := Option.isSome_iff_exists.mp h1
    obtain ⟨t1, t2⟩ := PySem.W.tab_of Gx.T KX h1 h2
    exact ⟨t1, t2, h3⟩
  exact law_topT KX Gx.T.g Gx.T.b Gx.T.builtins Gx.T.nolimit hg Gx.T.bmain hobj hints (Nat.le_trans hlen hn2) (fun p hp => (tabs p hp).2.1) (fun p hp => (tabs p hp).2.2) (fun p hp => (tabs p hp).1) hF
end Kn

set_option Elab.async false
set_option linter.all false
set_option maxRecDepth 100000
set_option maxHeartbeats 4100000
/-! K60: the law's def: its first statement makes the urn. -/
namespace Kn
open PySem L2 RZ
open PyProof.Rows (envOfC)
/-- the law's pen: a new list of the cells and two numbers -/
def spPen (K : PySem.W.Frag) : Sp := fun vs H Q _ => ∃ (a : Addr) (ns : List Int), vs = [.ref a] ∧ SqL K H a (ns.map V.int) ∧ ns.length ≤ 63 ∧
  ∀ (H' : Hp) (p b : Addr) (cells : List Int), Ext none H H' → H p = none → H b = none → p ≠ b → cells.length ≤ 63 → H' p = some (.lst [.ref b, .int 0, .int 0]) → H' b = some (.lst (cells.map V.int)) → Q (.ref p) H'
theorem Ext.sl {H H' : Hp} {a : Addr} {xs : List V} (e : Ext none H H') (h : SqL K H a xs) : SqL K H' a xs := Kn.Ext.sqL e NU.none h
theorem cut_ints (ns : List Int) : cutV (ns.map V.int) none (some 60) = (ns.take 60).map V.int := by
  unfold cutV
  rw [HT.sIx_none, List.drop_zero, Nat.sub_zero, show HT.sIx (ns.map V.int).length (ns.map V.int).length (some 60) = min 60 (ns.map V.int).length from HT.sIx_nat _ _ 60, List.length_map, ← List.map_take]
  congr 1
  by_cases h : 60 ≤ ns.length
  · rw [Nat.min_eq_left h]
  · rw [Nat.min_eq_right (by omega), List.take_length, List.take_of_length_le (by omega)]
section
variable {P : Program} {w : World} {G : Gd} {mg : Str → Option Value} {fa a : Addr} {fd : FuncData} {s₁ : Shared} {ns : List Int} {k : Nat}
theorem line_4000 : ((2 ^ 4000 : Nat) : Int) ≤ atLine := by
  unfold atLine
  rw [show (4096 : Nat) = 96 + 4000 from rfl, Int.pow_add]
  have h : (0 : Int) < 2 ^ 4000 := by first | exact Int.pow_pos (by decide) | exact Int.pos_pow_of_pos 4000 (by decide)
  push_cast
  generalize (2 : Int) ^ 4000 = T at *
  omega
/-- nothing wanted of errors -/
abbrev EF : XK := fun _ _ _ => False
/-- the state behind the making of the urn at p, with its cells at b -/
theorem wd_urn {N : List Str} {x : V} {p b : Addr} {H' : Hp} {cells : List Int} {T : List (Addr × Str)} (hN : 2 ≤ N.length) (hpb : p ≠ b) (hcl : cells.length ≤ 63) (hp : H' p = some (.lst [.ref b, .int 0, .int 0])) (hb : H' b = some (.lst (cells.map V.int))) (h2 : (L2.start N [x]).length = N.length) (hT : LamX.Tabs T H') :
    ∃ W : Wd { G with u := some ((p, b), T) } EF ((L2.start N [x]).set 1 (some (.ref p))) H', W.n = 2 ^ 4000 ∧ W.m = 0 ∧ W.env = .emp :: .val .urn :: List.replicate (N.length - 2) .emp ∧ W.ex = noX := by
  have he : ∀ {i : Nat} {s : Sl}, (Sl.emp :: Sl.val .urn :: List.replicate (N.length - 2) Sl.emp)[i]? = some s → s = .emp ∨ (i = 1 ∧ s = .val .urn) := fun {i s} e => by
    match i with
    | 0 => exact .inl (Option.some.inj e).symm
    | 1 => exact .inr ⟨rfl, (Option.some.inj e).symm⟩
    | i + 2 =>
      have e' : (List.replicate (N.length - 2) Sl.emp)[i]? = some s := e
      rw [List.getElem?_replicate] at e'
      split at e'
      · exact .inl (Option.some.inj e').symm
      · cases e'
  have hno : ∀ {i : Nat} {s : Sl}, (Sl.emp :: Sl.val .urn :: List.replicate (N.length - 2) Sl.emp)[i]? = some s → s.mine = true → False := fun {i s} e hm => by
    rcases he e with z | ⟨_, z⟩
    · subst z; cases hm
    · subst z; cases hm
  refine ⟨{ u := some ((p, b), T), n := 2 ^ 4000, m := 0, B := fun c => c = p ∨ c = b ∨ ∃ t ∈ T, c = t.1, H0 := H', env := .emp :: .val .urn :: List.replicate (N.length - 2) .emp, ex := noX, ug := rfl, hu := fun q e => ?_, hB := fun c hc z => ?_, fr := Ext.refl _ _, good := ?_, len := ?_, sl := fun i s e => ?_, nd := fun i j c s t e1 e2 m1 => (hno e1 m1).elim, exc := fun _ _ _ _ _ _ _ z => z.elim }, rfl, rfl, rfl, rfl⟩
  · obtain ⟨r, er, q⟩ := e
    cases er
    rcases q with rfl | ⟨t, ht, rfl⟩
    · exact ⟨.inl rfl, .inr (.inl rfl)⟩
    · exact ⟨.inr (.inr ⟨t, ht, rfl⟩), .inr (.inr ⟨t, ht, rfl⟩)⟩
  · rcases hc with rfl | rfl | ⟨t, ht, rfl⟩
    · rw [hp] at z; cases z
    · rw [hb] at z; cases z
    · obtain ⟨ps, e, _⟩ := hT t ht
      rw [e] at z; cases z
  · refine ⟨⟨cells, 0, 0, hp, hb, hcl, hpb, by decide, by decide, ?_⟩, hT⟩
    rw [Int.zero_add]
    exact line_4000
  · rw [List.length_set, h2]
    simp only [List.length_cons, List.length_replicate]
    omega
  · rcases he e with z | ⟨rfl, z⟩
    · subst z; trivial
    · subst z
      refine ⟨.ref p, ?_, ((p, b), T), rfl, rfl⟩
      rw [List.getElem?_set_self (by omega)]
      rfl
/-- THE RULE for the law: its first statement makes the urn, the rest is read over it -/
theorem law_of {cs : List (Addr × Addr)} {T : List (Addr × Str)} {cd : Addr} (hcs : ∀ t ∈ T, ∃ p ∈ cs, p.2 = t.1) {st s0 : Stmt} {rest : List Stmt} {N : List Str} {c : Nat} {ts : DS} (hGu : G.u = none) (F : FunC G.K "law" "law" st fa fd cd) (Sc : FnScope N ["script"] (defScope st)) (hb : ∀ (s : Shared) (v : Value), BindsTo s fd ⟨[v], []⟩ [("script", v)])
    (hr : Room (k + 1) callerA) (hN : 2 ≤ N.length) (hbody : defBody st = s0 :: rest) (hc : c ≤ 2 ^ 4000) (hlen : ns.length ≤ 63)
    (h0 : ∀ (base : Heap) (H : Hp), Room k (callerA.deeper (envOfC "law" (defScope st) s₁.heap.objs.size fa (.ref cd))) → PS (cxOf (L2.CX P w) P w G.K mg base N "law" (defScope st) fa (.ref cd) callerA [] s₁ H EF) s0 (tAsg (tCall (spPen G.K) [] EF (tCons (tVar 0) tNil)) (gName 1)))
    (hder : ∀ (p b : Addr) (base : Heap) (H : Hp), (∀ p ∈ cs, LamX.TabB base mg p.1 p.2) → Room k (callerA.deeper (envOfC "law" (defScope st) s₁.heap.objs.size fa (.ref cd))) → DSs { G with u := some ((p, b), T) } EF (cxOf (L2.CX P w) P w G.K mg base N "law" (defScope st) fa (.ref cd) callerA [] s₁ H EF) c rest ts)
    (hS : ts noX { nx := fun _ => False, rt := fun d _ => d = .bl true } (.emp :: .val .urn :: List.replicate (N.length - 2) .emp)) : LawOkT P w G.K mg fa a ns s₁ cs := by
  intro base H KXb hmg hTB hTH hSq e0
  have hTabs : LamX.Tabs T H := fun t ht => by
    obtain ⟨p, hp, e⟩ := hcs t ht
    rw [← e]
    exact LamX.TabS.nil (hTH p hp)
  obtain ⟨oc, od, kV, doc, pm, an, ct, osl, rfl, lk, hcd⟩ := F.ex; have KX : G.K.In s₁.heap := PySem.W.Frag.In.keeps e0.mod.kin (fun b o e => (e0.bs b o e).1)
  have nolim : s₁.heap.NoLimit := Heap.NoLimit.keeps e0.mod.nolimit (fun b o e => (e0.bs b o e).1)
  have kinds : ∀ y ∈ (["script"] : List Str).zip [Value.ref a], (defScope st).names.lookup y.1 = some .local ∨
      ((defScope st).names.lookup y.1 = some .cell ∧ ((cellsFrom (s₁.heap.objs.size + 1) (defScope st).names []).lookup y.1).isSome = true) := by
    intro y hy
    obtain ⟨n1, v1⟩ := y
    rcases Sc.par n1 (List.of_mem_zip hy).1 with z | z
    · exact .inl z
    · exact .inr ⟨z, PySem.W.cellsFrom_some _ _ _ (.inl z)⟩
  refine codeAny_call_function hr.depth (KX _ _ lk) rfl Sc.co Sc.gen rfl (PySem.W.codeRec_of KX hcd) ?_
  refine hb _ _ _ _ _ _ (wpAny_newFunctionEnv_cells Sc.kind kinds ?_)
  intro env he s1 ic
  subst he
  refine ⟨nolim.keeps ic.toInCall.keep, codeAny_func ?_⟩
  have I : Inv (cxOf (L2.CX P w) P w G.K mg base N "law" (defScope st) fa (.ref cd) callerA [] s₁ H EF) [] (L2.start N [.ref a]) H s1 := inv_start Sc hr.hd e0 rfl (.cons rfl .nil) ic
  have rm := hr.deeper (envOfC "law" (defScope st) s₁.heap.objs.size fa (.ref cd))
  have hl2 : (L2.start N [V.ref a]).length = N.length := by
    unfold L2.start
    simp only [List.length_append, List.length_map, List.length_replicate, List.length_cons, List.length_nil]
    omega
  have body : PSs (cxOf (L2.CX P w) P w G.K mg base N "law" (defScope st) fa (.ref cd) callerA [] s₁ H EF) (defBody st) (tSeq (tAsg (tCall (spPen G.K) [] EF (tCons (tVar 0) tNil)) (gName 1)) fun Dn σ H' => ∃ p b, liftS { G with u := some ((p, b), T) } EF c ts Dn σ H') := by
    rw [hbody]
    exact pss_cons (h0 base H rm) ⟨fun pins s σ H' D I q => by
      obtain ⟨p, b, q⟩ := q
      exact (hder p b base H hTB rm).run pins s σ H' D I q⟩
  have run := body.run [] s1 (L2.start N [.ref a]) H { nx := fun _ _ => False, rt := fun v _ => v = .bl true } I (by
    refine ⟨.ref a, rfl, a, ns, rfl, hSq, hlen, fun H' p b cells hext hp0 hb0 hpb hcl hp hb' => ?_⟩
    obtain ⟨W, w1, w2, w3, w4⟩ := wd_urn (G := G) hN hpb hcl hp hb' hl2 (hTabs.ext fun b o e => hext b o e NU.none)
    refine ⟨p, b, W, by rw [w1, w2, Nat.zero_add]; exact hc, ({ nx := fun _ => False, rt := fun d _ => d = .bl true } : DEnds), by rw [w3, w4]; exact hS, fun _ _ _ _ z => z.elim, fun v σ' H' W' d lt hd hr' => ?_, fun _ _ _ _ z => z.elim, fun _ _ _ _ z => z.elim⟩
    subst hr'
    exact hd)
  refine wpAny_mono run ?_ (fun e s' hs => hs)
  intro fl s' hfl
  cases fl with
  | next => obtain ⟨σ', H', J, q⟩ := hfl; exact q.elim
  | ret v' => obtain ⟨v, σ', H', J, r1, q⟩ := hfl; exact ⟨v, H', J.os, J.bare, J.base, J.hok, r1, q⟩
  | brk => obtain ⟨σ', H', J, q⟩ := hfl; exact q.elim
  | cont => obtain ⟨σ', H', J, q⟩ := hfl; exact q.elim
end
end Kn

set_option Elab.async false
set_option linter.all false
set_option maxRecDepth 100000
set_option maxHeartbeats 2100000
/-! K61: max and min with a default; displayed dicts. -/
namespace Kn
open PySem PySem.Spec L2 RZ
section
variable {G : Gd} {E : XK} {X : Cx} {σ : List (Option V)} {H H' : Hp} {k : Nat}
theorem alike_ints (ns : List Int) : PySem.W.AlikeAll (ns.map PyData.int) := by
  refine ⟨fun x hx y hy => ?_, fun x hx => ?_⟩
  · obtain ⟨i, _, rfl⟩ := List.mem_map.mp hx
    obtain ⟨j, _, rfl⟩ := List.mem_map.mp hy
    rfl
  · obtain ⟨i, _, rfl⟩ := List.mem_map.mp hx
    exact fun z => by cases z
theorem depth_ints (ns : List Int) : PyData.depthAll (ns.map PyData.int) = 0 := by
  induction ns with
  | nil => rfl
  | cons n ns ih => show max 0 _ = 0; rw [ih]; rfl
theorem dp_ints {K : PySem.W.Frag} (ns : List Int) : DpAll K H (ns.map V.int) (ns.map PyData.int) := by
  induction ns with
  | nil => exact .nil
  | cons m ms ih => exact .cons (.int m) ih
def greatest : List Int → Option Int
  | [] => none
  | n :: ns => some (ns.foldl max n)
def least : List Int → Option Int
  | [] => none
  | n :: ns => some (ns.foldl min n)
/-- max(d, default=e), min(d, default=e) of ints -/
def gBestD (f : List Int → Option Int) : G2 := fun d e Q => ∃ ns : List Int, (d = .lst (ns.map D.int) ∨ d = .tup (ns.map D.int)) ∧ Q (match f ns with | none => e | some m => .int m)
def rBestD (G : Gd) (f : List Int → Option Int) : List V → List V → Hp → VK → Prop := fun xs zs H Q' => ∃ B d e x z Q, xs = [x] ∧ zs = [z] ∧ Den G B H d x ∧ Den G B H e z ∧ gBestD f d e Q ∧ ∀ r rd, Den G B H rd r → Q rd → Q' r H
theorem reads_int {h : Heap} {v : Value} {i : Int} {as : List Addr} (r : Reads h v (.int i) as) : ∃ t, v = .int i t := by
  cases r; exact ⟨_, rfl⟩
theorem cr_maxD (hK : X.K = G.K) (hc : X.calm = true) (hu : X.A.units + 64 < cLine) : CallRK X (.builtin "max") [Str.ofString "default"] (rBestD G greatest) := by
  intro pins s σ H xs zs us ws Q' I r rz h
  obtain ⟨B, d, e, x, z, Q, rfl, rfl, hd, he, ⟨ns, hns, hq⟩, kk⟩ := h
  obtain ⟨w1, rfl, e1⟩ := vals1 rz; obtain ⟨u1, rfl, r1⟩ := vals1 r
  have dflt : ns.map PyData.int = [] → ∀ h' tk, (∀ b o, s.heap.get? b = some o → h'.get? b = some o) → EP X pins σ Q' w1 { s with heap := h', toks := tk } := fun z h' tk hk' => by
    rw [List.map_eq_nil_iff.mp z] at hq
    exact ⟨_, H, I.kept hk', e1, kk _ _ he hq⟩
  have best : ∀ (y : PyData) (ys : List PyData) (v : Value) (h' : Heap) (tk : Nat) (bs : List Addr), ns.map PyData.int = y :: ys → Reads h' v (PySem.W.maxD y ys) bs → (∀ b o, s.heap.get? b = some o → h'.get? b = some o) → EP X pins σ Q' v { s with heap := h', toks := tk } := fun y ys v h' tk bs ey rd hk' => by
    match ns, ey, hq with
    | n :: ns, ey, hq =>
      cases ey
      rw [PySem.W.maxD_ints] at rd
      obtain ⟨t, rfl⟩ := reads_int rd
      exact ⟨.int _, H, I.kept hk', ⟨t, rfl⟩, kk _ (.int _) (den_int _) hq⟩
  rcases hns with rfl | rfl
  · obtain ⟨a, ys, rfl, _, ha, _, da⟩ := hd
    rw [da.ints] at ha
    cases r1
    obtain ⟨its, rv, hl, _⟩ := I.list (SqL.of ha)
    obtain ⟨as, rds⟩ := Dp.readsAll I (ns.map PyData.int) _ its (dp_ints ns) rv
    exact PySem.W.max_list_default (I.ok.hd hc) hl.isList rds (alike_ints ns) (by rw [depth_ints]; omega) dflt fun y ys i v h' tk bs ey _ rd hk' => best y ys v h' tk bs ey rd hk'
  · obtain ⟨a, ys, rfl, _, ha, _, da⟩ := hd
    rw [da.ints] at ha
    cases r1
    rw [← hK] at ha
    obtain ⟨its, rv, hl, _⟩ := I.tuple ha
    obtain ⟨as, rds⟩ := Dp.readsAll I (ns.map PyData.int) _ its (dp_ints ns) rv
    exact PySem.W.max_tuple_default (I.ok.hd hc) hl rds (alike_ints ns) (by rw [depth_ints]; omega) dflt fun y ys i v h' tk bs ey _ rd hk' => best y ys v h' tk bs ey rd hk'
theorem cr_minD (hK : X.K = G.K) (hc : X.calm = true) (hu : X.A.units + 64 < cLine) : CallRK X (.builtin "min") [Str.ofString "default"] (rBestD G least) := by
  intro pins s σ H xs zs us ws Q' I r rz h
  obtain ⟨B, d, e, x, z, Q, rfl, rfl, hd, he, ⟨ns, hns, hq⟩, kk⟩ := h
  obtain ⟨w1, rfl, e1⟩ := vals1 rz; obtain ⟨u1, rfl, r1⟩ := vals1 r
  have dflt : ns.map PyData.int = [] → ∀ h' tk, (∀ b o, s.heap.get? b = some o → h'.get? b = some o) → EP X pins σ Q' w1 { s with heap := h', toks := tk } := fun z h' tk hk' => by
    rw [List.map_eq_nil_iff.mp z] at hq
    exact ⟨_, H, I.kept hk', e1, kk _ _ he hq⟩
  have best : ∀ (y : PyData) (ys : List PyData) (v : Value) (h' : Heap) (tk : Nat) (bs : List Addr), ns.map PyData.int = y :: ys → Reads h' v (PySem.W.minD y ys) bs → (∀ b o, s.heap.get? b = some o → h'.get? b = some o) → EP X pins σ Q' v { s with heap := h', toks := tk } := fun y ys v h' tk bs ey rd hk' => by
    match ns, ey, hq with
    | n :: ns, ey, hq =>
      cases ey
      rw [PySem.W.minD_ints] at rd
      obtain ⟨t, rfl⟩ := reads_int rd
      exact ⟨.int _, H, I.kept hk', ⟨t, rfl⟩, kk _ (.int _) (den_int _) hq⟩
  rcases hns with rfl | rfl
  · obtain ⟨a, ys, rfl, _, ha, _, da⟩ := hd
    rw [da.ints] at ha
    cases r1
    obtain ⟨its, rv, hl, _⟩ := I.list (SqL.of ha)
    obtain ⟨as, rds⟩ := Dp.readsAll I (ns.map PyData.int) _ its (dp_ints ns) rv
    exact PySem.W.min_list_default (I.ok.hd hc) hl.isList rds (alike_ints ns) (by rw [depth_ints]; omega) dflt fun y ys i v h' tk bs ey _ rd hk' => best y ys v h' tk bs ey rd hk'
  · obtain ⟨a, ys, rfl, _, ha, _, da⟩ := hd
    rw [da.ints] at ha
    cases r1
    rw [← hK] at ha
    obtain ⟨its, rv, hl, _⟩ := I.tuple ha
    obtain ⟨as, rds⟩ := Dp.readsAll I (ns.map PyData.int) _ its (dp_ints ns) rv
    exact PySem.W.min_tuple_default (I.ok.hd hc) hl rds (alike_ints ns) (by rw [depth_ints]; omega) dflt fun y ys i v h' tk bs ey _ rd hk' => best y ys v h' tk bs ey rd hk'
def dBestD (f : List Int → Option Int) (te td : DT) : DT := fun ex env Q => te ex env fun d => td ex env fun e => gBestD f d e Q
theorem de_bestD {f : List Int → Option Int} {b : String} {x : Str} {e d : Expr} {kp p pos : Pos} {c cd : Nat} {te td : DT} (hc : CallRK X (.builtin b) [Str.ofString "default"] (rBestD G f)) (hm : X.mg x = none) (he : DE G E X c e te) (hd : DE G E X cd d td) (hv : bootBuiltins x = some (.builtin b) := by decide +kernel) (hg : Gl X x := by rfl) (hn : x ≠ "__name__" := by decide) (hdb : (x == ("__debug__" : Str)) = false := by decide)
    (hs : ∀ env : Env, starEach [e] env = (false, eval e env) :: starEach [] env := by (intro _; rfl))
    (hb : backTo pos (starEach [e] X.env) = (false, eval e X.env) :: backTo pos (starEach [] X.env) := by rfl) (hpl : (backTo pos (starEach [e] X.env)).any (·.1) = false := by rfl)
    (hall : (backToKw pos (keywordEach [⟨some "default", d, kp⟩] X.env)).all (·.1.isSome) = true := by rfl) (hnone : (backToKw pos (keywordEach [⟨some "default", d, kp⟩] X.env)).any (·.1.isNone) = false := by rfl) (hks : (backToKw pos (keywordEach [⟨some "default", d, kp⟩] X.env)).filterMap (·.1) = [Str.ofString "default"] := by rfl) :
    DE G E X (c + cd) (.Call (.Name x p) [e] [⟨some "default", d, kp⟩] pos) (dBestD f te td) :=
  imp (pe_callBK hc hg hm hv (pa_cons he pa_nil (hs _)) (pk_cons hd pk_nil) hn hdb hb hpl hall hnone hks) fun σ H Q' h => by
    obtain ⟨W, hw, Q, ht, kk⟩ := h
    refine ⟨W, by omega, _, ht, fun v H1 dd st hdv hq => ?_⟩
    refine ⟨W.next st, by show W.m + cd ≤ W.n - c; omega, _, hq, fun v2 H2 de st2 hde hq2 => ?_⟩
    exact ⟨W.XB, dd, de, v, v2, Q, rfl, rfl, (W.next st).den st2 hdv, hde, hq2, fun r rd hr q => kk r H2 rd (st.trans st2) hr q⟩
def D.atom : D → Bool
  | .non => true
  | .bl _ => true
  | .int _ => true
  | .str _ => true
  | _ => false
theorem den_atom {B B' : Addr → Prop} {H H' : Hp} {d : D} {v : V} (h : d.atom = true) (hd : Den G B H d v) : Den G B' H' d v := by
  cases d <;> first | exact hd | cases h
/-- a key that is written -/
def keyD : Key → D
  | .inl i => .int i
  | .inr t => .str t
theorem den_key {B : Addr → Prop} {H : Hp} (q : Key) : Den G B H (keyD q) (kV q) := by
  cases q <;> rfl
/-- {k: e}, k written, e a number, a text .. -/
def dDic1 (q : Key) (te : DT) : DT := fun ex env Q => te ex env fun d => d.atom = true ∧ Q (.dic [q] [d])
theorem de_dic1 {q : Key} {ke e : Expr} {pos : Pos} {c : Nat} {te : DT} (hk : PE X ke (tC (kV q))) (he : DE G E X c e te) : DE G E X c (.Dict [some ke] [e] pos) (dDic1 q te) :=
  imp (pe_disp (pps_cons hk he pps_nil) rfl rfl (by simp) (by simp)) fun σ H Q' hh => by
    obtain ⟨W, hn, Q, ht, kk⟩ := hh
    intro p hp
    have fr := W.fresh hp
    let W1 := W.next (c := 0) (H' := upd H p (.dK [])) ((Step.refl W).new hp)
    refine ⟨W1, by show W.m + c ≤ W.n - 0; omega, _, ht, fun v H2 d st hd ⟨ha, hq⟩ => ?_⟩
    have hp2 : H2 p = some (.dK []) := st.ext p _ upd_same (W.nuX fr)
    refine ⟨hp2, [(q, v)], rfl, by simp, ?_⟩
    have e1 : mergeK [] [(q, v)] = [(q, v)] := by
      show putK [] q v = _
      simp [putK]
    rw [e1]
    have st3 : Step W c (upd H2 p (.dK [(q, v)])) := by
      refine ⟨fun b o hb nu => ?_, ?_⟩
      · have nb : b ≠ p := ne_of_none hb hp
        rw [upd_ne nb]
        exact st.ext b o (by rw [upd_ne nb]; exact hb) nu
      · have g : Good W.u H2 (W.n - c) := by have z := st.good; rw [show W1.n = W.n - 0 from rfl, Nat.sub_zero] at z; exact z
        exact g.upd (fun r e => ⟨fun z => fr (by rw [z]; exact W.huX r e), fun z => fr (by rw [z]; exact .inl (W.hu r e).2)⟩) (fun q' z => by rw [hp2] at z; cases z)
    exact kk (.ref p) _ (.dic [q] [d]) st3 ⟨p, [(q, v)], rfl, fr, upd_same, rfl, v, [], rfl, den_atom ha hd, rfl⟩ hq
/-- {} -/
theorem de_dic0 {pos : Pos} : DE G E X 0 (.Dict [] [] pos) (dC (.dic [] [])) := imp pe_dnewK fun σ H Q' hh => by
  obtain ⟨W, hn, Q, hq, kk⟩ := hh
  intro p hp
  exact kk (.ref p) _ (.dic [] []) ((Step.refl W).new hp) ⟨p, [], rfl, W.fresh hp, upd_same, rfl, rfl⟩ hq
end
end Kn

set_option Elab.async false
set_option linter.all false
set_option maxRecDepth 100000
set_option maxHeartbeats 2100000
/-! K62: reading comprehensions and loops over mapped lists. -/
namespace Kn
open PySem L2 RZ
section
variable {α : Type} {tg : DG} {tt : DB} {te : DT} {Q : List D → Prop} {env : List Sl}
/-- [e for x in xs]: g says how an item lies, r what comes of it -/
theorem compL_of (g r : α → D) : ∀ {xs : List α} {acc : List D}, (∀ x ∈ xs, ∀ K : D → Prop, K (r x) → tg (g x) env fun env2 => te noX env2 K) → Q (acc ++ xs.map r) → compL tg bYes te Q env (xs.map g) acc
  | [], acc, _, hq => by
    unfold compL
    simpa using hq
  | x :: xs, acc, h, hq => by
    show compL tg bYes te Q env (g x :: xs.map g) acc
    unfold compL
    refine h x List.mem_cons_self _ ?_
    exact compL_of g r (fun y hy => h y (List.mem_cons_of_mem _ hy)) (by rw [List.append_assoc]; exact hq)
/-- .. with an if -/
theorem compL_ofF (g r : α → D) (p : α → Bool) : ∀ {xs : List α} {acc : List D}, (∀ x ∈ xs, ∀ (K : D → Prop) (K' : Prop), (p x = true → K (r x)) → (p x = false → K') → tg (g x) env fun env2 => tt noX env2 fun b => if b = true then te noX env2 K else K') → Q (acc ++ (xs.filter p).map r) → compL tg tt te Q env (xs.map g) acc
  | [], acc, _, hq => by
    unfold compL
    simpa using hq
  | x :: xs, acc, h, hq => by
    show compL tg tt te Q env (g x :: xs.map g) acc
    unfold compL
    refine h x List.mem_cons_self _ _ (fun hp => ?_) (fun hp => ?_)
    · refine compL_ofF g r p (fun y hy => h y (List.mem_cons_of_mem _ hy)) ?_
      rw [List.filter_cons, if_pos hp] at hq
      rw [List.append_assoc]; exact hq
    · refine compL_ofF g r p (fun y hy => h y (List.mem_cons_of_mem _ hy)) ?_
      rw [List.filter_cons, if_neg (by rw [hp]; decide)] at hq
      exact hq
/-- for x in xs -/
theorem sForL_of {ex : Exc → Prop} {tb : DS} {de : DEnds} (g : α → D) {xs : List α} (I : Nat → List Sl → Prop) (h0 : I 0 env)
    (hs : ∀ (i : Nat) (x : α) (env : List Sl), xs[i]? = some x → I i env → ∀ nx : List Sl → Prop, (∀ env', I (i + 1) env' → nx env') → tg (g x) env fun env2 => tb ex { de with nx := nx, ct := nx, bk := de.nx } env2)
    (hd : ∀ env, I xs.length env → de.nx env) : sForL ex tg tb de (xs.map g) env := by
  refine sForL_inv I 0 h0 (fun i x env hi hI nx hn => ?_) (fun env hI => hd env (by rw [Nat.zero_add, List.length_map] at hI; exact hI))
  rw [List.getElem?_map] at hi
  obtain ⟨y, hy, rfl⟩ := Option.map_eq_some_iff.mp hi
  rw [Nat.zero_add] at hI hn
  exact hs i y env hy hI nx hn
/-- for i in range(n) -/
theorem sForL_rng {ex : Exc → Prop} {tb : DS} {de : DEnds} {n : Nat} (I : Nat → List Sl → Prop) (h0 : I 0 env)
    (hs : ∀ (i : Nat) (env : List Sl), i < n → I i env → ∀ nx : List Sl → Prop, (∀ env', I (i + 1) env' → nx env') → tg (.int i) env fun env2 => tb ex { de with nx := nx, ct := nx, bk := de.nx } env2)
    (hd : ∀ env, I n env → de.nx env) : sForL ex tg tb de (rangeD 0 n) env := by
  have e : rangeD 0 n = (List.range n).map fun (i : Nat) => D.int i := by
    unfold rangeD
    refine List.map_congr_left fun i _ => ?_; rw [Int.zero_add]
  rw [e]
  refine sForL_of (fun (i : Nat) => D.int i) I h0 (fun i x env hi hI nx hn => ?_) (fun env hI => hd env (by rw [List.length_range] at hI; exact hI))
  obtain ⟨hlt, hx⟩ := List.getElem?_eq_some_iff.mp hi
  rw [List.getElem_range] at hx
  rw [← hx]
  exact hs i env (by rw [List.length_range] at hlt; exact hlt) hI nx hn
theorem rangeD_eq (n : Nat) : rangeD 0 n = (List.range n).map fun (i : Nat) => D.int i := by
  unfold rangeD
  exact List.map_congr_left fun i _ => by rw [Int.zero_add]
end
/-- a statement in a row: what stands behind it -/
theorem seq_to {t u : DS} {ex : Exc → Prop} {de : DEnds} {env : List Sl} (I : List Sl → Prop) (h1 : ∀ de' : DEnds, (∀ env', I env' → de'.nx env') → de'.rt = de.rt → t ex de' env) (h2 : ∀ env', I env' → u ex de env') : sSeq t u ex de env :=
  h1 { de with nx := fun env' => u ex de env' } (fun env' h => h2 env' h) rfl
theorem ite_of {b : Bool} {X Y : Prop} (h1 : b = true → X) (h2 : b = false → Y) : if b = true then X else Y := by
  cases b with
  | true => exact h1 rfl
  | false => exact h2 rfl
theorem small {n : Nat} (h : n ≤ 100000) : n ≤ sizeLine := by rw [sizeLine_eq]; omega
end Kn

set_option Elab.async false
set_option linter.all false
set_option maxRecDepth 100000
set_option maxHeartbeats 2100000
/-! K63: own lists by a comprehension, by repetition; pairs of own lists; three names of a tuple. -/
namespace Kn
open PySem L2 RZ
open PyProof.Rows (envOfC)
section
variable {G : Gd} {E : XK} {X : Cx} {σ : List (Option V)} {H H' : Hp} {k : Nat} {tg : Expr}
theorem wd_ownN (W : Wd G E σ H) {c : Nat} {H2 : Hp} (st : Step W c H2) {i : Nat} {p : Addr} {xs : List V} {ds : List D} (hp : H p = none) (h2 : H2 p = some (.lst xs)) (hl : xs.length ≤ sizeLine) (hd : DenL G (fun a => W.XB a ∨ a = p) H2 ds xs) :
    ∃ W' : Wd G E (σ.set i (some (.ref p))) H2, Later W c W' ∧ W'.env = W.env.set i (.own p ds) ∧ W'.n = W.n - c := by
  have fr0 : ¬ W.XB p := W.fresh hp
  have h0 : W.H0 p = none := by
    cases q : W.H0 p with
    | none => rfl
    | some o =>
      exfalso
      rw [W.fr p o q (W.nuX fr0)] at hp; cases hp
  let W1 := W.next st
  have npo : ∀ {j : Nat} {s : Sl} {b : Addr}, W.env[j]? = some s → s.mine = true → σ[j]? = some (some (.ref b)) → b ≠ p := fun {j s b} e hm es z => by
    obtain ⟨_, o, ho⟩ := W.mine_at e hm es
    rw [z, hp] at ho; cases ho
  have xb : ∀ b, XBof W.B (W.env.set i (.own p ds)) (σ.set i (some (.ref p))) b → W.XB b ∨ b = p := fun b hb => by
    rcases hb with hb | ⟨j, s, e1, m1, e2⟩
    · exact .inl (.inl hb)
    · by_cases hj : i = j
      · subst hj
        by_cases hi : i < σ.length
        · rw [List.getElem?_set_self hi] at e2; cases e2; exact .inr rfl
        · rw [List.getElem?_eq_none (by rw [List.length_set]; omega)] at e2; cases e2
      · rw [List.getElem?_set_ne hj] at e1 e2
        exact .inl (.inr ⟨j, s, e1, m1, e2⟩)
  have dk : ∀ {d : D} {v : V}, Den G W.XB H d v → Den G (XBof W.B (W.env.set i (.own p ds)) (σ.set i (some (.ref p)))) H2 d v := fun {d v} h =>
    Den.keep (fun b o nb e => st.keep nb e) (fun b hb => (xb b hb).imp id fun z => by rw [z]; exact hp) d v h
  have dkl : ∀ {es : List D} {ys : List V}, DenL G W.XB H es ys → DenL G (XBof W.B (W.env.set i (.own p ds)) (σ.set i (some (.ref p)))) H2 es ys := fun {es ys} h =>
    DenL.keep (fun b o nb e => st.keep nb e) (fun b hb => (xb b hb).imp id fun z => by rw [z]; exact hp) es ys h
  have own_st : ∀ {j : Nat} {s : Sl} {b : Addr} {o : HO}, W.env[j]? = some s → s.mine = true → σ[j]? = some (some (.ref b)) → H b = some o → H2 b = some o := fun {j s b o} e hm es ho => st.ext b o ho (W.nu (W.mine_at e hm es).1)
  refine ⟨{ u := W.u, n := W.n - c, m := W.m, B := W.B, H0 := W.H0, env := W.env.set i (.own p ds), ex := W.ex, ug := W.ug, hu := W.hu, hB := W.hB, fr := W.fr.trans st.ext, good := st.good, len := by rw [List.length_set, List.length_set]; exact W.len, sl := fun j s e => ?_, nd := fun j l b s t e1 e2 m1 m2 e3 e4 => ?_, exc := W.exc },
    ⟨rfl, rfl, rfl, rfl, rfl, by show W.n ≤ W.n - c + c; omega, fun b o nb e => st.keep nb e, fun b hb => (xb b hb).imp id fun z => by rw [z]; exact hp⟩, rfl, rfl⟩
  · by_cases hj : i = j
    · subst hj
      by_cases hi : i < W.env.length
      · rw [List.getElem?_set_self hi] at e
        cases e
        rw [getD_set, if_pos ⟨rfl, by rw [← W.len]; exact hi⟩]
        exact ⟨xs, rfl, h0, h2, hl, hd.fewer xb⟩
      · rw [List.getElem?_eq_none (by simpa using hi)] at e; cases e
    · rw [List.getElem?_set_ne hj] at e
      rw [getD_set, if_neg (fun z => hj z.1)]
      have z := W.sl j s e
      cases s with
      | emp => trivial
      | val d => obtain ⟨x, e1, e2⟩ := z; exact ⟨x, e1, dk e2⟩
      | own b es => obtain ⟨ys, e1, e2, e3, e4, e5⟩ := z; exact ⟨ys, e1, e2, own_st e rfl (join_some e1) e3, e4, dkl e5⟩
      | slf b dx cc es => obtain ⟨ys, e1, e2, e3, e4, e5⟩ := z; exact ⟨ys, e1, e2, own_st e rfl (join_some e1) e3, e4, dkl e5⟩
      | obj b o => obtain ⟨e1, e2, e3, e4⟩ := z; exact ⟨e1, e2, own_st e rfl (join_some e1) e3, e4⟩
      | dic b ks es => obtain ⟨L, e1, e2, e3, e4, e5, e6⟩ := z; exact ⟨L, e1, e2, own_st e rfl (join_some e1) e3, e4, e5.by dk, dkl e6⟩
  · by_cases hj : i = j
    · by_cases hlk : i = l
      · exact hj.symm.trans hlk
      · subst hj
        exfalso
        rw [List.getElem?_set_ne hlk] at e2 e4
        have hi : i < σ.length := by
          by_cases q : i < σ.length
          · exact q
          · rw [List.getElem?_eq_none (by rw [List.length_set]; omega)] at e3; cases e3
        rw [List.getElem?_set_self hi] at e3
        cases e3
        exact npo e2 m2 e4 rfl
    · rw [List.getElem?_set_ne hj] at e1 e3
      by_cases hlk : i = l
      · subst hlk
        exfalso
        have hi : i < σ.length := by
          by_cases q : i < σ.length
          · exact q
          · rw [List.getElem?_eq_none (by rw [List.length_set]; omega)] at e4; cases e4
        rw [List.getElem?_set_self hi] at e4
        cases e4
        exact npo e1 m1 e3 rfl
      · rw [List.getElem?_set_ne hlk] at e2 e4
        exact W.nd j l b s t e1 e2 m1 m2 e3 e4


/-! ### [..] * n -/
def repD (n : Nat) (ds : List D) : List D := (List.replicate n ds).flatten
theorem DenL.rep {B : Addr → Prop} {H : Hp} {ds : List D} {xs : List V} (h : DenL G B H ds xs) : ∀ n : Nat, DenL G B H (repD n ds) (List.replicate n xs).flatten
  | 0 => rfl
  | n + 1 => by
    show DenL G B H (List.replicate (n + 1) ds).flatten _
    rw [List.replicate_succ, List.replicate_succ, List.flatten_cons, List.flatten_cons]; exact h.append (DenL.rep h n)
theorem rep_len (n : Nat) (xs : List V) : (List.replicate n xs).flatten.length = n * xs.length := by
  induction n with
  | zero => simp
  | succ n ih => rw [List.replicate_succ, List.flatten_cons, List.length_append, ih, Nat.add_mul]; omega
def gRep : G2 := fun d e Q => ∃ (ds : List D) (n : Nat), d = .lst ds ∧ e = .int n ∧ n ≤ 100000 ∧ ds.length ≤ 10 ∧ Q (.lst (repD n ds))
theorem o_rep : OpR X (binaryOp .Mult) (rD G gRep) := opr_imp op_rep fun x y H Q' h => by
  obtain ⟨B, d, e, Q, hd, he, hf, ⟨ds, n, rfl, rfl, h1, h2, hq⟩, kk⟩ := h
  obtain ⟨l, xs, rfl, nl, hl, ll, dl⟩ := hd
  cases he
  have el := dl.length
  have hz : xs.length * n ≤ 10 * 100000 := Nat.mul_le_mul (by omega) h1
  refine ⟨l, n, xs, rfl, rfl, hl, by omega, by omega, by rw [Int.toNat_natCast, sizeLine_eq]; omega, fun p hp => ?_⟩
  rw [Int.toNat_natCast]
  refine kk _ _ (.lst (repD n ds)) (Ext.new hp) (den_lst hp (hf p hp) (by rw [rep_len, sizeLine_eq, Nat.mul_comm]; omega) (dl.rep n)) hq
def fRep (ta tb : DT) : DA := fun ex env Q => ta ex env fun d => tb ex env fun e => ∃ (ds : List D) (n : Nat), d = .lst ds ∧ e = .int n ∧ n ≤ 100000 ∧ ds.length ≤ 10 ∧ Q (repD n ds)
theorem df_rep {a b : Expr} {pos : Pos} {ca cb : Nat} {ta tb : DT} (ha : DE G E X ca a ta) (hb : DE G E X cb b tb) : DF G E X (ca + cb) (.BinOp a .Mult b pos) (fRep ta tb) :=
  imp (pe_op op_rep ha hb) fun σ H Q' h => by
    obtain ⟨W, hn, Q, ht, kk⟩ := h
    refine ⟨W, by omega, _, ht, fun v H1 d st hd hq => ?_⟩
    refine ⟨W.next st, by show W.m + cb ≤ W.n - ca; omega, _, hq, fun v2 H2 e st2 he ⟨ds, n, e1, e2, h1, h2, hq2⟩ => ?_⟩
    subst e1 e2
    have hd2 : Den G W.XB H2 (.lst ds) v := (W.next st).den st2 hd
    obtain ⟨l, xs, rfl, nl, hl, ll, dl⟩ := hd2
    cases he
    have el := dl.length
    have hz : xs.length * n ≤ 10 * 100000 := Nat.mul_le_mul (by omega) h1
    refine ⟨l, n, xs, rfl, rfl, hl, by omega, by omega, by rw [Int.toNat_natCast, sizeLine_eq]; omega, fun p hp => ?_⟩
    have st3 := st.trans st2
    have hp0 : H p = none := by
      cases q : H p with
      | none => rfl
      | some o =>
        exfalso
        rw [st3.ext p o q (W.nuX ((W.next st3).fresh hp))] at hp; cases hp
    rw [Int.toNat_natCast]
    refine kk p _ (repD n ds) _ (st3.new hp) hp0 upd_same (by rw [rep_len, sizeLine_eq, Nat.mul_comm]; omega) ?_ hq2
    exact DenL.keep (fun b o nb e => by rw [upd_ne (ne_of_none e hp)]; exact e) (fun b hb => hb.imp id fun z => by rw [z]; exact hp) _ _ (dl.rep n)
/-! ### list(range(n)), a new list -/
def fListRg (te : DT) : DA := fun ex env Q => te ex env fun d => ∃ n : Nat, d = .int n ∧ n ≤ 100000 ∧ Q (rangeD 0 n)
theorem df_listRange {a : Expr} {c : Nat} {te : DT} {p p2 pos pos2 : Pos} (hc : X.calm = true) (hm : X.mg "list" = none) (hm2 : X.mg "range" = none) (ha : DE G E X c a te) (hg : Gl X "list" := by rfl) (hg2 : Gl X "range" := by rfl)
    (na : starEach [a] X.env = (false, eval a X.env) :: starEach [] X.env := by rfl) (nb : starEach [.Call (.Name "range" p2) [a] [] pos2] X.env = (false, eval (.Call (.Name "range" p2) [a] [] pos2) X.env) :: starEach [] X.env := by rfl) :
    DF G E X c (.Call (.Name "list" p) [.Call (.Name "range" p2) [a] [] pos2] [] pos) (fListRg te) :=
  imp (pe_listRg hc hg hm (prg_1 hg2 hm2 ha na) nb) fun σ H Q' h => by
    obtain ⟨W, hn, Q, ht, kk⟩ := h
    refine ⟨W, hn, _, ht, fun v H1 d st hd ⟨n, e, h1, hq⟩ => ?_⟩
    subst e
    cases hd
    refine ⟨(n : Int), rfl, ⟨by omega, by omega, by omega, by omega, by omega⟩, fun q hq0 => ?_⟩
    have e2 : rgV 0 (n : Int) = (List.range n).map fun i => V.int (0 + (i : Nat)) := by unfold rgV; rw [Int.sub_zero, Int.toNat_natCast]
    have hp0 : H q = none := by
      cases z : H q with
      | none => rfl
      | some o =>
        exfalso
        rw [st.ext q o z (W.nuX ((W.next st).fresh hq0))] at hq0; cases hq0
    refine kk q _ (rangeD 0 n) _ (st.new hq0) hp0 upd_same (by rw [rgV_length, sizeLine_eq]; omega) ?_ hq
    rw [e2]
    exact denL_rg 0 n
/-! ### x = [.. for ..], a list of the frame's own -/
def fComp (vs : List Nat) (ti : DA) (tg : DG) (tt : DB) (te : DT) : DA := fun ex env Q => ti ex env fun ds => compL tg tt te Q (inEnv env vs) ds []
theorem lift_compF {ci ce ct : Nat} {ti : DA} {t : DG} {tt : DB} {te : DT} {vs sl : List Nat} (hsl : ∀ i ∈ sl, i ∈ vs) {Q' : VK} (h : liftFr G E (ci + 16777216 * (ct + ce)) (fComp vs ti t tt te) σ H Q') :
    tLc (liftI G E ci ti) (liftG G E0 sl t) (liftB G E0 ct tt) (lift G E0 ce te) vs σ H Q' := by
  obtain ⟨W, hn, Q, ht, k⟩ := h
  refine ⟨W, by omega, _, ht, fun J H1 ds st wk hq => ?_⟩
  intro D0 hD
  have hlen : ds.length ≤ 16777216 := by have := wk.len; rw [sizeLine_eq] at this; exact this
  have fr0 : ¬ W.XB D0 := (W.next st).fresh hD
  refine ⟨fun i m H2 => ∃ acc, AccAt G W H1 D0 (W.n - ci - i * (ct + ce)) H2 acc ∧ acc.length ≤ i ∧ i ≤ ds.length ∧ m = ds.length - i ∧ compL t tt te Q (inEnv W.env vs) (ds.drop i) acc, ⟨ds.length, [], ⟨⟨[], upd_same, by simp, rfl⟩, fun b o hb _ => by rw [upd_ne (ne_of_none hb hD)]; exact hb, ?_⟩, Nat.le_refl _, Nat.zero_le _, rfl, hq⟩, ?_⟩
  · have g := st.good
    rw [Nat.zero_mul, Nat.sub_zero]
    exact g.ext (Ext.new hD)
  rintro i m H2 ⟨acc, A, hacc, hi, rfl, hq2⟩
  obtain ⟨xs, hxs, hxl, hxd⟩ := A.at_
  have keepX : ∀ b o, ¬ W.XB b → H1 b = some o → H2 b = some o := fun b o nb hb => A.keep b o hb (W.nuX nb)
  by_cases hlt : i < ds.length
  · have hmul : (i + 1) * (ct + ce) ≤ 16777216 * (ct + ce) := Nat.mul_le_mul_right _ (by omega)
    have hmul2 : (i + 1) * (ct + ce) = i * (ct + ce) + (ct + ce) := by rw [Nat.add_mul, Nat.one_mul]
    obtain ⟨go, yl⟩ := wk.go i H2 (fun a => W.XB a ∨ a = D0) keepX (fun b hb => by
      rcases hb with hb | rfl
      · exact .inl hb
      · exact .inr hD) (fun p hp hb => by
      rcases hb with hb | rfl
      · cases q : H1 p with
        | none => exact (W.next st).fresh q hb
        | some o =>
          rcases NU.em (u := W.u) (b := p) with hu | ⟨r, hr, rfl⟩
          · rw [A.keep p o q hu] at hp; cases hp
          · obtain ⟨⟨_, h1⟩, _⟩ := A.good.there hr
            rw [h1] at hp; cases hp
      · rw [hxs] at hp; cases hp) hlt
    refine .inr ⟨go, fun H5 => ∃ acc2, AccAt G W H1 D0 (W.n - ci - (i + 1) * (ct + ce)) H5 acc2 ∧ acc2.length ≤ i + 1 ∧ compL t tt te Q (inEnv W.env vs) (ds.drop (i + 1)) acc2,
      fun H5 ⟨acc2, a2, l2, q2⟩ => ⟨ds.length - (i + 1), by omega, acc2, a2, l2, hlt, rfl, q2⟩, fun x H3 hy => ?_⟩
    obtain ⟨ex2, d, hd, hden⟩ := yl x H3 hy
    rw [drop_cons hd] at hq2
    have hD3 : H3 D0 = some (.lst xs) := ex2 _ _ hxs NU.none
    let W3 : Wd G E0 (wipe σ vs) H3 := W.inner st vs D0 H3 (W.n - ci - i * (ct + ce)) hD (by rw [hD3]; simp) (fun b o hb nu => ex2 _ _ (A.keep b o hb nu) NU.none) (A.good.ext ex2)
    have hden3 : Den G W3.XB H3 d x := hden.fewer fun b hb => xb_in hb
    refine ⟨W3, d, _, hden3, hq2, fun σ4 W4 al hsl4 hq4 => ⟨wipe_same hsl hsl4.1 (by rw [hsl4.2, wipe_length]), ?_⟩⟩
    have l4 := al.later
    have n4 : W4.n = W.n - ci - i * (ct + ce) := al.n
    have m4 : W4.m = W.m := l4.m
    have u4 : W4.u = W.u := l4.u
    have b4 : ∀ a, (W.XB a ∨ a = D0) → W4.XB a := fun a ha => .inl (by rw [l4.B]; exact ha)
    have nu0 : NU W.u D0 := W.nuX fr0
    have k3 : ∀ b o, H1 b = some o → NU W.u b → H3 b = some o := fun b o hb nu => ex2 _ _ (A.keep b o hb nu) NU.none
    refine ⟨W4, by rw [n4, m4]; omega, _, by rw [l4.ex]; exact hq4, fun b H5 st5 hb => ?_⟩
    have e5 : Ext W.u H3 H5 := by have z := st5.ext; rw [u4] at z; exact z
    have g5 : Good W.u H5 (W.n - ci - i * (ct + ce) - ct) := by have z := st5.good; rw [u4, n4] at z; exact z
    cases b with
    | false =>
      refine ⟨acc, ⟨⟨xs, e5 _ _ hD3 nu0, hxl, ?_⟩, fun b o hb nu => e5 _ _ (k3 b o hb nu) nu, g5.less (by omega)⟩, by omega, hb⟩
      refine (hxd.ext (u := none) ex2 (fun _ z => z.none.elim)).ext e5 (fun p e => .inl (W.huX p e))
    | true =>
      refine ⟨W4.next st5, by show W4.m + ce ≤ W4.n - ct; rw [n4, m4]; omega, _, by rw [show (W4.next st5).ex = noX from l4.ex]; exact hb, fun y H6 e6 st6 hy6 hq6 => ?_⟩
      have x6 : Ext W.u H5 H6 := by have z := st6.ext; rw [show (W4.next st5).u = W.u from u4] at z; exact z
      have g6 : Good W.u H6 (W.n - ci - i * (ct + ce) - ct - ce) := by have z := st6.good; rw [show (W4.next st5).u = W.u from u4, show (W4.next st5).n = W4.n - ct from rfl, n4] at z; exact z
      have hD6 : H6 D0 = some (.lst xs) := x6 _ _ (e5 _ _ hD3 nu0) nu0
      have hxl2 : xs.length < sizeLine := by have := hxd.length; rw [sizeLine_eq]; omega
      have dacc : DenL G (fun a => W.XB a ∨ a = D0) H6 acc xs := ((hxd.ext (u := none) ex2 (fun _ z => z.none.elim)).ext e5 (fun p e => .inl (W.huX p e))).ext x6 (fun p e => .inl (W.huX p e))
      have dy : Den G (fun a => W.XB a ∨ a = D0) H6 e6 y := hy6.fewer b4
      have kk : ∀ b o, ¬ (W.XB b ∨ b = D0) → H6 b = some o → upd H6 D0 (.lst (xs ++ [y])) b = some o := fun b o nb hb => by rw [upd_ne (fun z => nb (.inr z))]; exact hb
      refine ⟨xs, hD6, hxl2, acc ++ [e6], ⟨⟨xs ++ [y], upd_same, by rw [List.length_append]; exact hxl2, ?_⟩, fun b o hb nu => ?_, ?_⟩, by rw [List.length_append]; simp; omega, hq6⟩
      · exact (DenL.keep kk (fun b hb => .inl hb) _ _ dacc).append ⟨y, [], rfl, Den.keep kk (fun b hb => .inl hb) _ _ dy, rfl⟩
      · rw [upd_ne (ne_of_none hb hD)]
        exact x6 _ _ (e5 _ _ (k3 b o hb nu) nu) nu
      · refine (g6.upd (fun p e => ⟨fun z => fr0 (by rw [show D0 = p.1 from z]; exact W.huX p e), fun z => fr0 (by rw [show D0 = p.2 from z]; exact .inl (W.hu p e).2)⟩) (fun φ z => by rw [hD6] at z; cases z)).less (by omega)
  · have e : i = ds.length := by omega
    have hmul : i * (ct + ce) ≤ 16777216 * (ct + ce) := Nat.mul_le_mul_right _ (by omega)
    rw [e, List.drop_length] at hq2
    have hp0 : H D0 = none := by
      cases q : H D0 with
      | none => rfl
      | some o =>
        exfalso
        rw [st.ext D0 o q (W.nuX fr0)] at hD; cases hD
    exact .inl ⟨wk.stop i H2 keepX (by omega), k D0 H2 acc xs ⟨fun b o hb nu => A.keep b o (st.ext b o hb nu) nu, A.good.less (by omega)⟩ hp0 hxs hxl hxd hq2⟩
theorem ds_ownComp {i : Nat} {y : Str} {py : Pos} {elt iter : Expr} {ifs : List Expr} {scope : Scope} {own : List (Str × Nat)} {pos spos : Pos} {ci ce ct : Nat} {ti : DA} {t : DG} {tt : DB} {te : DT} {sl : List Nat} {k : Nat} (xk : Xk G E k X) (hN : X.N.Nodup) (hy : X.N[i]? = some y) (hyl : X.env.scope.names.lookup y = some .local)
    (hsw : swapsWith (.ListComp elt [⟨tg, iter, ifs, 0⟩] scope pos) (some (.Name y py)) spos.line X.env = pure true) (hi : DI G E X tg ci iter ti) (ok : BlkOk X.N X.env.scope scope own)
    (hg : ∀ (s : Shared) (H : Hp) (C : Addr) (cl : List (Str × Addr)) (fp : List Addr), DTg G E0 (X.blk s H scope (compEnvC scope cl C X.env) fp) tg sl t) (ht : ∀ (s : Shared) (H : Hp) (C : Addr) (cl : List (Str × Addr)) (fp : List Addr), DTs G (X.blk s H scope (compEnvC scope cl C X.env) fp) ct ifs tt)
    (he : ∀ (s : Shared) (H : Hp) (C : Addr) (cl : List (Str × Addr)) (fp : List Addr), DE G E0 (X.blk s H scope (compEnvC scope cl C X.env) fp) ce elt te) (hsl : ∀ i ∈ sl, i ∈ own.map (·.2)) (hs : ∀ x, foldedSetIterable iter X.env x = pure x := by intro _; rfl) :
    DSt G E X (ci + 16777216 * (ct + ce)) (.Assign [.Name y py] (.ListComp elt [⟨tg, iter, ifs, 0⟩] scope pos) spos) (sOwn i (fComp (own.map (·.2)) ti t tt te)) :=
  impS (ps_setLc xk.calm hN hy hyl hsw hi ok hg ht he hs) fun Dn σ H h => by
    obtain ⟨W, hn, de, hq, k1, k2, k3, k4⟩ := h
    refine lift_compF (Q' := fun v H' => gName i v σ H' Dn.nx) hsl ⟨W, hn, _, hq, fun p H' ds xs st hp h2 hl hd hr => ?_⟩
    obtain ⟨W', l1, l2⟩ := wd_own W st (i := i) hp h2 hl hd
    exact k1 _ H' W' l1 (by rw [l2]; exact hr p)
/-! ### x, y = e, F: a value and a new list; x, y = F, [] -/
def sParVF (i j : Nat) (te : DT) (u : DA) : DS := fun ex de env => te ex env fun d => u ex env fun ds => ∀ a, de.nx ((env.set i (.val d)).set j (.own a ds))
theorem ds_parVF {i j : Nat} {x y : Str} {a f : Expr} {te : DT} {u : DA} {c c2 : Nat} {px py pt pos : Pos} {kt k2 pt2} (hc : X.calm = true) (hN : X.N.Nodup) (hi : X.N[i]? = some x) (hj : X.N[j]? = some y) (hij : i ≠ j)
    (hx : X.env.scope.names.lookup x = some .local) (hy : X.env.scope.names.lookup y = some .local) (ha : DE G E X c a te) (hf : DF G E X c2 f u) (hs1 : starEach [a, f] X.env = (false, eval a X.env) :: starEach [f] X.env := by rfl) (hs2 : starEach [f] X.env = (false, eval f X.env) :: starEach [] X.env := by rfl)
    (hw : swappedStores [.Tuple [.Name x px, .Name y py] kt pt] (.Tuple [a, f] k2 pt2) X.env = pure (some [x, y]))
    (hs : swapsWithSole [.Tuple [.Name x px, .Name y py] kt pt] (.Tuple [a, f] k2 pt2) pos.line X.env = pure false := by rfl) : DSt G E X (c + c2) (.Assign [.Tuple [.Name x px, .Name y py] kt pt] (.Tuple [a, f] k2 pt2) pos) (sParVF i j te u) :=
  impS (ps_par hc hN hi hj hij hx hy (pa_cons ha (pa_cons hf pa_nil hs2) hs1) hw hs) fun Dn σ H h => by
    obtain ⟨W, hn, de, ht, k1, k2, k3, k4⟩ := h
    refine ⟨W, by omega, _, ht, fun v H1 d st hd hq => ?_⟩
    refine ⟨W.next st, by show W.m + c2 ≤ W.n - c; omega, fun ds => ∀ a, de.nx ((W.env.set i (.val d)).set j (.own a ds)), hq, fun p H2 ds xs st2 hp h2 hl hd2 hq2 => ?_⟩
    · refine ⟨v, .ref p, rfl, ?_⟩
      have hd' : Den G (W.next st).XB H1 d v := hd
      let W1 := (W.next st).put i hd'
      have st3 : Step W1 c2 H2 := ⟨st2.ext, st2.good⟩
      have hdp : DenL G (fun a => W1.XB a ∨ a = p) H2 ds xs := hd2.fewer fun b hb => hb.imp (fun z => xb_val (W.next st).len z) id
      obtain ⟨W', l1, l2⟩ := wd_own W1 st3 (i := j) hp h2 hl hdp
      exact k1 _ H2 W' ((((Later.next st).trans (Later.put _ i hd')).trans l1).more (by omega)) (by rw [l2]; exact hq2 p)
def sParF0 (i j : Nat) (u : DA) : DS := fun ex de env => u ex env fun ds => ∀ a b, de.nx ((env.set i (.own a ds)).set j (.own b []))
theorem ds_parF0 {i j : Nat} {x y : Str} {f : Expr} {u : DA} {c : Nat} {px py pt pos lpos : Pos} {kt k2 pt2} (hc : X.calm = true) (hN : X.N.Nodup) (hi : X.N[i]? = some x) (hj : X.N[j]? = some y) (hij : i ≠ j)
    (hx : X.env.scope.names.lookup x = some .local) (hy : X.env.scope.names.lookup y = some .local) (hf : DF G E X c f u) (hs1 : starEach [f, .List [] lpos] X.env = (false, eval f X.env) :: starEach [.List [] lpos] X.env := by rfl) (hs2 : starEach [.List [] lpos] X.env = (false, eval (.List [] lpos) X.env) :: starEach [] X.env := by rfl)
    (hw : swappedStores [.Tuple [.Name x px, .Name y py] kt pt] (.Tuple [f, .List [] lpos] k2 pt2) X.env = pure (some [x, y]))
    (hs : swapsWithSole [.Tuple [.Name x px, .Name y py] kt pt] (.Tuple [f, .List [] lpos] k2 pt2) pos.line X.env = pure false := by rfl) : DSt G E X c (.Assign [.Tuple [.Name x px, .Name y py] kt pt] (.Tuple [f, .List [] lpos] k2 pt2) pos) (sParF0 i j u) :=
  impS (ps_par hc hN hi hj hij hx hy (pa_cons hf (pa_cons (df_lst (G := G) (E := E) da_nil) pa_nil hs2) hs1) hw hs) fun Dn σ H h => by
    obtain ⟨W, hn, de, ht, k1, k2, k3, k4⟩ := h
    refine ⟨W, hn, _, ht, fun p H1 ds xs st hp h1 hl hd hq => ?_⟩
    refine ⟨W.next st, by show W.m + 0 ≤ W.n - c; omega, fun es => es = [] ∧ ∀ a b, de.nx ((W.env.set i (.own a ds)).set j (.own b [])), ⟨by simp, rfl, hq⟩, fun p2 H2 es ys st2 hp2 h2 hl2 hd2 ⟨e, hq2⟩ => ?_⟩
    subst e
    refine ⟨.ref p, .ref p2, rfl, ?_⟩
    obtain ⟨W1, l1, l2, l5⟩ := wd_ownN W st (i := i) hp h1 hl hd
    have st3 : Step W1 0 H2 := ⟨by rw [l1.u]; exact st2.ext, by
      have g : Good W.u H2 (W.n - c - 0) := st2.good
      rw [l1.u]
      rw [l5]
      exact g⟩
    obtain ⟨W', l3, l4⟩ := wd_own W1 st3 (i := j) (ds := []) hp2 h2 hl2 (by cases (show ys = [] from hd2); exact rfl)
    exact k1 _ H2 W' ((l1.trans l3).more (by omega)) (by rw [l4, l2]; exact hq2 p p2)
/-! ### x, y, z = a tuple of three -/
def tgThree (i j l : Nat) : DG := fun d env Q => ∃ a b c, d = .tup [a, b, c] ∧ Q (((env.set i (.val a)).set j (.val b)).set l (.val c))
theorem dg_three {i j l : Nat} {x y z : Str} {pos p1 p2 p3 : Pos} {k : Nat} (hK : X.K = G.K) (hc : X.calm = true) (h1 : PG X (.Name x p1) (gName i)) (h2 : PG X (.Name y p2) (gName j)) (h3 : PG X (.Name z p3) (gName l)) : DTg G E X (.Tuple [.Name x p1, .Name y p2, .Name z p3] k pos) [i, j, l] (tgThree i j l) :=
  impG (pg_tup (n := 3) hc (pgs_cons h1 (pgs_cons h2 (pgs_cons h3 pgs_nil)))) fun v σ H Q' h => by
    obtain ⟨W, d, Q, hd, ⟨a, b, c, rfl, ht⟩, kk⟩ := h
    obtain ⟨p, xs, rfl, np, hp, lp, dl⟩ := hd
    obtain ⟨u, w, q, rfl, hu, hw, hq⟩ := denL3 dl
    refine ⟨p, [u, w, q], rfl, by rw [hK]; exact hp, rfl, u, [w, q], rfl, w, [q], rfl, q, [], rfl, rfl, ?_⟩
    have hu' : Den G W.XB H a u := hu
    have hw' : Den G (W.put i hu').XB H b w := hw.fewer fun b hb => xb_val W.len hb
    have hq' : Den G ((W.put i hu').put j hw').XB H c q := hq.fewer fun b hb => xb_val W.len (xb_val (W.put i hu').len hb)
    exact kk _ (((W.put i hu').put j hw').put l hq') ⟨(((Later.put W i hu').trans (Later.put _ j hw')).trans (Later.put _ l hq')).more (by omega), rfl⟩ ⟨(fun m hm => by
      rw [List.getElem?_set_ne (fun z => hm (by rw [← z]; simp)), List.getElem?_set_ne (fun z => hm (by rw [← z]; simp)), List.getElem?_set_ne (fun z => hm (by rw [← z]; simp))]), by rw [List.length_set, List.length_set, List.length_set]⟩ ht
/-! ### enumerate(list) -/
def enumD (ds : List D) : List D := ds.zipIdx.map fun p => .tup [.int (p.2 : Nat), p.1]
theorem enum_len (ds : List D) : (enumD ds).length = ds.length := by simp [enumD]
theorem enum_get {ds : List D} {i : Nat} {d : D} (h : ds[i]? = some d) : (enumD ds)[i]? = some (.tup [.int (i : Nat), d]) := by
  unfold enumD
  rw [List.getElem?_map, List.getElem?_zipIdx, h]
  simp
theorem enum_map {α : Type} (g : α → D) (xs : List α) : enumD (xs.map g) = xs.zipIdx.map fun p => .tup [.int (p.2 : Nat), g p.1] := by
  refine List.ext_getElem? fun i => ?_
  unfold enumD
  rw [List.getElem?_map, List.getElem?_zipIdx, List.getElem?_map, List.getElem?_map, List.getElem?_zipIdx]
  cases xs[i]? <;> rfl
theorem walks_enum {B : Addr → Prop} {H1 : Hp} {a : Addr} {xs : List V} {ds : List D} (na : ¬ B a) (ha : H1 a = some (.lst xs)) (hl : xs.length ≤ sizeLine) (da : DenL G B H1 ds xs) : Walks G B H1 (Ite G.K a) (enumD ds) := by
  have e1 := da.length
  have e3 := enum_len ds
  refine ⟨by omega, fun i H' B' k s hf hi => ?_, fun i H' k hi => ⟨xs, SqL.of (k _ _ na ha), by omega⟩⟩
  have ha' := k _ _ na ha
  refine ⟨⟨xs, xs[i], SqL.of ha', List.getElem?_eq_getElem (by omega)⟩, fun x H'' yl => ?_⟩
  obtain ⟨T, x1, rfl, hT, rfl, f1⟩ := yl
  obtain ⟨d, g1, g2⟩ := da.getV (f1 xs (SqL.of ha'))
  exact ⟨Ext.new hT, _, enum_get g1, den_pair hT (hf T hT) (den_int _) (Den.keep k s d x1 g2)⟩
def iEnumD (te : DT) : DA := fun ex env Q => te ex env fun d => ∃ ds, d = .lst ds ∧ Q (enumD ds)
theorem di_enum {e : Expr} {c : Nat} {te : DT} {p pos tpos : Pos} {elts : List Expr} {kk : Nat} (hK : X.K = G.K) (hm : X.mg "enumerate" = none) (he : DE G E X c e te) (hg : Gl X "enumerate" := by rfl) (hs : starEach [e] X.env = (false, eval e X.env) :: starEach [] X.env := by rfl) : DI G E X (.Tuple elts kk tpos) c (.Call (.Name "enumerate" p) [e] [] pos) (iEnumD te) :=
  impI (pi_enum hg hm (pa_cons he pa_nil hs) hs) fun σ H R h => by
    obtain ⟨W, hn, Q, ht, k⟩ := h
    refine ⟨W, hn, _, ht, fun v H1 d st hd ⟨ds, e, hq⟩ => ?_⟩
    subst e
    obtain ⟨a, xs, rfl, na, ha, la, da⟩ := hd
    exact ⟨a, xs, rfl, SqL.of ha, by rw [hK]; exact k _ H1 _ st (walks_enum na ha la da) hq⟩
end
end Kn

set_option Elab.async false
set_option linter.all false
set_option maxRecDepth 100000
set_option maxHeartbeats 2100000
/-! K64: zip of a list and a tuple. -/
namespace Kn
open PySem L2 RZ PyProof.Rows
section
/-- the list at a, the tuple at b, item by item, each pair new -/
def Itm (K : PySem.W.Frag) (a b : Addr) : It where
  go i H := ∃ (xs ys : List V) (x y : V), SqL K H a xs ∧ SqT K H b ys ∧ xs[i]? = some x ∧ ys[i]? = some y
  yld i H v H' := ∃ T x y, v = .ref T ∧ H T = none ∧ H' = upd H T (.tup [x, y]) ∧ (∀ xs, SqL K H a xs → xs[i]? = some x) ∧ ∀ ys, SqT K H b ys → ys[i]? = some y
  stop i H := ∃ xs ys : List V, SqL K H a xs ∧ SqT K H b ys ∧ i ≤ xs.length ∧ i ≤ ys.length ∧ (i = xs.length ∨ i = ys.length)
theorem sep_of {z TI TO i1 i2 a b : Addr} (D : ZipApart z TI TO i1 i2 a b) : ZipSep2 z TI TO i1 i2 [i1, a] [i2, b] where
  TIz := D.TIz
  TOz := D.TOz
  TITO := D.TITO
  TIi1 := D.TIi1
  mem1 := by simp
  zf1 := by simp [D.i1z.symm, D.l1z.symm]
  Tf1 := by simp [D.TOi1, D.l1TO.symm]
  TIi2 := D.TIi2
  mem2 := by simp
  zf2 := by simp [D.i2z.symm, D.l2z.symm]
  Tf2 := by simp [D.TOi2, D.l2TO.symm]
  sep1_2 := by simp [D.i12, D.l2i1.symm]
  sep2_1 := by simp [D.i12.symm, D.l1i2.symm]
theorem five {c z TI TO i1 i2 : Addr} (h : c ∈ [z, TI, TO, i1, i2]) : c = z ∨ c = TI ∨ c = TO ∨ c = i1 ∨ c = i2 := by simpa using h
theorem turn_mix {P : Program} {w : World} {K : PySem.W.Frag} {elts : List Expr} {kk : Nat} {tpos : Pos} {a b z TI TO i1 i2 : Addr} (D : ZipApart z TI TO i1 i2 a b) :
    Turn P w K (.Tuple elts kk tpos) (Itm K a b) [z, TI, TO, i1, i2] z fun i h => (IsZip h z TI TO .none ∧ IsTupOf2 h TI (.ref i1) (.ref i2)) ∧ (∃ x y, IsTupOf2 h TO x y) ∧ h.IsListIter i1 a i ∧ h.IsTupleIter i2 b i := by
  refine ⟨by simp, fun i h st c hc => ?_, fun i h h' st k => ?_, ?_, ?_, fun A i s Q E st h => wpAny_pyIter_zip st.1.1 h⟩
  · obtain ⟨⟨hz, hTI⟩, ⟨x, y, hTO⟩, ⟨o1, e1, _, d1⟩, o2, e2, _, d2⟩ := st
    rcases five hc with rfl | rfl | rfl | rfl | rfl
    · exact ⟨_, hz, nofun⟩
    · exact ⟨_, hTI, nofun⟩
    · exact ⟨_, hTO, nofun⟩
    · exact ⟨o1, e1, fun v => by rw [d1]; nofun⟩
    · exact ⟨o2, e2, fun v => by rw [d2]; nofun⟩
  · obtain ⟨⟨hz, hTI⟩, ⟨x, y, hTO⟩, g1, g2⟩ := st
    refine ⟨⟨k _ (by simp) _ hz, k _ (by simp) _ hTI⟩, ⟨x, y, k _ (by simp) _ hTO⟩, g1.at fun o => ?_, g2.at fun o => ?_⟩
    · exact k i1 (by simp) o
    · exact k i2 (by simp) o
  · rintro X hP hw hK hc i pins s σ H E I hf ⟨⟨hz, hTI⟩, ⟨x0, y0, hTO⟩, g1, g2⟩ ⟨xs, ys, x, y, qx, qy, hx, hy⟩
    subst hP; subst hw; subst hK
    obtain ⟨us, rx, px, _⟩ := I.list qx
    obtain ⟨vs, ry, py, _⟩ := I.tuple qy
    obtain ⟨u, hu, ru⟩ := rx.get hx
    obtain ⟨v, hv, rv⟩ := ry.get hy
    have hh : X.A.in1.handled = none := I.ok.hd hc
    have zl : z < s.heap.objs.size := Heap.lt_size hz
    have lt1 : i < us.toArray.size := by have := (List.getElem?_eq_some_iff.mp hu).1; simpa using this
    have lt2 : i < vs.toArray.size := by have := (List.getElem?_eq_some_iff.mp hv).1; simpa using this
    refine wpAny_pyNext_zipD2_item (sep_of D) (Draws.list hh i1 a D.l1i1 us.toArray) (Draws.tuple hh i2 b D.l2i2 vs.toArray) hz hTI hTO ⟨g1, px.isList⟩ ⟨g2, py⟩ lt1 lt2 ?_
    intro u' v' h' tk eu ev z1 TO1 st1 st2 T1 sz hk
    obtain rfl : u = u' := by
      have : us[i]? = some u' := by simpa using eu
      rw [hu] at this; exact Option.some.inj this
    obtain rfl : v = v' := by
      have : vs[i]? = some v' := by simpa using ev
      rw [hv] at this; exact Option.some.inj this
    refine ⟨_, rfl, wpAny_letOwnedTupleGo_zip (s := { s with heap := h', toks := tk }) z1 fun h2 z2 sb => ?_⟩
    have nz : ∀ {c : Addr}, c ≠ z → ∀ {o : Obj}, h'.get? c = some o → h2.get? c = some o := fun {c} hcz {o} q => (sb.2 c hcz).trans q
    have T2 := nz (Nat.ne_of_gt zl) T1
    have keep : ∀ (c : Addr) (o : Obj), c ∉ [z, TI, TO, i1, i2] → s.heap.get? c = some o → h2.get? c = some o := fun c o hb q => nz (fun e => hb (by simp [e])) (hk c o (fun e => hb (by simp [e])) (fun e => hb (by simp [e])) (fun e => hb (by simp [e])) (fun e => hb (by simp [e])) q)
    have new : ObjOk X.prog X.w (upd H s.heap.objs.size (.tup [x, y])) h2 s.heap.objs.size (.tup [x, y]) := by
      refine ⟨?_, [u, v], .cons ru (.cons rv .nil), _, T2, rfl, _, rfl⟩
      show 2 ≤ sizeLine
      decide
    have fin : Inv X pins σ (upd H s.heap.objs.size (.tup [x, y])) { s with heap := h2, toks := tk } := I.turnedNew (t' := tk) (ch := [z, TI, TO, i1, i2]) keep hf (Nat.le_refl _) new
    refine ⟨.ref s.heap.objs.size, _, fin, rfl, ⟨_, x, y, rfl, I.hok.fresh (Nat.le_refl _), rfl, fun l hl => ?_, fun l hl => ?_⟩, ⟨⟨z2, nz D.TIz (hk _ _ D.TIz D.TITO D.TIi1 D.TIi2 hTI)⟩, ⟨u, v, nz D.TOz TO1⟩, st1.1.at fun o => nz D.i1z, st2.1.at fun o => nz D.i2z⟩, fun c hcm => ?_⟩
    · rw [I.list_inj hl qx]; exact hx
    · rw [I.tuple_inj hl qy]; exact hy
    · have lt : c < s.heap.objs.size := by
        rcases five hcm with rfl | rfl | rfl | rfl | rfl
        · exact zl
        · exact Heap.lt_size hTI
        · exact Heap.lt_size hTO
        · obtain ⟨_, e1, _⟩ := g1
          exact Heap.lt_size e1
        · obtain ⟨_, e2, _⟩ := g2
          exact Heap.lt_size e2
      rw [upd_ne (Nat.ne_of_lt lt)]; exact (hf c hcm).1
  · rintro X hP hw hK hc i pins s σ H E I hf ⟨⟨hz, hTI⟩, ⟨x0, y0, hTO⟩, g1, g2⟩ ⟨xs, ys, qx, qy, le1, le2, hend⟩
    subst hP; subst hw; subst hK
    obtain ⟨us, rx, px, _⟩ := I.list qx
    obtain ⟨vs, ry, py, _⟩ := I.tuple qy
    have e1 := rx.length
    have e2 := ry.length
    have hh : X.A.in1.handled = none := I.ok.hd hc
    have s1 : us.toArray.size = us.length := by simp
    have s2 : vs.toArray.size = vs.length := by simp
    refine wpAny_pyNext_zipD2_end (sep_of D) (Draws.list hh i1 a D.l1i1 us.toArray) (Draws.tuple hh i2 b D.l2i2 vs.toArray) hz hTI hTO ⟨g1, px.isList⟩ ⟨g2, py⟩ (by omega) (by omega) (by omega) fun h' tk hk => ⟨rfl, ?_⟩
    exact I.turnedL (t' := tk) (ch := [z, TI, TO, i1, i2]) (fun c o hb q => hk c o (fun e => hb (by simp [e])) (fun e => hb (by simp [e])) (fun e => hb (by simp [e])) (fun e => hb (by simp [e])) q) hf
def tiMix (K : PySem.W.Frag) (ta : TA) : TI := fun σ H R => ta σ H fun vs H1 => ∃ a b xs ys, vs = [.ref a, .ref b] ∧ SqL K H1 a xs ∧ SqT K H1 b ys ∧ R (Itm K a b) H1
theorem pi_mix {X : Cx} {e e2 : Expr} {ta : TA} {p pos tpos : Pos} {elts : List Expr} {kk : Nat} (hg : Gl X "zip") (hm : X.mg "zip" = none) (ha : PA X [e, e2] ta)
    (hs : starEach [e, e2] X.env = (false, eval e X.env) :: starEach [e2] X.env := by rfl)
    (hpl : (backTo pos (starEach [e2] X.env)).any (·.1) = false := by rfl) :
    PI X (.Tuple elts kk tpos) (.Call (.Name "zip" p) [e, e2] [] pos) (tiMix X.K ta) := by
  refine ⟨fun pins s σ H R I h => Call_ (ld_blt I hg hm boot_zip (callWith_type1 (thn (ha.run pos pins s σ H _ I h) fun us s1 q => ?_) hs hpl))⟩
  obtain ⟨vs, H1, I1, r1, a, b, xs, ys, rfl, qx, qy, q⟩ := q
  have two : us = [.ref a, .ref b] := by
    cases r1 with
    | cons ra r2 =>
      cases r2 with
      | cons rb r3 => cases r3; cases ra; cases rb; rfl
  subst two
  obtain ⟨ws, rx, px, _⟩ := I1.list qx
  obtain ⟨vs, ry, py, _⟩ := I1.tuple qy
  obtain ⟨o2, ho2, _⟩ := id py
  refine zip_begins2 (begins_list a ws.toArray) (begins_tuple b vs.toArray) px.isList py fun h' hz hTI hTO q1 q2 hsz hk => wpAny_pyIter_zip hz ?_
  have I2 : Inv X pins σ H1 { s1 with heap := h' } := I1.kept (t' := s1.toks) hk; refine ⟨_, _, _, _, H1, rfl, I2, turn_mix (PySem.W.ktu_apart s1.heap.objs.size a b px.lt (Heap.lt_size ho2)), ⟨⟨hz, hTI⟩, ⟨_, _, hTO⟩, ⟨_, q1, rfl, rfl⟩, ⟨_, q2, rfl, rfl⟩⟩, fun c hcm => ?_, q⟩
  have le : s1.heap.objs.size ≤ c := by
    rcases five hcm with rfl | rfl | rfl | rfl | rfl <;> simp
  exact I1.fpOk le (I1.hok.fresh le)
end
section
variable {G : Gd} {E : XK} {X : Cx} {σ : List (Option V)} {H H' : Hp} {k : Nat}
theorem walks_mix {B : Addr → Prop} {H1 : Hp} {a b : Addr} {xs ys : List V} {as bs : List D} (na : ¬ B a) (nb : ¬ B b ∨ KTup G.K b ys) (ha : H1 a = some (.lst xs)) (hb : SqT G.K H1 b ys) (la : xs.length ≤ sizeLine) (da : DenL G B H1 as xs) (db : DenL G B H1 bs ys) : Walks G B H1 (Itm G.K a b) (zipD as bs) := by
  have e1 := da.length
  have e2 := db.length
  have e3 := zipD_len as bs
  refine ⟨by omega, fun i H' B' k s hf hi => ?_, fun i H' k hi => ⟨xs, ys, SqL.of (k _ _ na ha), keep_sqT k nb hb, by omega, by omega, by omega⟩⟩
  have ha' := SqL.of (K := G.K) (k _ _ na ha)
  have hb' := keep_sqT k nb hb
  refine ⟨⟨xs, ys, xs[i], ys[i], ha', hb', List.getElem?_eq_getElem (by omega), List.getElem?_eq_getElem (by omega)⟩, fun x H'' yl => ?_⟩
  obtain ⟨T, x1, y1, rfl, hT, rfl, f1, f2⟩ := yl
  obtain ⟨d, g1, g2⟩ := da.getV (f1 xs ha')
  obtain ⟨d2, g3, g4⟩ := db.getV (f2 ys hb')
  exact ⟨Ext.new hT, _, zipD_get as bs i d d2 g1 g3, den_pair hT (hf T hT) (Den.keep k s d x1 g2) (Den.keep k s d2 y1 g4)⟩
/-- zip(a list, a tuple) -/
def iMix (u : DA) : DA := fun ex env Q => u ex env fun ds => ∃ as bs, ds = [.lst as, .tup bs] ∧ Q (zipD as bs)
theorem di_mix {e e2 : Expr} {c : Nat} {u : DA} {p pos tpos : Pos} {elts : List Expr} {kk : Nat} (hK : X.K = G.K) (hm : X.mg "zip" = none) (ha : DEs G E X c [e, e2] u) (hg : Gl X "zip" := by rfl)
    (hs : starEach [e, e2] X.env = (false, eval e X.env) ::
      starEach [e2] X.env := by rfl) (hpl : (backTo pos (starEach [e2] X.env)).any (·.1) = false := by rfl) : DI G E X (.Tuple elts kk tpos) c (.Call (.Name "zip" p) [e, e2] [] pos) (iMix u) :=
  impI (pi_mix hg hm ha hs hpl) fun σ H R h => by
    obtain ⟨W, hn, Q, ht, k⟩ := h
    refine ⟨W, hn, _, ht, fun vs H1 ds st hd ⟨as, bs, e, hq⟩ => ?_⟩
    subst e
    obtain ⟨x, y, rfl, hx, hy⟩ := denL2 hd
    obtain ⟨a, xs, rfl, na, ha, la, da⟩ := hx
    obtain ⟨b, ys, rfl, nb, hb, lb, db⟩ := hy
    refine ⟨a, b, xs, ys, rfl, SqL.of ha, by rw [hK]; exact hb, ?_⟩
    rw [hK]
    exact k _ H1 _ st (walks_mix na nb ha hb la da db) hq
end
end Kn

set_option Elab.async false
set_option linter.all false
set_option maxRecDepth 100000
set_option maxHeartbeats 4100000
/-! K65: readings that every law wants. -/
namespace Kn
open PySem L2 RZ
section
variable {G : Gd} {P : Program} {w : World} {mg : Str → Option Value} {base : Heap} {f : Addr} {fd : FuncData}
def rowD (r : List Int) : D := .tup (r.map D.int)
def atR (r : List Int) (i : Int) : Int := r.getD i.toNat 0
theorem atR_in {r : List Int} {i n : Int} (h0 : 0 ≤ i) (h1 : i < r.length) (hv : ∀ x ∈ r, 0 ≤ x ∧ x < n) : atI (r.map D.int) i = some (.int (atR r i)) ∧ 0 ≤ atR r i ∧ atR r i < n := by
  obtain ⟨k, rfl⟩ := Int.eq_ofNat_of_zero_le h0
  have hk : k < r.length := by omega
  have e : atR r (k : Int) = r[k] := by
    unfold atR
    rw [Int.toNat_natCast, List.getD_eq_getElem?_getD, List.getElem?_eq_getElem hk]; rfl
  rw [e]
  exact ⟨atI_nat (by rw [List.getElem?_map, List.getElem?_eq_getElem hk]; rfl), hv _ (List.getElem_mem hk)⟩
/-- a bound: None or an int -/
def bndD : Option Int → D
  | none => .non
  | some i => .int i
def inB (i : Int) (lo hi : Option Int) : Bool := (lo.all fun l => decide (l ≤ i)) && hi.all fun h => decide (i ≤ h)
def withinB (d : D) (lo hi : Option Int) : Bool := match d with
  | .int i => inB i lo hi
  | _ => false
theorem bnd_no (o : Option Int) : ∀ v, bndD o ≠ .opq v := by intro v h; cases o <;> cases h
theorem bnd_isN (o : Option Int) : (bndD o).isN = o.isNone := by cases o <;> rfl
theorem isI_of {d : D} (h : D.isI d = true) : ∃ i, d = .int i := by cases d <;> first | exact ⟨_, rfl⟩ | cases h
theorem kind_items {d : D} {xs : List D} (h : d.items? = some xs) : (kindS d).isSome = true := by cases d <;> first | rfl | cases h
theorem kinds_isI {xs : List D} (h : xs.all D.isI = true) : ∀ x ∈ xs, (kindS x).isSome = true := fun x hx => by
  obtain ⟨i, e⟩ := isI_of (List.all_eq_true.mp h x hx)
  rw [e]; rfl
theorem all_isI (is : List Int) : (is.map D.int).all D.isI = true := by simp [List.all_map, D.isI]
theorem atI_of {xs : List D} {k : Nat} {x : D} (h : xs[k]? = some x) : atI xs (k : Int) = some x := atI_nat h
theorem pdL_none {is : List Int} : pd (.lst (is.map D.int)) = some (.list (is.map PyData.int)) := by simp [pd, pdL_int]
theorem shaped_lst (is : List Int) : SeqAt.shaped (.list (is.map PyData.int)) = true := shaped_row is
theorem ne_nil {is : List Int} {Q : D → Prop} (h : Q (.bl (!is.isEmpty))) : gNe (.lst (is.map D.int)) (.lst []) Q := by
  refine ⟨_, .list [], pdL_none, rfl, shaped_lst is, shaped_lst [], ?_⟩
  cases is with
  | nil => exact h
  | cons a l => exact h
theorem pow18 : PowOk 10 18 := powOk_of (a := 4) (by decide) (by decide) (by decide)
theorem abs_lt_pow {x : Int} {n : Nat} (h0 : 0 ≤ x) (h : x < 2 ^ n) : x.natAbs < 2 ^ n := by
  have h1 : ((x.natAbs : Nat) : Int) = x := Int.natAbs_of_nonneg h0
  have h2 : ((x.natAbs : Nat) : Int) < ((2 ^ n : Nat) : Int) := by rw [h1]; push_cast; exact h
  exact_mod_cast h2
theorem pos_of {j : Int} (h : decide (0 < j) = true) : 0 < j := of_decide_eq_true h
theorem line_pos : (1 : Int) ≤ atLine := by
  unfold atLine
  first | exact Int.pow_pos (by decide) | exact Int.pos_pow_of_pos 4096 (by decide) | exact pow_pos (by decide) 4096
theorem pow_split (n : Nat) : (2 : Int) ^ (n + 4096) = 2 ^ n * atLine := by unfold atLine; rw [Int.pow_add]
theorem draw_pow1 {m k k2 t : Int} (hm : 0 ≤ m) (hm2 : m < 2 ^ 62) (hk : 0 ≤ k) (hk2 : k < 2 ^ 62) (hj : 0 ≤ k2) (hj2 : k2 < 2 ^ 62) (h0 : 0 ≤ t) (h1 : t < atLine) : PowOk (m + k * t + k2) 5 := by
  have hT := line_pos
  have hkt : k * t ≤ 2 ^ 62 * atLine := Int.mul_le_mul (by omega) (by omega) h0 (by decide)
  have hkt0 : 0 ≤ k * t := Int.mul_nonneg hk h0
  refine powOk_of (a := 104 + 4096) (abs_lt_pow (by omega) ?_) (by decide) (by decide)
  rw [pow_split]
  generalize k * t = u at *
  generalize atLine = T at *
  omega
theorem draw_wide {k t : Int} (hk : 0 ≤ k) (hk2 : k < 2 ^ 62) (h0 : 0 ≤ t) (h1 : t < atLine) : CMulW (k * t) t := by
  have hT := line_pos
  have hkt : k * t ≤ 2 ^ 62 * atLine := Int.mul_le_mul (by omega) (by omega) h0 (by decide)
  have hkt0 : 0 ≤ k * t := Int.mul_nonneg hk h0
  refine wide_mul (a := 104 + 4096) (b := 4096) (abs_lt_pow hkt0 ?_) (abs_lt_pow h0 h1) (by decide) (by decide) (by decide)
  rw [pow_split]
  generalize k * t = u at *
  generalize atLine = T at *
  omega
theorem draw_pow2 {m c2 c1 k k2 t : Int} (hm : 0 ≤ m) (hm2 : m < 2 ^ 62) (a0 : 0 ≤ c2) (a1 : c2 < 2 ^ 62) (b0 : 0 ≤ c1) (b1 : c1 < 2 ^ 62) (hk : 0 ≤ k) (hk2 : k < 2 ^ 62) (hj : 0 ≤ k2) (hj2 : k2 < 2 ^ 62) (h0 : 0 ≤ t) (h1 : t < atLine) : PowOk (m * (c2 * t + c1) + k * t * t + k2) 3 := by
  have hT := line_pos
  have e1 : c2 * t ≤ 2 ^ 62 * atLine := Int.mul_le_mul (by omega) (by omega) h0 (by decide)
  have e1' : 0 ≤ c2 * t := Int.mul_nonneg a0 h0
  have e2 : m * (c2 * t + c1) ≤ 2 ^ 62 * (2 ^ 62 * atLine + 2 ^ 62) := Int.mul_le_mul (by omega) (by omega) (by omega) (by decide)
  have e2' : 0 ≤ m * (c2 * t + c1) := Int.mul_nonneg hm (by omega)
  have e3 : k * t ≤ 2 ^ 62 * atLine := Int.mul_le_mul (by omega) (by omega) h0 (by decide)
  have e3' : 0 ≤ k * t := Int.mul_nonneg hk h0
  have e4 : k * t * t ≤ 2 ^ 62 * atLine * atLine := Int.mul_le_mul e3 (by omega) h0 (by omega)
  have e4' : 0 ≤ k * t * t := Int.mul_nonneg e3' h0
  have e5 : atLine ≤ atLine * atLine := by
    have := Int.mul_le_mul_of_nonneg_left hT (show (0 : Int) ≤ atLine by omega)
    rw [Int.mul_one] at this
    exact this
  refine powOk_of (a := (200 + 4096) + 4096) (abs_lt_pow (by omega) ?_) (by decide) (by decide)
  rw [pow_split, pow_split]
  have e6 : (2 : Int) ^ 200 * atLine * atLine = 2 ^ 200 * (atLine * atLine) := Int.mul_assoc _ _ _
  have e7 : (2 : Int) ^ 62 * atLine * atLine = 2 ^ 62 * (atLine * atLine) := Int.mul_assoc _ _ _
  rw [e6]
  rw [e7] at e4
  generalize m * (c2 * t + c1) = u at *
  generalize k * t * t = v at *
  generalize atLine * atLine = S at *
  generalize atLine = T at *
  omega
theorem in_strs {m : Str} {ts : List Str} {Q : D → Prop} (hm : PyData.strOk m = true) (hts : SeqAt.shaped (.tuple (ts.map PyData.str)) = true) (h : Q (.bl (ts.any (· == m)))) : gInT (.str m) (.tup (strsD ts)) Q :=
  ⟨.str m, ts.map PyData.str, strsD ts, rfl, rfl, pdL_str ts, shaped_str hm, hts, by rw [List.any_map]; exact h⟩
theorem ne_lst {is js : List Int} {Q : D → Prop} (h : Q (.bl (!(is == js)))) : gNe (.lst (is.map D.int)) (.lst (js.map D.int)) Q :=
  ⟨_, _, pdL_none, pdL_none, shaped_lst is, shaped_lst js, by rw [show PyData.eqv (.list (is.map PyData.int)) (.list (js.map PyData.int)) = PyData.eqvAll (is.map PyData.int) (js.map PyData.int) from rfl, eqvAll_int]; exact h⟩
theorem eq_lst {is js : List Int} {Q : D → Prop} (h : Q (.bl (is == js))) : gEq (.lst (is.map D.int)) (.lst (js.map D.int)) Q :=
  ⟨_, _, pdL_none, pdL_none, shaped_lst is, shaped_lst js, by rw [show PyData.eqv (.list (is.map PyData.int)) (.list (js.map PyData.int)) = PyData.eqvAll (is.map PyData.int) (js.map PyData.int) from rfl, eqvAll_int]; exact h⟩
def srt (r : List Int) : List Int := r.mergeSort fun a b => decide (a ≤ b)
theorem srt_perm (r : List Int) : (srt r).Perm r := List.mergeSort_perm r _
theorem srt_pw (r : List Int) : (srt r).Pairwise (· ≤ ·) := by
  have h := List.pairwise_mergeSort (le := fun a b : Int => decide (a ≤ b)) (fun a b c h1 h2 => by simp only [decide_eq_true_eq] at *; omega) (fun a b => by simp only [Bool.or_eq_true, decide_eq_true_eq]; omega) r
  exact h.imp fun {a b} z => of_decide_eq_true z
theorem srt_uniq {ns r : List Int} (p : ns.Perm r) (s : ns.Pairwise (· ≤ ·)) : ns = srt r :=
  List.Perm.eq_of_pairwise (le := (· ≤ ·)) (fun a b _ _ h1 h2 => Int.le_antisymm h1 h2) s (srt_pw r) (p.trans (srt_perm r).symm)
theorem neC {x c : D} {ex : Exc → Prop} {env : List Sl} {Q : D → Prop} (h : gNe x c Q) : dC c ex env fun y => gNe x y Q := h
/-- a test whose answer is known -/
def Tst (t : DB) (ex : Exc → Prop) (env : List Sl) (x : Bool) : Prop := ∀ K : Bool → Prop, K x → t ex env K
section
variable {t u : DB} {ex : Exc → Prop} {env : List Sl} {x y : Bool}
theorem tst_or (h1 : Tst t ex env x) (h2 : x = false → Tst u ex env y) : Tst (bOr t u) ex env (x || y) := fun K hK => h1 _ (by
  cases x with
  | true => exact hK
  | false => exact h2 rfl K hK)
theorem tst_and (h1 : Tst t ex env x) (h2 : x = true → Tst u ex env y) : Tst (bAnd t u) ex env (x && y) := fun K hK => h1 _ (by
  cases x with
  | true => exact h2 rfl K hK
  | false => exact hK)
theorem sif_of {a b : DS} {de : DEnds} (h : Tst t ex env x) (h1 : x = true → a ex de env) (h2 : x = false → b ex de env) : sIf t a b ex de env := h _ (by
  cases x with
  | true => exact h1 rfl
  | false => exact h2 rfl)
end
def rowP (r : List Int) : PyData := .tuple (r.map PyData.int)
def Small (r : List Int) : Prop := r.length ≤ 5 ∧ ∀ i ∈ r, 0 ≤ i ∧ i < 8
theorem pd_rows : ∀ rows : List (List Int), pdL (rows.map rowD) = some (rows.map rowP)
  | [] => rfl
  | r :: rows => by
    have h := pd_rows rows
    simp only [List.map_cons, pdL, h]
    rw [show pd (rowD r) = some (rowP r) by simp [rowD, rowP, pd, pdL_int]]
theorem small_cases {i : Int} (h : 0 ≤ i ∧ i < 8) : i = 0 ∨ i = 1 ∨ i = 2 ∨ i = 3 ∨ i = 4 ∨ i = 5 ∨ i = 6 ∨ i = 7 := by omega
theorem int_facts {i : Int} (h : 0 ≤ i ∧ i < 8) : PyData.weight (.int i) ≤ 3 ∧ PyData.showable (.int i) = true ∧ PyData.intsShort 13 (.int i) = true := by
  rcases small_cases h with rfl | rfl | rfl | rfl | rfl | rfl | rfl | rfl <;> decide +kernel
theorem ints_facts : ∀ {r : List Int}, (∀ i ∈ r, 0 ≤ i ∧ i < 8) → PyData.weightAll (r.map PyData.int) ≤ 4 * r.length ∧ PyData.showableAll (r.map PyData.int) = true ∧ PyData.intsShortAll 13 (r.map PyData.int) = true ∧ PyData.hasDictAll (r.map PyData.int) = false
  | [], _ => by decide
  | i :: r, h => by
    obtain ⟨h1, h2, h3⟩ := int_facts (h i List.mem_cons_self)
    obtain ⟨k1, k2, k3, k4⟩ := ints_facts (r := r) fun j hj => h j (List.mem_cons_of_mem _ hj)
    refine ⟨?_, ?_, ?_, ?_⟩
    · show PyData.weight (.int i) + 1 + PyData.weightAll (r.map PyData.int) ≤ _
      rw [List.length_cons]; omega
    · show (PyData.showable (.int i) && PyData.showableAll (r.map PyData.int)) = true
      rw [h2, k2]; rfl
    · show (PyData.intsShort 13 (.int i) && PyData.intsShortAll 13 (r.map PyData.int)) = true
      rw [h3, k3]; rfl
    · show (PyData.hasDict (.int i) || PyData.hasDictAll (r.map PyData.int)) = false
      rw [k4]; rfl
theorem rows_facts : ∀ {rows : List (List Int)}, (∀ r ∈ rows, Small r) → PyData.weightAll (rows.map rowP) ≤ 21 * rows.length ∧ PyData.showableAll (rows.map rowP) = true ∧ PyData.intsShortAll 13 (rows.map rowP) = true ∧ PyData.hasDictAll (rows.map rowP) = false ∧ PyData.canLayAll0 (rows.map rowP) = true ∧ PyData.depthAll (rows.map rowP) ≤ 2
  | [], _ => by decide
  | r :: rows, h => by
    obtain ⟨hl, hv⟩ := h r List.mem_cons_self
    obtain ⟨h1, h2, h3, h4⟩ := ints_facts hv
    obtain ⟨k1, k2, k3, k4, k5, k6⟩ := rows_facts (rows := rows) fun j hj => h j (List.mem_cons_of_mem _ hj)
    have hd := depth_int r
    refine ⟨?_, ?_, ?_, ?_, ?_, ?_⟩
    · show PyData.weightAll (r.map PyData.int) + 1 + PyData.weightAll (rows.map rowP) ≤ _
      rw [List.length_cons]; omega
    · show (PyData.showableAll (r.map PyData.int) && PyData.showableAll (rows.map rowP)) = true
      rw [h2, k2]; rfl
    · show (PyData.intsShortAll 13 (r.map PyData.int) && PyData.intsShortAll 13 (rows.map rowP)) = true
      rw [h3, k3]; rfl
    · show (PyData.hasDictAll (r.map PyData.int) || PyData.hasDictAll (rows.map rowP)) = false
      rw [h4, k4]; rfl
    · show (PyData.canLayAll0 (r.map PyData.int) && PyData.canLayAll0 (rows.map rowP)) = true
      rw [lay_int, k5]; rfl
    · show max (PyData.depthAll (r.map PyData.int) + 1) (PyData.depthAll (rows.map rowP)) ≤ 2
      omega
/-- repr of a list of small rows is its shown text -/
theorem repr_rows {rows : List (List Int)} {Q : D → Prop} (h : ∀ r ∈ rows, Small r) (hl : rows.length ≤ 4000) (hq : Q (.str (PyData.shown (.list (rows.map rowP))))) : gRepr (.lst (rows.map rowD)) Q := by
  obtain ⟨h1, h2, h3, h4, h5, h6⟩ := rows_facts h
  have hdep : PyData.depth (.list (rows.map rowP)) ≤ 3 := by show PyData.depthAll (rows.map rowP) + 1 ≤ 3; omega
  refine .inr ⟨⟨_, .inl rfl⟩, .list (rows.map rowP), ?_, ?_, h2, h4, ?_, hq⟩
  · show (pdL (rows.map rowD)).map PyData.list = _
    rw [pd_rows]; rfl
  · unfold SeqAt.shaped
    rw [show PyData.canLay0 (.list (rows.map rowP)) = PyData.canLayAll0 (rows.map rowP) from rfl, h5, Bool.true_and]; exact decide_eq_true (by omega)
  · have hlay : PyData.layable0 (.list (rows.map rowP)) = true := by
      unfold PyData.layable0
      rw [show PyData.canLay0 (.list (rows.map rowP)) = PyData.canLayAll0 (rows.map rowP) from rfl, h5, decide_eq_true (show PyData.depth (.list (rows.map rowP)) ≤ 64 by omega), decide_eq_true (show PyData.weight (.list (rows.map rowP)) ≤ 2 ^ 20 by show PyData.weightAll (rows.map rowP) ≤ 2 ^ 20; omega)]
      rfl
    have := PyProof.Rows.shown_le13 hlay (show PyData.intsShort 13 (.list (rows.map rowP)) = true from h3)
    rw [sizeLine_eq]; omega
theorem eqvAll_str : ∀ ts us : List Str, PyData.eqvAll (ts.map PyData.str) (us.map PyData.str) = (ts == us)
  | [], [] => rfl
  | [], _ :: _ => rfl
  | _ :: _, [] => rfl
  | t :: ts, u :: us => by
    show ((t == u) && PyData.eqvAll (ts.map PyData.str) (us.map PyData.str)) = _
    rw [eqvAll_str ts us]
    rfl
theorem ne_strs {ts us : List Str} {Q : D → Prop} (h1 : SeqAt.shaped (.tuple (ts.map PyData.str)) = true) (h2 : SeqAt.shaped (.tuple (us.map PyData.str)) = true) (h : Q (.bl (!(ts == us)))) : gNe (.tup (strsD ts)) (.tup (strsD us)) Q :=
  ⟨.tuple (ts.map PyData.str), .tuple (us.map PyData.str), by show (pdL (strsD ts)).map PyData.tuple = _; rw [pdL_str]; rfl, by show (pdL (strsD us)).map PyData.tuple = _; rw [pdL_str]; rfl, h1, h2, by rw [show PyData.eqv (.tuple (ts.map PyData.str)) (.tuple (us.map PyData.str)) = PyData.eqvAll (ts.map PyData.str) (us.map PyData.str) from rfl, eqvAll_str]; exact h⟩
theorem ne_row {is js : List Int} {Q : D → Prop} (h : Q (.bl (!(is == js)))) : gNe (.tup (is.map D.int)) (.tup (js.map D.int)) Q :=
  ⟨.tuple (is.map PyData.int), .tuple (js.map PyData.int), by simp [pd, pdL_int], by simp [pd, pdL_int], shaped_row is, shaped_row js, by rw [show PyData.eqv (.tuple (is.map PyData.int)) (.tuple (js.map PyData.int)) = PyData.eqvAll (is.map PyData.int) (js.map PyData.int) from rfl, eqvAll_int]; exact h⟩
theorem nilLen {ex : Exc → Prop} {env : List Sl} {ds : List D} {Q : D → Prop} (h : Q (.int ds.length)) : aNil ex env fun xs => g1 gLen (.lst ds :: xs) Q := h
theorem nilR {ex : Exc → Prop} {env : List Sl} {d : D} {Q : D → Prop} (h : gRepr d Q) : aNil ex env fun xs => g1 gRepr (d :: xs) Q := h
theorem ints_of {P : Int → Prop} : ∀ {rs : List D}, (∀ d ∈ rs, ∃ i : Int, d = .int i ∧ P i) → ∃ is : List Int, rs = is.map D.int ∧ is.length = rs.length ∧ ∀ i ∈ is, P i
  | [], _ => ⟨[], rfl, rfl, fun _ h => by cases h⟩
  | d :: rs, h => by
    obtain ⟨i, rfl, hi⟩ := h d List.mem_cons_self
    obtain ⟨is, rfl, hl, hv⟩ := ints_of (rs := rs) fun e he => h e (List.mem_cons_of_mem _ he)
    exact ⟨i :: is, rfl, by simp, fun j hj => by
      rcases List.mem_cons.mp hj with rfl | hj
      · exact hi
      · exact hv j hj⟩
theorem all_of {R : D → D → Prop} {ds rs : List D} (hl : rs.length = ds.length) (h : ∀ (i : Nat) (d r : D), ds[i]? = some d → rs[i]? = some r → R d r) : ∀ r ∈ rs, ∃ d ∈ ds, R d r := fun r hr => by
  obtain ⟨i, hi, rfl⟩ := List.getElem_of_mem hr
  have hi2 : i < ds.length := by omega
  exact ⟨ds[i], List.getElem_mem hi2, h i _ _ (List.getElem?_eq_getElem hi2) (List.getElem?_eq_getElem hi)⟩
/-- a row of b things below n -/
def RowIn (b n : Nat) (r : List Int) : Prop := r.length = b ∧ ∀ i ∈ r, 0 ≤ i ∧ i < (n : Int)
theorem cut_from2 {xs : List D} : cutD xs (some 2) none = xs.drop 2 := by
  unfold cutD
  rw [show HT.sIx xs.length 0 (some 2) = min 2 xs.length from HT.sIx_nat xs.length 0 2, HT.sIx_none]
  by_cases h : 2 ≤ xs.length
  · rw [Nat.min_eq_left h]
    rw [List.take_of_length_le
          (by simp)]
  · rw [Nat.min_eq_right (by omega), List.drop_eq_nil_of_le (by omega), List.drop_eq_nil_of_le (by omega)]
    simp
theorem gSlN {a : Option Int} {r q : List Int} {ex : Exc → Prop} {env : List Sl} {Q : D → Prop} (h : cutD (r.map D.int) a none = q.map D.int) (hq : Q (rowD q)) : oNone ex env fun u => gSl a u (rowD r) Q := by
  show Q (.tup (cutD (r.map D.int) a none))
  rw [h]
  exact hq
theorem atR_at {r : List Int} {i : Int} (h0 : 0 ≤ i) (h1 : i < r.length) : atI (r.map D.int) i = some (.int (atR r i)) := by
  obtain ⟨j, rfl⟩ := Int.eq_ofNat_of_zero_le h0; have hj : j < r.length := by omega
  refine atI_nat ?_
  rw [List.getElem?_map, List.getElem?_eq_getElem hj]
  simp [atR, List.getD_eq_getElem?_getD, List.getElem?_eq_getElem hj]
theorem eq_bl {a b : Bool} {Q : D → Prop} (h : Q (.bl (a == b))) : gEq (.bl a) (.bl b) Q := ⟨_, _, rfl, rfl, by cases a <;> rfl, by cases b <;> rfl, by cases a <;> cases b <;> exact h⟩
theorem ne_bl {a b : Bool} {Q : D → Prop} (h : Q (.bl (!(a == b)))) : gNe (.bl a) (.bl b) Q := ⟨_, _, rfl, rfl, by cases a <;> rfl, by cases b <;> rfl, by cases a <;> cases b <;> exact h⟩
theorem d_and {ta tb : DT} {ex : Exc → Prop} {env : List Sl} {Q : D → Prop} {x y : Bool} (h1 : ∀ K : D → Prop, K (.bl x) → ta ex env K) (h2 : x = true → ∀ K : D → Prop, K (.bl y) → tb ex env K) (hq : Q (.bl (x && y))) : dAnd ta tb ex env Q := h1 _ ⟨x, rfl, by
  cases x with
  | true => exact h2 rfl _ hq
  | false => exact hq⟩
theorem cut_toN {xs : List D} {k : Nat} : cutD xs none (some (k : Int)) = xs.take k := by
  unfold cutD
  rw [show HT.sIx xs.length xs.length (some (k : Int)) = min k xs.length from HT.sIx_nat xs.length xs.length k, HT.sIx_none, List.drop_zero, Nat.sub_zero]
  by_cases h : k ≤ xs.length
  · rw [Nat.min_eq_left h]
  · rw [Nat.min_eq_right (by omega), List.take_of_length_le
        (Nat.le_refl _), List.take_of_length_le (by omega)]
theorem cut_fromN {xs : List D} {k : Nat} : cutD xs (some (k : Int)) none = xs.drop k := by
  unfold cutD
  rw [show HT.sIx xs.length 0 (some (k : Int)) = min k xs.length from HT.sIx_nat xs.length 0 k, HT.sIx_none]
  by_cases h : k ≤ xs.length
  · rw [Nat.min_eq_left h,
        List.take_of_length_le (by simp)]
  · rw [Nat.min_eq_right (by omega), List.drop_eq_nil_of_le (by omega), List.drop_eq_nil_of_le (by omega)]
    simp
theorem no_ints : ∀ r : List Int, noLstL (r.map D.int) = true
  | [] => rfl
  | i :: r => no_ints r
theorem tg_two {i j : Nat} {a b : D} {env : List Sl} {Q : List Sl → Prop} (h : Q ((env.set i (.val a)).set j (.val b))) : tgTwo i j (.tup [a, b]) env Q := h
theorem nilT {ex : Exc → Prop} {env : List Sl} {ds : List D} {Q : D → Prop} (h : Q (.tup ds)) : aNil ex env fun xs => g1 gTuple (.lst ds :: xs) Q := h
theorem zip_sl {i : Nat} {as : List D} {ex : Exc → Prop} {env : List Sl} {Q : List D → Prop} (he : env[i]? = some (.val (.lst as))) (h : Q (zipD as (cutD as (some 1) none))) : iZip (aCons (dVar i) (aCons (dSl (dVar i) (oSome (dC (.int 1))) oNone) aNil)) ex env Q := ⟨_, he, _, he, 1, rfl, h⟩
theorem zip_sl2 {i j : Nat} {as bs : List D} {ex : Exc → Prop} {env : List Sl} {Q : List D → Prop} (he : env[i]? = some (.val (.lst as))) (hf : env[j]? = some (.val (.lst bs))) (h : Q (zipD (cutD as (some 1) none) bs)) : iZip (aCons (dSl (dVar i) (oSome (dC (.int 1))) oNone) (aCons (dVar j) aNil)) ex env Q := ⟨_, he, 1, rfl, _, hf, h⟩
def idx (n : Nat) : List Int := (List.range n).map fun (i : Nat) => (i : Int)
theorem range_idx (n : Nat) : rangeD 0 n = (idx n).map D.int := by
  unfold rangeD idx
  rw [List.map_map]
  exact List.map_congr_left fun i _ => by show D.int (0 + (i : Int)) = D.int i; rw [Int.zero_add]
theorem idx_val {n : Nat} {i : Int} (h : i ∈ idx n) : 0 ≤ i ∧ i < n := by
  obtain ⟨k, hk, rfl⟩ := List.mem_map.mp h
  have := List.mem_range.mp hk
  omega
theorem idx_at (r : List Int) : (idx r.length).map (atR r) = r := by
  apply List.ext_getElem
  · simp [idx]
  · intro k h1 h2
    simp only [idx, List.getElem_map, List.getElem_range]
    unfold atR
    rw [Int.toNat_natCast, List.getD_eq_getElem?_getD, List.getElem?_eq_getElem h2]; rfl
theorem idx_len (n : Nat) : (idx n).length = n := by simp [idx]
theorem atR_idx {n : Nat} {i : Int} (h0 : 0 ≤ i) (h1 : i < n) : atR (idx n) i = i := by
  obtain ⟨k, rfl⟩ := Int.eq_ofNat_of_zero_le h0
  unfold atR idx
  rw [Int.toNat_natCast, List.getD_eq_getElem?_getD, List.getElem?_map, List.getElem?_range (by omega)]
  rfl
theorem atR_map {r : List Int} {f : Int → Int} {i : Int} (h0 : 0 ≤ i) (h1 : i < r.length) : atR (r.map f) i = f (atR r i) := by
  obtain ⟨k, rfl⟩ := Int.eq_ofNat_of_zero_le h0
  have hk : k < r.length := by omega
  unfold atR
  rw [Int.toNat_natCast, List.getD_eq_getElem?_getD, List.getD_eq_getElem?_getD, List.getElem?_map, List.getElem?_eq_getElem hk]
  rfl
def shown3 (a b : Int) (r : List Int) : Str := PyData.shown (.tuple [.int a, .int b, rowP r])
theorem repr3 {a b : Int} {r : List Int} {Q : D → Prop} (ha : 0 ≤ a ∧ a < 8) (hb : 0 ≤ b ∧ b < 8) (hl : r.length ≤ 1000) (hv : ∀ i ∈ r, 0 ≤ i ∧ i < 8) (hq : Q (.str (shown3 a b r))) : gRepr (.tup [.int a, .int b, rowD r]) Q := by
  obtain ⟨a1, a2, a3⟩ := int_facts ha
  obtain ⟨b1, b2, b3⟩ := int_facts hb
  obtain ⟨h1, h2, h3, h4⟩ := ints_facts hv
  have hd := depth_int r
  have hcan : PyData.canLay0 (.tuple [.int a, .int b, rowP r]) = true := by
    show (true && (true && (PyData.canLayAll0 (r.map PyData.int) && true))) = true
    rw [lay_int]; rfl
  have hdep : PyData.depth (.tuple [.int a, .int b, rowP r]) ≤ 3 := by
    show max 0 (max 0 (max (PyData.depthAll (r.map PyData.int) + 1) 0)) + 1 ≤ 3
    omega
  refine .inr ⟨⟨_, .inr rfl⟩, .tuple [.int a, .int b, rowP r], ?_, ?_, ?_, ?_, ?_, hq⟩
  · simp [pd, pdL, rowD, rowP, pdL_int]
  · unfold SeqAt.shaped
    rw [hcan, Bool.true_and]; exact decide_eq_true (by omega)
  · show (PyData.showable (.int a) && (PyData.showable (.int b) && (PyData.showableAll (r.map PyData.int) && true))) = true
    rw [a2, b2, h2]; rfl
  · show (PyData.hasDict (.int a) || (PyData.hasDict (.int b) || (PyData.hasDictAll (r.map PyData.int) || false))) = false
    rw [h4]; rfl
  · have hw : PyData.weight (.tuple [.int a, .int b, rowP r]) ≤ 2 ^ 20 := by
      show PyData.weight (.int a) + 1 + (PyData.weight (.int b) + 1 + (PyData.weightAll (r.map PyData.int) + 1 + 0)) ≤ 2 ^ 20
      omega
    have hlay : PyData.layable0 (.tuple [.int a, .int b, rowP r]) = true := by
      unfold PyData.layable0
      rw [hcan, decide_eq_true (show PyData.depth (.tuple [.int a, .int b, rowP r]) ≤ 64 by omega), decide_eq_true hw]
      rfl
    have hs : PyData.intsShort 13 (.tuple [.int a, .int b, rowP r]) = true := by
      show (PyData.intsShort 13 (.int a) && (PyData.intsShort 13 (.int b) && (PyData.intsShortAll 13 (r.map PyData.int) && true))) = true
      rw [a3, b3, h3]; rfl
    have := PyProof.Rows.shown_le13 hlay hs
    rw [sizeLine_eq]; omega
theorem repr1 {r : List Int} {Q : D → Prop} (hl : r.length ≤ 1000) (hv : ∀ i ∈ r, 0 ≤ i ∧ i < 8) (hq : Q (.str (PyData.shown (rowP r)))) : gRepr (rowD r) Q := by
  obtain ⟨h1, h2, h3, h4⟩ := ints_facts hv
  have hd := depth_int r
  have hcan : PyData.canLay0 (rowP r) = true := lay_int r
  have hdep : PyData.depth (rowP r) ≤ 3 := by show PyData.depthAll (r.map PyData.int) + 1 ≤ 3; omega
  refine .inr ⟨⟨_, .inr rfl⟩, rowP r, by simp [pd, rowD, rowP, pdL_int], shaped_row r, h2, h4, ?_, hq⟩
  have hlay : PyData.layable0 (rowP r) = true := by
    unfold PyData.layable0
    rw [hcan, decide_eq_true (show PyData.depth (rowP r) ≤ 64 by omega), decide_eq_true (show PyData.weight (rowP r) ≤ 2 ^ 20 by show PyData.weightAll (r.map PyData.int) ≤ 2 ^ 20; omega)]
    rfl
  have := PyProof.Rows.shown_le13 hlay (show PyData.intsShort 13 (rowP r) = true from h3)
  rw [sizeLine_eq]; omega
theorem neg1_cut {r : List Int} {x : Int} : cutD ((r ++ [x]).map D.int) none (some (-1)) = r.map D.int := by
  rw [List.map_append]
  unfold cutD
  have hl : (r.map D.int ++ [x].map D.int).length = r.length + 1 := by simp
  rw [hl, HT.sIx_none, List.drop_zero, Nat.sub_zero]
  have e : HT.sIx (r.length + 1) (r.length + 1) (some (-1)) = r.length := by
    unfold HT.sIx
    simp only [Option.elim]
    first
      | omega
      | (split <;> omega)
  rw [e, List.take_left' (by simp)]
theorem gSl_tup {xs : List D} {lo hi : Option Int} {Q : D → Prop} (h : Q (.tup (cutD xs lo hi))) : gSl lo hi (.tup xs) Q := h
theorem gSl_lst {xs : List D} {lo hi : Option Int} {Q : D → Prop} (h : Q (.lst (cutD xs lo hi))) : gSl lo hi (.lst xs) Q := h
theorem flat_len {α β : Type} {k : Nat} {g : α → List β} : ∀ {l : List α}, (∀ x ∈ l, (g x).length = k) → (l.flatMap g).length = l.length * k
  | [], _ => by simp
  | x :: l, h => by
    rw [List.flatMap_cons, List.length_append, h x List.mem_cons_self, flat_len (fun y hy => h y (List.mem_cons_of_mem _ hy)), List.length_cons, Nat.add_mul]
    omega
theorem nd_idx {l : List Int} (nd : l.Nodup) {k : Nat} (hk : k < l.length) : l.idxOf l[k] = k := by
  unfold List.idxOf
  rw [List.findIdx_eq hk]
  refine ⟨by simp, fun j hj => ?_⟩
  have := List.pairwise_iff_getElem.mp nd j k (by omega) hk hj
  simpa using this
theorem nd_at {l : List Int} (nd : l.Nodup) {k : Nat} {x : Int} (h : l[k]? = some x) : l.idxOf x = k := by
  obtain ⟨hk, e⟩ := List.getElem?_eq_some_iff.mp h
  rw [← e]
  exact nd_idx nd hk
theorem atR_rng {m j : Nat} {f : Nat → Int} (h : j < m) : atR ((List.range m).map f) (j : Int) = f j := by
  unfold atR
  rw [Int.toNat_natCast, List.getD_eq_getElem?_getD, List.getElem?_map, List.getElem?_range h]
  rfl
theorem atR_get {l : List Int} {j : Nat} {x : Int} (h : l[j]? = some x) : atR l (j : Int) = x := by
  unfold atR
  rw [Int.toNat_natCast, List.getD_eq_getElem?_getD, h]
  rfl
theorem flat_at {α β : Type} {k : Nat} {g : α → List β} : ∀ {l : List α}, (∀ x ∈ l, (g x).length = k) → ∀ {i t : Nat} {x : α}, l[i]? = some x → t < k → (l.flatMap g)[i * k + t]? = (g x)[t]?
  | [], _, _, _, _, e, _ => by simp at e
  | y :: l, h, 0, t, x, e, ht => by
    have e' : y = x := by simpa using e
    subst e'
    rw [List.flatMap_cons, Nat.zero_mul, Nat.zero_add, List.getElem?_append_left (by rw [h y List.mem_cons_self]; exact ht)]
  | y :: l, h, i + 1, t, x, e, ht => by
    have e' : l[i]? = some x := by simpa using e
    have hk := h y List.mem_cons_self
    have hm : (i + 1) * k = i * k + k := by rw [Nat.add_mul, Nat.one_mul]
    rw [List.flatMap_cons, List.getElem?_append_right (by rw [hk]; omega), hk, show (i + 1) * k + t - k = i * k + t by omega]
    exact flat_at (fun z hz => h z (List.mem_cons_of_mem _ hz)) e' ht
theorem eqv_row (a b : List Int) : PyData.eqv (rowP a) (rowP b) = (a == b) := eqvAll_int a b
theorem shaped_rows {rows : List (List Int)} (h : ∀ r ∈ rows, Small r) : SeqAt.shaped (.list (rows.map rowP)) = true := by
  obtain ⟨_, _, _, _, h5, h6⟩ := rows_facts h
  unfold SeqAt.shaped
  rw [show PyData.canLay0 (.list (rows.map rowP)) = PyData.canLayAll0 (rows.map rowP) from rfl, h5, Bool.true_and]
  exact decide_eq_true (by show PyData.depthAll (rows.map rowP) + 1 ≤ 64; omega)
theorem zip_map {α β : Type} (f : α → D) (g : β → D) : ∀ (as : List α) (bs : List β), zipD (as.map f) (bs.map g) = (as.zip bs).map fun p => .tup [f p.1, g p.2]
  | [], _ => by simp [zipD]
  | _ :: _, [] => by simp [zipD]
  | a :: as, b :: bs => by
    show D.tup [f a, g b] :: zipD (as.map f) (bs.map g) = _
    rw [zip_map f g as bs]; rfl
theorem eqC {x c : D} {ex : Exc → Prop} {env : List Sl} {Q : D → Prop} (h : gEq x c Q) : dC c ex env fun y => gEq x y Q := h
theorem nilLenT {ex : Exc → Prop} {env : List Sl} {ds : List D} {Q : D → Prop} (h : Q (.int ds.length)) : aNil ex env fun xs => g1 gLen (.tup ds :: xs) Q := h
theorem nilL {ex : Exc → Prop} {env : List Sl} {ds : List D} {Q : D → Prop} (h : Q (.lst ds)) : aNil ex env fun xs => g1 gList (.lst ds :: xs) Q := h
theorem nilLt {ex : Exc → Prop} {env : List Sl} {ds : List D} {Q : D → Prop} (h : Q (.lst ds)) : aNil ex env fun xs => g1 gList (.tup ds :: xs) Q := h
theorem nilTN {ex : Exc → Prop} {env : List Sl} {ds : List D} {Q : D → Prop} (h : Q (.tupn ds)) : aNil ex env fun xs => g1 gTupN (.lst ds :: xs) Q := ⟨_, rfl, h⟩
theorem ixN_nat {k n : Nat} (h : k < n) : ixN n (k : Int) = some k := by
  unfold ixN
  rw [if_pos (by omega), if_pos (by omega), Int.toNat_natCast]
theorem flat_ints : ∀ is : List Int, flatL (is.map D.int) = true
  | [] => rfl
  | i :: is => by show (true && flatL (is.map D.int)) = true; rw [flat_ints is]; rfl
theorem noL_ints : ∀ is : List Int, noLstL (is.map D.int) = true
  | [] => rfl
  | i :: is => by show (true && noLstL (is.map D.int)) = true; rw [noL_ints is]; rfl
theorem erase_perm : ∀ {l : List Int} {k : Nat} (h : k < l.length), (l[k] :: l.eraseIdx k).Perm l
  | x :: l, 0, _ => .refl _
  | x :: l, k + 1, h => by
    have h' : k < l.length := by simpa using h
    show (l[k] :: x :: l.eraseIdx k).Perm (x :: l)
    exact (List.Perm.swap x _ _).trans ((erase_perm h').cons x)
theorem map_erase : ∀ (l : List Int) (k : Nat), (l.map D.int).eraseIdx k = (l.eraseIdx k).map D.int
  | [], _ => rfl
  | x :: l, 0 => rfl
  | x :: l, k + 1 => by
    show D.int x :: (l.map D.int).eraseIdx k = _
    rw [map_erase l k]; rfl
theorem reprL {r : List Int} {Q : D → Prop} (hl : r.length ≤ 1000) (hv : ∀ i ∈ r, 0 ≤ i ∧ i < 8) (hq : Q (.str (PyData.shown (.list (r.map PyData.int))))) : gRepr (.lst (r.map D.int)) Q := by
  obtain ⟨h1, h2, h3, h4⟩ := ints_facts hv
  have hd := depth_int r
  have hcan : PyData.canLay0 (.list (r.map PyData.int)) = true := lay_int r
  have hdep : PyData.depth (.list (r.map PyData.int)) ≤ 3 := by show PyData.depthAll (r.map PyData.int) + 1 ≤ 3; omega
  refine .inr ⟨⟨_, .inl rfl⟩, .list (r.map PyData.int), by simp [pd, pdL_int], shaped_lst r, h2, h4, ?_, hq⟩
  have hlay : PyData.layable0 (.list (r.map PyData.int)) = true := by
    unfold PyData.layable0
    rw [hcan, decide_eq_true (show PyData.depth (.list (r.map PyData.int)) ≤ 64 by omega), decide_eq_true (show PyData.weight (.list (r.map PyData.int)) ≤ 2 ^ 20 by show PyData.weightAll (r.map PyData.int) ≤ 2 ^ 20; omega)]
    rfl
  have := PyProof.Rows.shown_le13 hlay (show PyData.intsShort 13 (.list (r.map PyData.int)) = true from h3)
  rw [sizeLine_eq]; omega
theorem set_cut {vs : List Int} {k : Nat} {x : Int} (h : k < vs.length) : vs.set k x = vs.take k ++ [x] ++ vs.drop (k + 1) := by
  rw [List.set_eq_take_append_cons_drop, if_pos h]
  simp
theorem set_eq {vs : List Int} {k : Nat} {x : Int} (h : k < vs.length) : (vs.set k x == vs) = (x == vs[k]) := by
  by_cases e : x = vs[k]
  · subst e
    rw [List.set_getElem_self]; simp
  · rw [beq_eq_false_iff_ne.mpr e]
    refine beq_eq_false_iff_ne.mpr fun z => e ?_
    have : (vs.set k x)[k]? = vs[k]? := by rw [z]
    rw [List.getElem?_set_self h, List.getElem?_eq_getElem h] at this
    exact Option.some.inj this
/-- repr of a tuple of small rows is its shown text -/
theorem reprTT {rows : List (List Int)} {Q : D → Prop} (h : ∀ r ∈ rows, Small r) (hl : rows.length ≤ 4000) (hq : Q (.str (PyData.shown (.tuple (rows.map rowP))))) : gRepr (.tup (rows.map rowD)) Q := by
  obtain ⟨h1, h2, h3, h4, h5, h6⟩ := rows_facts h
  have ec : PyData.canLay0 (.tuple (rows.map rowP)) = PyData.canLayAll0 (rows.map rowP) := rfl
  have hdep : PyData.depth (.tuple (rows.map rowP)) ≤ 3 := by show PyData.depthAll (rows.map rowP) + 1 ≤ 3; omega
  refine .inr ⟨⟨_, .inr rfl⟩, .tuple (rows.map rowP), ?_, ?_, h2, h4, ?_, hq⟩
  · show (pdL (rows.map rowD)).map PyData.tuple = _
    rw [pd_rows]; rfl
  · unfold SeqAt.shaped
    rw [ec, h5, Bool.true_and]; exact decide_eq_true (by omega)
  · have hlay : PyData.layable0 (.tuple (rows.map rowP)) = true := by
      unfold PyData.layable0
      rw [ec, h5, decide_eq_true (show PyData.depth (.tuple (rows.map rowP)) ≤ 64 by omega), decide_eq_true (show PyData.weight (.tuple (rows.map rowP)) ≤ 2 ^ 20 by show PyData.weightAll (rows.map rowP) ≤ 2 ^ 20; omega)]
      rfl
    have := PyProof.Rows.shown_le13 hlay (show PyData.intsShort 13 (.tuple (rows.map rowP)) = true from h3)
    rw [sizeLine_eq]
    omega
end
end Kn

set_option Elab.async false
set_option linter.all false
set_option maxRecDepth 100000
set_option maxHeartbeats 2100000
/-! K66: a tuple, so many times. -/
namespace Kn
open PySem PySem.Spec PyProof.Rows L2 RZ
theorem tuple_once (l : Addr) (items : Array Value) (n : Nat) (dd : Option Addr) (sl : Array (Option Value)) (u : Tok) (hi : (items.isEmpty || (1 : Int) == 1) = true) :
    Meets (Builtin.«tuple.__mul__» ⟨[.ref l, .int 1 u], []⟩) (fun _ R s => s.heap.get? l = some { cls := .type "tuple", dict := dd, data := .seq items n, slots := sl } ∧ R (.ok (.ret (.ref l))) s) :=
  .of_wp fun prog
        w A R s h => by
    obtain ⟨hp, g, d, tk, os⟩ := s; obtain ⟨hl, h⟩ := h; have f1 := AutoSeq1.idx_int
    wp_walk using
          wpAny_loadPart' hl
    repeat (first
      | (refine wpAny_ite_false (decide_eq_false (by decide)) ?_; wp_walk using wpAny_loadPart' hl)
      | (refine wpAny_ite_true (decide_eq_true hi) ?_; wp_walk using wpAny_loadPart' hl))
    exact ⟨_, rfl, h⟩
section
variable {G : Gd} {X : Cx}
def gRepT : G2 := fun d e Q => ∃ (ds : List D) (n : Nat), d = .tup ds ∧ e = .int n ∧ 1 ≤ n ∧ n ≤ 1000 ∧ 0 < ds.length ∧ ds.length ≤ 1000 ∧ Q (.tup (repD n ds))
theorem repD_one (ds : List D) : repD 1 ds = ds := by simp [repD]
theorem o_repT (hK : X.K = G.K) : OpR X (binaryOp .Mult) (rD G gRepT) := by
  intro pins s σ H x y v u Q' I rx ry h
  obtain ⟨B, d, e, Q, hd, he, hf, ⟨ds, n, rfl, rfl, n1, n2, l0, l1, hq⟩, kk⟩ := h
  have hd0 := hd
  obtain ⟨l, xs, rfl, nl, hl, ll, dl⟩ := hd
  cases he
  have el := dl.length
  have hne : xs ≠ [] := fun z => by rw [z, List.length_nil] at el; omega
  rw [← hK] at hl
  by_cases h1 : n = 1
  · subst h1
    rw [repD_one] at hq
    cases rx
    obtain ⟨t, rfl⟩ := ry
    obtain ⟨its, r, ⟨⟨cls, dd, data, sl⟩, ho, hc, k, hdt⟩, hs⟩ := I.tuple hl
    simp only at hc hdt
    subst hc
    subst hdt
    refine wpAny_binaryOp_repeat_ref (T := "tuple") (U := "int") (by decide) ⟨_, ho, rfl⟩ (fun s' => typeIs_int s' (1 : Nat) t) noFill_tuple_mul F.fills_int_mul F.slot_int_rmul repeat_tuple F.slot_int_index.lookup
      (call_meets F.slot_int_rmul (typeIs_int s (1 : Nat) t) F.entry_int_rmul (F.args_int_rmul_2 _ _) (int_rmul_tuple (1 : Nat) t l its.toArray k dd sl) ⟨ho, rfl, ⟨_, ho, rfl⟩, ?_⟩)
    refine call_meets F.slot_tuple_mul ⟨_, ho, rfl⟩ F.entry_tuple_mul (F.args_tuple_mul_2 _ _) (tuple_once l its.toArray k dd sl t (by simp)) ⟨ho, ?_⟩
    exact ⟨.ref l, H, I, rfl, kk _ H (.tup ds) (Ext.refl _ _) hd0 hq⟩
  · refine op_repT pins s σ H _ _ v u Q' I rx ry ⟨l, n, xs, rfl, rfl, hl, hne, by omega, by omega, by omega, fun p hp => ?_⟩
    rw [Int.toNat_natCast]
    have hz : n * xs.length ≤ 1000 * 1000 := Nat.mul_le_mul n2 (by omega)
    exact kk _ _ (.tup (repD n ds)) (Ext.new hp) (den_tup hp (hf p hp) (by rw [rep_len, sizeLine_eq]; omega) (dl.rep n)) hq
end
end Kn

set_option Elab.async false
set_option linter.all false
set_option maxRecDepth 100000
set_option maxHeartbeats 2100000
/-! K73: dicts whose keys are rows of ints, at the machine's level. -/
namespace Kn
open PySem PySem.Spec PyProof.Rows L2 RZ
abbrev tkd (P : Program) (w : World) : HeapKind P w (List Int) := tupleKind (intKind P w)
/-- what a dict of rows holds at a row -/
def atL (L : List (List Int × Addr × V)) (r : List Int) : Option V := (L.find? fun x => decide (x.1 = r)).map (·.2.2)
def putIn (r : List Int) (v : V) (x : List Int × Addr × V) : List Int × Addr × V := if x.1 = r then (x.1, x.2.1, v) else x
def putL (L : List (List Int × Addr × V)) (r : List Int) (b : Addr) (v : V) : List (List Int × Addr × V) := if (atL L r).isSome then L.map (putIn r v) else L ++ [(r, b, v)]
abbrev LX : List (List Int × Addr × V) → List (List Int × Addr × Value) → Prop := Paired fun p q => p.1 = q.1 ∧ p.2.1 = q.2.1 ∧ RelV p.2.2 q.2.2
theorem lx_keys : ∀ {L : List (List Int × Addr × V)} {xs : List (List Int × Addr × Value)}, LX L xs → xs.map (·.1) = L.map (·.1)
  | [], _, .nil => rfl
  | _ :: _, _, .cons h t => by rw [List.map_cons, List.map_cons, lx_keys t, h.1]
theorem lx_at : ∀ {L : List (List Int × Addr × V)} {xs : List (List Int × Addr × Value)}, LX L xs → ∀ r, RelO (atL L r) ((atKey xs r).map (·.2))
  | [], _, .nil, r => trivial
  | p :: L, _, @Paired.cons _ _ _ _ q _ xs h t, r => by
    unfold atL atKey
    rw [List.find?_cons, List.find?_cons, h.1]
    by_cases e : q.1 = r
    · rw [decide_eq_true e]
      exact h.2.2
    · rw [decide_eq_false e]
      exact lx_at t r
theorem relO_some {o : Option V} {u : Option Value} (h : RelO o u) : o.isSome = u.isSome := by
  cases o <;> cases u <;> first | rfl | cases h
theorem lx_mem : ∀ {L : List (List Int × Addr × V)} {xs : List (List Int × Addr × Value)}, LX L xs → ∀ x ∈ xs, ∃ p ∈ L, p.1 = x.1 ∧ p.2.1 = x.2.1
  | [], _, .nil, _, hx => nomatch hx
  | p :: L, _, .cons h t, x, hx => by
    rcases List.mem_cons.mp
          hx with rfl | hx
    · exact ⟨p, List.mem_cons_self, h.1, h.2.1⟩
    · obtain ⟨p', hp, e⟩ := lx_mem t x hx
      exact ⟨p', List.mem_cons_of_mem _ hp, e⟩
theorem lx_repl (r : List Int) {v : V} {u : Value} (hv : RelV v u) : ∀ {L : List (List Int × Addr × V)} {xs : List (List Int × Addr × Value)}, LX L xs → LX (L.map (putIn r v)) (xs.map (putAt r u))
  | [], _, .nil => .nil
  | p :: L, _, @Paired.cons _ _ _ _ q _ xs h t => by
    rw [List.map_cons, List.map_cons]; refine .cons ?_ (lx_repl r hv t)
    unfold putIn putAt
    by_cases e : p.1 = r
    · rw [if_pos e, if_pos (h.1 ▸ e)]; exact ⟨h.1, h.2.1, hv⟩
    · rw [if_neg e, if_neg (h.1 ▸ e)]; exact h
theorem lx_put {L : List (List Int × Addr × V)} {xs : List (List Int × Addr × Value)} (h : LX L xs) (r : List Int) (b : Addr) {v : V} {u : Value} (hv : RelV v u) : LX (putL L r b v) (storedH xs r b u) := by
  have e : (atL L r).isSome = (atKey xs r).isSome := by rw [relO_some (lx_at h r), Option.isSome_map]
  unfold putL storedH
  rw [e]
  split
  · exact lx_repl r hv h
  · exact Paired.snoc h ⟨rfl, rfl, hv⟩
theorem putIn_keys (L : List (List Int × Addr × V)) (r : List Int) (v : V) : (L.map (putIn r v)).map (·.1) = L.map (·.1) := by
  rw [List.map_map]
  refine List.map_congr_left fun x _ => ?_; show (putIn r v x).1 = x.1
  unfold putIn
  split <;> rfl
theorem atL_none {L : List (List Int × Addr × V)} {r : List Int} (h : (atL L r).isSome = false) : r ∉ L.map (·.1) := fun hm => by
  obtain ⟨x, hx, e⟩ := List.mem_map.mp hm
  unfold atL at h
  rw [Option.isSome_map, List.find?_isSome.mpr ⟨x, hx, decide_eq_true e⟩] at h
  cases h
theorem putL_nd {L : List (List Int × Addr × V)} {r : List Int} {b : Addr} {v : V} (h : (L.map (·.1)).Nodup) : ((putL L r b v).map (·.1)).Nodup := by
  unfold putL
  split
  · rw [putIn_keys]; exact h
  · rename_i z
    rw [List.map_append]
    refine List.nodup_append.mpr ⟨h, by simp, fun x hx y hy e => ?_⟩
    rw [List.map_cons, List.map_nil, List.mem_singleton] at hy
    subst hy; subst e
    exact atL_none (by simpa using z) hx
theorem putL_len (L : List (List Int × Addr × V)) (r : List Int) (b : Addr) (v : V) : (putL L r b v).length ≤ L.length + 1 := by
  unfold putL
  split
  · rw [List.length_map]; omega
  · rw [List.length_append];
        simp
/-- the keys stand as tuples of ints -/
def KeysS (K : PySem.W.Frag) (H : Hp) (L : List (List Int × Addr × V)) : Prop := ∀ p ∈ L, SqT K H p.2.1 (p.1.map V.int)
section
variable {X : Cx} {pins : List (Addr × Obj)} {σ : List (Option V)} {H : Hp} {s : Shared} {a b : Addr} {L : List (List Int × Addr × V)} {r : List Int} {A : Around} {E : Value → Shared → Prop}
theorem dic_rd (I : Inv X pins σ H s) (e : H a = some (DicO a L)) (hk : KeysS X.K H L) : (a == sysModules) = false ∧ L.length ≤ sizeLine ∧ (L.map (·.1)).Nodup ∧ ∃ xs, LX L xs ∧ s.heap.DictOfH (tkd X.prog X.w) a xs := by
  have c : DicAt s.heap a L := (I.hok a _ e).1
  obtain ⟨xs, o, es, ep, hx, ho, hd, hdat, he⟩ := c.ex
  refine ⟨c.low, c.few, c.nd, xs, hx, o, es, ep, ho, hd, hdat, he, fun x hxm => ?_, by rw [lx_keys hx]; exact c.nd⟩
  obtain ⟨p, hp, e1, e2⟩ := lx_mem hx x hxm
  rw [← e1, ← e2]
  exact I.isT (hk p hp)
theorem dicO_new {P : Program} {w : World} {H : Hp} {h : Heap} (c : DicAt h a L) : ObjOk P w H h a (DicO a L) := by
  obtain ⟨xs, o, es, ep, hx, ho, r⟩ := c.ex
  refine ⟨c, ⟨o, ho⟩, fun h1 h2 p k => ?_⟩
  have p' : DicAt h1 a L := p
  obtain ⟨xs', o', es', ep', hx', ho', r'⟩ := p'.ex
  exact ⟨p'.low, p'.few, p'.nd, xs', o', es', ep', hx', k o' ho', r'⟩
theorem dicAt_of {P : Program} {w : World} {h : Heap} {xs : List (List Int × Addr × Value)} (lo : (a == sysModules) = false) (few : L.length ≤ sizeLine) (hx : LX L xs) (hd : h.DictOfH (tkd P w) a xs) : DicAt h a L := by
  obtain ⟨o, es, ep, ho, h1, h2, h3, _, h5⟩ := hd
  exact ⟨lo, few, by rw [← lx_keys hx]; exact h5, xs, o, es, ep, hx, ho, h1, h2, h3⟩
/-- d[r], there -/
theorem dic_get {v : V} {Q : Value → Shared → Prop} (hu : A.units + 1 < cLine) (I : Inv X pins σ H s) (e : H a = some (DicO a L)) (hk : KeysS X.K H L) (hb : SqT X.K H b (r.map V.int)) (l : atL L r = some v) (h : ∀ w' s', Inv X pins σ H s' → RelV v w' → Q w' s') :
    wpAny (model X.prog X.w) A (getItem (.ref a) (.ref b)) Q E s := by
  obtain ⟨z, _, _, xs, hx, dd⟩ := dic_rd I e hk
  obtain ⟨w', hw, rw'⟩ := RelO.some_of (v := v) (o := (atKey xs r).map (·.2)) (by rw [← l]; exact lx_at hx r)
  obtain ⟨p, hp, hp2⟩ := Option.map_eq_some_iff.mp hw; refine wpAny_getItem_heap (tupleKind_room_in1 hu) (I.isT hb) dd hp ?_
  rw [hp2]
  exact h w' _ (I.tok _) rw'
/-- r in d -/
theorem dic_in {Q : Value → Shared → Prop} (hu : A.units + 1 < cLine) (I : Inv X pins σ H s) (e : H a = some (DicO a L)) (hk : KeysS X.K H L) (hb : SqT X.K H b (r.map V.int)) (h : ∀ s', Inv X pins σ H s' → Q (.bool (atL L r).isSome) s') :
    wpAny (model X.prog X.w) A (compareOp .In (.ref b) (.ref a)) Q E s := by
  obtain ⟨z, _, _, xs, hx, dd⟩ := dic_rd I e hk
  refine wpAny_in_heap (tupleKind_room_in1 hu) (I.isT hb) z dd ?_
  have q := relO_some (lx_at hx r)
  rw [Option.isSome_map] at q
  rw [← q]
  exact h _ (I.tok _)
theorem dic_notIn {Q : Value → Shared → Prop} (hu : A.units + 1 < cLine) (I : Inv X pins σ H s) (e : H a = some (DicO a L)) (hk : KeysS X.K H L) (hb : SqT X.K H b (r.map V.int)) (h : ∀ s', Inv X pins σ H s' → Q (.bool (!(atL L r).isSome)) s') :
    wpAny (model X.prog X.w) A (compareOp .NotIn (.ref b) (.ref a)) Q E s := by
  obtain ⟨z, _, _, xs, hx, dd⟩ := dic_rd I e hk
  refine wpAny_notIn_heap (tupleKind_room_in1 hu) (I.isT hb) z dd ?_
  have q := relO_some (lx_at hx r)
  rw [Option.isSome_map] at q
  rw [← q]
  exact h _ (I.tok _)
/-- d[r] = v -/
theorem dic_put {v : V} {u : Value} {Q : Unit → Shared → Prop} (hu : A.units + 1 < cLine) (I : Inv X pins σ H s) (e : H a = some (DicO a L)) (hk : KeysS X.K H L) (hb : SqT X.K H b (r.map V.int)) (hl : L.length < sizeLine) (rv : RelV v u)
    (h : ∀ s', Inv X pins σ (upd H a (DicO a (putL L r b v))) s' → Q () s') : wpAny (model X.prog X.w) A (setItem (.ref a) (.ref b) u) Q E s := by
  obtain ⟨z, few, _, xs, hx, dd⟩ := dic_rd I e hk
  have hz : xs.length ≤ sizeLine := by rw [← Paired.length hx]; exact few
  refine wpAny_setItem_heap (hsz := hz) (tupleKind_room_in1 hu) (I.isT hb) dd fun h' dd' hs => h _ ?_
  have c : DicAt h' a (putL L r b v) := dicAt_of z (by have := putL_len L r b v; omega) (lx_put hx r b rv) dd'
  obtain ⟨q, _, _, hq, _⟩ := dd'
  exact d_write I (by rw [e]; exact True.intro) hs ⟨q, hq⟩ (dicO_new c)
/-- {} -/
theorem dic_empty (h : Heap) (hb : sysModules < h.objs.size) : DicAt (h.push { cls := .type "dict", data := .dict #[] }) h.objs.size [] :=
  ⟨beq_eq_false_iff_ne.mpr (Ne.symm (Nat.ne_of_lt hb)), Nat.zero_le _, List.nodup_nil, [], _, #[], 0, .nil, Heap.get?_push_size _ rfl, ⟨rfl, rfl, rfl⟩, rfl, rfl⟩
theorem dic_typeIs (I : Inv X pins σ H s) (e : H a = some (DicO a L)) : s.TypeIs (.ref a) "dict" := by
  have c : DicAt s.heap a L := (I.hok a _ e).1
  obtain ⟨xs, o, es, ep, hx, ho, hd, _⟩ := c.ex
  exact ⟨o, ho, hd.1⟩
end

section
variable {X : Cx} {o i e value : Expr}
      {pos pos' tpos : Pos} {td ty tv : TE}
def tLNew : TE := fun _ H Q => ∀ p, H p = none → Q (.ref p) (upd H p (DicO p []))
theorem pe_lnew : PE X (.Dict [] [] pos) tLNew := ⟨fun pins s σ H Q I h =>
  wpAny_Dict_empty ⟨.ref s.heap.objs.size, _, I.laid (a := s.heap.objs.size) (o := DicO s.heap.objs.size []) (t' := s.toks) (fun _ _ q => Heap.get?_push_of_some _ q) (Nat.le_refl _) (dicO_new (dic_empty s.heap I.big)), rfl, h _ (I.hok.fresh (Nat.le_refl _))⟩⟩
/-- d[y] -/
def tLGet (K : PySem.W.Frag) (td ty : TE) : TE := fun σ H Q => td σ H fun x H1 => ty σ H1 fun y H2 => ∃ a L b r v, x = .ref a ∧ y = .ref b ∧ H2 a = some (DicO a L) ∧ KeysS K H2 L ∧ SqT K H2 b (r.map V.int) ∧ atL L r = some v ∧ Q v H2
theorem pe_lget (hu : X.A.units + 1 < cLine) (ho : PE X o td) (hi : PE X i ty) (hs : NoSl i) : PE X (.Subscript o i pos) (tLGet X.K td ty) := by
  refine ⟨fun pins s σ H Q I h => ?_⟩; refine subD_of PySem.F.slot_dict_getitem.lookup hs (thn (ho.run pins s σ H _ I h) fun u s1 ⟨x, H1, I1, rx, q1⟩ => thn (hi.run pins s1 σ H1 _ I1 q1) fun iv s2 ⟨y, H2, I2, ry, a, L, b, r, v, ex, ey, hd, hk, hb, hl, q2⟩ => ?_)
  subst ex ey
  obtain rfl : u = Value.ref a := rx; obtain rfl : iv = Value.ref b := ry
  exact ⟨dic_typeIs I2 hd, dic_get hu I2 hd hk hb hl fun w' s3 I3 rw' => ⟨v, H2, I3, rw', q2⟩⟩
/-- y in d -/
def rLIn (K : PySem.W.Frag) (neg : Bool) : V → V → Hp → VK → Prop := fun y x H Q => ∃ a L b r, x = .ref a ∧ y = .ref b ∧ H a = some (DicO a L) ∧ KeysS K H L ∧ SqT K H b (r.map V.int) ∧ Q (.bl (if neg then !(atL L r).isSome else (atL L r).isSome)) H
theorem or_lin (hu : X.A.units + 1 < cLine) : OpR X (compareOp .In) (rLIn X.K false) := by
  intro pins s σ H x y v u Q I rx ry h; obtain ⟨a, L, b, r, rfl, rfl, hd, hk, hb, q⟩ := h
  cases rx; cases ry
  exact dic_in hu I hd hk hb fun s' I' => ⟨.bl (atL L r).isSome, H, I', rfl, q⟩
theorem or_lnotin (hu : X.A.units + 1 < cLine) : OpR X (compareOp .NotIn) (rLIn X.K true) := by
  intro pins s σ H x y v u Q I rx ry h; obtain ⟨a, L, b, r, rfl, rfl, hd, hk, hb, q⟩ := h
  cases rx; cases ry
  exact dic_notIn hu I hd hk hb fun s' I' => ⟨.bl (!(atL L r).isSome), H, I', rfl, q⟩
/-- d[y] = v -/
def sLPut (K : PySem.W.Frag) (td ty tv : TE) : TS := fun D σ H => tv σ H fun v H1 => td σ H1 fun x H2 => ty σ H2 fun y H3 => ∃ a L b r, x = .ref a ∧ y = .ref b ∧ H3 a = some (DicO a L) ∧ KeysS K H3 L ∧ SqT K H3 b (r.map V.int) ∧ L.length < sizeLine ∧ D.nx σ (upd H3 a (DicO a (putL L r b v)))
theorem ps_lput (hu : X.A.units + 1 < cLine) (ho : PE X o td) (hi : PE X i ty) (hv : PE X value tv) (hs : swapsWith value (some (.Subscript o i pos')) pos.line X.env = pure false) :
    PS X (.Assign [.Subscript o i pos'] value pos) (sLPut X.K td ty tv) := by
  refine ⟨fun pins s σ H D I h => ?_⟩; refine wpAny_Assign_Subscript (thn (hv.run pins s σ H _ I h) fun r s1 ⟨v, H1, I1, rv, q1⟩ => thn (ho.run pins s1 σ H1 _ I1 q1) fun u s2 ⟨x, H2, I2, rx, q2⟩ => thn (hi.run pins s2 σ H2 _ I2 q2) fun iv s3 ⟨y, H3, I3, ry, a, L, b, k, ex, ey, hd, hk, hb, hl, q3⟩ => ?_) hs
  subst ex ey
  obtain rfl : u = Value.ref a := rx; obtain rfl : iv = Value.ref b := ry
  exact dic_put hu I3 hd hk hb hl rv fun s4 I4 => ⟨σ, _, I4, q3⟩
end
/-- dict(l), l a list of pairs of a row and a value, the rows unlike -/
theorem pairs_of_l {X : Cx} {pins : List (Addr × Obj)} {σ : List (Option V)} {H : Hp} {s : Shared} (I : Inv X pins σ H s) : ∀ {ps : List Addr} {L : List (List Int × Addr × V)}, Paired (fun p q => SqT X.K H p [V.ref q.2.1, q.2.2]) ps L →
    ∃ xs : List (List Int × Addr × Value), LX L xs ∧ xs.length = ps.length ∧ ∀ (j : Nat) (x : List Int × Addr × Value), xs[j]? = some x → ∃ b, ps[j]? = some b ∧ PairAt s.heap b (.ref x.2.1) x.2.2
  | _, _, .nil => ⟨[], .nil, rfl, fun _ _ e => nomatch e⟩
  | _, _, @Paired.cons _ _ _ p q ps L h t => by
    obtain ⟨xs, hx, hl, hp⟩ := pairs_of_l I t
    obtain ⟨its, rv, ⟨o, ho, hc, n, hd⟩, _⟩ := I.tuple h
    cases rv with
    | cons r1 t1 => cases t1 with
      | @cons _ u2 _ _ r2 t2 =>
        cases t2; cases r1
        refine ⟨(q.1, q.2.1, u2) :: xs, .cons ⟨rfl, rfl, r2⟩ hx, by simp [hl], fun j x e => ?_⟩
        cases j with
        | zero =>
          cases e
          exact ⟨p, rfl, .inl ⟨o, ho, hc, n, hd⟩⟩
        | succ j => exact hp j x e
theorem call_dictL {X : Cx} (hcalm : X.calm = true) (hu : X.A.units + 2 < cLine) : CallR X (.type "dict") (fun xs H Q => ∃ (a : Addr) (ps : List Addr) (L : List (List Int × Addr × V)), xs = [.ref a] ∧ SqL X.K H a (ps.map V.ref) ∧ Paired (fun p q => SqT X.K H p [V.ref q.2.1, q.2.2]) ps L ∧
    KeysS X.K H L ∧ (L.map (·.1)).Nodup ∧ ∀ p, H p = none → Q (.ref p) (upd H p (DicO p L))) := by
  intro pins s σ H xs us Q I r q; obtain ⟨a, ps, L, ex, hq, hp, hk, nd, q⟩ := q
  subst ex
  obtain ⟨u, eu, rx⟩ := vals1 r
  subst eu
  cases rx
  obtain ⟨its, rv, pl, hz⟩ := I.list hq; have ei := refs_at rv
  subst ei
  rw [List.length_map] at hz
  obtain ⟨ys, rel, hl, hpr⟩ := pairs_of_l I hp
  obtain ⟨o, n, ho, hc, hd, hdat⟩ := pl; have hlen : L.length = ps.length := by rw [Paired.length rel, hl]
  let Ts : Nat → Addr := fun j => ps.getD j 0
  let pr : List (Value × Value) := ys.map fun x => (Value.ref x.2.1, x.2.2)
  have hPl : pr.length = ps.length := by simp [pr, hl]
  have ok : PlainSeq "list" s.heap a (ps.map Value.ref).toArray ∧ PairItems s.heap (ps.map Value.ref).toArray Ts pr := by
    refine ⟨⟨o, n, ho, hc, hd, hdat⟩, by simp [hPl], fun j k v e => ?_⟩
    rw [List.getElem?_map] at e
    obtain ⟨x, hx, e2⟩ := Option.map_eq_some_iff.mp e
    cases e2
    obtain ⟨b, hb, hpa⟩ := hpr j x hx
    have eT : Ts j = b := by show ps.getD j 0 = b; rw [List.getD_eq_getElem?_getD, hb]; rfl
    rw [eT]
    exact ⟨by simp [hb], hpa⟩
  refine call_dict_pairsH (knd := tkd X.prog X.w) (ps := ys) (PairArg.list a _ Ts pr) (I.ok.hd hcalm) (tupleKind_room_in1 (by show X.A.in1.units + 1 < cLine; exact hu)) ok ⟨by rw [hPl, hl], fun i key v e => ?_⟩ (fun h' hk' x hx => ?_) (by rw [hPl]; exact hz) fun h' tk hd' k => ?_
  · have e' : pr[i]? = some (key, v) := e
    rw [List.getElem?_map] at e'
    obtain ⟨x, hx, e2⟩ := Option.map_eq_some_iff.mp e'
    cases e2
    exact ⟨x.1, x.2.1, hx, rfl⟩
  · obtain ⟨p, hp', e1, e2⟩ := lx_mem rel x hx
    rw [← e1, ← e2]
    have hi : IsTupleKey (intKind X.prog X.w) s.heap p.1 p.2.1 := I.isT (hk p hp')
    obtain ⟨o', it, n', ho', r'⟩ := hi
    exact ⟨o', it, n', hk' _ _ (Nat.ne_of_lt (Heap.lt_size ho')) (fun z => nomatch z) ho', r'⟩
  · rw [storedAllH_nil_of_nodup ys (by rw [lx_keys rel]; exact nd)] at hd'
    have hm : (s.heap.objs.size == sysModules) = false := beq_eq_false_iff_ne.mpr (Nat.ne_of_gt I.big); have c : DicAt h' s.heap.objs.size L := dicAt_of hm (by rw [hlen]; exact hz) rel hd'
    exact ⟨.ref s.heap.objs.size, _, I.laid (t' := tk) (fun b u e => k b u (fun z => nomatch z) e) (Nat.le_refl _) (dicO_new c), rfl, q _ (I.hok.fresh (Nat.le_refl _))⟩
end Kn

set_option Elab.async false
set_option linter.all false
set_option maxRecDepth 100000
set_option maxHeartbeats 2100000
/-! K74: dicts whose keys are rows of ints, over trees. -/
namespace Kn
open PySem L2 RZ
open PyProof.Rows (envOfC)
section
variable {G : Gd} {E : XK} {X : Cx} {σ : List (Option V)} {H H' : Hp} {k : Nat}
/-- the value is the row r -/
def rowK (d : D) (r : List Int) : Prop := d = .tup (r.map D.int) ∨ d = .tupn (r.map D.int)
theorem rowK_t {r : List Int} : rowK (.tup (r.map D.int)) r := .inl rfl
theorem Den.key {B : Addr → Prop} {d : D} {v : V} {r : List Int} (hk : rowK d r) (h : Den G B H d v) : ∃ b, v = .ref b ∧ (¬ B b ∨ KTup G.K b (r.map V.int)) ∧ SqT G.K H b (r.map V.int) ∧ r.length ≤ sizeLine := by
  have h' : Den G B H (.tup (r.map D.int)) v := by
    rcases hk with rfl | rfl
    · exact h
    · obtain ⟨a, xs, o, rfl, nb, hs, _, _, hl, hd⟩ := h
      exact ⟨a, xs, rfl, .inl nb, .inl (.inr ⟨o, hs⟩), hl, hd⟩
  obtain ⟨a, xs, rfl, nb, hs, hl, hd⟩ := h'
  have e := hd.ints
  subst e
  rw [List.length_map] at hl
  exact ⟨a, rfl, nb, hs, hl⟩
/-- what a dict holds at a row -/
def lookT (ks : List (List Int)) (ds : List D) (r : List Int) : Option D := ((ks.zip ds).find? fun x => decide (x.1 = r)).map (·.2)
def putKs (ks : List (List Int)) (r : List Int) : List (List Int) := if r ∈ ks then ks else ks ++ [r]
def putDs (ks : List (List Int)) (ds : List D) (r : List Int) (d : D) : List D := if r ∈ ks then (ks.zip ds).map (fun x => if x.1 = r then d else x.2) else ds ++ [d]
theorem KeysOk.s {B : Addr → Prop} {L : List (List Int × Addr × V)} (h : KeysOk G.K B H L) : KeysS G.K H L := fun p hp => (h p hp).2.1
theorem atL_mem (L : List (List Int × Addr × V)) (r : List Int) : (atL L r).isSome = decide (r ∈ L.map (·.1)) := by
  unfold atL
  rw [Option.isSome_map]
  by_cases h : r ∈ L.map (·.1)
  · rw [decide_eq_true h]
    obtain ⟨x, hx, e⟩ := List.mem_map.mp h
    exact List.find?_isSome.mpr ⟨x, hx, decide_eq_true e⟩
  · rw [decide_eq_false h]
    cases z : (L.find? fun x => decide (x.1 = r)) with
    | none => rfl
    | some x =>
      exfalso
      have hx := List.mem_of_find?_eq_some z
      have he := List.find?_some z
      exact h (List.mem_map.mpr ⟨x, hx, of_decide_eq_true he⟩)
theorem lookT_at {B : Addr → Prop} : ∀ {L : List (List Int × Addr × V)} {ds : List D} {r : List Int} {d : D}, DenL G B H ds (L.map (·.2.2)) → lookT (L.map (·.1)) ds r = some d → ∃ v, atL L r = some v ∧ Den G B H d v
  | [], _, _, _, _, e => by simp [lookT] at e
  | p :: L, [], _, _, h, e => by simp [lookT] at e
  | p :: L, d0 :: ds, r, d, ⟨x, q, e1, h1, h2⟩, e => by
    cases e1
    unfold lookT at e
    rw [List.map_cons, List.zip_cons_cons, List.find?_cons] at e
    unfold atL
    rw [List.find?_cons]
    by_cases c : p.1 = r
    · rw [decide_eq_true c] at e ⊢
      cases e
      exact ⟨_, rfl, h1⟩
    · rw [decide_eq_false c] at e ⊢
      exact lookT_at (L := L) h2 e
theorem put_map : ∀ {L : List (List Int × Addr × V)} {ds : List D} {r : List Int} {d : D} {v : V} {B : Addr → Prop}, DenL G B H ds (L.map (·.2.2)) → Den G B H d v →
    DenL G B H (((L.map (·.1)).zip ds).map fun x => if x.1 = r then d else x.2) ((L.map (putIn r v)).map (·.2.2))
  | [], [], _, _, _, _, _, _ => rfl
  | [], _ :: _, _, _, _, _, h, _ => by obtain ⟨_, _, e, _⟩ := h; cases e
  | p :: L, [], _, _, _, _, h, _ => by cases h
  | p :: L, d0 :: ds, r, d, v, B, ⟨x, q, e1, h1, h2⟩, hv => by
    cases e1
    refine ⟨(putIn r v p).2.2, (L.map (putIn r v)).map (·.2.2), rfl, ?_, put_map (L := L) h2 hv⟩
    unfold putIn
    by_cases c : p.1 = r
    · show Den G B H (if p.1 = r then d else d0) _
      rw [if_pos c, if_pos c]; exact hv
    · show Den G B H (if p.1 = r then d else d0) _
      rw [if_neg c, if_neg c]; exact h1
theorem putL_keys (L : List (List Int × Addr × V)) (r : List Int) (b : Addr) (v : V) : (putL L r b v).map (·.1) = putKs (L.map (·.1)) r := by
  unfold putL putKs
  rw [atL_mem]
  by_cases h : r ∈ L.map (·.1)
  · rw [if_pos (decide_eq_true h), if_pos h, putIn_keys]
  · rw [if_neg (by rw [decide_eq_false h]; simp), if_neg h, List.map_append]; rfl
theorem putL_vals {B : Addr → Prop} {L : List (List Int × Addr × V)} {ds : List D} {r : List Int} {b : Addr} {d : D} {v : V} (h : DenL G B H ds (L.map (·.2.2))) (hv : Den G B H d v) : DenL G B H (putDs (L.map (·.1)) ds r d) ((putL L r b v).map (·.2.2)) := by
  by_cases c : r ∈ L.map (·.1)
  · have e1 : putL L r b v = L.map (putIn r v) := by unfold putL; rw [atL_mem, if_pos (decide_eq_true c)]
    have e2 : putDs (L.map (·.1)) ds r d = ((L.map (·.1)).zip ds).map (fun x => if x.1 = r then d else x.2) := by unfold putDs; rw [if_pos c]
    rw [e1, e2]; exact put_map h hv
  · have e1 : putL L r b v = L ++ [(r, b, v)] := by unfold putL; rw [atL_mem, decide_eq_false c]; rfl
    have e2 : putDs (L.map (·.1)) ds r d = ds ++ [d] := by unfold putDs; rw [if_neg c]
    rw [e1, e2, List.map_append]
    exact h.append ⟨v, [], rfl, hv, rfl⟩
theorem putL_ok {K : PySem.W.Frag} {B : Addr → Prop} {L : List (List Int × Addr × V)} {r : List Int} {b : Addr} {v : V} (h : KeysOk K B H L) (hb : (¬ B b ∨ KTup K b (r.map V.int)) ∧ SqT K H b (r.map V.int) ∧ r.length ≤ sizeLine) : KeysOk K B H (putL L r b v) := fun p hp => by
  unfold putL at hp
  split at hp
  · obtain ⟨q, hq, e⟩ := List.mem_map.mp hp
    have z := h q hq
    have e2 : p.1 = q.1 ∧ p.2.1 = q.2.1 := by
      rw [← e]; unfold putIn; split <;> exact ⟨rfl, rfl⟩
    rw [e2.1, e2.2]; exact z
  · rcases List.mem_append.mp
        hp with hp | hp
    · exact h p hp
    · rw [List.mem_singleton.mp hp]; exact hb
/-! ### d[y], y in d -/
def gGetT : G2 := fun d k Q => ∃ ks ds r v, d = .dcT ks ds ∧ rowK k r ∧ lookT ks ds r = some v ∧ Q v
theorem de_tget {a b : Expr} {pos : Pos} {ca cb : Nat} {ta tb : DT} (hK : X.K = G.K) (hu : X.A.units + 1 < cLine) (ha : DE G E X ca a ta) (hb : DE G E X cb b tb) (hs : NoSl b := by intro _ _; rfl) : DE G E X (ca + cb) (.Subscript a b pos) (dOp gGetT ta tb) :=
  imp (pe_lget hu ha hb hs) fun σ H Q' h => by
    obtain ⟨W, hn, Q, ht, kk⟩ := h
    refine ⟨W, by omega, _, ht, fun v H1 d st hd hq => ⟨W.next st, by show W.m + cb ≤ W.n - ca; omega, _, hq, fun v2 H2 e st2 he ⟨ks, ds, r, w, e1, hk, hl, hq2⟩ => ?_⟩⟩
    subst e1
    obtain ⟨a, L, rfl, na, hat, hks, hkk, hds⟩ := (W.next st).den st2 hd
    obtain ⟨b, rfl, nb, hb, _⟩ := he.key hk
    rw [hK]
    subst hks
    obtain ⟨z, hz, dz⟩ := lookT_at hds hl
    exact ⟨a, L, b, r, z, rfl, rfl, hat, hkk.s, hb, hz, kk z H2 w (st.trans st2) dz hq2⟩
def gInDT (neg : Bool) : G2 := fun k d Q => ∃ ks ds r, rowK k r ∧ d = .dcT ks ds ∧ Q (.bl (if neg then !decide (r ∈ ks) else decide (r ∈ ks)))
theorem rd_inDT {neg : Bool} {x y : V} {Q' : VK} (hK : X.K = G.K) (h : rD G (gInDT neg) x y H Q') : rLIn X.K neg x y H Q' := by
  obtain ⟨B, d, e, Q, hd, he, hf, ⟨ks, ds, r, hk, rfl, hq⟩, kk⟩ := h
  obtain ⟨a, L, rfl, na, hat, hks, hkk, hds⟩ := he
  obtain ⟨b, rfl, nb, hb, _⟩ := hd.key hk
  rw [hK]
  subst hks
  refine ⟨a, L, b, r, rfl, rfl, hat, hkk.s, hb, ?_⟩
  rw [atL_mem]
  exact kk _ H _ (Ext.refl _ _) (den_bl _) hq
theorem o_inD (hK : X.K = G.K) (hu : X.A.units + 1 < cLine) : OpR X (compareOp .In) (rD G (gInDT false)) := opr_imp (or_lin hu) fun x y H Q' h => rd_inDT hK h
theorem o_niD (hK : X.K = G.K) (hu : X.A.units + 1 < cLine) : OpR X (compareOp .NotIn) (rD G (gInDT true)) := opr_imp (or_lnotin hu) fun x y H Q' h => rd_inDT hK h
/-! ### expressions that make a new dict -/
abbrev DKt := (Exc → Prop) → List Sl → (List (List Int) → List D → Prop) → Prop
def liftK (G : Gd) (E : XK) (c : Nat) (t : DKt) : TE := fun σ H Q' => ∃ W : Wd G E σ H, W.m + c ≤ W.n ∧ ∃ Q, t W.ex W.env Q ∧
  ∀ p H' ks ds L, Step W c H' → H p = none → H' p = some (DicO p L) → L.map (·.1) = ks → KeysOk G.K (fun a => W.XB a ∨ a = p) H' L → DenL G (fun a => W.XB a ∨ a = p) H' ds (L.map (·.2.2)) → Q ks ds → Q' (.ref p) H'
abbrev DNd (G : Gd) (E : XK) (X : Cx) (c : Nat) (e : Expr) (t : DKt) : Prop := PE X e (liftK G E c t)
theorem new_none {W : Wd G E σ H} {c : Nat} {H1 : Hp} (st : Step W c H1) {p : Addr} (hp : H1 p = none) : H p = none := by
  cases q : H p with
  | none => rfl
  | some o =>
    exfalso
    rw [st.ext p o q (W.nuX ((W.next st).fresh hp))] at hp; cases hp
/-- {} -/
def kNew : DKt := fun _ _ Q => Q [] []
theorem dk_new {pos : Pos} : DNd G E X 0 (.Dict [] [] pos) kNew := imp pe_lnew fun σ H Q' h => by
  obtain ⟨W, hn, Q, ht, kk⟩ := h
  intro p hp
  exact kk p _ [] [] [] ((Step.refl W).new hp) hp upd_same rfl (fun _ z => nomatch z) rfl ht
/-- dict(l) -/
def kDict (te : DT) : DKt := fun ex env Q => te ex env fun d => ∃ ps : List (D × List Int × D), d = .lst (ps.map fun p => .tup [p.1, p.2.2]) ∧ (∀ p ∈ ps, rowK p.1 p.2.1) ∧ (ps.map (·.2.1)).Nodup ∧ Q (ps.map (·.2.1)) (ps.map (·.2.2))
theorem dict_pairs {B : Addr → Prop} : ∀ {ps : List (D × List Int × D)} {xs : List V}, DenL G B H (ps.map fun p => .tup [p.1, p.2.2]) xs → (∀ p ∈ ps, rowK p.1 p.2.1) →
    ∃ (as : List Addr) (L : List (List Int × Addr × V)), xs = as.map V.ref ∧ Paired (fun p q => SqT G.K H p [V.ref q.2.1, q.2.2]) as L ∧ KeysOk G.K B H L ∧ L.map (·.1) = ps.map (·.2.1) ∧ DenL G B H (ps.map (·.2.2)) (L.map (·.2.2))
  | [], _, h, _ => by cases h; exact ⟨[], [], rfl, .nil, (fun _ z => nomatch z), rfl, rfl⟩
  | p :: ps, _, ⟨x, r, e, h1, h2⟩, hk => by
    subst e
    obtain ⟨as, L, rfl, hp, hkk, hks, hv⟩ := dict_pairs h2 fun q hq => hk q (List.mem_cons_of_mem _ hq)
    obtain ⟨a, ys, rfl, nb, hs, hl, hd⟩ := h1
    obtain ⟨y, z, rfl, dy, dz⟩ := denL2 hd
    obtain ⟨b, rfl, nb2, hb, hl2⟩ := dy.key (hk p List.mem_cons_self)
    refine ⟨a :: as, (p.2.1, b, z) :: L, rfl, .cons hs hp, fun q hq => ?_, by rw [List.map_cons, List.map_cons, hks], z, _, rfl, dz, hv⟩
    rcases List.mem_cons.mp
          hq with rfl | hq
    · exact ⟨nb2, hb, hl2⟩
    · exact hkk q hq
theorem dk_dict {e : Expr} {p pos : Pos} {c : Nat} {te : DT} (hK : X.K = G.K) (hcalm : X.calm = true) (hu : X.A.units + 2 < cLine) (hm : X.mg "dict" = none) (he : DE G E X c e te) (hg : Gl X "dict" := by rfl)
    (na : starEach [e] X.env = (false, eval e X.env) :: starEach [] X.env := by rfl) : DNd G E X c (.Call (.Name "dict" p) [e] [] pos) (kDict te) :=
  imp (pe_callTy (call_dictL hcalm hu) hg hm (by decide +kernel) (pa_cons he pa_nil na) (he := na)) fun σ H Q' h => by
    obtain ⟨W, hn, Q, ht, kk⟩ := h
    refine ⟨W, hn, _, ht, fun v H1 d st hd ⟨ps, e, hkd, nd, hq⟩ => ?_⟩
    subst e
    obtain ⟨a, xs, rfl, na, ha, hl, hd⟩ := hd
    obtain ⟨as, L, rfl, hp, hkk, hks, hv⟩ := dict_pairs hd hkd
    refine ⟨a, as, L, rfl, SqL.of ha, by rw [hK]; exact hp, by rw [hK]; exact hkk.s, by rw [hks]; exact nd, fun q hq0 => ?_⟩
    have kp : ∀ b o, ¬ W.XB b → H1 b = some o → upd H1 q (DicO q L) b = some o := fun b o nb e => by rw [upd_ne (ne_of_none e hq0)]; exact e
    have sp : ∀ b, (W.XB b ∨ b = q) → W.XB b ∨ H1 b = none := fun b hb => hb.imp id fun z => by rw [z]; exact hq0
    exact kk q _ _ _ L (st.new hq0) (new_none st hq0) upd_same hks (hkk.keep kp sp) (DenL.keep kp sp _ _ hv) hq
/-- x = e -/
def sDic (i : Nat) (t : DKt) : DS := fun ex de env => t ex env fun ks ds => ∀ a, de.nx (env.set i (.dic a ks ds))
theorem wd_dic (W : Wd G E σ H) {c : Nat} {H2 : Hp} (st : Step W c H2) {i : Nat} {p : Addr} {ks : List (List Int)} {ds : List D} {L : List (List Int × Addr × V)} (hp : H p = none) (h2 : H2 p = some (DicO p L)) (hk : L.map (·.1) = ks) (hx : KeysOk G.K (fun a => W.XB a ∨ a = p) H2 L) (hd : DenL G (fun a => W.XB a ∨ a = p) H2 ds (L.map (·.2.2))) :
    ∃ W' : Wd G E (σ.set i (some (.ref p))) H2, Later W c W' ∧ W'.env = W.env.set i (.dic p ks ds) ∧ W'.n = W.n - c := by
  have fr0 : ¬ W.XB p := W.fresh hp
  have h0 : W.H0 p = none := by
    cases q : W.H0 p with
    | none => rfl
    | some o =>
      exfalso
      rw [W.fr p o q (W.nuX fr0)] at hp; cases hp
  have npo : ∀ {j : Nat} {s : Sl} {b : Addr}, W.env[j]? = some s → s.mine = true → σ[j]? = some (some (.ref b)) → b ≠ p := fun {j s b} e hm es z => by
    obtain ⟨_, o, ho⟩ := W.mine_at e hm es
    rw [z, hp] at ho; cases ho
  have xb : ∀ b, XBof W.B (W.env.set i (.dic p ks ds)) (σ.set i (some (.ref p))) b → W.XB b ∨ b = p := fun b hb => by
    rcases hb with hb | ⟨j, s, e1, m1, e2⟩
    · exact .inl (.inl hb)
    · by_cases hj : i = j
      · subst hj
        by_cases hi : i < σ.length
        · rw [List.getElem?_set_self hi] at e2; cases e2; exact .inr rfl
        · rw [List.getElem?_eq_none (by rw [List.length_set]; omega)] at e2; cases e2
      · rw [List.getElem?_set_ne hj] at e1 e2
        exact .inl (.inr ⟨j, s, e1, m1, e2⟩)
  have sp : ∀ b, XBof W.B (W.env.set i (.dic p ks ds)) (σ.set i (some (.ref p))) b → W.XB b ∨ H b = none := fun b hb => (xb b hb).imp id fun z => by rw [z]; exact hp
  have dk : ∀ {d : D} {v : V}, Den G W.XB H d v → Den G (XBof W.B (W.env.set i (.dic p ks ds)) (σ.set i (some (.ref p)))) H2 d v := fun {d v} h => Den.keep (fun b o nb e => st.keep nb e) sp d v h
  have dkl : ∀ {es : List D} {ys : List V}, DenL G W.XB H es ys → DenL G (XBof W.B (W.env.set i (.dic p ks ds)) (σ.set i (some (.ref p)))) H2 es ys := fun {es ys} h => DenL.keep (fun b o nb e => st.keep nb e) sp es ys h
  have own_st : ∀ {j : Nat} {s : Sl} {b : Addr} {o : HO}, W.env[j]? = some s → s.mine = true → σ[j]? = some (some (.ref b)) → H b = some o → H2 b = some o := fun {j s b o} e hm es ho => st.ext b o ho (lend_un W (W.mine_at e hm es).1)
  refine ⟨{ u := W.u, n := W.n - c, m := W.m, B := W.B, H0 := W.H0, env := W.env.set i (.dic p ks ds), ex := W.ex, ug := W.ug, hu := W.hu, hB := W.hB, fr := W.fr.trans st.ext, good := st.good, len := by rw [List.length_set, List.length_set]; exact W.len, sl := fun j s e => ?_, nd := fun j l b s t e1 e2 m1 m2 e3 e4 => ?_, exc := W.exc },
    ⟨rfl, rfl, rfl, rfl, rfl, by show W.n ≤ W.n - c + c; omega, fun b o nb e => st.keep nb e, sp⟩, rfl, rfl⟩
  · by_cases hj : i = j
    · subst hj
      by_cases hi : i < W.env.length
      · rw [List.getElem?_set_self hi] at e
        cases e
        rw [getD_set, if_pos ⟨rfl, by rw [← W.len]; exact hi⟩]
        exact ⟨L, rfl, h0, h2, hk, hx.keep (fun _ _ _ h => h) (fun b hb => .inl (xb b hb)), hd.fewer xb⟩
      · rw [List.getElem?_eq_none (by simpa using hi)] at e; cases e
    · rw [List.getElem?_set_ne hj] at e
      rw [getD_set, if_neg (fun z => hj z.1)]
      have z := W.sl j s e
      cases s with
      | emp => trivial
      | val d => obtain ⟨x, e1, e2⟩ := z; exact ⟨x, e1, dk e2⟩
      | own b es => obtain ⟨ys, e1, e2, e3, e4, e5⟩ := z; exact ⟨ys, e1, e2, own_st e rfl (join_some e1) e3, e4, dkl e5⟩
      | slf b dx cc es => obtain ⟨ys, e1, e2, e3, e4, e5⟩ := z; exact ⟨ys, e1, e2, own_st e rfl (join_some e1) e3, e4, dkl e5⟩
      | obj b o => obtain ⟨e1, e2, e3, e4⟩ := z; exact ⟨e1, e2, own_st e rfl (join_some e1) e3, e4⟩
      | dic b ks es => obtain ⟨L, e1, e2, e3, e4, e5, e6⟩ := z; exact ⟨L, e1, e2, own_st e rfl (join_some e1) e3, e4, e5.by dk, dkl e6⟩
  · by_cases hj : i = j
    · by_cases hlk : i = l
      · exact hj.symm.trans hlk
      · subst hj
        exfalso
        rw [List.getElem?_set_ne hlk] at e2 e4
        have hi : i < σ.length := by
          by_cases q : i < σ.length
          · exact q
          · rw [List.getElem?_eq_none (by rw [List.length_set]; omega)] at e3; cases e3
        rw [List.getElem?_set_self hi] at e3
        cases e3
        exact npo e2 m2 e4 rfl
    · rw [List.getElem?_set_ne hj] at e1 e3
      by_cases hlk : i = l
      · subst hlk
        exfalso
        have hi : i < σ.length := by
          by_cases q : i < σ.length
          · exact q
          · rw [List.getElem?_eq_none (by rw [List.length_set]; omega)] at e4; cases e4
        rw [List.getElem?_set_self hi] at e4
        cases e4
        exact npo e1 m1 e3 rfl
      · rw [List.getElem?_set_ne hlk] at e2 e4
        exact W.nd j l b s t e1 e2 m1 m2 e3 e4
theorem ds_dic {i : Nat} {x : Str} {e : Expr} {pos pos' : Pos} {c : Nat} {t : DKt} (hN : X.N.Nodup) (hi : X.N[i]? = some x) (hx : Loc X.env.scope x) (he : DNd G E X c e t) (hs : swapsWith e (some (.Name x pos')) pos.line X.env = pure false := by rfl)
    (hf : X.fn x = true ∨ X.env.scope.names.lookup x = some .local := by first | exact .inl rfl | exact .inr rfl) : DSt G E X c (.Assign [.Name x pos'] e pos) (sDic i t) :=
  impS (ps_set hN hi hx he hs hf) fun Dn σ H h => by
    obtain ⟨W, hn, de, ht, k1, k2, k3, k4⟩ := h
    refine ⟨W, hn, _, ht, fun p H' ks ds L st hp h2 hk hx hd hq => ?_⟩
    obtain ⟨W', l1, l2, _⟩ := wd_dic W st (i := i) hp h2 hk hx hd
    exact k1 _ H' W' l1 (by rw [l2]; exact hq p)
/-- x, y = {}, {} -/
def sDic2 (i j : Nat) : DS := fun ex de env => ∀ a b, de.nx ((env.set i (.dic a [] [])).set j (.dic b [] []))
theorem ds_dic2 {i j : Nat} {x y : Str} {px py pt pos lp lq : Pos} {kt k2 pt2} (hc : X.calm = true) (hN : X.N.Nodup) (hi : X.N[i]? = some x) (hj : X.N[j]? = some y) (hij : i ≠ j)
    (hx : X.env.scope.names.lookup x = some .local) (hy : X.env.scope.names.lookup y = some .local) (hs1 : starEach [.Dict [] [] lp, .Dict [] [] lq] X.env = (false, eval (.Dict [] [] lp) X.env) :: starEach [.Dict [] [] lq] X.env := by rfl) (hs2 : starEach [.Dict [] [] lq] X.env = (false, eval (.Dict [] [] lq) X.env) :: starEach [] X.env := by rfl)
    (hw : swappedStores [.Tuple [.Name x px, .Name y py] kt pt] (.Tuple [.Dict [] [] lp, .Dict [] [] lq] k2 pt2) X.env = pure (some [x, y]))
    (hs : swapsWithSole [.Tuple [.Name x px, .Name y py] kt pt] (.Tuple [.Dict [] [] lp, .Dict [] [] lq] k2 pt2) pos.line X.env = pure false := by rfl) : DSt G E X 0 (.Assign [.Tuple [.Name x px, .Name y py] kt pt] (.Tuple [.Dict [] [] lp, .Dict [] [] lq] k2 pt2) pos) (sDic2 i j) :=
  impS (ps_par hc hN hi hj hij hx hy (pa_cons (dk_new (G := G) (E := E)) (pa_cons (dk_new (G := G) (E := E)) pa_nil hs2) hs1) hw hs) fun Dn σ H h => by
    obtain ⟨W, hn, de, ht, k1, k2, k3, k4⟩ := h
    refine ⟨W, hn, fun ks ds => ks = [] ∧ ds = [], ⟨rfl, rfl⟩, fun p H1 ks ds L st hp h1 hk hx hd ⟨e1, e2⟩ => ?_⟩
    subst e1 e2
    refine ⟨W.next st, by show W.m + 0 ≤ W.n - 0; omega, fun ks ds => ks = [] ∧ ds = [], ⟨rfl, rfl⟩, fun p2 H2 ks2 ds2 L2 st2 hp2 h2 hk2 hx2 hd2 ⟨e1, e2⟩ => ?_⟩
    subst e1 e2
    refine ⟨.ref p, .ref p2, rfl, ?_⟩
    obtain ⟨W1, l1, l2, l5⟩ := wd_dic W st (i := i) hp h1 hk hx hd
    have st3 : Step W1 0 H2 := ⟨by rw [l1.u]; exact st2.ext, by
      have g : Good W.u H2 (W.n - 0 - 0) := st2.good
      rw [l1.u]
      rw [l5]
      exact g⟩
    have eL : L2 = [] := List.map_eq_nil_iff.mp hk2
    subst eL
    obtain ⟨W', l3, l4, _⟩ := wd_dic W1 st3 (i := j) (ks := []) (ds := []) (L := []) hp2 h2 rfl (fun _ z => nomatch z) rfl
    exact k1 _ H2 W' ((l1.trans l3).more (by omega)) (by rw [l4, l2]; exact ht p p2)
theorem lift_dic {i : Nat} {W : Wd G E σ H} {ks : List (List Int)} {ds : List D} {a : Addr} (he : W.env[i]? = some (.dic a ks ds)) : ∃ L, σ[i]? = some (some (.ref a)) ∧ W.H0 a = none ∧ H a = some (DicO a L) ∧ L.map (·.1) = ks ∧ KeysOk G.K W.XB H L ∧ DenL G W.XB H ds (L.map (·.2.2)) := by
  obtain ⟨L, e1, e2, e3, e4, e5, e6⟩ := W.sl i _ he
  exact ⟨L, join_some e1, e2, e3, e4, e5, e6⟩
/-- x[y] = v -/
def sDput (i : Nat) (te tk : DT) : DS := fun ex de env => te ex env fun d => tk ex env fun y => ∃ a ks ds r, env[i]? = some (.dic a ks ds) ∧ rowK y r ∧ ks.length < sizeLine ∧ de.nx (env.set i (.dic a (putKs ks r) (putDs ks ds r d)))
theorem ds_dput {i : Nat} {x : Str} {e b : Expr} {pos p p2 : Pos} {c c2 : Nat} {te ti : DT} (hK : X.K = G.K) (hu : X.A.units + 1 < cLine) (hN : X.N[i]? = some x) (he : DE G E X c e te) (hi : DE G E X c2 b ti) (hv : Vis X.env.scope x := by first | exact Or.inl rfl | exact Or.inr (Or.inl rfl) | exact Or.inr (Or.inr rfl))
    (hd : (x == ("__debug__" : Str)) = false := by decide) (hcd : (x == ("__classdict__" : Str)) = false := by decide) (hs : swapsWith e (some (.Subscript (.Name x p) b p2)) pos.line X.env = pure false := by rfl)
    (h0 : ∀ (W : List Sl), True := by intro _; trivial) : DSt G E X (c + c2) (.Assign [.Subscript (.Name x p) b p2] e pos) (fun ex de env => (∃ a ks ds, env[i]? = some (.dic a ks ds)) ∧ sDput i te ti ex de env) :=
  impS (ps_lput hu (pe_var (i := i) hN hv hd hcd) hi he hs) fun Dn σ H h => by
    obtain ⟨W, hn, de, ⟨⟨a, ks, ds, hei⟩, ht⟩, k1, k2, k3, k4⟩ := h
    refine ⟨W, by omega, _, ht, fun v H1 d st hdv hq => ?_⟩
    obtain ⟨L, hsi, h0, ha, hk, hx, hds⟩ := lift_dic (W := W) hei
    refine ⟨.ref a, hsi, W.next st, by show W.m + c2 ≤ W.n - c; omega, _, hq, fun v2 H2 e2 st2 hv2 ⟨a', ks', ds', r, hei', hkd, hl, hnx⟩ => ?_⟩
    have z : some (Sl.dic a ks ds) = some (Sl.dic a' ks' ds') := hei.symm.trans hei'
    cases z
    obtain ⟨b', rfl, nb, hb, hl2⟩ := hv2.key hkd
    have st3 := st.trans st2
    have hei3 : (W.next st3).env[i]? = some (.dic a ks ds) := hei
    have ha2 : H2 a = some (DicO a L) := st3.ext a _ ha (lend_un W h0)
    have hx2 : KeysOk G.K W.XB H2 L := hx.ext st3.ext W.huX
    have hds2 : DenL G W.XB H2 ds (L.map (·.2.2)) := hds.ext st3.ext W.huX
    have hv1 : Den G W.XB H2 d v := (W.next st).den st2 hdv
    refine ⟨a, L, b', r, rfl, rfl, ha2, by rw [hK]; exact hx2.s, by rw [hK]; exact hb, by rw [← hk, List.length_map] at hl; exact hl, ?_⟩
    have kp := mut_keep (o1 := DicO a (putL L r b' v)) (W.next st3) hei3 rfl hsi
    have hx3 : KeysOk G.K W.XB (upd H2 a (DicO a (putL L r b' v))) (putL L r b' v) := (putL_ok hx2 ⟨nb, hb, hl2⟩).keep kp fun b hb => .inl hb
    have hd3 : DenL G W.XB (upd H2 a (DicO a (putL L r b' v))) (putDs ks ds r d) ((putL L r b' v).map (·.2.2)) := by
      rw [← hk]
      exact DenL.keep kp (fun b hb => .inl hb) _ _ (putL_vals hds2 hv1)
    have hk3 : (putL L r b' v).map (·.1) = putKs ks r := by rw [← hk]; exact putL_keys L r b' v
    obtain ⟨W', l1, l2, l3⟩ := wd_mut (o1 := DicO a (putL L r b' v)) (s1 := .dic a (putKs ks r) (putDs ks ds r d)) (W.next st3) hei3 rfl hsi rfl ⟨putL L r b' v, rfl, h0, upd_same, hk3, hx3, hd3⟩
    exact k1 σ _ W' (((Later.next st3).trans l1).more (by omega)) (by rw [l2]; exact hnx)
/-- from here on the dict in slot i stays as it is -/
def sFreezeD (i : Nat) (t : DS) : DS := fun ex de env => ∃ a ks ds, env[i]? = some (.dic a ks ds) ∧ t ex de (env.set i (.val (.dcT ks ds)))
theorem ds_freezeD {i : Nat} {sts : List Stmt} {c : Nat} {t : DS} (h : DSs G E X c sts t) : DSs G E X c sts (sFreezeD i t) := impSs h fun Dn σ H h => by
  obtain ⟨W, hn, de, ⟨a0, ks, ds, he, ht⟩, k1, k2, k3, k4⟩ := h
  obtain ⟨W1, a, w1, w2, w3, w4, w5, w6, w7, hsi, h0, nt, x1, x2⟩ := wd_lend (v := .dcT ks ds) W he (.inr (.inr ⟨a0, ks, ds, rfl, rfl⟩))
  have lt : Later W 0 W1 := ⟨w2, w5, w7, w6, w4, by rw [w3]; omega, fun _ _ _ h => h, fun b hb => .inl (x2 b hb).1⟩
  exact ⟨W1, by rw [w3, w4]; exact hn, de, by rw [w1, w6]; exact ht, fun σ' H' W2 l2 q => k1 σ' H' W2 ((lt.trans l2).more (by omega)) q, fun v σ2 H' W2 d l2 hd hr => k2 v σ2 H' W2 d ((lt.trans l2).more (by omega)) (by rw [lt.B] at hd; exact hd) hr, fun σ' H' W2 l2 q => k3 σ' H' W2 ((lt.trans l2).more (by omega)) q, fun σ' H' W2 l2 q => k4 σ' H' W2 ((lt.trans l2).more (by omega)) q⟩
/-- a new dict as a value -/
def dDic (t : DKt) : DT := fun ex env Q => t ex env fun ks ds => Q (.dcT ks ds)
theorem de_dn {e : Expr} {c : Nat} {t : DKt} (h : DNd G E X c e t) : DE G E X c e (dDic t) := imp h fun σ H Q' hh => by
  obtain ⟨W, hn, Q, ht, kk⟩ := hh
  refine ⟨W, hn, _, ht, fun p H' ks ds L st hp h2 hk hx hd hq => ?_⟩
  exact kk (.ref p) H' (.dcT ks ds) st ⟨p, L, rfl, W.fresh hp, h2, hk, hx.keep (fun _ _ _ h => h) (fun b hb => .inl (.inl hb)), hd.fewer fun b hb => .inl hb⟩ hq
/-! ### defs that return a new dict -/
abbrev TSpec := List D → (List (List Int) → List D → Prop) → (Exc → Prop) → Prop
def liftT (G : Gd) (c : Nat) (S : TSpec) : Sp := fun vs H Q E => ∃ (u : Option Ur) (n : Nat) (B : Addr → Prop) (ds : List D) (R : List (List Int) → List D → Prop) (ex : Exc → Prop),
  u = G.u ∧ c ≤ n ∧ (∀ p, Pr u p → B p.1 ∧ B p.2) ∧ (∀ a, B a → H a ≠ none) ∧ Good u H n ∧ DenL G B H ds vs ∧ S ds R ex ∧
  (∀ a H' ks es L, Ext u H H' → Good u H' (n - c) → H a = none → H' a = some (DicO a L) → L.map (·.1) = ks → KeysOk G.K (fun b => B b ∨ b = a) H' L → DenL G (fun b => B b ∨ b = a) H' es (L.map (·.2.2)) → R ks es → Q (.ref a) H') ∧
  (∀ x C d H', Ext u H H' → Good u H' (n - c) → ExcIs G B H' x C d → ex x → E C d H')
/-- the def at f keeps S, returns a new dict -/
structure FnT (G : Gd) (P : Program) (w : World) (mg : Str → Option Value) (base : Heap) (k : Nat) (f : Addr) (fd : FuncData) (ps : List Str) (c : Nat) (S : TSpec) : Prop where
  run : ∀ (A : Around) (outer : List Env) (s : Shared) (H : Hp) (args : Args) (us : List Value) (vs : List V) (Q : VK) (E : XK), Room k A → A.guards = some [] → Env0 P w G.K mg base A outer s H →
    BindsTo s fd args (ps.zip us) → Vals vs us → vs.length = ps.length → liftT G c S vs H Q E → codeAny (model P w) A (.call (.ref f) args) (CR (L2.CX P w) outer P w H s Q E) s
structure FkT (G : Gd) (P : Program) (w : World) (mg : Str → Option Value) (base : Heap) (k : Nat) (x : Str) (ps : List Str) (cf : Nat) (S : TSpec) : Prop where
  ex : ∃ (f : Addr) (fd : FuncData), FnT G P w mg base k f fd ps cf S ∧ mg x = some (.ref f) ∧ PySem.W.keepIn G.K (.ref f) = true ∧ Binds G.K fd ps []
theorem FnT.more {P : Program} {w : World} {mg : Str → Option Value} {base : Heap} {j k : Nat} {f : Addr} {fd : FuncData} {ps : List Str} {c d : Nat} {S : TSpec} (F : FnT G P w mg base j f fd ps c S) (h : j ≤ k) (hc : c ≤ d) : FnT G P w mg base k f fd ps d S :=
  ⟨fun A outer s H args us vs Q E hr hg e0 hb rv hl hs => F.run A outer s H args us vs Q E (hr.mono h) hg e0 hb rv hl (by
    obtain ⟨u, n, B, ds, R, ex, h1, h2, h3, h4, h5, h6, h7, h8, h9⟩ := hs
    exact ⟨u, n, B, ds, R, ex, h1, by omega, h3, h4, h5, h6, h7, fun a H' ks es L e g => h8 a H' ks es L e (g.less (by omega)), fun x C d' H' e g => h9 x C d' H' e (g.less (by omega))⟩)⟩
/-- return x, x a dict of the frame's own -/
def dOwnT (i : Nat) : DT := fun _ env Q => ∃ a ks ds, env[i]? = some (.dic a ks ds) ∧ Q (.opq (.ref a))
theorem de_ownT (i : Nat) {x : Str} {pos : Pos} (hN : X.N[i]? = some x := by rfl) (hv : Vis X.env.scope x := by first | exact Or.inl rfl | exact Or.inr (Or.inl rfl) | exact Or.inr (Or.inr rfl)) (hd : (x == ("__debug__" : Str)) = false := by decide) (hcd : (x == ("__classdict__" : Str)) = false := by decide) : DE G E X 0 (.Name x pos) (dOwnT i) :=
  imp (pe_var (i := i) hN hv hd hcd) fun σ H Q' h => by
    obtain ⟨W, hn, Q, ⟨a, ks, ds, he, hq⟩, kk⟩ := h
    obtain ⟨L, hsi, _⟩ := lift_dic he
    exact ⟨.ref a, hsi, kk _ H (.opq (.ref a)) (Step.refl W) rfl hq⟩
theorem run_fnt {j : Nat} {f : Addr} {fd : FuncData} {ps : List Str} {cf : Nat} {S : TSpec} {pins : List (Addr × Obj)} {s : Shared} {Q' : VK} {us : List Value} {vs : List V} {hK : X.K = G.K}
    (F : FnT G X.prog X.w X.mg X.base j f fd ps cf S) (hr : Room j X.A) (hgd : X.A.guards = some []) (hx : Passes (L2.CX X.prog X.w) X E) (I : Inv X pins σ H s) (r : Vals vs us) (hl : vs.length = ps.length) (args : Args) (hb : BindsTo s fd args (ps.zip us))
    (h : liftT G cf S vs H Q' E) : codeAny (model X.prog X.w) X.A (.call (.ref f) args) (fun r s' => match r with
      | .ok (.ret v) => EP X pins σ Q' v s'
      | .ok _ => False
      | .error e => X.xe e s') s := by
  have e0 : Env0 X.prog X.w G.K X.mg X.base X.A X.stack s H := by rw [← hK]; exact I.env0
  refine codeAny_mono (F.run X.A X.stack s H args us vs Q' E hr hgd e0 hb r hl h) fun r s' hq => ?_
  cases r with
  | error e =>
    exact hx pins σ H s e s' I hq
  | ok fl =>
    cases fl with
    | ret u => exact I.after hq
    | next => exact hq.elim
    | brk => exact hq.elim
    | cont => exact hq.elim
theorem lift_calleeT {W : Wd G E σ H} {c cf : Nat} {H1 : Hp} (st : Step W c H1) (hn : W.m + (c + cf) ≤ W.n) {S : TSpec} {ds : List D} {vs : List V} {Q : List (List Int) → List D → Prop} {Q' : VK} (hd : DenL G W.XB H1 ds vs) (hs : S ds Q W.ex)
    (kk : ∀ p H' ks ds L, Step W (c + cf) H' → H p = none → H' p = some (DicO p L) → L.map (·.1) = ks → KeysOk G.K (fun a => W.XB a ∨ a = p) H' L → DenL G (fun a => W.XB a ∨ a = p) H' ds (L.map (·.2.2)) → Q ks ds → Q' (.ref p) H') : liftT G cf S vs H1 Q' E := by
  refine ⟨W.u, W.n - c, W.XB, ds, Q, W.ex, W.ug, by omega, fun p e => ⟨.inl (W.hu p e).1, .inl (W.hu p e).2⟩, fun a ha z => (W.next st).fresh z ha, st.good, hd, hs, fun a H' ks es L e g ha h2 hk hx hd' q => ?_, fun x C d H' e g hx q => ?_⟩
  · exact kk a H' ks es L ⟨st.ext.trans e, by rw [Nat.sub_add_eq]; exact g⟩ (new_none st ha) h2 hk hx hd' q
  · refine W.exc x C d H' ((W.fr.trans st.ext).trans e) (g.less (by omega)) ?_ q
    obtain ⟨e1, dd, xs, e2, nd, e3, e4, e5⟩ := hx
    exact ⟨e1, dd, xs, e2, fun z => nd (.inl z), e3, e4, e5.fewer fun b z => .inl z⟩
/-- f(..), a new dict -/
def kCall (n : Nat) (S : TSpec) (u : DA) : DKt := fun ex env Q => u ex env fun ds => ds.length = n ∧ S ds Q ex
theorem dk_call {j k : Nat} {x : Str} {ps : List Str} {c cf : Nat} {S : TSpec} {e : Expr} {es : List Expr} {u : DA} {p pos : Pos} (F : FkT G X.prog X.w X.mg X.base j x ps cf S) (xk : Xk G E k X) (ha : DEs G E X c (e :: es) u) (hj : j ≤ k := by decide) (hg : Gl X x := by rfl) (hdb : (x == ("__debug__" : Str)) = false := by decide)
    (he : starEach (e :: es) X.env = (false, eval e X.env) :: starEach es X.env := by rfl) (hpl : (backTo pos (starEach es X.env)).any (·.1) = false := by rfl) : DNd G E X (c + cf) (.Call (.Name x p) (e :: es) [] pos) (kCall ps.length S u) := by
  obtain ⟨f, fd, hF0, hm, hk, hb⟩ := F.ex
  have hF := hF0.more hj (Nat.le_refl _)
  rw [← xk.K] at hk hb
  refine ⟨fun pins s σ H Q' I h => ?_⟩
  obtain ⟨W, hn, Q, ht, kk⟩ := h
  have args := ha.run pos pins s σ H (fun vs H1 => vs.length = ps.length ∧ liftT G cf S vs H1 Q' E) I ⟨W, by omega, _, ht, fun vs H1 ds st hd ⟨hl, hs⟩ => ⟨by rw [← hd.length]; exact hl, lift_calleeT st hn hd hs kk⟩⟩
  refine wpAny_Call_Name_kw (ld_glob I hg hm ?_ hdb); refine PySem.W.callWith_K (h₀ := X.base) I.ok.mod.kin hk (thn args ?_) he hpl
  intro us s1 ⟨vs, H1, I1, r1, hl, q1⟩
  refine ⟨I1.kIn, wpAny_call ?_⟩
  have hb' : BindsTo s1 fd ⟨us, []⟩ (ps.zip us) := by
    have z := hb s1 us I1.kIn (by rw [List.append_nil, ← r1.length]; exact hl)
    rw [List.append_nil] at z
    exact z
  exact run_fnt (hK := xk.K) hF xk.room xk.gd xk.pass I1 r1 hl _ hb' q1
end
section
variable {G : Gd} {P : Program} {w : World} {mg : Str → Option Value} {base : Heap}
/-- THE RULE for a def that returns a dict of its own -/
theorem fnt_of {k : Nat} {f : Addr} {x qual : Str} {st : Stmt} {fd : FuncData} {N ps : List Str} {c : Nat} {S : TSpec} {ts : DS} (F : Fun G.K x qual st f fd) (Sc : FnScope N ps (defScope st))
    (hder0 : ∀ (cdv : Value) (A : Around) (outer : List Env) (s : Shared) (H : Hp) (E : XK), Room k (A.deeper (envOfC qual (defScope st) s.heap.objs.size f cdv)) → A.guards = some [] →
      DSs G E (cxOf (L2.CX P w) P w G.K mg base N qual (defScope st) f cdv A outer s H E) c (defBody st) ts)
    (hS : ∀ ds (R : List (List Int) → List D → Prop) ex, ds.length = ps.length → S ds R ex → ts ex { nx := fun _ => False, rt := fun d env => ∃ (i : Nat) (a : Addr) (ks : List (List Int)) (es : List D), env[i]? = some (Sl.dic a ks es) ∧ d = .opq (.ref a) ∧ R ks es } (env0 N ds)) : FnT G P w mg base (k + 1) f fd ps c S := by
  obtain ⟨oc, od, kV, doc, pm, an, cdv, ct, osl, rfl, lk, hcd⟩ := F.ex; have hder := hder0 cdv
  refine ⟨fun A outer s H args us vs Q E hr hgd e0 hb rv hlen hsp => ?_⟩
  obtain ⟨u, n, B, ds, R, ex, hug, hc, hu, hB, hg, hd, hs, hq, hx⟩ := hsp
  have hNl : vs.length ≤ N.length := by
    have h1 := congrArg List.length Sc.pre
    rw [List.length_take] at h1
    omega
  have KX : G.K.In s.heap := PySem.W.Frag.In.keeps e0.mod.kin (fun b o e => (e0.bs b o e).1)
  have nolim : s.heap.NoLimit := Heap.NoLimit.keeps e0.mod.nolimit (fun b o e => (e0.bs b o e).1)
  have kinds : ∀ y ∈ ps.zip us, (defScope st).names.lookup y.1 = some .local ∨
      ((defScope st).names.lookup y.1 = some .cell ∧ ((cellsFrom (s.heap.objs.size + 1) (defScope st).names []).lookup y.1).isSome = true) := by
    intro y hy
    obtain ⟨n1, v1⟩ := y
    rcases Sc.par n1 (List.of_mem_zip hy).1 with z | z
    · exact .inl z
    · exact .inr ⟨z, PySem.W.cellsFrom_some _ _ _ (.inl z)⟩
  refine codeAny_call_function hr.depth (KX _ _ lk) rfl Sc.co Sc.gen rfl (PySem.W.codeRec_of KX hcd) ?_
  refine hb _ _ _ _ (wpAny_newFunctionEnv_cells Sc.kind kinds ?_)
  intro env he s1 ic
  subst he
  refine ⟨nolim.keeps ic.toInCall.keep, codeAny_func ?_⟩
  have I : Inv (cxOf (L2.CX P w) P w G.K mg base N qual (defScope st) f cdv A outer s H E) [] (L2.start N vs) H s1 := inv_start Sc hr.hd e0 hlen rv ic
  have hds : ds.length = ps.length := by rw [hd.length, hlen]
  obtain ⟨W, w1, w2, w3, w4, w5, w6, w7⟩ := wd_start (N := N) (E := E) hNl hug hc hu hB hg hd hx
  have body := (hder A outer s H E (hr.deeper _) hgd).run [] s1 (L2.start N vs) H { nx := fun _ H' => False, rt := Q } I (by
    refine ⟨W, by rw [w2, w3]; omega, _, by rw [w6, w7]; exact hS ds R ex hds hs, ?_, ?_, ?_, ?_⟩
    · intro σ' H' W' lt hr'
      exact hr'.elim
    · intro v σ' H' W' d lt hd' hr'
      obtain ⟨i, a, ks, es, hei, e1, hr2⟩ := hr'
      have hE : Ext u H H' := by have z := W'.fr; rw [lt.u, lt.H0, w1, w5] at z; exact z
      have hG : Good u H' (n - c) := by have z := W'.good; rw [lt.u, w1] at z; exact z.less (by have := lt.n; rw [w2] at this; omega)
      subst e1
      cases (show v = .ref a from hd')
      obtain ⟨L, hsi, h0, ha, hk, hkk, hdd⟩ := lift_dic hei
      have eB : W'.B = B := by rw [lt.B, w4]
      have sub : ∀ b, (B b ∨ b = a) → W'.XB b := fun b hb => by
        rcases hb with hb | rfl
        · exact .inl (by rw [eB]; exact hb)
        · exact .inr ⟨i, _, hei, rfl, hsi⟩
      exact hq a H' ks es L hE hG (by rw [lt.H0, w5] at h0; exact h0) ha hk (hkk.keep (fun _ _ _ h => h) fun b hb => .inl (sub b hb)) (hdd.fewer sub) hr2
    · intro σ' H' W' lt z; exact z.elim
    · intro σ' H' W' lt z; exact z.elim)
  refine wpAny_mono body ?_ (fun e s' hs => hs)
  intro fl s' hfl
  cases fl with
  | next => obtain ⟨σ', H', J, q⟩ := hfl; exact q.elim
  | ret v' => obtain ⟨v, σ', H', J, r1, q⟩ := hfl; exact ⟨v, H', J.os, J.bare, J.base, J.hok, r1, q⟩
  | brk => obtain ⟨σ', H', J, q⟩ := hfl; exact q.elim
  | cont => obtain ⟨σ', H', J, q⟩ := hfl; exact q.elim
end
end Kn

set_option Elab.async false
set_option linter.all false
set_option maxRecDepth 100000
set_option maxHeartbeats 2100000
/-! K75: tuples known to have no dict by displays and joining, their count; a static method by place. -/
namespace Kn
open PySem PySem.Spec PyProof.Rows L2 RZ
section
variable {G : Gd} {E : XK} {X : Cx} {σ : List (Option V)} {H H' : Hp} {k : Nat}
/-- (a, b, ..), known -/
def tTupN (t : TA) : TE := fun σ H Q => t σ H fun xs H1 => xs.length ≤ sizeLine ∧ ∀ p o, H1 p = none → o.cls = .type "tuple" → o.dict = none → Q (.ref p) (upd H1 p (.frz o (.tup xs)))
theorem pe_tupN {es : List Expr} {pos : Pos} {t : TA} {x1} (h : PA X es t) : PE X (.Tuple es x1 pos) (tTupN t) := by
  refine ⟨fun pins s σ H Q I hq => ?_⟩; refine wpAny_Tuple_spliced (thn (h.run pos pins s σ H _ I hq) fun us s1 ⟨xs, H1, I1, r, z, q⟩ => ⟨by rw [← r.length]; exact z, ?_⟩)
  have hf : H1 s1.heap.objs.size = none := I1.hok.fresh (Nat.le_refl _); have ho : (s1.heap.push { cls := .type "tuple", data := .seq us.toArray }).get? s1.heap.objs.size = some { cls := .type "tuple", data := .seq us.toArray } := Heap.get?_push_size _ rfl
  refine ⟨.ref s1.heap.objs.size, upd H1 s1.heap.objs.size (.frz { cls := .type "tuple", data := .seq us.toArray } (.tup xs)), I1.laid (t' := s1.toks) (fun b u e => Heap.get?_push_of_some _ e) (Nat.le_refl _) ?_, rfl, q _ _ hf rfl rfl⟩
  exact ⟨ho, z, us, r, ⟨_, ho, rfl, _, rfl⟩⟩
def dTupN (u : DA) : DT := fun ex env Q => u ex env fun ds => ds.length ≤ sizeLine ∧ Q (.tupn ds)
theorem de_tupN {es : List Expr} {x1 : Nat} {pos : Pos} {c : Nat} {u : DA} (h : DEs G E X c es u) : DE G E X c (.Tuple es x1 pos) (dTupN u) := imp (pe_tupN h) fun σ H Q' h => by
  obtain ⟨W, hn, Q, ht, kk⟩ := h
  refine ⟨W, hn, _, ht, fun vs H1 ds st hd ⟨hl, hq⟩ => ⟨by rw [← hd.length]; exact hl, fun p o hp hc hdn => ?_⟩⟩
  exact kk _ _ (.tupn ds) (st.new hp) (den_tupn hp ((W.next st).fresh hp) hc hdn (by rw [← hd.length]; exact hl) hd) hq
/-- t + u, u known -/
def rCatN (K : PySem.W.Frag) : R2 := fun x y H Q => ∃ a b xs ys, x = .ref a ∧ y = .ref b ∧ SqT K H a xs ∧ SqT K H b ys ∧ xs.length + ys.length ≤ sizeLine ∧ ys ≠ [] ∧
  (xs = [] → Q (.ref b) H) ∧ (xs ≠ [] → ∀ p o, H p = none → o.cls = .type "tuple" → o.dict = none → Q (.ref p) (upd H p (.frz o (.tup (xs ++ ys)))))
theorem op_catN : OpR X (binaryOp .Add) (rCatN X.K) := by
  intro pins s σ H x y v u Q I rx ry h; obtain ⟨a, b, xs, ys, rfl, rfl, ha, hb, hz, hy, q0, q2⟩ := h
  by_cases hx : xs = []
  · subst hx
    cases rx
    cases ry
    obtain ⟨its, r1, p1, _⟩ := I.tuple ha; obtain ⟨its2, r2, p2, _⟩ := I.tuple hb
    cases r1; exact cat_tup0 p1 p2 ⟨.ref b, H, I, rfl, q0 rfl⟩
  · cases rx
    cases ry
    obtain ⟨its, r1, p1, _⟩ := I.tuple ha; obtain ⟨its2, r2, p2, _⟩ := I.tuple hb
    refine HT.cat_tup p1 p2 (fun z => hx (r1.nil_iff.mp z)) (fun z => absurd (r2.nil_iff.mp z) hy) (fun z => ?_) (by rw [← r1.length, ← r2.length]; exact hz)
    have ho : (s.heap.push { cls := .type "tuple", data := .seq (its ++ its2).toArray }).get? s.heap.objs.size = some { cls := .type "tuple", data := .seq (its ++ its2).toArray } := Heap.get?_push_size _ rfl
    refine ⟨.ref s.heap.objs.size, _, I.laid (t' := s.toks) (o := .frz { cls := .type "tuple", data := .seq (its ++ its2).toArray } (.tup (xs ++ ys))) (fun b ob q => Heap.get?_push_of_some _ q) (Nat.le_refl _) ?_, rfl, q2 hx _ _ (I.hok.fresh (Nat.le_refl _)) rfl rfl⟩
    exact ⟨ho, by rw [List.length_append]; exact hz, _, r1.append r2, ⟨_, ho, rfl, _, rfl⟩⟩
def gAddN : G2 := fun d e Q => ∃ ds es, (d = .tup ds ∨ d = .tupn ds) ∧ e = .tupn es ∧ es ≠ [] ∧ ds.length + es.length ≤ sizeLine ∧ Q (.tupn (ds ++ es))
theorem o_addN (hK : X.K = G.K) : OpR X (binaryOp .Add) (rD G gAddN) := opr_imp op_catN fun x y H Q' h => by
  obtain ⟨B, d, e, Q, hd, he, hf, ⟨ds, es, hdd, rfl, hne, hz, hq⟩, kk⟩ := h
  have hd' : Den G B H (.tup ds) x := by
    rcases hdd with rfl | rfl
    · exact hd
    · exact hd.ofN
  obtain ⟨a, xs, rfl, na, ha, la, da⟩ := hd'
  obtain ⟨b, ys, o, rfl, nb, hb, hc, hdn, lb, db⟩ := id he
  have l1 := da.length
  have l2 := db.length
  have hy : ys ≠ [] := fun z => hne (by rw [z] at l2; exact List.eq_nil_of_length_eq_zero l2)
  refine ⟨a, b, xs, ys, rfl, rfl, by rw [hK]; exact ha, .inl (.inr ⟨o, hb⟩), by omega, hy, fun z => ?_, fun z p o' hp hc' hd' => ?_⟩
  · have e0 : ds = [] := by rw [z] at l1; exact List.eq_nil_of_length_eq_zero l1
    rw [e0, List.nil_append] at hq
    exact kk _ H _ (Ext.refl _ _) he hq
  · exact kk _ _ _ (Ext.new hp) (den_tupn hp (hf p hp) hc' hd' (by rw [List.length_append]; omega) (da.append db)) hq
/-- x.count(i) of a known row of ints -/
theorem mt_tcount : MtR X "tuple.count" (fun x xs H Q => ∃ (p : Addr) (ns : List Int) (k : Int), x = .ref p ∧ xs = [.int k] ∧ SqT X.K H p (ns.map V.int) ∧ Q (.int (ns.count k : Nat)) H) := by
  intro pins s σ H x xs v us Q I rx rxs h; obtain ⟨p, ns, k, rfl, rfl, hs, q⟩ := h
  cases rx
  obtain ⟨u, rfl, ru⟩ := rxs.one; obtain ⟨t, rfl⟩ := ru
  obtain ⟨its, rv, ⟨⟨cls, dd, data, sl⟩, ho, hc, n, hd⟩, hlen⟩ := I.tuple hs
  simp only at hc hd
  subst hc hd
  have hi := ints_of_vals rv
  refine call_meets PySem.F.slot_tuple_count ⟨_, ho, rfl⟩ PySem.F.entry_tuple_count (PySem.F.args_tuple_count_2 _ _)
    (SeqAt.tuple_countAt p its.toArray n dd sl (.int k t) (eqk k)) ⟨ho, fun y hy => (eqk_gives hi y (by simpa using hy)).at _ _, ?_⟩
  have ec : its.toArray.toList.countP (eqk k) = ns.count k := eqk_count hi; refine ⟨.int (ns.count k : Nat), H, I.tok _, ⟨s.toks, ?_⟩, q⟩
  show Value.int ((its.toArray.toList.countP (eqk k) : Nat) : Int) s.toks = Value.int ((ns.count k : Nat) : Int) s.toks; rw [ec]
def dCountV (i : Nat) (tv : DT) : DT := fun ex env Q => ∃ (ns : List Int), env[i]? = some (.val (.tupn (ns.map D.int))) ∧ tv ex env fun e => ∃ (z : Int), e = .int z ∧ Q (.int (ns.count z : Nat))
theorem de_countV {i : Nat} {x : Str} {e : Expr} {p apos cpos : Pos} {c : Nat} {tv : DT} (xk : Xk G E k X) (hN : X.N[i]? = some x) (he : DE G E X c e tv) (hv : Vis X.env.scope x := by first | exact Or.inl rfl | exact Or.inr (Or.inl rfl) | exact Or.inr (Or.inr rfl)) (hd : (x == ("__debug__" : Str)) = false := by decide) (hcd : (x == ("__classdict__" : Str)) = false := by decide)
    (hbase : attributeBase (.Name x p) "count" X.env (eval (.Name x p) X.env) = eval (.Name x p) X.env := by rfl)
    (hfew : ((backTo cpos (starEach [e] X.env)).all (fun x => !x.1) && (backToKw cpos (keywordEach [] X.env)).all (fun x => x.1.isSome) && decide (([e] : List Expr).length + ([] : List Keyword).length + (if ([] : List Keyword).isEmpty then 0 else 1) < 30)) = true := by rfl)
    (hline : (apos.endLine == cpos.line) = true := by rfl) (hs : starEach [e] X.env = (false, eval e X.env) ::
          starEach [] X.env := by rfl) (hplain : (backTo cpos (starEach [] X.env)).any (·.1) = false := by rfl) :
    DE G E X c (.Call (.Attribute (.Name x p) "count" apos) [e] [] cpos) (dCountV i tv) := by
  have p2 := pe_bmN PySem.F.slot_tuple_count PySem.F.type_tuple_count (mt_tcount (X := X)) (pe_var (i := i) hN hv hd hcd) (pa_cons he pa_nil hs) hbase hfew hline hs hplain
  constructor
  intro pins s σ H Q' I h
  obtain ⟨W, hn, Q, ⟨ns, hei, ht⟩, kk⟩ := h
  obtain ⟨x0, e0, hden⟩ := W.sl i _ hei
  have hsi := join_some e0
  obtain ⟨a, xs, o, rfl, na, ha, hc, hdn, la, da⟩ := id hden
  refine p2.run pins s σ H Q' I ⟨.ref a, hsi, ⟨a, o, xs, rfl, ha, hc, hdn⟩, W, hn, _, ht, fun v H1 e st hde ⟨z, ee, hq⟩ => ?_⟩
  subst ee
  cases hde
  have hd2 : Den G W.XB H1 (.tup (ns.map D.int)) (.ref a) := Den.ofN (W.den st hden)
  obtain ⟨a2, ys, e2, nb2, hs2, hl2, hd2'⟩ := hd2
  cases e2
  rw [hd2'.ints] at hs2
  exact ⟨a, ns, z, rfl, rfl, by rw [xk.K]; exact hs2, kk _ H1 (.int (ns.count z : Nat)) st (den_int _) hq⟩
/-- C.m(e, ..), m a static method -/
structure Fsp (G : Gd) (P : Program) (w : World) (mg : Str → Option Value) (base : Heap) (k : Nat) (x : Str) (c : Nat) (m : Str) (ps : List Str) (cf : Nat) (S : FSpec) : Prop where
  ex : ∃ (f p : Addr) (fd : FuncData) (mc : Value), FnD G P w mg base k f fd ps cf S ∧ mg x = some (.ref (G.cl c)) ∧ ClX.CRead G.K (G.cl c) mc ∧ PySem.W.findCls G.K (.ref (G.cl c)) mc m = some (.get (.builtin "staticmethod.__get__") (.ref p) .none (.ref (G.cl c))) ∧
    (∃ rest, PySem.W.recIn G.K p "staticmethod" = some (.ref f :: rest)) ∧ PySem.W.handedIn (.ref f) = true ∧ PySem.W.keepIn G.K (.ref f) = true ∧ Binds G.K fd ps []
theorem de_stat {j c ca cf : Nat} {x m : Str} {ps : List Str} {S : FSpec} {e : Expr} {es : List Expr} {u : DA} {p pos apos : Pos} {pl : Sem Bool} (F : Fsp G X.prog X.w X.mg X.base j x c m ps cf S) (xk : Xk G E k X) (ha : DEs G E X ca (e :: es) u) (hj : j ≤ k := by decide) (hg : Gl X x := by rfl) (hdb : (x == ("__debug__" : Str)) = false := by decide)
    (he : starEach (e :: es) X.env = (false, eval e X.env) :: starEach es X.env :=
          by rfl) (hpl : (backTo pos (starEach es X.env)).any (·.1) = false := by rfl)
    (ht : eval (.Call (.Attribute (.Name x p) m apos) (e :: es) [] pos) X.env = (do
        let ov ← eval (.Name x p) X.env
        standAt apos.atName
        let (f, first) ← holding
          [ov] (getMethod ov m pl)
        callWith pos f first (backTo pos (starEach (e :: es) X.env)) (backToKw pos (keywordEach [] X.env))) := by rfl) : DE G E X (ca + cf) (.Call (.Attribute (.Name x p) m apos) (e :: es) [] pos) (dCall ps.length S u) := by
  obtain ⟨f, q, fd, mc, hF0, hm, hr, hat, ⟨rest, hp⟩, hh, hk, hb⟩ := F.ex
  have hF := hF0.mono hj
  rw [← xk.K] at hr hat hp hk hb
  constructor
  intro pins s σ H Q' I h
  obtain ⟨W, hn, Q, ht', kk⟩ := h
  refine PySem.W.methodCall_KW (pl := pl) (ld_glob I hg hm ?_ hdb) ht
  refine getsm_ok I hr hat hp hh fun s' I' => ?_
  have args := ha.run pos pins s' σ H (fun vs H1 => vs.length = ps.length ∧ liftF G cf S vs H1 Q' E) I' ⟨W, by omega, _, ht', fun vs H1 ds st hd ⟨hl, hs⟩ => ⟨by rw [← hd.length]; exact hl, lift_callee st hn hd hs kk⟩⟩
  refine PySem.W.callWith_K (h₀ := X.base) I.ok.mod.kin hk (thn args ?_) he hpl
  intro us s1 ⟨vs, H1, I1, r1, hl, q1⟩
  refine ⟨I1.kIn, wpAny_call ?_⟩
  have hb' : BindsTo s1 fd ⟨us, []⟩ (ps.zip us) := by
    have z := hb s1 us I1.kIn (by rw [List.append_nil, ← r1.length]; exact hl)
    rw [List.append_nil] at z
    exact z
  exact run_fnd (hK := xk.K) hF xk.room xk.gd xk.pass I1 r1 hl _ hb' q1
end
end Kn

set_option Elab.async false
set_option linter.all false
set_option maxRecDepth 100000
set_option maxHeartbeats 2100000
/-! K76: max and min of a list or a tuple of ints; comprehensions with a test that draws. -/
namespace Kn
open PySem PySem.Spec L2 RZ
section
variable {G : Gd} {E : XK} {X : Cx} {σ : List (Option V)} {H H' : Hp} {k : Nat}
theorem FnT.cost {P : Program} {w : World} {mg : Str → Option Value} {base : Heap} {j : Nat} {f : Addr} {fd : FuncData} {ps : List Str} {c d : Nat} {S : TSpec} (F : FnT G P w mg base j f fd ps c S) (hc : c ≤ d) : FnT G P w mg base j f fd ps d S := F.more (Nat.le_refl _) hc
/-- max, min of a row of ints -/
def gBest (f : List Int → Option Int) : D → (D → Prop) → Prop := fun d Q => ∃ (ns : List Int) (m : Int), (d = .lst (ns.map D.int) ∨ d = .tup (ns.map D.int) ∨ d = .tupn (ns.map D.int)) ∧ f ns = some m ∧ Q (.int m)
theorem seq_of {B : Addr → Prop} {d : D} {v : V} {ns : List Int} (hns : d = .lst (ns.map D.int) ∨ d = .tup (ns.map D.int) ∨ d = .tupn (ns.map D.int)) (h : Den G B H d v) : ∃ a, v = .ref a ∧ (SqL G.K H a (ns.map V.int) ∨ SqT G.K H a (ns.map V.int)) := by
  rcases hns with rfl | rfl | rfl
  · obtain ⟨a, ys, rfl, _, ha, _, da⟩ := h
    rw [da.ints] at ha
    exact ⟨a, rfl, .inl (SqL.of ha)⟩
  · obtain ⟨a, ys, rfl, _, ha, _, da⟩ := h
    rw [da.ints] at ha
    exact ⟨a, rfl, .inr ha⟩
  · obtain ⟨a, ys, rfl, _, ha, _, da⟩ := h.ofN
    rw [da.ints] at ha
    exact ⟨a, rfl, .inr ha⟩
theorem c_maxA (hK : X.K = G.K) (hc : X.calm = true) (hu : X.A.units + 64 < cLine) : CallR X (.builtin "max") (rDL G (g1 (gBest greatest))) := by
  intro pins s σ H xs us Q' I r h
  obtain ⟨B, d, x, Q, rfl, hd, hf, ⟨ns, m, hns, hm, hq⟩, kk⟩ := rDL1 h
  obtain ⟨u1, rfl, r1⟩ := vals1 r
  obtain ⟨a, rfl, hs⟩ := seq_of hns hd
  cases r1
  cases ns with
  | nil => cases hm
  | cons n ns =>
    have e : ns.foldl max n = m := Option.some.inj hm
    have fin : ∀ (v : Value) (h' : Heap) (tk : Nat) (bs : List Addr), Reads h' v (PySem.W.maxD (.int n) (ns.map PyData.int)) bs → (∀ b o, s.heap.get? b = some o → h'.get? b = some o) → EP X pins σ Q' v { s with heap := h', toks := tk } := fun v h' tk bs rd hk' => by
      rw [PySem.W.maxD_ints, e] at rd
      obtain ⟨t, rfl⟩ := reads_int rd
      exact ⟨.int m, H, I.kept hk', ⟨t, rfl⟩, kk _ H (.int m) (Ext.refl _ _) (den_int _) hq⟩
    rcases hs with ha | ha
    · obtain ⟨its, rv, hl, _⟩ := I.list (by rw [hK]; exact ha)
      obtain ⟨as, rds⟩ := Dp.readsAll I ((n :: ns).map PyData.int) _ its (dp_ints (n :: ns)) rv
      exact PySem.W.max_list_data (I.ok.hd hc) hl.isList rds (alike_ints (n :: ns)) (by rw [show PyData.depthAll (PyData.int n :: ns.map PyData.int) = 0 from depth_ints (n :: ns)]; omega) fun i v h' tk bs _ rd hk' => fin v h' tk bs rd hk'
    · obtain ⟨its, rv, hl, _⟩ := I.tuple (by rw [hK]; exact ha)
      obtain ⟨as, rds⟩ := Dp.readsAll I ((n :: ns).map PyData.int) _ its (dp_ints (n :: ns)) rv
      exact PySem.W.max_tuple_data (I.ok.hd hc) hl rds (alike_ints (n :: ns)) (by rw [show PyData.depthAll (PyData.int n :: ns.map PyData.int) = 0 from depth_ints (n :: ns)]; omega) fun i v h' tk bs _ rd hk' => fin v h' tk bs rd hk'
theorem c_minA (hK : X.K = G.K) (hc : X.calm = true) (hu : X.A.units + 64 < cLine) : CallR X (.builtin "min") (rDL G (g1 (gBest least))) := by
  intro pins s σ H xs us Q' I r h
  obtain ⟨B, d, x, Q, rfl, hd, hf, ⟨ns, m, hns, hm, hq⟩, kk⟩ := rDL1 h
  obtain ⟨u1, rfl, r1⟩ := vals1 r
  obtain ⟨a, rfl, hs⟩ := seq_of hns hd
  cases r1
  cases ns with
  | nil => cases hm
  | cons n ns =>
    have e : ns.foldl min n = m := Option.some.inj hm
    have fin : ∀ (v : Value) (h' : Heap) (tk : Nat) (bs : List Addr), Reads h' v (PySem.W.minD (.int n) (ns.map PyData.int)) bs → (∀ b o, s.heap.get? b = some o → h'.get? b = some o) → EP X pins σ Q' v { s with heap := h', toks := tk } := fun v h' tk bs rd hk' => by
      rw [PySem.W.minD_ints, e] at rd
      obtain ⟨t, rfl⟩ := reads_int rd
      exact ⟨.int m, H, I.kept hk', ⟨t, rfl⟩, kk _ H (.int m) (Ext.refl _ _) (den_int _) hq⟩
    rcases hs with ha | ha
    · obtain ⟨its, rv, hl, _⟩ := I.list (by rw [hK]; exact ha)
      obtain ⟨as, rds⟩ := Dp.readsAll I ((n :: ns).map PyData.int) _ its (dp_ints (n :: ns)) rv
      exact PySem.W.min_list_data (I.ok.hd hc) hl.isList rds (alike_ints (n :: ns)) (by rw [show PyData.depthAll (PyData.int n :: ns.map PyData.int) = 0 from depth_ints (n :: ns)]; omega) fun i v h' tk bs _ rd hk' => fin v h' tk bs rd hk'
    · obtain ⟨its, rv, hl, _⟩ := I.tuple (by rw [hK]; exact ha)
      obtain ⟨as, rds⟩ := Dp.readsAll I ((n :: ns).map PyData.int) _ its (dp_ints (n :: ns)) rv
      exact PySem.W.min_tuple_data (I.ok.hd hc) hl rds (alike_ints (n :: ns)) (by rw [show PyData.depthAll (PyData.int n :: ns.map PyData.int) = 0 from depth_ints (n :: ns)]; omega) fun i v h' tk bs _ rd hk' => fin v h' tk bs rd hk'
/-- with a test, whatever comes of each item, kept or not -/
theorem compL_anyF {tg : DG} {tt : DB} {te : DT} {Q : List D → Prop} {env : List Sl} (P : D → Prop) : ∀ {ds acc : List D}, (∀ d ∈ ds, ∀ (K : D → Prop) (K' : Prop), (∀ r, P r → K r) → K' → tg d env fun env2 => tt noX env2 fun b => if b = true then te noX env2 K else K') →
    (∀ rs : List D, rs.length ≤ ds.length → (∀ r ∈ rs, P r) → Q (acc ++ rs)) → compL tg tt te Q env ds acc
  | [], acc, _, hq => by
    unfold compL
    simpa using hq [] (Nat.le_refl _) (fun r h => by cases h)
  | d :: ds, acc, h, hq => by
    unfold compL
    refine h d List.mem_cons_self _ _ (fun r hr => ?_) ?_
    · refine compL_anyF P (fun e he => h e (List.mem_cons_of_mem _ he)) fun rs hl hrs => ?_
      have := hq (r :: rs) (by simp only [List.length_cons]; omega) fun x hx => by
        rcases List.mem_cons.mp
              hx with rfl | hx
        · exact hr
        · exact hrs x hx
      simpa using this
    · refine compL_anyF P (fun e he => h e (List.mem_cons_of_mem _ he)) fun rs hl hrs => ?_
      exact hq rs (by simp only [List.length_cons]; omega) hrs
theorem greatest_mem : ∀ {ns : List Int} {m : Int}, greatest ns = some m → m ∈ ns ∧ ∀ y ∈ ns, y ≤ m
  | n :: ns, m, h => by
    have e : ns.foldl max n = m := Option.some.inj h
    subst e
    have key : ∀ (l : List Int) (a : Int), (l.foldl max a = a ∨ l.foldl max a ∈ l) ∧ a ≤ l.foldl max a ∧ ∀ y ∈ l, y ≤ l.foldl max a := by
      intro l
      induction l with
      | nil => intro a; exact ⟨.inl rfl, Int.le_refl _, fun y hy => nomatch hy⟩
      | cons b l ih =>
        intro a
        rw [List.foldl_cons]
        obtain ⟨h1, h2, h3⟩ := ih (max a b)
        refine ⟨?_, by omega, fun y hy => ?_⟩
        · rcases h1 with h1 | h1
          · rw [h1]
            by_cases c : a ≤ b
            · exact .inr (by rw [show max a b = b by omega]; exact List.mem_cons_self)
            · exact .inl (by omega)
          · exact .inr (List.mem_cons_of_mem _ h1)
        · rcases List.mem_cons.mp
              hy with rfl | hy
          · omega
          · exact h3 y hy
    obtain ⟨h1, h2, h3⟩ := key ns n
    refine ⟨?_, fun y hy => ?_⟩
    · rcases h1 with h1 | h1
      · rw [h1]; exact List.mem_cons_self
      · exact List.mem_cons_of_mem _ h1
    · rcases List.mem_cons.mp
          hy with rfl | hy
      · exact h2
      · exact h3 y hy
theorem least_mem : ∀ {ns : List Int} {m : Int}, least ns = some m → m ∈ ns ∧ ∀ y ∈ ns, m ≤ y
  | n :: ns, m, h => by
    have e : ns.foldl min n = m := Option.some.inj h
    subst e
    have key : ∀ (l : List Int) (a : Int), (l.foldl min a = a ∨ l.foldl min a ∈ l) ∧ l.foldl min a ≤ a ∧ ∀ y ∈ l, l.foldl min a ≤ y := by
      intro l
      induction l with
      | nil => intro a; exact ⟨.inl rfl, Int.le_refl _, fun y hy => nomatch hy⟩
      | cons b l ih =>
        intro a
        rw [List.foldl_cons]
        obtain ⟨h1, h2, h3⟩ := ih (min a b)
        refine ⟨?_, by omega, fun y hy => ?_⟩
        · rcases h1 with h1 | h1
          · rw [h1]
            by_cases c : b ≤ a
            · exact .inr (by rw [show min a b = b by omega]; exact List.mem_cons_self)
            · exact .inl (by omega)
          · exact .inr (List.mem_cons_of_mem _ h1)
        · rcases List.mem_cons.mp
              hy with rfl | hy
          · omega
          · exact h3 y hy
    obtain ⟨h1, h2, h3⟩ := key ns n
    refine ⟨?_, fun y hy => ?_⟩
    · rcases h1 with h1 | h1
      · rw [h1]; exact List.mem_cons_self
      · exact List.mem_cons_of_mem _ h1
    · rcases List.mem_cons.mp
          hy with rfl | hy
      · exact h2
      · exact h3 y hy
end
end Kn

set_option Elab.async false
set_option linter.all false
set_option maxRecDepth 100000
set_option maxHeartbeats 2100000
/-! K77: repr of None as well. -/
namespace Kn
open PySem PySem.Spec PyProof.Rows L2 RZ
section
variable {G : Gd} {E : XK} {X : Cx} {σ : List (Option V)} {H H' : Hp} {k : Nat}
def gReprN : D → (D → Prop) → Prop := fun d Q => (d = .non ∧ Q (.str "None")) ∨ gRepr d Q
theorem c_reprN (xk : Xk G E k X) : CallR X (.builtin "repr") (rDL G (g1 gReprN)) := by
  intro pins s σ H vs us Q' I r h
  obtain ⟨B, d, x, Q, rfl, hd, hf, hg, kk⟩ := rDL1 h
  rcases hg with ⟨rfl, hq⟩ | hg
  · cases hd
    obtain ⟨u, rfl, ru⟩ := vals1 r; cases ru
    exact PySem.P.repr_of_none ⟨.str "None", H, I.tok _, ⟨s.toks, rfl⟩, kk _ H (.str "None") (Ext.refl _ _) (den_str _) hq⟩
  · exact c_repr xk pins s σ H _ us Q' I r ⟨B, [d], Q, ⟨x, [], rfl, hd, rfl⟩, hf, hg, kk⟩
/-- what a row or None shows -/
def optR : Option (List Int) → D
  | none => .non
  | some r => rowD r
def shownO : Option (List Int) → Str
  | none => "None"
  | some r => PyData.shown (rowP r)
theorem reprO {o : Option (List Int)} {Q : D → Prop} (h : ∀ r, o = some r → r.length ≤ 1000 ∧ ∀ i ∈ r, 0 ≤ i ∧ i < 8) (hq : Q (.str (shownO o))) : gReprN (optR o) Q := by
  cases o with
  | none => exact .inl ⟨rfl, hq⟩
  | some r =>
    obtain ⟨h1, h2⟩ := h r rfl
    exact .inr (repr1 h1 h2 hq)
theorem nilRN {ex : Exc → Prop} {env : List Sl} {d : D} {Q : D → Prop} (h : gReprN d Q) : aNil ex env fun xs => g1 gReprN (d :: xs) Q := h
theorem optR_no (o : Option (List Int)) : ∀ v, optR o ≠ .opq v := by intro v h; cases o <;> cases h
theorem optR_isN (o : Option (List Int)) : (optR o).isN = o.isNone := by cases o <;> rfl
end
end Kn

set_option Elab.async false
set_option linter.all false
set_option maxRecDepth 100000
set_option maxHeartbeats 4100000
namespace Pg
open PySem L2 RZ Kn
def topS (i : Nat) : Stmt := PySem.Challenge.pw_kindtells_k09_along_or_the_first_input.main.body.getD i (.Pass ⟨0, 0, 0, 0⟩)
structure Bn (mg : Str → Option Value) : Prop where
  len : mg "len" = none
  all : mg "all" = none
  any : mg "any" = none
  isinstance : mg "isinstance" = none
  int : mg "int" = none
  bool : mg "bool" = none
  list : mg "list" = none
  tuple : mg "tuple" = none
  str : mg "str" = none
  range : mg "range" = none
  zip : mg "zip" = none
  sorted : mg "sorted" = none
  type : mg "type" = none
  max : mg "max" = none
  min : mg "min" = none
  abs : mg "abs" = none
  repr : mg "repr" = none
  set : mg "set" = none
  enumerate : mg "enumerate" = none
  dict : mg "dict" = none
  sum : mg "sum" = none
section
variable {G : Gd} {P : Program} {w : World} {mg : Str → Option Value} {base : Heap} {f : Addr} {fd : FuncData}
def sIsInt : FSpec := fun ds R _ => ∃ d, ds = [d] ∧ (kindS d).isSome = true ∧ R (.bl (D.isI d))
abbrev s_is_integer : Stmt := topS 12
theorem sc_is_integer : FnScope ["value"] ["value"] (defScope s_is_integer) := ⟨rfl, rfl, rfl, by decide +kernel, rfl, by decide +kernel, by decide +kernel⟩
theorem ok_is_integer (F : Fun G.K "is_integer" "is_integer" s_is_integer f fd) (bn : Bn mg)  : FnD G P w mg base 1 f fd ["value"] 0 sIsInt := by
  refine FnD.more (fnd_of F sc_is_integer (fun cdv A outer s H E hr hg => have xk := xk_def (E := E) hr hg; (ds_one (ds_ret (de_and (de_bi (c_isi xk.K) bn.isinstance (da_cons (dv 0) (da_cons (de_tyn (n := "int") bn.int) da_nil))) (de_one (de_not (de_bi (c_isi xk.K) bn.isinstance (da_cons (dv 0) (da_cons (de_tyn (n := "bool") bn.bool) da_nil))))))))) ?_) (by decide)
  rintro ds R ex hl ⟨d, rfl, hk, hr⟩
  refine ⟨d, rfl, _, _, rfl, isB_int hk, ?_⟩
  cases d <;> first | cases hk | skip
  all_goals first
    | exact ⟨_, rfl, hr⟩
    | exact ⟨_, rfl, _, rfl, _, _, rfl, isB_bool rfl, _, rfl, hr⟩
def sNumbers : FSpec := fun ds R _ => ∃ d, ds = [d] ∧ (kindS d).isSome = true ∧ (∀ xs, d.items? = some xs → ∀ x ∈ xs, (kindS x).isSome = true) ∧ R (.bl (match d.items? with | some xs => xs.all D.isI | none => false))
abbrev s_are_numbers : Stmt := topS 14
theorem sc_are_numbers : FnScope ["value", "number"] ["value"] (defScope s_are_numbers) := ⟨rfl, rfl, rfl, by decide +kernel, rfl, by decide +kernel, by decide +kernel⟩
theorem ok_are_numbers (F : Fun G.K "are_numbers" "are_numbers" s_are_numbers f fd) (bn : Bn mg) (F_is_integer : Fk G P w mg base 1 "is_integer" ["value"] 0 sIsInt) : FnD G P w mg base 2 f fd ["value"] 0 sNumbers := by
  refine FnD.more (fnd_of F sc_are_numbers (fun cdv A outer s H E hr hg => have xk := xk_def (E := E) hr hg; (ds_one (ds_ret (de_and (de_isiT (Ts := ["list", "tuple"]) xk.K bn.isinstance (dv 0) (pa_cons (ps_tyn (n := "list") bn.list) (pa_cons (ps_tyn (n := "tuple") bn.tuple) pa_nil)) (by simp) (by decide)) (de_one (de_bi (c_all xk.calm) bn.all (da_cons (de_comp (own := [("number", 1)]) xk sc_are_numbers.nd (di_seq xk.K (dv 0)) (blkOk_by (N := ["value", "number"]) (sc := defScope s_are_numbers) (by decide +kernel)) (fun s H C cl fp => (dg_name (i := 1) sc_are_numbers.nd rfl (Or.inl rfl))) (fun s H C cl fp => dts_nil) (fun s H C cl fp => (de_call F_is_integer (Xk.blk xk _ _ _ _ _) (da_cons (dv 1) da_nil))) (by simp)) da_nil))))))) ?_) (by decide)
  rintro ds R ex hl ⟨d, rfl, hk, hks, hr⟩
  refine ⟨d, rfl, _, any_seq hk, _, rfl, ?_⟩
  cases hi : d.items? with
  | none => rw [hi] at hr; exact hr
  | some xs =>
    rw [hi] at hr
    have key : ∀ (Q : D → Prop), Q (.bl (xs.all D.isI)) → compL (tgName 1) bYes (dCall 1 sIsInt (aCons (dVar 1) aNil)) (fun rs => g1 gAll [.lst rs] Q) (inEnv (env0 ["value", "number"] [d]) [1]) xs [] := fun Q hq => by
      refine compL_map (fun x => .bl (D.isI x)) (fun x hx K hK => ⟨x, rfl, rfl, x, rfl, hks xs hi x hx, hK⟩) ?_
      refine ⟨xs.map D.isI, by simp [List.map_map], ?_⟩
      simpa [List.all_map] using hq
    refine ⟨d, rfl, ?_⟩
    cases d <;> cases hi
    · exact key _ hr
    · exact key _ hr
def sWithin : FSpec := fun ds R _ => ∃ d lo hi, ds = [d, bndD lo, bndD hi] ∧ (kindS d).isSome = true ∧ R (.bl (withinB d lo hi))
abbrev s_is_within : Stmt := topS 13
theorem sc_is_within : FnScope ["value", "least", "most"] ["value", "least", "most"] (defScope s_is_within) := ⟨rfl, rfl, rfl, by decide +kernel, rfl, by decide +kernel, by decide +kernel⟩
theorem ok_is_within (F : Fun G.K "is_within" "is_within" s_is_within f fd) (bn : Bn mg) (F_is_integer : Fk G P w mg base 1 "is_integer" ["value"] 0 sIsInt) : FnD G P w mg base 2 f fd ["value", "least", "most"] 0 sWithin := by
  refine FnD.more (fnd_of F sc_is_within (fun cdv A outer s H E hr hg => have xk := xk_def (E := E) hr hg; (ds_cons (ds_if (dt_not (dt_val (de_call F_is_integer xk (da_cons (dv 0) da_nil)))) (ds_one (ds_ret de_bl)) ds_nil) (ds_one (ds_ret (de_and (de_or (de_cmp (o_is) (dv 1) de_non (by rfl)) (de_one (de_cmp (o_ge) (dv 0) (dv 1) (by rfl)))) (de_one (de_or (de_cmp (o_is) (dv 2) de_non (by rfl)) (de_one (de_cmp (o_le) (dv 0) (dv 2) (by rfl)))))))))) ?_) (by decide)
  rintro ds R ex hl ⟨d, lo, hi, rfl, hk, hr⟩
  refine ⟨d, rfl, rfl, d, rfl, hk, D.isI d, rfl, ?_⟩
  cases hi' : D.isI d with
  | false =>
    have e : withinB d lo hi = false := by cases d <;> first | rfl | cases hi'
    rw [e] at hr
    exact hr
  | true =>
    obtain ⟨i, rfl⟩ := isI_of hi'
    have k2 : ∀ Q : D → Prop, Q (.bl (hi.all fun h => decide (i ≤ h))) → (dOr (dOp gIs (dVar 2) (dC .non)) (dOp gLe (dVar 0) (dVar 2))) ex (env0 ["value", "least", "most"] [.int i, bndD lo, bndD hi]) Q := fun Q hq => by
      refine ⟨bndD hi, rfl, rfl, bnd_no hi, (bndD hi).isN, rfl, ?_⟩
      cases hi with
      | none => exact hq
      | some h => exact ⟨_, rfl, _, rfl, trivial, hq⟩
    have k1 : ∀ Q : D → Prop, (∀ b, b = (lo.all fun l => decide (l ≤ i)) → Q (.bl b)) → (dOr (dOp gIs (dVar 1) (dC .non)) (dOp gGe (dVar 0) (dVar 1))) ex (env0 ["value", "least", "most"] [.int i, bndD lo, bndD hi]) Q := fun Q hq => by
      refine ⟨bndD lo, rfl, rfl, bnd_no lo, (bndD lo).isN, rfl, ?_⟩
      cases lo with
      | none => exact hq _ rfl
      | some l => exact ⟨_, rfl, _, rfl, trivial, hq _ rfl⟩
    refine k1 (fun x => ∃ c, x = .bl c ∧ if c = true then dOr (dOp gIs (dVar 2) (dC .non)) (dOp gLe (dVar 0) (dVar 2)) ex (env0 ["value", "least", "most"] [.int i, bndD lo, bndD hi]) R else R (.bl false)) fun b hb => ⟨b, rfl, ?_⟩
    have e : withinB (.int i) lo hi = (b && hi.all fun h => decide (i ≤ h)) := by rw [hb]; rfl
    rw [e] at hr
    cases b with
    | false => exact hr
    | true => exact k2 _ hr
/-- a number within its bounds -/
def sDemNumL : FSpec := fun ds R _ => ∃ i lo hi p, ds = [.int i, bndD lo, bndD hi, p] ∧ inB i lo hi = true ∧ R .non
abbrev s_demand_number : Stmt := topS 18
theorem sc_demand_number : FnScope ["value", "least", "most", "part"] ["value", "least", "most", "part"] (defScope s_demand_number) := ⟨rfl, rfl, rfl, by decide +kernel, rfl, by decide +kernel, by decide +kernel⟩
theorem ok_demand_number (F : Fun G.K "demand_number" "demand_number" s_demand_number f fd) (bn : Bn mg) (F_is_within : Fk G P w mg base 2 "is_within" ["value", "least", "most"] 0 sWithin) : FnD G P w mg base 3 f fd ["value", "least", "most", "part"] 0 sDemNumL := by
  refine FnD.more (fnd_of F sc_demand_number (fun cdv A outer s H E hr hg => have xk := xk_def (E := E) hr hg; (ds_one (ds_if (dt_not (dt_val (de_call F_is_within xk (da_cons (dv 0) (da_cons (dv 1) (da_cons (dv 2) da_nil)))))) (ds_one ds_never) ds_nil))) ?_) (by decide)
  rintro ds R ex hl ⟨i, lo, hi, p, rfl, hb, hr⟩
  refine ⟨.int i, rfl, bndD lo, rfl, bndD hi, rfl, rfl, .int i, lo, hi, rfl, rfl, ?_⟩
  exact ⟨inB i lo hi, rfl, by rw [hb]; exact hr⟩
def sDemWorldL : FSpec := fun ds R _ => ∃ (i : Int) (p : D), ds = [.int i, p] ∧ 1 ≤ i ∧ i ≤ 5 ∧ R .non
abbrev s_demand_world : Stmt := topS 19
theorem sc_demand_world : FnScope ["things", "part"] ["things", "part"] (defScope s_demand_world) := ⟨rfl, rfl, rfl, by decide +kernel, rfl, by decide +kernel, by decide +kernel⟩
theorem ok_demand_world (F : Fun G.K "demand_world" "demand_world" s_demand_world f fd) (bn : Bn mg) (F_demand_number : Fk G P w mg base 3 "demand_number" ["value", "least", "most", "part"] 0 sDemNumL) (g_MOST_THINGS : ∃ t, mg "MOST_THINGS" = some (.int 5 t)) : FnD G P w mg base 4 f fd ["things", "part"] 0 sDemWorldL := by
  refine FnD.more (fnd_of F sc_demand_world (fun cdv A outer s H E hr hg => have xk := xk_def (E := E) hr hg; (ds_one (ds_expr (de_call F_demand_number xk (da_cons (dv 0) (da_cons de_int (da_cons (de_gint g_MOST_THINGS) (da_cons (dv 1) da_nil)))))))) ?_) (by decide)
  rintro ds R ex hl ⟨i, p, rfl, h1, h2, hr⟩
  refine ⟨.int i, rfl, p, rfl, rfl, i, some 1, some 5, p, rfl, ?_, hr⟩
  simp [inB, h1, h2]
def sDemNumsL : FSpec := fun ds R _ => ∃ d xs p, ds = [d, p] ∧ d.items? = some xs ∧ xs.all D.isI = true ∧ R .non
abbrev s_demand_numbers : Stmt := topS 21
theorem sc_demand_numbers : FnScope ["values", "part"] ["values", "part"] (defScope s_demand_numbers) := ⟨rfl, rfl, rfl, by decide +kernel, rfl, by decide +kernel, by decide +kernel⟩
theorem ok_demand_numbers (F : Fun G.K "demand_numbers" "demand_numbers" s_demand_numbers f fd) (bn : Bn mg) (F_are_numbers : Fk G P w mg base 2 "are_numbers" ["value"] 0 sNumbers) : FnD G P w mg base 3 f fd ["values", "part"] 0 sDemNumsL := by
  refine FnD.more (fnd_of F sc_demand_numbers (fun cdv A outer s H E hr hg => have xk := xk_def (E := E) hr hg; (ds_one (ds_if (dt_not (dt_val (de_call F_are_numbers xk (da_cons (dv 0) da_nil)))) (ds_one ds_never) ds_nil))) ?_) (by decide)
  rintro ds R ex hl ⟨d, xs, p, rfl, hx, ha, hr⟩
  refine ⟨d, rfl, rfl, d, rfl, kind_items hx, fun ys hy => ?_, true, ?_, hr⟩
  · rw [hx] at hy; cases hy; exact kinds_isI ha
  · rw [hx]; show D.bl (xs.all D.isI) = _; rw [ha]
def sDemThingsL : FSpec := fun ds R _ => ∃ (d : D) (is : List Int) (n : Int), ds = [d, .int n] ∧ d.items? = some (is.map D.int) ∧ (∀ i ∈ is, 0 ≤ i ∧ i < n) ∧ R .non
abbrev s_demand_things : Stmt := topS 23
theorem sc_demand_things : FnScope ["values", "things", "value"] ["values", "things"] (defScope s_demand_things) := ⟨rfl, rfl, rfl, by decide +kernel, rfl, by decide +kernel, by decide +kernel⟩
theorem ok_demand_things (F : Fun G.K "demand_things" "demand_things" s_demand_things f fd) (bn : Bn mg) (F_is_within : Fk G P w mg base 2 "is_within" ["value", "least", "most"] 0 sWithin) : FnD G P w mg base 3 f fd ["values", "things"] 0 sDemThingsL := by
  refine FnD.more (fnd_of F sc_demand_things (fun cdv A outer s H E hr hg => have xk := xk_def (E := E) hr hg; (ds_one (ds_for xk po_def (di_seq xk.K (dv 0)) (dg_name (i := 2) sc_demand_things.nd rfl (Or.inl rfl)) (ds_one (ds_if (dt_not (dt_val (de_call F_is_within xk (da_cons (dv 2) (da_cons de_int (da_cons (de_op (o_sub) (dv 1) de_int) da_nil)))))) (ds_one ds_never) ds_nil))))) ?_) (by decide)
  rintro ds R ex hl ⟨d, is, n, rfl, hx, hb, hr⟩
  refine ⟨d, rfl, ?_⟩
  have key : ∀ (de : DEnds) (tb : DS), de.nx = (fun _ => R .non) → (∀ (i : Int) (s : Sl) (nx : List Sl → Prop), 0 ≤ i → i < n → nx [.val d, .val (.int n), .val (.int i)] → tb ex { de with nx := nx, ct := nx, bk := de.nx } [.val d, .val (.int n), .val (.int i)]) → sForL ex (tgName 2) tb de (is.map D.int) (env0 ["values", "things", "value"] [d, .int n]) := fun de tb hde hstep => by
    refine sForL_inv (fun _ env => ∃ s, env = [.val d, .val (.int n), s]) 0 ⟨_, rfl⟩ (fun i x env hi hI nx hn => ?_) (fun env hI => by rw [hde]; exact hr)
    obtain ⟨s, rfl⟩ := hI
    rw [List.getElem?_map] at hi
    obtain ⟨j, hj, rfl⟩ := Option.map_eq_some_iff.mp hi
    obtain ⟨b1, b2⟩ := hb j (List.mem_of_getElem? hj)
    exact hstep j s nx b1 b2 (hn _ ⟨_, rfl⟩)
  cases d <;> cases hx
  all_goals
    refine key _ _ rfl fun i s nx b1 b2 hn => ?_
    refine ⟨.int i, rfl, .int n, rfl, trivial, rfl, .int i, some 0, some (n - 1), rfl, rfl, ?_⟩
    refine ⟨true, ?_, hn⟩
    rw [show withinB (.int i) (some 0) (some (n - 1)) = true by simp [withinB, inB]; omega]
/-- the classes: leads 1, the reader's 2, told functions 3 -/
structure Gk (G : Gd) : Prop where
  fl : G.fl 1 = [Str.ofString "begin", "into", "row"]
  fl2 : G.fl 2 = [Str.ofString "words", "taken"]
  fl3 : G.fl 3 = [Str.ofString "things", "places", "tells"]
  begin : FldOk G "begin"
  into : FldOk G "into"
  row : FldOk G "row"
  words : FldOk G "words"
  taken : FldOk G "taken"
  things : FldOk G "things"
  places : FldOk G "places"
  tells : FldOk G "tells"
  nd : ∀ c, (G.fl c).Nodup
  sm : ∀ c, (G.fl c).length ≤ 100
def leadD (into : Int) (is : List Int) : D := .ins 1 [.int is.length, .int into, .tup (is.map D.int)]
def sLeadInitL : FSpec := fun ds R _ => ∃ (into : Int) (d : D) (is : List Int), ds = [.int into, d] ∧ d.items? = some (is.map D.int) ∧ 1 ≤ into ∧ into ≤ 5 ∧ 1 ≤ is.length ∧ is.length ≤ 5 ∧ (∀ i ∈ is, 0 ≤ i ∧ i < into) ∧ R (leadD into is)
abbrev s_Lead___init__ : Stmt := inClass (topS 28) 0
theorem sc_Lead___init__ : FnScope ["self", "into", "row"] ["self", "into", "row"] (defScope s_Lead___init__) := ⟨rfl, rfl, rfl, by decide +kernel, rfl, by decide +kernel, by decide +kernel⟩
theorem ok_Lead___init__ (F : Fun G.K "__init__" "Lead.__init__" s_Lead___init__ f fd) (bn : Bn mg) (fo : Gk G) (F_demand_world : Fk G P w mg base 4 "demand_world" ["things", "part"] 0 sDemWorldL) (F_demand_things : Fk G P w mg base 3 "demand_things" ["values", "things"] 0 sDemThingsL) (F_are_numbers : Fk G P w mg base 2 "are_numbers" ["value"] 0 sNumbers) (g_MOST_THINGS : ∃ t, mg "MOST_THINGS" = some (.int 5 t)) : InitD G P w mg base 5 f fd ["self", "into", "row"] 0 1 sLeadInitL := by
  refine InitD.more (initd_of F sc_Lead___init__ (fun cdv A outer s H E hr hg => have xk := xk_def (E := E) hr hg; (ds_cons (ds_expr (de_call F_demand_world xk (da_cons (dv 1) (da_cons de_str da_nil)))) (ds_cons (ds_if (dt_w (dw_or (dt_not (dt_val (de_call F_are_numbers xk (da_cons (dv 2) da_nil)))) (dw_or1 (dt_not (dt_chain (o_le) (o_le) de_int (de_bi (c_len xk.K) bn.len (da_cons (dv 2) da_nil)) (de_gint g_MOST_THINGS)))))) (ds_one ds_never) ds_nil) (ds_cons (ds_expr (de_call F_demand_things xk (da_cons (dv 2) (da_cons (dv 1) da_nil)))) (ds_cons (ds_fld (i := 0) xk.K fo.begin fo.nd fo.sm rfl (de_bi (c_len xk.K) bn.len (da_cons (dv 2) da_nil))) (ds_cons (ds_fld (i := 0) xk.K fo.into fo.nd fo.sm rfl (dv 1)) (ds_one (ds_fld (i := 0) xk.K fo.row fo.nd fo.sm rfl (de_ty (c_tuple xk.K) bn.tuple (da_cons (dv 2) da_nil)))))))))) ?_) (by decide)
  rintro a dx ds R ex hl ⟨into, d, is, rfl, hx, h1, h2, h3, h4, hb, hr⟩
  refine ⟨.int into, rfl, rfl, into, _, rfl, h1, h2, ?_⟩
  have hk := kind_items hx
  refine ⟨d, rfl, rfl, d, rfl, hk, fun ys hy => by rw [hx] at hy; cases hy; exact kinds_isI (all_isI is), true, by rw [hx]; show D.bl ((is.map D.int).all D.isI) = _; rw [all_isI], ?_⟩
  have fin : ∀ xs, xs = is.map D.int → leadD into is = .ins 1 [.int (xs.length : Nat), .int into, .tup xs] := fun xs e => by rw [e, List.length_map]; rfl
  have e1 : (decide ((1 : Int) ≤ ((is.map D.int).length : Nat))) = true := by rw [List.length_map]; simp; omega
  have e2 : (decide (((is.map D.int).length : Nat) ≤ (5 : Int))) = true := by rw [List.length_map]; simp; omega
  cases d <;> cases hx
  all_goals
    refine ⟨_, rfl, trivial, true, congrArg D.bl e1, ?_⟩
    refine ⟨trivial, true, congrArg D.bl e2, ?_⟩
    refine ⟨_, rfl, .int into, rfl, rfl, _, is, into, rfl, rfl, hb, ?_⟩
    refine ⟨_, rfl, a, dx, 1, [], rfl, by rw [fo.fl]; rfl, ?_⟩
    refine ⟨.int into, rfl, a, dx, 1, _, rfl, by rw [fo.fl]; rfl, ?_⟩
    refine ⟨_, rfl, a, dx, 1, _, rfl, by rw [fo.fl]; rfl, ?_⟩
    refine ⟨_, rfl, by rw [fo.fl]; rfl, ?_⟩
    rw [fin _ rfl] at hr
    exact hr
def allRows (n : Nat) : Nat → List (List Int)
  | 0 => [[]]
  | m + 1 => (allRows n m).flatMap fun r => (List.range n).map fun (t : Nat) => r ++ [(t : Int)]
theorem allRows_len (n : Nat) : ∀ m, (allRows n m).length = n ^ m
  | 0 => rfl
  | m + 1 => by
    unfold allRows
    rw [List.length_flatMap]
    simp only [List.length_range, List.length_map]
    rw [List.map_const', List.sum_replicate_nat, allRows_len n m, Nat.pow_succ]
theorem allRows_row (n : Nat) : ∀ m, ∀ r ∈ allRows n m, r.length = m
  | 0, r, h => by simp [allRows] at h; rw [h]; rfl
  | m + 1, r, h => by
    unfold allRows at h
    obtain ⟨q, hq, hr⟩ := List.mem_flatMap.mp h
    obtain ⟨t, _, rfl⟩ := List.mem_map.mp hr
    rw [List.length_append, allRows_row n m q hq]; rfl
theorem allRows_val (n : Nat) : ∀ m, ∀ r ∈ allRows n m, ∀ i ∈ r, 0 ≤ i ∧ i < (n : Int)
  | 0, r, h => by simp [allRows] at h; rw [h]; simp
  | m + 1, r, h => by
    unfold allRows at h
    obtain ⟨q, hq, hr⟩ := List.mem_flatMap.mp h
    obtain ⟨t, ht, rfl⟩ := List.mem_map.mp hr
    intro i hi
    rcases List.mem_append.mp hi with hi | hi
    · exact allRows_val n m q hq i hi
    · have : i = (t : Int) := by simpa using hi
      have := List.mem_range.mp ht
      omega
def sAllRowsL : FSpec := fun ds R _ => ∃ n m : Nat, ds = [.int n, .int m] ∧ n ≤ 5 ∧ m ≤ 5 ∧ R (.lst ((allRows n m).map rowD))
theorem flat_const {α β : Type} (es : List β) : ∀ l : List α, (l.flatMap fun _ => es).length = l.length * es.length
  | [] => by simp
  | x :: l => by rw [List.flatMap_cons, List.length_append, flat_const es l, List.length_cons, Nat.add_mul]; omega
theorem pow_small {n i m : Nat} (hn : n ≤ 5) (hi : i ≤ m) (hm : m ≤ 5) : n ^ i ≤ 3125 := by
  have h1 : n ^ i ≤ 5 ^ i := Nat.pow_le_pow_left hn i
  have h2 : (5 : Nat) ^ i ≤ 5 ^ 5 := Nat.pow_le_pow_right (by omega) (by omega)
  omega
def addT (d t : D) : D := match d with
  | .tup ds => .tup (ds ++ [t])
  | _ => .non
theorem rows_next (n i : Nat) : (allRows n (i + 1)).map rowD = ((allRows n i).map rowD).flatMap fun d => (rangeD 0 n).map (addT d) := by
  rw [show allRows n (i + 1) = (allRows n i).flatMap fun r => (List.range n).map fun (t : Nat) => r ++ [(t : Int)] from rfl, List.map_flatMap, List.flatMap_map]
  congr 1
  funext r
  simp [rangeD, rowD, addT, Function.comp_def]
theorem fld_lead (fo : Gk G) {n : Int} {r : List Int} : (("begin" : Str) ∈ G.fl 1 ∧ ("into" : Str) ∈ G.fl 1 ∧ ("row" : Str) ∈ G.fl 1 ∧ [D.int r.length, .int n, rowD r][(G.fl 1).idxOf ("begin" : Str)]? = some (.int r.length) ∧
    [D.int r.length, .int n, rowD r][(G.fl 1).idxOf ("into" : Str)]? = some (.int n) ∧ [D.int r.length, .int n, rowD r][(G.fl 1).idxOf ("row" : Str)]? = some (rowD r)) := by
  rw [fo.fl]
  exact ⟨by decide, by decide, by decide, rfl, rfl, rfl⟩
def sIsOfLno : Prop := True

def sIdleL : FSpec := fun ds R _ => ∃ n : Nat, ds = [.int n] ∧ 1 ≤ n ∧ n ≤ 5 ∧ R (leadD n ((List.range n).map fun (i : Nat) => (i : Int)))
theorem range_ints (n : Nat) : rangeD 0 n = ((List.range n).map fun (i : Nat) => (i : Int)).map D.int := by
  unfold rangeD
  rw [List.map_map]
  congr 1
  funext i
  simp
abbrev s_idle : Stmt := topS 29
theorem sc_idle : FnScope ["things"] ["things"] (defScope s_idle) := ⟨rfl, rfl, rfl, by decide +kernel, rfl, by decide +kernel, by decide +kernel⟩
theorem ok_idle (F : Fun G.K "idle" "idle" s_idle f fd) (bn : Bn mg) (F_demand_world : Fk G P w mg base 4 "demand_world" ["things", "part"] 0 sDemWorldL) (C_Lead : Fc G P w mg base 5 "Lead" 1 ["self", "into", "row"] 0 sLeadInitL) : FnD G P w mg base 7 f fd ["things"] 0 sIdleL := by
  refine FnD.more (fnd_of F sc_idle (fun cdv A outer s H E hr hg => have xk := xk_def (E := E) hr hg; (ds_cons (ds_expr (de_call F_demand_world xk (da_cons (dv 0) (da_cons de_str da_nil)))) (ds_one (ds_ret (de_make C_Lead xk (da_cons (dv 0) (da_cons (de_listRange xk.calm bn.list bn.range (dv 0)) da_nil))))))) ?_) (by decide)
  rintro ds R ex hl ⟨n, rfl, h1, h5, hr⟩
  refine ⟨.int n, rfl, rfl, n, _, rfl, by omega, by omega, ?_⟩
  refine ⟨.int n, rfl, .int n, rfl, n, rfl, by omega, by omega, rfl, n, _, (List.range n).map fun (i : Nat) => (i : Int), rfl, ?_, by omega, by omega, by simp; omega, by simp; omega, ?_, hr⟩
  · show some (rangeD 0 (n : Int).toNat) = _
    rw [Int.toNat_natCast, range_ints]
  · intro i hi
    obtain ⟨j, hj, rfl⟩ := List.mem_map.mp hi
    have := List.mem_range.mp hj
    omega
def sOfL : FSpec := fun ds R _ => ∃ (n : Int) (r : List Int) (d : D) (is : List Int), ds = [leadD n r, d] ∧ d.items? = some (is.map D.int) ∧ (∀ i ∈ is, 0 ≤ i ∧ i < r.length) ∧ R (rowD (is.map (atR r)))
abbrev s_Lead_of : Stmt := inClass (topS 28) 4
theorem sc_Lead_of : FnScope ["self", "values", "value"] ["self", "values"] (defScope s_Lead_of) := ⟨rfl, rfl, rfl, by decide +kernel, rfl, by decide +kernel, by decide +kernel⟩
theorem ok_Lead_of (F : Fun G.K "of" "Lead.of" s_Lead_of f fd) (bn : Bn mg) (fo : Gk G) (F_demand_numbers : Fk G P w mg base 3 "demand_numbers" ["values", "part"] 0 sDemNumsL) (F_demand_things : Fk G P w mg base 3 "demand_things" ["values", "things"] 0 sDemThingsL) : FnD G P w mg base 5 f fd ["self", "values"] 0 sOfL := by
  refine FnD.more (fnd_of F sc_Lead_of (fun cdv A outer s H E hr hg => have xk := xk_def (E := E) hr hg; (ds_cons (ds_expr (de_call F_demand_numbers xk (da_cons (dv 1) (da_cons de_str da_nil)))) (ds_cons (ds_expr (de_call F_demand_things xk (da_cons (dv 1) (da_cons (de_fld xk.K fo.begin (dv 0)) da_nil)))) (ds_one (ds_ret (de_ty (c_tuple xk.K) bn.tuple (da_cons (de_comp (own := [("value", 2)]) xk sc_Lead_of.nd (di_seq xk.K (dv 1)) (blkOk_by (N := ["self", "values", "value"]) (sc := defScope s_Lead_of) (by decide +kernel)) (fun s H C cl fp => (dg_name (i := 2) sc_Lead_of.nd rfl (Or.inl rfl))) (fun s H C cl fp => dts_nil) (fun s H C cl fp => (de_ix (Xk.blk xk _ _ _ _ _).K (de_fld (Xk.blk xk _ _ _ _ _).K fo.row (dv 0)) (dv 2) (fun _ _ => rfl))) (by simp)) da_nil))))))) ?_) (by decide)
  rintro ds R ex hl ⟨n, r, d, is, rfl, hx, hb, hr⟩
  obtain ⟨m1, m2, m3, i1, i2, i3⟩ := fld_lead fo (n := n) (r := r)
  refine ⟨d, rfl, rfl, d, _, _, rfl, hx, all_isI is, ?_⟩
  refine ⟨d, rfl, leadD n r, rfl, 1, _, _, rfl, m1, i1, rfl, d, is, _, rfl, hx, hb, ?_⟩
  have key : compL (tgName 2) bYes (dOp gIx (dFld G "row" (dVar 0)) (dVar 2)) (fun rs => g1 gTuple [.lst rs] R) (inEnv (env0 ["self", "values", "value"] [leadD n r, d]) [2]) (is.map D.int) [] := by
    refine compL_map (fun e => match e with | .int i => .int (atR r i) | _ => .non) (fun e he K hK => ?_) ?_
    · obtain ⟨i, hi, rfl⟩ := List.mem_map.mp he
      obtain ⟨b1, b2⟩ := hb i hi
      exact ⟨leadD n r, rfl, 1, _, _, rfl, m3, i3, .int i, rfl, _, atR_at b1 b2, hK⟩
    · show R (.tup ([] ++ _))
      rw [List.nil_append, List.map_map]
      have e : rowD (is.map (atR r)) = .tup ((is.map D.int).map fun e => match e with | .int i => .int (atR r i) | _ => .non) := by
        unfold rowD; rw [List.map_map, List.map_map]
        rfl
      rw [List.map_map] at e
      rw [← e]
      exact hr
  refine ⟨d, rfl, ?_⟩
  cases d <;> cases hx
  · exact key
  · exact key
def sThenL : FSpec := fun ds R _ => ∃ (n n2 : Int) (r r2 : List Int), ds = [leadD n r, leadD n2 r2] ∧ (r2.length : Int) = n ∧ (∀ i ∈ r, 0 ≤ i ∧ i < n) ∧ (∀ i ∈ r2, 0 ≤ i ∧ i < n2) ∧ 1 ≤ r.length ∧ r.length ≤ 5 ∧ 1 ≤ n2 ∧ n2 ≤ 5 ∧ R (leadD n2 (r.map (atR r2)))
theorem atR_mem {r : List Int} {i n : Int} (h0 : 0 ≤ i) (h1 : i < r.length) (hb : ∀ j ∈ r, 0 ≤ j ∧ j < n) : 0 ≤ atR r i ∧ atR r i < n := by
  obtain ⟨j, rfl⟩ := Int.eq_ofNat_of_zero_le h0; have hj : j < r.length := by omega
  have e : atR r (j : Int) = r[j] := by simp [atR, List.getD_eq_getElem?_getD, List.getElem?_eq_getElem hj]
  rw [e]
  exact hb _ (List.getElem_mem hj)
abbrev s_Lead_then : Stmt := inClass (topS 28) 5
theorem sc_Lead_then : FnScope ["self", "other"] ["self", "other"] (defScope s_Lead_then) := ⟨rfl, rfl, rfl, by decide +kernel, rfl, by decide +kernel, by decide +kernel⟩
theorem ok_Lead_then (F : Fun G.K "then" "Lead.then" s_Lead_then f fd) (bn : Bn mg) (fo : Gk G) (M_of : Fm G P w mg base 5 1 "of" ["self", "values"] 0 sOfL) (C_Lead : Fc G P w mg base 5 "Lead" 1 ["self", "into", "row"] 0 sLeadInitL) (r_Lead : mg "Lead" = some (.ref (G.cl 1))) : FnD G P w mg base 7 f fd ["self", "other"] 0 sThenL := by
  refine FnD.more (fnd_of F sc_Lead_then (fun cdv A outer s H E hr hg => have xk := xk_def (E := E) hr hg; (ds_cons (ds_if (dt_cmp (o_isnC) (de_ty (c_type) bn.type (da_cons (dv 1) da_nil)) (de_ref r_Lead) (by rfl)) (ds_one ds_never) ds_nil) (ds_cons (ds_if (dt_cmp (o_ne xk.K xk.u64) (de_fld xk.K fo.begin (dv 1)) (de_fld xk.K fo.into (dv 0)) (by rfl)) (ds_one ds_never) ds_nil) (ds_one (ds_ret (de_make C_Lead xk (da_cons (de_fld xk.K fo.into (dv 1)) (da_cons (de_meth M_of xk (dv 1) (da_cons (de_fld xk.K fo.row (dv 0)) da_nil)) da_nil)))))))) ?_) (by decide)
  rintro ds R ex hl ⟨n, n2, r, r2, rfl, hfit, hb, hb2, h1, h5, g1', g5, hr⟩
  obtain ⟨m1, m2, m3, i1, i2, i3⟩ := fld_lead fo (n := n) (r := r)
  obtain ⟨_, _, _, j1, j2, j3⟩ := fld_lead fo (n := n2) (r := r2)
  refine ⟨_, rfl, 1, _, rfl, G.cl 1, rfl, rfl, false, rfl, ?_⟩
  refine ⟨leadD n2 r2, rfl, 1, _, _, rfl, m1, j1, leadD n r, rfl, 1, _, _, rfl, m2, i2, ?_⟩
  refine ne_int ?_
  refine ⟨!((r2.length : Int) == n), rfl, ?_⟩
  rw [beq_iff_eq.mpr hfit]
  refine ⟨leadD n2 r2, rfl, 1, _, _, rfl, m2, j2, leadD n2 r2, rfl, _, rfl, leadD n r, rfl, 1, _, _, rfl, m3, i3, rfl, n2, r2, _, r, rfl, rfl, by rw [hfit]; exact hb, ?_⟩
  refine ⟨rfl, n2, _, r.map (atR r2), rfl, rfl, g1', g5, by simpa using h1, by simpa using h5, fun i hi => ?_, hr⟩
  obtain ⟨q, hq, rfl⟩ := List.mem_map.mp hi
  obtain ⟨b1, b2⟩ := hb q hq
  exact atR_mem b1 (by rw [hfit]; exact b2) hb2
theorem pow_val {n m : Nat} (hn : n ≤ 5) (hm : m ≤ 5) : n ^ m ≤ 3125 := pow_small hn (Nat.le_refl m) hm
def sManyRows : FSpec := fun ds R _ => ∃ n m : Nat, ds = [.int n, .int m] ∧ n ≤ 5 ∧ m ≤ 5 ∧ R (.int (n ^ m : Nat))
abbrev s_many_rows : Stmt := topS 31
theorem sc_many_rows : FnScope ["things", "many", "count", "_"] ["things", "many"] (defScope s_many_rows) := ⟨rfl, rfl, rfl, by decide +kernel, rfl, by decide +kernel, by decide +kernel⟩
theorem ok_many_rows (F : Fun G.K "many_rows" "many_rows" s_many_rows f fd) (bn : Bn mg)  : FnD G P w mg base 1 f fd ["things", "many"] 0 sManyRows := by
  refine FnD.more (fnd_of F sc_many_rows (fun cdv A outer s H E hr hg => have xk := xk_def (E := E) hr hg; (ds_cons (ds_set (i := 2) sc_many_rows.nd rfl (Or.inl rfl) de_int) (ds_cons (ds_for xk po_def (di_range1 bn.range (da_cons (dv 1) da_nil)) (dg_name (i := 3) sc_many_rows.nd rfl (Or.inl rfl)) (ds_one (ds_set (i := 2) sc_many_rows.nd rfl (Or.inl rfl) (de_op (o_mul) (dv 2) (dv 0))))) (ds_one (ds_ret (dv 2)))))) ?_) (by decide)
  rintro ds R ex hl ⟨n, m, rfl, hn, hm, hr⟩
  refine ⟨_, rfl, (m : Int), rfl, by omega, by omega, ?_⟩
  rw [Int.toNat_natCast]
  refine sForL_inv (fun i env => i ≤ m ∧ ∃ s, env = [.val (.int n), .val (.int m), .val (.int (n ^ i : Nat)), s]) 0 ⟨Nat.zero_le _, _, rfl⟩ (fun i x env hi hI nx hn2 => ?_) (fun env hI => ?_)
  · obtain ⟨him, s, rfl⟩ := hI
    rw [Nat.zero_add] at hn2 ⊢
    have hi2 : i < m := by have := (List.getElem?_eq_some_iff.mp hi).1; simpa [rangeD] using this
    refine ⟨_, rfl, _, rfl, .inr ⟨by omega, by omega⟩, hn2 _ ⟨by omega, .val x, ?_⟩⟩
    rw [Nat.pow_succ, Int.natCast_mul]
    rfl
  · obtain ⟨him, s, rfl⟩ := hI
    rw [show 0 + (rangeD 0 m).length = m by simp [rangeD]]
    exact ⟨_, rfl, hr⟩
/-- where a row stands in the list of all -/
def idxR (n : Int) (r : List Int) : Int := r.foldl (fun a i => a * n + i) 0
theorem idx_snoc (n : Int) (r : List Int) (i : Int) : idxR n (r ++ [i]) = idxR n r * n + i := by unfold idxR; rw [List.foldl_append]; rfl
theorem idx_bound {n : Int} (hn : 0 ≤ n) : ∀ {r : List Int}, (∀ i ∈ r, 0 ≤ i ∧ i < n) → 0 ≤ idxR n r ∧ idxR n r < n ^ r.length := fun {r} => by
  induction r using PyProof.Rows.FinIter.snoc_ind with
  | nil => intro _; exact ⟨Int.le_refl _, by unfold idxR; simp⟩
  | snoc r i ih =>
    intro h
    obtain ⟨h0, h1⟩ := ih fun j hj => h j (List.mem_append_left _ hj)
    obtain ⟨g0, g1⟩ := h i (List.mem_append_right _ (List.mem_singleton_self _))
    rw [idx_snoc, List.length_append, List.length_singleton, Int.pow_succ]
    have h2 : idxR n r + 1 ≤ n ^ r.length := h1
    have h3 := Int.mul_le_mul_of_nonneg_right h2 hn
    rw [Int.add_mul, Int.one_mul] at h3
    have h4 := Int.mul_nonneg h0 hn
    omega
def sRowIndex : FSpec := fun ds R _ => ∃ (d : D) (r : List Int) (n : Nat), ds = [d, .int n] ∧ d.items? = some (r.map D.int) ∧ n ≤ 5 ∧ r.length ≤ 5 ∧ (∀ i ∈ r, 0 ≤ i ∧ i < (n : Int)) ∧ R (.int (idxR n r))
abbrev s_row_index : Stmt := topS 32
theorem sc_row_index : FnScope ["row", "things", "index", "thing"] ["row", "things"] (defScope s_row_index) := ⟨rfl, rfl, rfl, by decide +kernel, rfl, by decide +kernel, by decide +kernel⟩
theorem ok_row_index (F : Fun G.K "row_index" "row_index" s_row_index f fd) (bn : Bn mg)  : FnD G P w mg base 1 f fd ["row", "things"] 0 sRowIndex := by
  refine FnD.more (fnd_of F sc_row_index (fun cdv A outer s H E hr hg => have xk := xk_def (E := E) hr hg; (ds_cons (ds_set (i := 2) sc_row_index.nd rfl (Or.inl rfl) de_int) (ds_cons (ds_for xk po_def (di_seq xk.K (dv 0)) (dg_name (i := 3) sc_row_index.nd rfl (Or.inl rfl)) (ds_one (ds_set (i := 2) sc_row_index.nd rfl (Or.inl rfl) (de_op (o_add xk.K) (de_op (o_mul) (dv 2) (dv 1)) (dv 3))))) (ds_one (ds_ret (dv 2)))))) ?_) (by decide)
  rintro ds R ex hl ⟨d, r, n, rfl, hx, hn, hrl, hv, hr⟩
  have key : ∀ (de : DEnds) (tb : DS), (∀ s, de.nx [.val d, .val (.int n), .val (.int (idxR n r)), s]) → (∀ (a i : Int) (s : Sl) (nx : List Sl → Prop), CMul a n → nx [.val d, .val (.int n), .val (.int (a * n + i)), .val (.int i)] → tb ex { de with nx := nx, ct := nx, bk := de.nx } [.val d, .val (.int n), .val (.int a), .val (.int i)]) → sForL ex (tgName 3) tb de (r.map D.int) [.val d, .val (.int n), .val (.int 0), .emp] := fun de tb hde hstep => by
    refine sForL_inv (fun i env => ∃ s, env = [.val d, .val (.int n), .val (.int (idxR n (r.take i))), s]) 0 ⟨_, rfl⟩ (fun i x env hi hI nx hn2 => ?_) (fun env hI => ?_)
    · obtain ⟨s, rfl⟩ := hI
      rw [Nat.zero_add] at hn2 ⊢
      rw [List.getElem?_map] at hi
      obtain ⟨j, hj, rfl⟩ := Option.map_eq_some_iff.mp hi
      refine hstep _ j s nx (.inr ⟨by omega, by omega⟩) (hn2 _ ⟨.val (.int j), ?_⟩)
      rw [List.take_add_one, hj, ← idx_snoc]
      rfl
    · obtain ⟨s, rfl⟩ := hI
      rw [Nat.zero_add, List.length_map, List.take_length]
      exact hde s
  cases d <;> cases hx
  all_goals
    refine ⟨_, rfl, ?_⟩
    refine key _ _ (fun s => ?_) fun a i s nx hc hn2 => ?_
    · exact ⟨_, rfl, hr⟩
    · exact ⟨_, rfl, _, rfl, hc, _, rfl, hn2⟩
def sDemPlaces : FSpec := fun ds R _ => ∃ m : Int, ds = [.int m] ∧ 1 ≤ m ∧ m ≤ 4 ∧ R .non
abbrev s_demand_many_places : Stmt := topS 20
theorem sc_demand_many_places : FnScope ["places"] ["places"] (defScope s_demand_many_places) := ⟨rfl, rfl, rfl, by decide +kernel, rfl, by decide +kernel, by decide +kernel⟩
theorem ok_demand_many_places (F : Fun G.K "demand_many_places" "demand_many_places" s_demand_many_places f fd) (bn : Bn mg) (F_demand_number : Fk G P w mg base 3 "demand_number" ["value", "least", "most", "part"] 0 sDemNumL) (g_MOST_PLACES : ∃ t, mg "MOST_PLACES" = some (.int 4 t)) : FnD G P w mg base 4 f fd ["places"] 0 sDemPlaces := by
  refine FnD.more (fnd_of F sc_demand_many_places (fun cdv A outer s H E hr hg => have xk := xk_def (E := E) hr hg; (ds_one (ds_expr (de_call F_demand_number xk (da_cons (dv 0) (da_cons de_int (da_cons (de_gint g_MOST_PLACES) (da_cons de_str da_nil)))))))) ?_) (by decide)
  rintro ds R ex hl ⟨m, rfl, h1, h2, hr⟩
  refine ⟨.int m, rfl, rfl, m, some 1, some 4, _, rfl, ?_, hr⟩
  simp [inB, h1, h2]
def sDemManyNums : FSpec := fun ds R _ => ∃ (d : D) (is : List Int) (p : D), ds = [d, .int is.length, p] ∧ d.items? = some (is.map D.int) ∧ R .non
abbrev s_demand_many_numbers : Stmt := topS 22
theorem sc_demand_many_numbers : FnScope ["values", "many", "part"] ["values", "many", "part"] (defScope s_demand_many_numbers) := ⟨rfl, rfl, rfl, by decide +kernel, rfl, by decide +kernel, by decide +kernel⟩
theorem ok_demand_many_numbers (F : Fun G.K "demand_many_numbers" "demand_many_numbers" s_demand_many_numbers f fd) (bn : Bn mg) (F_are_numbers : Fk G P w mg base 2 "are_numbers" ["value"] 0 sNumbers) : FnD G P w mg base 3 f fd ["values", "many", "part"] 0 sDemManyNums := by
  refine FnD.more (fnd_of F sc_demand_many_numbers (fun cdv A outer s H E hr hg => have xk := xk_def (E := E) hr hg; (ds_one (ds_if (dt_w (dw_or (dt_not (dt_val (de_call F_are_numbers xk (da_cons (dv 0) da_nil)))) (dw_or1 (dt_cmp (o_ne xk.K xk.u64) (de_bi (c_len xk.K) bn.len (da_cons (dv 0) da_nil)) (dv 1) (by rfl))))) (ds_one ds_never) ds_nil))) ?_) (by decide)
  rintro ds R ex hl ⟨d, is, p, rfl, hx, hr⟩
  refine ⟨d, rfl, rfl, d, rfl, kind_items hx, fun ys hy => by rw [hx] at hy; cases hy; exact kinds_isI (all_isI is), true, by rw [hx]; show D.bl ((is.map D.int).all D.isI) = _; rw [all_isI], ?_⟩
  cases d <;> cases hx
  all_goals
    refine ⟨_, rfl, ?_⟩
    refine ⟨_, rfl, ne_int ⟨_, rfl, ?_⟩⟩
    rw [List.length_map, beq_self_eq_true]
    exact hr
def sDemFew : FSpec := fun ds R _ => ∃ n m : Nat, ds = [.int n, .int m] ∧ n ≤ 5 ∧ m ≤ 5 ∧ n ^ m ≤ 256 ∧ R .non
abbrev s_demand_few_values : Stmt := topS 37
theorem sc_demand_few_values : FnScope ["things", "places"] ["things", "places"] (defScope s_demand_few_values) := ⟨rfl, rfl, rfl, by decide +kernel, rfl, by decide +kernel, by decide +kernel⟩
theorem ok_demand_few_values (F : Fun G.K "demand_few_values" "demand_few_values" s_demand_few_values f fd) (bn : Bn mg) (F_many_rows : Fk G P w mg base 1 "many_rows" ["things", "many"] 0 sManyRows) (g_MOST_VALUES : ∃ t, mg "MOST_VALUES" = some (.int 256 t)) : FnD G P w mg base 2 f fd ["things", "places"] 0 sDemFew := by
  refine FnD.more (fnd_of F sc_demand_few_values (fun cdv A outer s H E hr hg => have xk := xk_def (E := E) hr hg; (ds_one (ds_if (dt_cmp (o_gt) (de_call F_many_rows xk (da_cons (dv 0) (da_cons (dv 1) da_nil))) (de_gint g_MOST_VALUES) (by rfl)) (ds_one ds_never) ds_nil))) ?_) (by decide)
  rintro ds R ex hl ⟨n, m, rfl, hn, hm, hk, hr⟩
  refine ⟨_, rfl, _, rfl, rfl, n, m, rfl, hn, hm, trivial, _, rfl, ?_⟩
  rw [decide_eq_false (by omega)]; exact hr
def sInputs : FSpec := fun ds R _ => ∃ n m : Nat, ds = [.int n, .int m] ∧ 1 ≤ n ∧ n ≤ 5 ∧ 1 ≤ m ∧ m ≤ 4 ∧ n ^ m ≤ 256 ∧ R (.tup ((allRows n m).map rowD))
def toldD (n m : Int) (vs : List Int) : D := .ins 3 [.int n, .int m, .tup (vs.map D.int)]
/-- a told function as it is legitimate -/
structure ToldIn (n m : Nat) (vs : List Int) : Prop where
  n1 : 1 ≤ n
  n5 : n ≤ 5
  m1 : 1 ≤ m
  m4 : m ≤ 4
  k : n ^ m ≤ 256
  len : vs.length = n ^ m
  val : ∀ i ∈ vs, 0 ≤ i ∧ i < (n : Int)
def sToldInit : FSpec := fun ds R _ => ∃ (n m : Nat) (d : D) (vs : List Int), ds = [.int n, .int m, d] ∧ d.items? = some (vs.map D.int) ∧ ToldIn n m vs ∧ R (toldD n m vs)
abbrev s_Told___init__ : Stmt := inClass (topS 39) 0
theorem sc_Told___init__ : FnScope ["self", "things", "places", "tells"] ["self", "things", "places", "tells"] (defScope s_Told___init__) := ⟨rfl, rfl, rfl, by decide +kernel, rfl, by decide +kernel, by decide +kernel⟩
theorem ok_Told___init__ (F : Fun G.K "__init__" "Told.__init__" s_Told___init__ f fd) (bn : Bn mg) (fo : Gk G) (F_demand_world : Fk G P w mg base 4 "demand_world" ["things", "part"] 0 sDemWorldL) (F_demand_many_places : Fk G P w mg base 4 "demand_many_places" ["places"] 0 sDemPlaces) (F_demand_many_numbers : Fk G P w mg base 3 "demand_many_numbers" ["values", "many", "part"] 0 sDemManyNums) (F_many_rows : Fk G P w mg base 1 "many_rows" ["things", "many"] 0 sManyRows) (F_demand_things : Fk G P w mg base 3 "demand_things" ["values", "things"] 0 sDemThingsL) (F_demand_few_values : Fk G P w mg base 2 "demand_few_values" ["things", "places"] 0 sDemFew) : InitD G P w mg base 5 f fd ["self", "things", "places", "tells"] 0 3 sToldInit := by
  refine InitD.more (initd_of F sc_Told___init__ (fun cdv A outer s H E hr hg => have xk := xk_def (E := E) hr hg; (ds_cons (ds_expr (de_call F_demand_world xk (da_cons (dv 1) (da_cons de_str da_nil)))) (ds_cons (ds_expr (de_call F_demand_many_places xk (da_cons (dv 2) da_nil))) (ds_cons (ds_expr (de_call F_demand_many_numbers xk (da_cons (dv 3) (da_cons (de_call F_many_rows xk (da_cons (dv 1) (da_cons (dv 2) da_nil))) (da_cons de_str da_nil))))) (ds_cons (ds_expr (de_call F_demand_things xk (da_cons (dv 3) (da_cons (dv 1) da_nil)))) (ds_cons (ds_expr (de_call F_demand_few_values xk (da_cons (dv 1) (da_cons (dv 2) da_nil)))) (ds_cons (ds_fld (i := 0) xk.K fo.things fo.nd fo.sm rfl (dv 1)) (ds_cons (ds_fld (i := 0) xk.K fo.places fo.nd fo.sm rfl (dv 2)) (ds_one (ds_fld (i := 0) xk.K fo.tells fo.nd fo.sm rfl (de_ty (c_tuple xk.K) bn.tuple (da_cons (dv 3) da_nil)))))))))))) ?_) (by decide)
  rintro a dx ds R ex hl ⟨n, m, d, vs, rfl, hx, T, hr⟩
  obtain ⟨n1, n5, m1, m4, hk, len, hv⟩ := id T
  refine ⟨_, rfl, rfl, n, _, rfl, by omega, by omega, ?_⟩
  refine ⟨_, rfl, rfl, m, rfl, by omega, by omega, ?_⟩
  refine ⟨d, rfl, _, rfl, _, rfl, rfl, n, m, rfl, n5, by omega, ?_⟩
  rw [← len]
  refine ⟨rfl, d, vs, _, rfl, hx, ?_⟩
  refine ⟨d, rfl, _, rfl, rfl, d, vs, n, rfl, hx, hv, ?_⟩
  refine ⟨_, rfl, _, rfl, rfl, n, m, rfl, n5, by omega, hk, ?_⟩
  refine ⟨_, rfl, a, dx, 3, [], rfl, by rw [fo.fl3]; rfl, ?_⟩
  refine ⟨_, rfl, a, dx, 3, _, rfl, by rw [fo.fl3]; rfl, ?_⟩
  cases d <;> cases hx
  all_goals
    refine ⟨_, rfl, a, dx, 3, _, rfl, by rw [fo.fl3]; rfl, ?_⟩
    exact ⟨_, rfl, by rw [fo.fl3]; rfl, hr⟩
theorem fld_told (fo : Gk G) {n m : Int} {vs : List Int} : (("things" : Str) ∈ G.fl 3 ∧ ("places" : Str) ∈ G.fl 3 ∧ ("tells" : Str) ∈ G.fl 3) ∧ [D.int n, D.int m, .tup (vs.map D.int)][(G.fl 3).idxOf ("things" : Str)]? = some (.int n) ∧ [D.int n, D.int m, .tup (vs.map D.int)][(G.fl 3).idxOf ("places" : Str)]? = some (.int m) ∧ [D.int n, D.int m, .tup (vs.map D.int)][(G.fl 3).idxOf ("tells" : Str)]? = some (.tup (vs.map D.int)) := by
  rw [fo.fl3]
  exact ⟨⟨by decide +kernel, by decide +kernel, by decide +kernel⟩, by rw [show ([Str.ofString "things", "places", "tells"] : List Str).idxOf ("things" : Str) = 0 by decide +kernel]; rfl, by rw [show ([Str.ofString "things", "places", "tells"] : List Str).idxOf ("places" : Str) = 1 by decide +kernel]; rfl, by rw [show ([Str.ofString "things", "places", "tells"] : List Str).idxOf ("tells" : Str) = 2 by decide +kernel]; rfl⟩
def sEqTold : FSpec := fun ds R _ => ∃ (n m : Int) (vs : List Int) (e : D), ds = [toldD n m vs, e] ∧ ((∃ (n2 m2 : Int) (vs2 : List Int), e = toldD n2 m2 vs2 ∧ R (.bl (n == n2 && (m == m2 && vs == vs2)))) ∨ (((∃ es, e = .tup es) ∨ ∃ x, e = .str x) ∧ R (.bl false)))
abbrev s_Told___eq__ : Stmt := inClass (topS 39) 1
theorem sc_Told___eq__ : FnScope ["self", "other"] ["self", "other"] (defScope s_Told___eq__) := ⟨rfl, rfl, rfl, by decide +kernel, rfl, by decide +kernel, by decide +kernel⟩
theorem ok_Told___eq__ (F : Fun G.K "__eq__" "Told.__eq__" s_Told___eq__ f fd) (bn : Bn mg) (fo : Gk G) (r_Told : mg "Told" = some (.ref (G.cl 3))) : FnD G P w mg base 1 f fd ["self", "other"] 0 sEqTold := by
  refine FnD.more (fnd_of F sc_Told___eq__ (fun cdv A outer s H E hr hg => have xk := xk_def (E := E) hr hg; (ds_cons (ds_if (dt_cmp (o_isnA) (de_ty (c_typeA xk.K) bn.type (da_cons (dv 1) da_nil)) (de_ref r_Told) (by rfl)) (ds_one (ds_ret de_bl)) ds_nil) (ds_one (ds_ret (de_and (de_cmp (o_eq xk.K xk.u64) (de_fld xk.K fo.things (dv 0)) (de_fld xk.K fo.things (dv 1)) (by rfl)) (de_and (de_cmp (o_eq xk.K xk.u64) (de_fld xk.K fo.places (dv 0)) (de_fld xk.K fo.places (dv 1)) (by rfl)) (de_one (de_cmp (o_eq xk.K xk.u64) (de_fld xk.K fo.tells (dv 0)) (de_fld xk.K fo.tells (dv 1)) (by rfl))))))))) ?_) (by decide)
  rintro ds R ex hl ⟨n, m, vs, e, rfl, hr⟩
  obtain ⟨⟨m1, m2, m3⟩, i1, i2, i3⟩ := fld_told fo (n := n) (m := m) (vs := vs)
  rcases hr with ⟨n', m', vs', rfl, hr⟩ | ⟨he, hr⟩
  · obtain ⟨_, j1, j2, j3⟩ := fld_told fo (n := n') (m := m') (vs := vs')
    refine ⟨_, rfl, .inl ⟨3, _, rfl, ?_⟩⟩
    refine .inl ⟨G.cl 3, rfl, rfl, false, rfl, ?_⟩
    refine ⟨_, rfl, 3, _, _, rfl, m1, i1, _, rfl, 3, _, _, rfl, m1, j1, eq_int ?_⟩
    refine ⟨n == n', rfl, ite_of (fun hb => ?_) fun hb => ?_⟩
    · rw [hb] at hr
      refine ⟨_, rfl, 3, _, _, rfl, m2, i2, _, rfl, 3, _, _, rfl, m2, j2, eq_int ?_⟩
      refine ⟨m == m', rfl, ite_of (fun hc => ?_) fun hc => ?_⟩
      · rw [hc] at hr
        exact ⟨_, rfl, 3, _, _, rfl, m3, i3, _, rfl, 3, _, _, rfl, m3, j3, eq_row shaped_row hr⟩
      · rw [hc] at hr
        exact hr
    · rw [hb] at hr
      exact hr
  · refine ⟨_, rfl, .inr ?_⟩
    rcases he with ⟨es, rfl⟩ | ⟨x, rfl⟩
    · exact .inl ⟨_, rfl, .inr ⟨"tuple", G.cl 3, rfl, rfl, true, rfl, hr⟩⟩
    · exact .inr ⟨_, rfl, .inr ⟨"str", G.cl 3, rfl, rfl, true, rfl, hr⟩⟩
def sToldAt : FSpec := fun ds R _ => ∃ (n m : Nat) (vs : List Int) (d : D) (r : List Int), ds = [toldD n m vs, d] ∧ ToldIn n m vs ∧ d.items? = some (r.map D.int) ∧ r.length = m ∧ (∀ i ∈ r, 0 ≤ i ∧ i < (n : Int)) ∧ R (.int (atR vs (idxR n r)))
end
end Pg

set_option Elab.async false
set_option linter.all false
set_option maxRecDepth 100000
set_option maxHeartbeats 4100000
namespace Pg
open PySem L2 RZ Kn
section
variable {G : Gd} {P : Program} {w : World} {mg : Str → Option Value} {base : Heap} {f : Addr} {fd : FuncData}
theorem digit_len {i : Int} (h0 : 0 ≤ i) (h1 : i < 10) : (Str.ofString (toString i)).length = 1 := by
  rcases (show i = 0 ∨ i = 1 ∨ i = 2 ∨ i = 3 ∨ i = 4 ∨ i = 5 ∨ i = 6 ∨ i = 7 ∨ i = 8 ∨ i = 9 by omega) with rfl | rfl | rfl | rfl | rfl | rfl | rfl | rfl | rfl | rfl <;> decide +kernel
def numS (i : Int) : Str := Str.ofString (toString i)
theorem numS_inj {i j : Int} (h0 : 0 ≤ i) (h1 : i < 10) (g0 : 0 ≤ j) (g1 : j < 10) : numS i = numS j ↔ i = j := by
  refine ⟨fun h => ?_, fun h => by rw [h]⟩
  have key : ((List.range 10).all fun a => (List.range 10).all fun b => !(numS (a : Nat) == numS (b : Nat)) || a == b) = true := by decide +kernel
  obtain ⟨a, rfl⟩ := Int.eq_ofNat_of_zero_le h0; obtain ⟨b, rfl⟩ := Int.eq_ofNat_of_zero_le g0
  have k2 := List.all_eq_true.mp (List.all_eq_true.mp key a (List.mem_range.mpr (by omega))) b (List.mem_range.mpr (by omega))
  rcases Bool.or_eq_true_iff.mp k2 with z | z
  · rw [beq_iff_eq.mpr h] at z; cases z
  · rw [beq_iff_eq.mp z]
def spc (is : List Int) : Str := Txt.join " " (is.map numS)
def digitsOk (is : List Int) : Prop := ∀ i ∈ is, 0 ≤ i ∧ i < 10
theorem digits_len : ∀ {is : List Int}, digitsOk is → ((is.map numS).map (·.length)).sum = is.length
  | [], _ => rfl
  | i :: is, h => by
    have h1 := h i List.mem_cons_self
    rw [List.map_cons, List.map_cons, List.sum_cons, digits_len fun j hj => h j (List.mem_cons_of_mem _ hj), show (numS i).length = 1 from digit_len h1.1 h1.2, List.length_cons]
    omega
theorem digit_log {i : Int} (h0 : 0 ≤ i) (h1 : i < 10) : i.natAbs.log2 < 1920 := by
  rcases (show i = 0 ∨ i = 1 ∨ i = 2 ∨ i = 3 ∨ i = 4 ∨ i = 5 ∨ i = 6 ∨ i = 7 ∨ i = 8 ∨ i = 9 by omega) with rfl | rfl | rfl | rfl | rfl | rfl | rfl | rfl | rfl | rfl <;> decide
def sSpaced : FSpec := fun ds R _ => ∃ (d : D) (is : List Int), ds = [d] ∧ d.items? = some (is.map D.int) ∧ digitsOk is ∧ is.length ≤ 1000 ∧ R (.str (spc is))
theorem blank_len : (Str.ofString " ").length = 1 := by decide +kernel
theorem map_num {is : List Int} : (is.map D.int).map (fun e => match e with | .int i => D.str (numS i) | _ => .non) = (is.map numS).map D.str := by
  rw [List.map_map,
        List.map_map]
  rfl
abbrev s_spaced : Stmt := topS 25
theorem sc_spaced : FnScope ["numbers", "number"] ["numbers"] (defScope s_spaced) := ⟨rfl, rfl, rfl, by decide +kernel, rfl, by decide +kernel, by decide +kernel⟩
theorem ok_spaced (F : Fun G.K "spaced" "spaced" s_spaced f fd) (bn : Bn mg)  : FnD G P w mg base 1 f fd ["numbers"] 0 sSpaced := by
  refine FnD.more (fnd_of F sc_spaced (fun cdv A outer s H E hr hg => have xk := xk_def (E := E) hr hg; (ds_one (ds_ret (de_join xk.K de_str (de_comp (own := [("number", 1)]) xk sc_spaced.nd (di_seq xk.K (dv 0)) (blkOk_by (N := ["numbers", "number"]) (sc := defScope s_spaced) (by decide +kernel)) (fun s H C cl fp => (dg_name (i := 1) sc_spaced.nd rfl (Or.inl rfl))) (fun s H C cl fp => dts_nil) (fun s H C cl fp => (de_ty (c_str) bn.str (da_cons (dv 1) da_nil))) (by simp)))))) ?_) (by decide)
  rintro ds R ex hl ⟨d, is, rfl, hx, hd, hlen, hr⟩
  have key : compL (tgName 1) bYes (dBi (g1 gStrI) (aCons (dVar 1) aNil)) (fun rs => ∃ ys : List Str, (D.lst rs = .lst (ys.map D.str) ∨ D.lst rs = .tup (ys.map D.str)) ∧ (ys.map (·.length)).sum + ys.length * (Str.ofString " ").length ≤ 16777216 ∧ R (.str (Txt.join " " ys))) (inEnv (env0 ["numbers", "number"] [d]) [1]) (is.map D.int) [] := by
    refine compL_map (fun e => match e with | .int i => .str (numS i) | _ => .non) (fun e he K hK => ?_) ?_
    · obtain ⟨i, hi, rfl⟩ := List.mem_map.mp he
      obtain ⟨h0, h1⟩ := hd i hi
      exact ⟨_, rfl, digit_log h0 h1, hK⟩
    · rw [List.nil_append, map_num]
      refine ⟨is.map numS, .inl rfl, ?_, hr⟩
      rw [digits_len hd, blank_len, List.length_map]
      omega
  refine ⟨_, rfl, d, rfl, ?_⟩
  cases d <;> cases hx
  · exact key
  · exact key
theorem isB_str {m : Str} : isB (.str m) "str" = some true := by show kitB "str" "str" = some true; decide +kernel
def sStrToldno : FSpec := fun ds R _ => ∃ (n m : Int) (vs : List Int), ds = [toldD n m vs] ∧ 0 ≤ n ∧ n < 10 ∧ 0 ≤ m ∧ m < 10 ∧ digitsOk vs ∧ vs.length ≤ 1000 ∧ R (.str (numS n ++ " " ++ numS m ++ " : " ++ spc vs))
theorem spc_len {is : List Int} (h : digitsOk is) : (spc is).length ≤ 2 * is.length := by
  unfold spc
  rw [TL.join_eq]
  have h1 := StrLaws.join_length_le " " (is.map numS)
  rw [digits_len h, blank_len, List.length_map] at h1
  omega
/-- the reader of a text that is made of the words ws, p of them taken -/
def itemsD (ws : List Str) (p : Nat) : D := .ins 2 [.lst (ws.map D.str), .int p]
def sItemsInit : FSpec := fun ds R _ => ∃ ws : List Str, ds = [.str (Txt.join " " ws)] ∧ ws ≠ [] ∧ (∀ v ∈ ws, 32 ∉ TL.tl v) ∧ (Txt.join " " ws).length ≤ 90000 ∧ ws.length ≤ 90000 ∧ R (itemsD ws 0)
theorem split_words {ws : List Str} (h : ws ≠ []) (hb : ∀ v ∈ ws, 32 ∉ TL.tl v) : Txt.split (Txt.join " " ws) " " = ws :=
  TL.split_join (y := Str.ofString " ") (s := 32) (S := []) (by decide +kernel) (by decide +kernel) h hb
theorem fld_items (fo : Gk G) {a b : D} : (("words" : Str) ∈ G.fl 2 ∧ ("taken" : Str) ∈ G.fl 2 ∧ [a, b][(G.fl 2).idxOf ("words" : Str)]? = some a ∧ [a, b][(G.fl 2).idxOf ("taken" : Str)]? = some b) := by
  rw [fo.fl2]
  exact ⟨by decide, by decide, rfl, rfl⟩
abbrev s_Items___init__ : Stmt := inClass (topS 26) 0
theorem sc_Items___init__ : FnScope ["self", "text"] ["self", "text"] (defScope s_Items___init__) := ⟨rfl, rfl, rfl, by decide +kernel, rfl, by decide +kernel, by decide +kernel⟩
theorem ok_Items___init__ (F : Fun G.K "__init__" "Items.__init__" s_Items___init__ f fd) (bn : Bn mg) (fo : Gk G) : InitD G P w mg base 1 f fd ["self", "text"] 0 2 sItemsInit := by
  refine InitD.more (initd_of F sc_Items___init__ (fun cdv A outer s H E hr hg => have xk := xk_def (E := E) hr hg; (ds_cons (ds_if (dt_not (dt_val (de_bi (c_isi xk.K) bn.isinstance (da_cons (dv 1) (da_cons (de_tyn (n := "str") bn.str) da_nil))))) (ds_one ds_never) ds_nil) (ds_cons (ds_fld (i := 0) xk.K fo.words fo.nd fo.sm rfl (de_split (dv 1) de_str)) (ds_one (ds_fld (i := 0) xk.K fo.taken fo.nd fo.sm rfl de_int))))) ?_) (by decide)
  rintro a dx ds R ex hl ⟨ws, rfl, hne, hb, hlx, hlw, hr⟩
  have hsp := split_words hne hb
  refine ⟨_, rfl, _, _, rfl, isB_str, true, rfl, ?_⟩
  refine ⟨_, rfl, _, rfl, _, rfl, by decide +kernel, small (by omega), by rw [hsp]; exact small (by omega), ?_⟩
  rw [hsp]
  refine ⟨a, dx, 2, [], rfl, by rw [fo.fl2]; rfl, ?_⟩
  refine ⟨a, dx, 2, _, rfl, by rw [fo.fl2]; rfl, ?_⟩
  exact ⟨_, rfl, by rw [fo.fl2]; rfl, hr⟩
def sStands : FSpec := fun ds R _ => ∃ (ws : List Str) (p : Nat) (v : Str), ds = [itemsD ws p, .str v] ∧ R (.bl (decide (ws[p]? = some v)))
abbrev s_Items_stands : Stmt := inClass (topS 26) 1
theorem sc_Items_stands : FnScope ["self", "word"] ["self", "word"] (defScope s_Items_stands) := ⟨rfl, rfl, rfl, by decide +kernel, rfl, by decide +kernel, by decide +kernel⟩
theorem ok_Items_stands (F : Fun G.K "stands" "Items.stands" s_Items_stands f fd) (bn : Bn mg) (fo : Gk G) : FnD G P w mg base 1 f fd ["self", "word"] 0 sStands := by
  refine FnD.more (fnd_of F sc_Items_stands (fun cdv A outer s H E hr hg => have xk := xk_def (E := E) hr hg; (ds_one (ds_ret (de_and (de_cmp (o_lt) (de_fld xk.K fo.taken (dv 0)) (de_bi (c_len xk.K) bn.len (da_cons (de_fld xk.K fo.words (dv 0)) da_nil)) (by rfl)) (de_one (de_cmp (o_eqS) (de_ix xk.K (de_fld xk.K fo.words (dv 0)) (de_fld xk.K fo.taken (dv 0)) (fun _ _ => rfl)) (dv 1) (by rfl))))))) ?_) (by decide)
  rintro ds R ex hl ⟨ws, p, v, rfl, hr⟩
  obtain ⟨m1, m2, i1, i2⟩ := fld_items fo (a := .lst (ws.map D.str)) (b := .int p)
  refine ⟨_, rfl, 2, _, _, rfl, m2, i2, _, rfl, 2, _, _, rfl, m1, i1, trivial, _, rfl, ite_of (fun hb => ?_) fun hb => ?_⟩
  · have hp : p < ws.length := by
      have h1 : (p : Int) < ((ws.map D.str).length : Nat) := of_decide_eq_true hb
      rw [List.length_map] at h1
      omega
    refine ⟨_, rfl, 2, _, _, rfl, m1, i1, _, rfl, 2, _, _, rfl, m2, i2, .str ws[p], atI_nat (by rw [List.getElem?_map, List.getElem?_eq_getElem hp]; rfl), _, rfl, _, _, rfl, rfl, ?_⟩
    rw [List.getElem?_eq_getElem hp] at hr
    rw [show decide (some ws[p] = some v) = decide (ws[p] = v) by congr 1; simp] at hr
    exact hr
  · have hp : ¬ p < ws.length := fun z => by
      have h1 : ¬ (p : Int) < ((ws.map D.str).length : Nat) := of_decide_eq_false hb
      rw [List.length_map] at h1
      omega
    rw [List.getElem?_eq_none (by omega), decide_eq_false (by simp)] at hr
    exact hr
def mTake : MSpec := fun fs as R => ∃ (ws : List Str) (p : Nat) (v : Str), fs = [.lst (ws.map D.str), .int p] ∧ as = [.str v] ∧ ws[p]? = some v ∧ R .non [.lst (ws.map D.str), .int (p + 1 : Nat)]
theorem lend_items (fo : Gk G) {a dx : Addr} {ws : List Str} {p : Nat} : LendOk G (.slf a dx 2 [.lst (ws.map D.str), .int p]) (itemsD ws p) := .inr (.inl ⟨a, dx, 2, _, rfl, rfl, by rw [fo.fl2]; rfl⟩)
abbrev s_Items_take : Stmt := inClass (topS 26) 2
theorem sc_Items_take : FnScope ["self", "word"] ["self", "word"] (defScope s_Items_take) := ⟨rfl, rfl, rfl, by decide +kernel, rfl, by decide +kernel, by decide +kernel⟩
theorem ok_Items_take (F : Fun G.K "take" "Items.take" s_Items_take f fd) (bn : Bn mg) (fo : Gk G) (M_stands : Fm G P w mg base 1 2 "stands" ["self", "word"] 0 sStands) : MutD G P w mg base 2 f fd ["self", "word"] 0 2 mTake := by
  refine id (mutd_of F sc_Items_take (fun cdv A outer s H E hr hg => have xk := xk_def (E := E) hr hg; (ds_cons (ds_if (dt_not (dt_lend 0 (dt_val (de_meth M_stands xk (dv 0) (da_cons (dv 1) da_nil))))) (ds_one ds_never) ds_nil) (ds_one (ds_fldInc (i := 0) xk.K fo.taken fo.sm rfl de_int)))) ?_)
  rintro a dx fs ds R hl hfl ⟨ws, p, v, rfl, rfl, hv, hr⟩
  obtain ⟨m1, m2, i1, i2⟩ := fld_items fo (a := .lst (ws.map D.str)) (b := .int p)
  refine ⟨_, _, rfl, lend_items fo, _, rfl, _, rfl, _, rfl, rfl, ws, p, v, rfl, _, rfl, ?_⟩
  rw [decide_eq_true hv]
  refine ⟨a, dx, 2, _, rfl, m2, p, i2, 1, rfl, ?_⟩
  refine ⟨_, rfl, by rw [fo.fl2]; rfl, ?_⟩
  have e : [D.lst (ws.map D.str), .int p].set ((G.fl 2).idxOf ("taken" : Str)) (.int (p + 1)) = [D.lst (ws.map D.str), .int (p + 1 : Nat)] := by rw [fo.fl2]; rfl
  rw [e]
  exact hr
def mTakeN : MSpec := fun fs as R => ∃ (ws : List Str) (p : Nat) (lo hi v : Int), fs = [.lst (ws.map D.str), .int p] ∧ as = [.int lo, .int hi] ∧ 0 ≤ lo ∧ lo ≤ v ∧ v ≤ hi ∧ hi < 10 ∧ ws[p]? = some (numS v) ∧ R (.int v) [.lst (ws.map D.str), .int (p + 1 : Nat)]
abbrev s_Items_take_number : Stmt := inClass (topS 26) 3
theorem sc_Items_take_number : FnScope ["self", "least", "most", "number"] ["self", "least", "most"] (defScope s_Items_take_number) := ⟨rfl, rfl, rfl, by decide +kernel, rfl, by decide +kernel, by decide +kernel⟩
theorem ok_Items_take_number (F : Fun G.K "take_number" "Items.take_number" s_Items_take_number f fd) (bn : Bn mg) (fo : Gk G) (M_stands : Fm G P w mg base 1 2 "stands" ["self", "word"] 0 sStands) : MutD G P w mg base 2 f fd ["self", "least", "most"] 0 2 mTakeN := by
  refine id (mutd_of F sc_Items_take_number (fun cdv A outer s H E hr hg => have xk := xk_def (E := E) hr hg; (ds_cons (ds_for xk po_def (di_range2 bn.range (da_cons (dv 1) (da_cons (de_op (o_add xk.K) (dv 2) de_int) da_nil))) (dg_name (i := 3) sc_Items_take_number.nd rfl (Or.inl rfl)) (ds_one (ds_if (dt_lend 0 (dt_val (de_meth M_stands xk (dv 0) (da_cons (de_ty (c_str) bn.str (da_cons (dv 3) da_nil)) da_nil)))) (ds_cons (ds_fldInc (i := 0) xk.K fo.taken fo.sm rfl de_int) (ds_one (ds_ret (dv 3)))) ds_nil))) (ds_one ds_never))) ?_)
  rintro a dx fs ds R hl hfl ⟨ws, p, lo, hi, v, rfl, rfl, h0, h1, h2, h3, hv, hr⟩
  obtain ⟨m1, m2, i1, i2⟩ := fld_items fo (a := .lst (ws.map D.str)) (b := .int p)
  refine ⟨_, rfl, _, rfl, lo, hi + 1, rfl, by omega, by omega, by omega, by omega, by omega, ?_⟩
  refine sForL_inv (fun i env => lo + i ≤ v ∧ ∃ s, env = [.slf a dx 2 [.lst (ws.map D.str), .int p], .val (.int lo), .val (.int hi), s]) 0 ⟨by omega, _, rfl⟩ (fun i x env hi' hI nx hn => ?_) (fun env hI => ?_)
  · obtain ⟨hiv, s, rfl⟩ := hI
    rw [Nat.zero_add] at hiv hn
    have hx : x = .int (lo + i) := by
      have hi2 : i < (hi + 1 - lo).toNat := by have := (List.getElem?_eq_some_iff.mp hi').1; simpa [rangeD] using this
      have : (rangeD lo (hi + 1 - lo).toNat)[i]? = some (.int (lo + (i : Int))) := by simp [rangeD, hi2]
      rw [this] at hi'; cases hi'; rfl
    subst hx
    refine ⟨_, _, rfl, lend_items fo, _, rfl, _, rfl, _, rfl, digit_log (by omega) (by omega), rfl, ws, p, numS (lo + i), rfl, _, rfl, ?_⟩
    refine ite_of (fun hb => ?_) fun hb => ?_
    · have e0 : some (numS v) = some (numS (lo + i)) := by rw [← hv]; exact of_decide_eq_true hb
      have e1 : v = lo + i := (numS_inj (by omega) (by omega) (by omega) (by omega)).mp (Option.some.inj e0)
      refine ⟨a, dx, 2, _, rfl, m2, p, i2, 1, rfl, ?_⟩
      refine ⟨_, rfl, rfl, _, rfl, by rw [fo.fl2]; rfl, ?_⟩
      have e : [D.lst (ws.map D.str), .int p].set ((G.fl 2).idxOf ("taken" : Str)) (.int (p + 1)) = [D.lst (ws.map D.str), .int (p + 1 : Nat)] := by rw [fo.fl2]; rfl
      rw [e, ← e1]
      exact hr
    · have ne : v ≠ lo + i := fun z => (of_decide_eq_false hb) (by rw [hv, z])
      exact hn _ ⟨by omega, _, rfl⟩
  · obtain ⟨hiv, _⟩ := hI
    have e : (rangeD lo (hi + 1 - lo).toNat).length = (hi + 1 - lo).toNat := by simp [rangeD]
    rw [e] at hiv
    omega
def mTakeEnd : MSpec := fun fs as R => ∃ (ws : List Str), fs = [.lst (ws.map D.str), .int ws.length] ∧ as = [] ∧ R .non [.lst (ws.map D.str), .int ws.length]
abbrev s_Items_take_end : Stmt := inClass (topS 26) 4
theorem sc_Items_take_end : FnScope ["self"] ["self"] (defScope s_Items_take_end) := ⟨rfl, rfl, rfl, by decide +kernel, rfl, by decide +kernel, by decide +kernel⟩
theorem ok_Items_take_end (F : Fun G.K "take_end" "Items.take_end" s_Items_take_end f fd) (bn : Bn mg) (fo : Gk G) : MutD G P w mg base 1 f fd ["self"] 0 2 mTakeEnd := by
  refine id (mutd_of F sc_Items_take_end (fun cdv A outer s H E hr hg => have xk := xk_def (E := E) hr hg; (ds_one (ds_if (dt_lend 0 (dt_cmp (o_lt) (de_fld xk.K fo.taken (dv 0)) (de_bi (c_len xk.K) bn.len (da_cons (de_fld xk.K fo.words (dv 0)) da_nil)) (by rfl))) (ds_one ds_never) ds_nil))) ?_)
  rintro a dx fs ds R hl hfl ⟨ws, rfl, rfl, hr⟩
  obtain ⟨m1, m2, i1, i2⟩ := fld_items fo (a := .lst (ws.map D.str)) (b := .int ws.length)
  refine ⟨_, _, rfl, lend_items fo, _, rfl, 2, _, _, rfl, m2, i2, _, rfl, 2, _, _, rfl, m1, i1, trivial, _, rfl, ite_of (fun hb => ?_) fun hb => ?_⟩
  · have h1 : (ws.length : Int) < ((ws.map D.str).length : Nat) := of_decide_eq_true hb
    rw [List.length_map] at h1
    omega
  · exact ⟨_, rfl, by rw [fo.fl2]; rfl, hr⟩
/-- the text of a lead -/
def wordsL (r : List Int) (n : Int) : List Str := r.map numS ++ [(":" : Str), numS n]
def txtL (r : List Int) (n : Int) : Str := Txt.join " " (wordsL r n)
def LeadIn (r : List Int) (n : Int) : Prop := 1 ≤ r.length ∧ r.length ≤ 5 ∧ 1 ≤ n ∧ n ≤ 5 ∧ ∀ i ∈ r, 0 ≤ i ∧ i < n
theorem LeadIn.digits {r : List Int} {n : Int} (h : LeadIn r n) : digitsOk r := fun i hi => by
  have := h.2.2.2.2 i hi
  have := h.2.2.2.1
  omega
theorem digit_tl {i : Int} (h0 : 0 ≤ i) (h1 : i < 10) : 32 ∉ TL.tl (numS i) := by
  rcases (show i = 0 ∨ i = 1 ∨ i = 2 ∨ i = 3 ∨ i = 4 ∨ i = 5 ∨ i = 6 ∨ i = 7 ∨ i = 8 ∨ i = 9 by omega) with rfl | rfl | rfl | rfl | rfl | rfl | rfl | rfl | rfl | rfl <;> decide +kernel
theorem digit_colon {i : Int} (h0 : 0 ≤ i) (h1 : i < 10) : numS i ≠ (":" : Str) := by
  rcases (show i = 0 ∨ i = 1 ∨ i = 2 ∨ i = 3 ∨ i = 4 ∨ i = 5 ∨ i = 6 ∨ i = 7 ∨ i = 8 ∨ i = 9 by omega) with rfl | rfl | rfl | rfl | rfl | rfl | rfl | rfl | rfl | rfl <;> decide +kernel
theorem words_tl {r : List Int} {n : Int} (h : LeadIn r n) : ∀ v ∈ wordsL r n, 32 ∉ TL.tl v := fun v hv => by
  rcases List.mem_append.mp hv with hv | hv
  · obtain ⟨i, hi, rfl⟩ := List.mem_map.mp hv
    obtain ⟨a, b⟩ := h.digits i hi
    exact digit_tl a b
  · rcases List.mem_cons.mp hv with rfl | hv
    · decide +kernel
    · rw [List.mem_singleton.mp hv]
      have := h.2.2.1
      have := h.2.2.2.1
      exact digit_tl (by omega) (by omega)
theorem words_len {r : List Int} {n : Int} (h : LeadIn r n) : (txtL r n).length ≤ 100 := by
  unfold txtL wordsL
  rw [TL.join_eq]
  have h1 := StrLaws.join_length_le " " (r.map numS ++ [(":" : Str), numS n])
  rw [List.map_append, List.sum_append, digits_len h.digits, blank_len, List.length_append, List.length_map] at h1
  have hn : (numS n).length = 1 := digit_len (by have := h.2.2.1; omega) (by have := h.2.2.2.1; omega)
  have hc : (Str.ofString ":").length = 1 := by decide +kernel
  have hs : (([(":" : Str), numS n] : List Str).map (·.length)).sum = 2 := by
    show (Str.ofString ":").length + ((numS n).length + 0) = 2
    omega
  rw [hs] at h1
  have := h.2.1
  simp only [List.length_cons, List.length_nil] at h1; omega
def sReadLead : FSpec := fun ds R _ => ∃ (r : List Int) (n : Int), ds = [.str (txtL r n)] ∧ LeadIn r n ∧ R (leadD n r)
theorem word_at {r : List Int} {n : Int} {j : Nat} (hj : j < r.length) : (wordsL r n)[j]? = some (numS r[j]) := by
  unfold wordsL
  rw [List.getElem?_append_left (by rw [List.length_map]; exact hj), List.getElem?_map, List.getElem?_eq_getElem hj]
  rfl
theorem word_colon {r : List Int} {n : Int} : (wordsL r n)[r.length]? = some ":" := by
  unfold wordsL
  rw [List.getElem?_append_right (by rw [List.length_map]; exact Nat.le_refl _), List.length_map, Nat.sub_self]
  rfl
theorem word_last {r : List Int} {n : Int} : (wordsL r n)[r.length + 1]? = some (numS n) := by
  unfold wordsL
  rw [List.getElem?_append_right (by rw [List.length_map]; omega), List.length_map, show r.length + 1 - r.length = 1 by omega]
  rfl
theorem plain_strs : ∀ ts : List Str, plainL (ts.map D.str) = true
  | [] => rfl
  | t :: ts => by
    show (true && plainL (ts.map D.str)) = true
    rw [plain_strs ts]; rfl
theorem words_n {r : List Int} {n : Int} : (wordsL r n).length = r.length + 2 := by simp [wordsL]
abbrev s_Lead_read : Stmt := inClass (topS 28) 3
theorem sc_Lead_read : FnScope ["text", "reading", "row", "into"] ["text"] (defScope s_Lead_read) := ⟨rfl, rfl, rfl, by decide +kernel, rfl, by decide +kernel, by decide +kernel⟩
theorem ok_Lead_read (F : Fun G.K "read" "Lead.read" s_Lead_read f fd) (bn : Bn mg) (fo : Gk G) (M_stands : Fm G P w mg base 1 2 "stands" ["self", "word"] 0 sStands) (MM_take_number : Fmm G P w mg base 2 2 "take_number" ["self", "least", "most"] 0 mTakeN) (MM_take : Fmm G P w mg base 2 2 "take" ["self", "word"] 0 mTake) (MM_take_end : Fmm G P w mg base 1 2 "take_end" ["self"] 0 mTakeEnd) (C_Items : Fc G P w mg base 1 "Items" 2 ["self", "text"] 0 sItemsInit) (C_Lead : Fc G P w mg base 5 "Lead" 1 ["self", "into", "row"] 0 sLeadInitL) (g_MOST_THINGS : ∃ t, mg "MOST_THINGS" = some (.int 5 t)) : FnD G P w mg base 7 f fd ["text"] 0 sReadLead := by
  refine FnD.more (fnd_of F sc_Lead_read (fun cdv A outer s H E hr hg => have xk := xk_def (E := E) hr hg; (ds_cons (ds_make (i := 1) sc_Lead_read.nd rfl (Or.inl rfl) C_Items xk (da_cons (dv 0) da_nil)) (ds_cons (ds2_one (i := 2) sc_Lead_read.nd rfl (Or.inl rfl) (d2_meth (i := 1) MM_take_number xk rfl (da_cons de_int (da_cons (de_op (o_sub) (de_gint g_MOST_THINGS) de_int) da_nil)))) (ds_cons (ds_while po_def (dt_w (dw_and (dt_lend 2 (dt_cmp (o_lt) (de_bi (c_len xk.K) bn.len (da_cons (dv 2) da_nil)) (de_gint g_MOST_THINGS) (by rfl))) (dw_and1 (dt_not (dt_lend 1 (dt_val (de_meth M_stands xk (dv 1) (da_cons de_str da_nil)))))))) (ds_one (ds2_app (i := 2) rfl (d2_meth (i := 1) MM_take_number xk rfl (da_cons de_int (da_cons (de_op (o_sub) (de_gint g_MOST_THINGS) de_int) da_nil)))))) (ds_cons (ds2_expr (d2_meth (i := 1) MM_take xk rfl (da_cons de_str da_nil))) (ds_cons (ds2_set (i := 3) sc_Lead_read.nd rfl (Or.inl rfl) (d2_meth (i := 1) MM_take_number xk rfl (da_cons (de_op (o_add xk.K) (de_lend 2 (de_bi (c_maxL xk.calm) bn.max (da_cons (dv 2) da_nil))) de_int) (da_cons (de_gint g_MOST_THINGS) da_nil)))) (ds_cons (ds2_expr (d2_meth0 (i := 1) MM_take_end xk rfl)) (ds_freeze (i := 2) (ds_one (ds_ret (de_make C_Lead xk (da_cons (dv 3) (da_cons (dv 2) da_nil))))))))))))) ?_) (by decide)
  rintro ds R ex hl ⟨r, n, rfl, hL, hr⟩
  obtain ⟨l1, l5, n1, n5, hv⟩ := id hL
  have hdg := hL.digits
  generalize hws : wordsL r n = ws
  have hfl : ∀ d e : D, [d, e].length = (G.fl 2).length := fun d e => by rw [fo.fl2]; rfl
  have wat : ∀ j (hj : j < r.length), ws[j]? = some (numS r[j]) := fun j hj => by rw [← hws]; exact word_at hj
  refine seq_to (fun env' => ∃ a dx, env' = [.val (.str (txtL r n)), .slf a dx 2 [.lst (ws.map D.str), .int (0 : Nat)], .emp, .emp]) (fun de' hnx hrt => ?_) (fun env' e => ?_)
  · refine ⟨_, rfl, rfl, ws, by rw [← hws]; rfl, fun z => (by have := @words_n r n; rw [hws, z] at this; simp at this), by rw [← hws]; exact words_tl hL, by rw [← hws]; have := words_len hL; unfold txtL at this; omega, by rw [← hws, words_n]; omega, fun ds' e => ?_⟩
    have e' : ds' = [.lst (ws.map D.str), .int (0 : Nat)] := by cases e; rfl
    subst e'
    exact ⟨by rw [show plainL [D.lst (ws.map D.str), .int (0 : Nat)] = (plainL (ws.map D.str) && true) from rfl, plain_strs]; rfl, fun _ a dx => hnx _ ⟨a, dx, rfl⟩⟩
  obtain ⟨a, dx, rfl⟩ := e
  refine seq_to (fun env' => ∃ b, env' = [.val (.str (txtL r n)), .slf a dx 2 [.lst (ws.map D.str), .int (1 : Nat)], .own b ((r.take 1).map D.int), .emp]) (fun de' hnx hrt => ?_) (fun env' e => ?_)
  · have h0 := hv r[0] (List.getElem_mem (by omega))
    refine ⟨a, dx, _, rfl, hfl _ _, trivial, rfl, ws, 0, 0, 5 - 1, r[0], rfl, rfl, by omega, h0.1, by omega, by omega, wat 0 (by omega), fun _ b => hnx _ ⟨b, ?_⟩⟩
    have e1 : r.take 1 = [r[0]] := by
      cases r with
      | nil => simp at l1
      | cons x q => rfl
    rw [e1]
    rfl
  obtain ⟨b, rfl⟩ := e
  refine seq_to (fun env' => env' = [.val (.str (txtL r n)), .slf a dx 2 [.lst (ws.map D.str), .int r.length], .own b (r.map D.int), .emp]) (fun de' hnx hrt => ?_) (fun env' e => ?_)
  · refine ⟨fun m env => ∃ j, 1 ≤ j ∧ j ≤ r.length ∧ m = r.length - j ∧ env = [.val (.str (txtL r n)), .slf a dx 2 [.lst (ws.map D.str), .int j], .own b ((r.take j).map D.int), .emp], ⟨r.length - 1, by omega, 1, by omega, l1, rfl, rfl⟩, fun m env hI => ?_⟩
    obtain ⟨j, j1, j2, rfl, rfl⟩ := hI
    have hlen : ((r.take j).map D.int).length = j := by rw [List.length_map, List.length_take]; omega
    have out : j = r.length → de'.nx [.val (.str (txtL r n)), .slf a dx 2 [.lst (ws.map D.str), .int j], .own b ((r.take j).map D.int), .emp] := fun e => hnx _ (by rw [e, List.take_length])
    refine ⟨_, _, rfl, .inl ⟨_, _, rfl, rfl⟩, _, rfl, trivial, _, rfl, ite_of (fun hb => ?_) fun hb => ?_⟩
    · refine ⟨_, _, rfl, lend_items fo, _, rfl, _, rfl, rfl, ws, j, ":", rfl, _, rfl, ?_⟩
      by_cases hj : j < r.length
      · have hne : ws[j]? ≠ some (":" : Str) := by
          rw [wat j hj]
          have hd := hdg r[j] (List.getElem_mem hj)
          intro z
          exact digit_colon hd.1 hd.2 (Option.some.inj z)
        rw [decide_eq_false hne]
        have hvj := hv r[j] (List.getElem_mem hj)
        refine ⟨b, _, rfl, a, dx, _, rfl, hfl _ _, trivial, rfl, ws, j, 0, 5 - 1, r[j], rfl, rfl, by omega, hvj.1, by omega, by omega, wat j hj, fun _ => ⟨by rw [hlen, sizeLine_eq]; omega, rfl, r.length - (j + 1), by omega, j + 1, by omega, by omega, rfl, ?_⟩⟩
        rw [List.take_succ, List.getElem?_eq_getElem hj, List.map_append]
        rfl
      · have ej : j = r.length := by omega
        rw [decide_eq_true (show ws[j]? = some (":" : Str) by rw [ej, ← hws]; exact word_colon)]
        exact out ej
    · have h5 : ¬ ((((r.take j).map D.int).length : Nat) : Int) < 5 := of_decide_eq_false hb
      rw [hlen] at h5
      exact out (by omega)
  subst e
  refine seq_to (fun env' => env' = [.val (.str (txtL r n)), .slf a dx 2 [.lst (ws.map D.str), .int (r.length + 1 : Nat)], .own b (r.map D.int), .emp]) (fun de' hnx hrt => ?_) (fun env' e => ?_)
  · exact ⟨a, dx, _, rfl, hfl _ _, rfl, ws, r.length, ":", rfl, rfl, by rw [← hws]; exact word_colon, fun _ => hnx _ rfl⟩
  subst e
  refine seq_to (fun env' => env' = [.val (.str (txtL r n)), .slf a dx 2 [.lst (ws.map D.str), .int (r.length + 2 : Nat)], .own b (r.map D.int), .val (.int n)]) (fun de' hnx hrt => ?_) (fun env' e => ?_)
  · refine ⟨a, dx, _, rfl, hfl _ _, _, _, rfl, .inl ⟨_, _, rfl, rfl⟩, _, rfl, r, rfl, by omega, fun m hm hmax => ⟨rfl, ?_⟩⟩
    have hvm := hv m hm
    exact ⟨rfl, ws, r.length + 1, m + 1, 5, n, rfl, rfl, by omega, by omega, by omega, by omega, by rw [← hws]; exact word_last, fun _ => hnx _ rfl⟩
  subst e
  refine seq_to (fun env' => env' = [.val (.str (txtL r n)), .slf a dx 2 [.lst (ws.map D.str), .int (r.length + 2 : Nat)], .own b (r.map D.int), .val (.int n)]) (fun de' hnx hrt => ?_) (fun env' e => ?_)
  · have el : r.length + 2 = ws.length := by rw [← hws, words_n]
    rw [el] at hnx ⊢
    exact ⟨a, dx, _, rfl, hfl _ _, rfl, ws, rfl, rfl, fun _ => hnx _ rfl⟩
  subst e
  exact ⟨b, _, rfl, _, rfl, _, rfl, rfl, n, _, r, rfl, rfl, by omega, by omega, by omega, by omega, hv, hr⟩
end
end Pg

set_option Elab.async false
set_option linter.all false
set_option maxRecDepth 100000
set_option maxHeartbeats 4100000
namespace Pg
open PySem L2 RZ Kn
section
variable {G : Gd} {P : Program} {w : World} {mg : Str → Option Value} {base : Heap} {f : Addr} {fd : FuncData}
theorem rows_at {n : Nat} : ∀ {r : List Int} {m : Nat}, r.length = m → (∀ i ∈ r, 0 ≤ i ∧ i < (n : Int)) → (allRows n m)[(idxR n r).toNat]? = some r := fun {r} => by
  induction r using PyProof.Rows.FinIter.snoc_ind with
  | nil =>
    intro m hm _
    subst hm
    rfl
  | snoc r i ih =>
    intro m hm hv
    subst hm
    have hv' : ∀ j ∈ r, 0 ≤ j ∧ j < (n : Int) := fun j hj => hv j (List.mem_append_left _ hj)
    obtain ⟨g0, g1⟩ := hv i (List.mem_append_right _ (List.mem_singleton_self _))
    obtain ⟨t, rfl⟩ := Int.eq_ofNat_of_zero_le g0
    obtain ⟨b0, _⟩ := idx_bound (n := n) (by omega) hv'
    have ht : t < n := by omega
    have e := ih rfl hv'
    rw [List.length_append, List.length_singleton, idx_snoc]
    obtain ⟨j, hj⟩ := Int.eq_ofNat_of_zero_le b0
    rw [hj, show ((j : Int) * (n : Int) + (t : Int)).toNat = j * n + t by rw [← Int.natCast_mul, ← Int.natCast_add, Int.toNat_natCast]]
    rw [hj, Int.toNat_natCast] at e
    show ((allRows n r.length).flatMap fun r => (List.range n).map fun (t : Nat) => r ++ [(t : Int)])[j * n + t]? = _
    rw [flat_at (k := n) (fun x _ => by simp) e ht, List.getElem?_map, List.getElem?_range ht]
    rfl
theorem idx_of_row {n : Nat} : ∀ {m j : Nat} {r : List Int}, (allRows n m)[j]? = some r → idxR n r = (j : Int)
  | 0, j, r, h => by
    obtain ⟨hj, e⟩ := List.getElem?_eq_some_iff.mp h
    have hj' : j < 1 := hj
    have e0 : j = 0 := by omega
    subst e0
    have e1 : ([] : List Int) = r := e
    rw [← e1]; rfl
  | m + 1, j, r, h => by
    obtain ⟨hj, _⟩ := List.getElem?_eq_some_iff.mp h
    rw [allRows_len, Nat.pow_succ] at hj
    have hn : 0 < n := by
      rcases Nat.eq_zero_or_pos n with z | z
      · rw [z] at hj; simp at hj
      · exact z
    have hd : j / n < (allRows n m).length := by rw [allRows_len]; exact (Nat.div_lt_iff_lt_mul hn).mpr hj
    have hmod := Nat.mod_lt j hn
    have hsum := Nat.div_add_mod j n
    have e := flat_at (k := n) (g := fun r : List Int => (List.range n).map fun (t : Nat) => r ++ [(t : Int)]) (fun x _ => by simp) (List.getElem?_eq_getElem hd) hmod
    rw [Nat.mul_comm, hsum] at e
    have h' : ((allRows n m).flatMap fun r => (List.range n).map fun (t : Nat) => r ++ [(t : Int)])[j]? = some r := h
    rw [h', List.getElem?_map, List.getElem?_range hmod] at e
    have e' := Option.some.inj e
    rw [e', idx_snoc, idx_of_row (List.getElem?_eq_getElem hd), ← Int.natCast_mul, ← Int.natCast_add, Nat.mul_comm, hsum]

/-- a told function at a row; a row led; whether a lead parts a told function at a row -/
def fV (n : Nat) (vs r : List Int) : Int := atR vs (idxR n r)
def ledR (l r : List Int) : List Int := r.map (atR l)
def partsB (n : Nat) (vs l r : List Int) : Bool := fV n vs (ledR l r) != atR l (fV n vs r)
def partO (n m : Nat) (vs l : List Int) : Option (List Int) := (allRows n m).find? (partsB n vs l)
def optD : Option (List Int) → D
  | none => .non
  | some r => rowD r
theorem mem_rows {n m : Nat} {r : List Int} (hl : r.length = m) (hv : ∀ i ∈ r, 0 ≤ i ∧ i < (n : Int)) : r ∈ allRows n m := List.mem_of_getElem? (rows_at hl hv)
theorem atR_val {l : List Int} {i n : Int} (h0 : 0 ≤ i) (h1 : i < l.length) (hv : ∀ j ∈ l, 0 ≤ j ∧ j < n) : 0 ≤ atR l i ∧ atR l i < n := (atR_in h0 h1 hv).2
theorem led_row {n k m : Nat} {l r : List Int} (hl : RowIn k n l) (hr : r.length = m) (hv : ∀ i ∈ r, 0 ≤ i ∧ i < (k : Int)) : (ledR l r).length = m ∧ ∀ i ∈ ledR l r, 0 ≤ i ∧ i < (n : Int) := by
  refine ⟨by unfold ledR; rw [List.length_map, hr], fun i hi => ?_⟩
  obtain ⟨j, hj, rfl⟩ := List.mem_map.mp hi
  obtain ⟨h0, h1⟩ := hv j hj
  exact atR_val h0 (by rw [hl.1]; exact h1) hl.2
theorem fV_val {n m : Nat} {vs r : List Int} (T : ToldIn n m vs) (hl : r.length = m) (hv : ∀ i ∈ r, 0 ≤ i ∧ i < (n : Int)) : 0 ≤ fV n vs r ∧ fV n vs r < (n : Int) := by
  obtain ⟨b0, b1⟩ := idx_bound (n := n) (by omega) hv
  exact atR_val b0 (by rw [T.len, hl] at *; exact_mod_cast b1) T.val
theorem idx_toNat {n m : Nat} {r : List Int} (hl : r.length = m) (hv : ∀ i ∈ r, 0 ≤ i ∧ i < (n : Int)) : ∃ k : Nat, idxR n r = k ∧ k < n ^ m ∧ (allRows n m)[k]? = some r := by
  obtain ⟨b0, b1⟩ := idx_bound (n := n) (by omega) hv
  obtain ⟨k, hk⟩ := Int.eq_ofNat_of_zero_le b0
  have h1 := rows_at hl hv
  rw [hk] at h1 b1
  refine ⟨k, hk, ?_, h1⟩
  rw [hl] at b1
  exact_mod_cast b1
theorem told_vals {n m : Nat} {vs : List Int} (hl : vs.length = n ^ m) : (allRows n m).map (fV n vs) = vs := by
  refine List.ext_getElem? fun j => ?_; rw [List.getElem?_map]
  cases h : (allRows n m)[j]? with
  | none =>
    have h2 : n ^ m ≤ j := by rw [← allRows_len n m]; exact List.getElem?_eq_none_iff.mp h
    rw [List.getElem?_eq_none (by omega)]; rfl
  | some r =>
    have e := idx_of_row h
    have hj : j < vs.length := by rw [hl, ← allRows_len n m]; exact (List.getElem?_eq_some_iff.mp h).1
    show some (fV n vs r) = _
    unfold fV atR
    rw [e, Int.toNat_natCast, List.getD_eq_getElem?_getD, List.getElem?_eq_getElem hj]; rfl
theorem find_idx {α : Type} (p : α → Bool) : ∀ (l : List α) (x : α), l.find? p = some x → ∃ k : Nat, l[k]? = some x ∧ p x = true ∧ ∀ j : Nat, j < k → ∀ y : α, l[j]? = some y → p y = false
  | [], x, h => by cases h
  | y :: l, x, h => by
    rw [List.find?_cons] at h
    cases hp : p y with
    | true =>
      rw [hp] at h
      cases h
      exact ⟨0, rfl, hp, fun j hj => by omega⟩
    | false =>
      rw [hp] at h
      obtain ⟨k, h1, h2, h3⟩ := find_idx p l x h
      refine ⟨k + 1, h1, h2, fun j hj z hz => ?_⟩
      cases j with
      | zero => cases hz; exact hp
      | succ j => exact h3 j (by omega) z hz

def sRowAt : FSpec := fun ds R _ => ∃ (n m : Nat) (r : List Int), ds = [.int (idxR n r), .int n, .int m] ∧ 1 ≤ n ∧ n ≤ 5 ∧ r.length = m ∧ m ≤ 5 ∧ (∀ i ∈ r, 0 ≤ i ∧ i < (n : Int)) ∧ R (rowD r)
abbrev s_row_at : Stmt := topS 33
theorem sc_row_at : FnScope ["index", "things", "many", "row", "_"] ["index", "things", "many"] (defScope s_row_at) := ⟨rfl, rfl, rfl, by decide +kernel, rfl, by decide +kernel, by decide +kernel⟩
theorem ok_row_at (F : Fun G.K "row_at" "row_at" s_row_at f fd) (bn : Bn mg)  : FnD G P w mg base 1 f fd ["index", "things", "many"] 0 sRowAt := by
  refine FnD.more (fnd_of F sc_row_at (fun cdv A outer s H E hr hg => have xk := xk_def (E := E) hr hg; (ds_cons (ds_own (i := 3) sc_row_at.nd rfl (Or.inl rfl) (df_lst da_nil)) (ds_cons (ds_for xk po_def (di_range1 bn.range (da_cons (dv 2) da_nil)) (dg_name (i := 4) sc_row_at.nd rfl (Or.inl rfl)) (ds_cons (ds_app (i := 3) rfl (de_op (o_mod) (dv 0) (dv 1))) (ds_one (ds_set (i := 0) sc_row_at.nd rfl (Or.inl rfl) (de_op (o_div) (dv 0) (dv 1)))))) (ds_freeze (i := 3) (ds_one (ds_ret (de_ty (c_tuple xk.K) bn.tuple (da_cons (de_revL (dv 3)) da_nil)))))))) ?_) (by decide)
  rintro ds R ex hl ⟨n, m, r, rfl, n1, n5, hrl, m5, hv, hr⟩
  refine ⟨small (by simp), fun a => ?_⟩
  dsimp only [List.set]
  refine seq_to (fun env' => ∃ a s0 s4, env' = [s0, .val (.int n), .val (.int m), .own a (r.reverse.map D.int), s4]) (fun de' hnx hrt => ?_) (fun env' e => ?_)
  · refine ⟨_, rfl, (m : Int), rfl, by omega, by omega, ?_⟩
    rw [Int.toNat_natCast]
    refine sForL_rng (fun i env => i ≤ m ∧ ∃ a s, env = [.val (.int (idxR n (r.take (m - i)))), .val (.int n), .val (.int m), .own a ((r.drop (m - i)).reverse.map D.int), s]) ⟨Nat.zero_le _, a, .emp, ?_⟩ (fun i env hi hI nx hn2 => ?_) (fun env hI => ?_)
    · rw [Nat.sub_zero, ← hrl, List.take_length, List.drop_length]; rfl
    · obtain ⟨him, a, s, rfl⟩ := hI
      have hj : m - i - 1 < r.length := by omega
      have e1 : r.take (m - i) = r.take (m - i - 1) ++ [r[m - i - 1]] := by
        have := List.take_succ (l := r) (i := m - i - 1)
        rw [show m - i - 1 + 1 = m - i by omega, List.getElem?_eq_getElem hj] at this
        exact this
      have e2 : r.drop (m - i - 1) = r[m - i - 1] :: r.drop (m - i) := by
        rw [List.drop_eq_getElem_cons hj, show m - i - 1 + 1 = m - i by omega]
      obtain ⟨x0, x1⟩ := hv _ (List.getElem_mem hj)
      have hq := (idx_bound (n := n) (r := r.take (m - i - 1)) (by omega) fun j hj => hv j (List.mem_of_mem_take hj)).1
      rw [e1, idx_snoc]
      have em : (idxR n (r.take (m - i - 1)) * n + r[m - i - 1]) % (n : Int) = r[m - i - 1] := by
        rw [Int.add_comm, Int.add_mul_emod_self_right, Int.emod_eq_of_lt x0 x1]
      have ed : (idxR n (r.take (m - i - 1)) * n + r[m - i - 1]) / (n : Int) = idxR n (r.take (m - i - 1)) := by
        rw [Int.add_comm, Int.add_mul_ediv_right _ _ (by omega), Int.ediv_eq_zero_of_lt x0 x1, Int.zero_add]
      refine ⟨a, _, rfl, _, rfl, _, rfl, by omega, ?_⟩
      dsimp only
      rw [em]
      refine ⟨small (by simp; omega), _, rfl, _, rfl, ⟨by omega, by omega⟩, ?_⟩
      dsimp only
      rw [ed]
      refine hn2 _ ⟨by omega, a, .val (.int i), ?_⟩
      rw [show m - (i + 1) = m - i - 1 by omega, e2, List.reverse_cons, List.map_append]
      rfl
    · obtain ⟨_, a, s, rfl⟩ := hI
      refine hnx _ ⟨a, .val (.int (idxR n (r.take (m - m)))), s, ?_⟩
      rw [Nat.sub_self, List.drop_zero]
  obtain ⟨a, s0, s4, rfl⟩ := e
  refine ⟨a, _, rfl, _, rfl, _, rfl, ?_⟩
  rw [← List.map_reverse, List.reverse_reverse]
  exact hr
def sLedIdx : FSpec := fun ds R _ => ∃ (k n m : Nat) (l : List Int), ds = [rowD l, .int n, .int m] ∧ k ≤ 5 ∧ n ≤ 5 ∧ m ≤ 4 ∧ RowIn k n l ∧ R (.lst (((allRows k m).map fun r => idxR n (ledR l r)).map D.int))
theorem led_snoc (l r : List Int) (i : Int) : ledR l (r ++ [i]) = ledR l r ++ [atR l i] := by unfold ledR; rw [List.map_append]; rfl
theorem idx_small {n m : Nat} {r : List Int} (hn : n ≤ 5) (hm : m ≤ 5) (hl : r.length = m) (hv : ∀ i ∈ r, 0 ≤ i ∧ i < (n : Int)) : 0 ≤ idxR n r ∧ idxR n r < 3200 := by
  obtain ⟨k, h1, h2, _⟩ := idx_toNat hl hv
  have := pow_val hn hm
  omega
abbrev s_led_indices : Stmt := topS 34
theorem sc_led_indices : FnScope ["row", "into", "many", "indices", "_", "index", "thing"] ["row", "into", "many"] (defScope s_led_indices) := ⟨rfl, rfl, rfl, by decide +kernel, rfl, by decide +kernel, by decide +kernel⟩
theorem ok_led_indices (F : Fun G.K "led_indices" "led_indices" s_led_indices f fd) (bn : Bn mg)  : FnD G P w mg base 1 f fd ["row", "into", "many"] 0 sLedIdx := by
  refine FnD.more (fnd_of F sc_led_indices (fun cdv A outer s H E hr hg => have xk := xk_def (E := E) hr hg; (ds_cons (ds_set (i := 3) sc_led_indices.nd rfl (Or.inl rfl) (de_lst (da_cons de_int da_nil))) (ds_cons (ds_for xk po_def (di_range1 bn.range (da_cons (dv 2) da_nil)) (dg_name (i := 4) sc_led_indices.nd rfl (Or.inl rfl)) (ds_one (ds_setComp2 (i := 3) (own := [("index", 5), ("thing", 6)]) (vs1 := [6]) xk sc_led_indices.nd rfl rfl (sw_true rfl rfl rfl (by decide +kernel)) (di_seq xk.K (dv 3)) (blkOk_by (N := ["row", "into", "many", "indices", "_", "index", "thing"]) (sc := defScope s_led_indices) (by decide +kernel)) (by simp) (fun s H C cl fp => (dg_name (i := 5) sc_led_indices.nd rfl (Or.inl rfl))) (fun s H C cl fp => dts_nil) (fun s H C cl fp => (di_seq (Xk.blk xk _ _ _ _ _).K (dv 0))) (fun s H C cl fp => (dg_name (i := 6) sc_led_indices.nd rfl (Or.inl rfl))) (fun s H C cl fp => dts_nil) (fun s H C cl fp => (de_op (o_add (Xk.blk xk _ _ _ _ _).K) (de_op (o_mul) (dv 5) (dv 1)) (dv 6))) (by simp) (by simp)))) (ds_one (ds_ret (dv 3)))))) ?_) (by decide)
  rintro ds R ex hl ⟨k, n, m, l, rfl, k5, n5, m4, L, hr⟩
  refine ⟨small (by simp), ?_⟩
  refine ⟨_, rfl, (m : Int), rfl, by omega, by omega, ?_⟩
  rw [Int.toNat_natCast]
  refine sForL_rng (fun i env => i ≤ m ∧ ∃ s, env = [.val (rowD l), .val (.int n), .val (.int m), .val (.lst (((allRows k i).map fun r => idxR n (ledR l r)).map D.int)), s, .emp, .emp]) ⟨Nat.zero_le _, .emp, rfl⟩ (fun i env hi hI nx hn2 => ?_) (fun env hI => ?_)
  · obtain ⟨him, s, rfl⟩ := hI
    refine ⟨_, rfl, ?_⟩
    have hlen : ((((allRows k i).map fun r => idxR n (ledR l r)).map D.int).flatMap fun _ => l.map D.int).length = k ^ (i + 1) := by
      rw [flat_const, List.length_map, List.length_map, List.length_map, allRows_len, L.1, Nat.pow_succ]
    refine compL2_map (fun _ => l.map D.int) (fun d e => match d, e with | .int a, .int b => .int (a * n + b) | _, _ => .non) ?_ (fun d hd K acc2 hK hl2 => ?_) ?_
    · rw [hlen]
      have := pow_val (n := k) (m := i + 1) k5 (by omega)
      exact small (by simp; omega)
    · obtain ⟨v, hv, rfl⟩ := List.mem_map.mp hd
      obtain ⟨r, hr2, rfl⟩ := List.mem_map.mp hv
      have hrl := allRows_row k i r hr2
      obtain ⟨g1, g2⟩ := led_row (n := n) L hrl (allRows_val k i r hr2)
      obtain ⟨b0, b1⟩ := idx_small n5 (by omega) g1 g2
      refine ⟨_, rfl, ?_⟩
      refine compI_map _ hl2 (fun e he K2 hK2 => ?_) hK
      obtain ⟨t, ht, rfl⟩ := List.mem_map.mp he
      exact ⟨_, rfl, _, rfl, .inr ⟨by omega, by omega⟩, _, rfl, hK2⟩
    · refine hn2 _ ⟨by omega, .val (.int i), ?_⟩
      have e : ((((allRows k i).map fun r => idxR n (ledR l r)).map D.int).flatMap fun d => (l.map D.int).map fun e => match d, e with | .int a, .int b => D.int (a * n + b) | _, _ => .non) = ((allRows k (i + 1)).map fun r => idxR n (ledR l r)).map D.int := by
        rw [show allRows k (i + 1) = (allRows k i).flatMap fun r => (List.range k).map fun (t : Nat) => r ++ [(t : Int)] from rfl, List.map_map, List.map_map, List.map_flatMap, List.flatMap_map]
        congr 1
        funext r
        have el : l.map D.int = (List.range k).map fun (t : Nat) => D.int (atR l (t : Int)) := by
          have e0 : l = (idx k).map (atR l) := by rw [← L.1]; exact (idx_at l).symm
          conv => lhs; rw [e0]
          unfold idx
          rw [List.map_map, List.map_map]; rfl
        rw [el, List.map_map, List.map_map]
        refine List.map_congr_left fun t _ => ?_
        show D.int (idxR n (ledR l r) * n + atR l (t : Int)) = D.int (idxR n (ledR l (r ++ [(t : Int)])))
        rw [led_snoc, idx_snoc]
      rw [List.nil_append, e]
      rfl
  · obtain ⟨him, s, rfl⟩ := hI
    exact ⟨_, rfl, hr⟩
def sDemTold : FSpec := fun ds R _ => ∃ (n m : Int) (vs : List Int), ds = [toldD n m vs] ∧ R .non
abbrev s_demand_told : Stmt := topS 40
theorem sc_demand_told : FnScope ["told"] ["told"] (defScope s_demand_told) := ⟨rfl, rfl, rfl, by decide +kernel, rfl, by decide +kernel, by decide +kernel⟩
theorem ok_demand_told (F : Fun G.K "demand_told" "demand_told" s_demand_told f fd) (bn : Bn mg) (r_Told : mg "Told" = some (.ref (G.cl 3))) : FnD G P w mg base 1 f fd ["told"] 0 sDemTold := by
  refine FnD.more (fnd_of F sc_demand_told (fun cdv A outer s H E hr hg => (ds_one (ds_if (dt_cmp (o_isnC) (de_ty (c_type) bn.type (da_cons (dv 0) da_nil)) (de_ref r_Told) (by rfl)) (ds_one ds_never) ds_nil))) ?_) (by decide)
  rintro ds R ex hl ⟨n, m, vs, rfl, hr⟩
  exact ⟨_, rfl, 3, _, rfl, G.cl 3, rfl, rfl, false, rfl, hr⟩
theorem zipWith_ne : ∀ (a b : List Int), (a.zip b).map (fun p => p.1 != p.2) = List.zipWith (fun x y => x != y) a b
  | [], _ => rfl
  | _ :: _, [] => rfl
  | x :: a, y :: b => by rw [List.zip_cons_cons, List.map_cons, zipWith_ne a b]; rfl
def sFirst : FSpec := fun ds R _ => ∃ (n m : Nat) (vs l : List Int), ds = [toldD n m vs, toldD n m vs, rowD l] ∧ ToldIn n m vs ∧ RowIn n n l ∧ R (optD (partO n m vs l))
theorem ledT {n m : Nat} {vs l : List Int} (T : ToldIn n m vs) (L : RowIn n n l) {r : List Int} (hr : r ∈ allRows n m) : fV n vs (ledR l r) = atR vs (idxR n (ledR l r)) := rfl
theorem ne_zip (T1 T2 : List Int) : zipD (T1.map D.int) (T2.map D.int) = (T1.zip T2).map fun p => .tup [.int p.1, .int p.2] := zip_map _ _ _ _
/-- the first row where two ways tell unlike -/
theorem first_ne {rows : List (List Int)} {f g : List Int → Int} : (rows.map f == rows.map g) = (rows.find? fun r => f r != g r).isNone := by
  induction rows with
  | nil => rfl
  | cons r rows ih =>
    rw [List.map_cons, List.map_cons, List.find?_cons]
    cases h : (f r != g r) with
    | true =>
      have hne : f r ≠ g r := by simpa using h
      have : ((f r :: rows.map f) == (g r :: rows.map g)) = false := by
        refine beq_eq_false_iff_ne.mpr fun e => hne (List.cons.inj e).1
      rw [this]; rfl
    | false =>
      have he : f r = g r := by simpa using h
      rw [← ih, he]
      show ((g r == g r) && (rows.map f == rows.map g)) = _
      rw [beq_self_eq_true, Bool.true_and]
def boolsD (bs : List Bool) : D := .lst (bs.map D.bl)
end
end Pg

set_option Elab.async false
set_option linter.all false
set_option maxRecDepth 100000
set_option maxHeartbeats 4100000
namespace Pg
open PySem L2 RZ Kn
section
variable {G : Gd} {P : Program} {w : World} {mg : Str → Option Value} {base : Heap} {f : Addr} {fd : FuncData}
theorem pdL_bl : ∀ bs : List Bool, pdL (bs.map D.bl) = some (bs.map PyData.bool)
  | [] => rfl
  | b :: bs => by
    show (match pd (.bl b), pdL (bs.map D.bl) with | some p, some ps => some (p :: ps) | _, _ => none) = _
    rw [pdL_bl bs]; rfl
theorem lay_bl : ∀ bs : List Bool, PyData.canLayAll0 (bs.map PyData.bool) = true
  | [] => rfl
  | b :: bs => by
    show (true && PyData.canLayAll0 (bs.map PyData.bool)) = true
    rw [lay_bl bs]; rfl
theorem depth_bl : ∀ bs : List Bool, PyData.depthAll (bs.map PyData.bool) ≤ 1
  | [] => by decide
  | b :: bs => by
    show max (0 + 0) (PyData.depthAll (bs.map PyData.bool)) ≤ 1
    have := depth_bl bs
    omega
theorem shaped_bl (bs : List Bool) : SeqAt.shaped (.list (bs.map PyData.bool)) = true := by
  unfold SeqAt.shaped
  rw [show PyData.canLay0 (.list (bs.map PyData.bool)) = PyData.canLayAll0 (bs.map PyData.bool) from rfl, lay_bl, Bool.true_and]
  have := depth_bl bs
  exact decide_eq_true (by show PyData.depthAll (bs.map PyData.bool) + 1 ≤ 64; omega)
abbrev s_first_parting : Stmt := topS 42
theorem sc_first_parting : FnScope ["begin", "into", "lead_row", "led", "asked", "index", "value", "one", "other"] ["begin", "into", "lead_row"] (defScope s_first_parting) := ⟨rfl, rfl, rfl, by decide +kernel, rfl, by decide +kernel, by decide +kernel⟩
theorem ok_first_parting (F : Fun G.K "first_parting" "first_parting" s_first_parting f fd) (bn : Bn mg) (fo : Gk G) (F_led_indices : Fk G P w mg base 1 "led_indices" ["row", "into", "many"] 0 sLedIdx) (F_row_at : Fk G P w mg base 1 "row_at" ["index", "things", "many"] 0 sRowAt) : FnD G P w mg base 2 f fd ["begin", "into", "lead_row"] 0 sFirst := by
  refine FnD.more (fnd_of F sc_first_parting (fun cdv A outer s H E hr hg => have xk := xk_def (E := E) hr hg; (ds_cons (ds_setComp (i := 3) (own := [("index", 5)]) xk sc_first_parting.nd rfl rfl (sw_true rfl rfl rfl (by decide +kernel)) (di_seq xk.K (de_call F_led_indices xk (da_cons (dv 2) (da_cons (de_fld xk.K fo.things (dv 1)) (da_cons (de_fld xk.K fo.places (dv 0)) da_nil))))) (blkOk_by (N := ["begin", "into", "lead_row", "led", "asked", "index", "value", "one", "other"]) (sc := defScope s_first_parting) (by decide +kernel)) (fun s H C cl fp => (dg_name (i := 5) sc_first_parting.nd rfl (Or.inl rfl))) (fun s H C cl fp => dts_nil) (fun s H C cl fp => (de_ix (Xk.blk xk _ _ _ _ _).K (de_fld (Xk.blk xk _ _ _ _ _).K fo.tells (dv 1)) (dv 5) (fun _ _ => rfl))) (by simp)) (ds_cons (ds_setComp (i := 4) (own := [("value", 6)]) xk sc_first_parting.nd rfl rfl (sw_true rfl rfl rfl (by decide +kernel)) (di_seq xk.K (de_fld xk.K fo.tells (dv 0))) (blkOk_by (N := ["begin", "into", "lead_row", "led", "asked", "index", "value", "one", "other"]) (sc := defScope s_first_parting) (by decide +kernel)) (fun s H C cl fp => (dg_name (i := 6) sc_first_parting.nd rfl (Or.inl rfl))) (fun s H C cl fp => dts_nil) (fun s H C cl fp => (de_ix (Xk.blk xk _ _ _ _ _).K (dv 2) (dv 6) (fun _ _ => rfl))) (by simp)) (ds_cons (ds_if (dt_cmp (o_eq xk.K xk.u64) (dv 3) (dv 4) (by rfl)) (ds_one (ds_ret de_non)) ds_nil) (ds_cons (ds_set (i := 5) sc_first_parting.nd rfl (Or.inl rfl) (de_index xk (de_comp (own := [("one", 7), ("other", 8)]) xk sc_first_parting.nd (di_zip xk.K bn.zip (da_cons (dv 3) (da_cons (dv 4) da_nil))) (blkOk_by (N := ["begin", "into", "lead_row", "led", "asked", "index", "value", "one", "other"]) (sc := defScope s_first_parting) (by decide +kernel)) (fun s H C cl fp => (dg_two (i := 7) (j := 8) (Xk.blk xk _ _ _ _ _).K (Xk.blk xk _ _ _ _ _).calm sc_first_parting.nd rfl (Or.inl rfl) rfl (Or.inl rfl) (pg_name sc_first_parting.nd rfl (Or.inl rfl)) (pg_name sc_first_parting.nd rfl (Or.inl rfl)))) (fun s H C cl fp => dts_nil) (fun s H C cl fp => (de_cmp (o_ne (Xk.blk xk _ _ _ _ _).K (Xk.blk xk _ _ _ _ _).u64) (dv 7) (dv 8) (by rfl))) (by simp)) de_bl)) (ds_one (ds_ret (de_call F_row_at xk (da_cons (dv 5) (da_cons (de_fld xk.K fo.things (dv 0)) (da_cons (de_fld xk.K fo.places (dv 0)) da_nil))))))))))) ?_) (by decide)
  rintro ds R ex hl ⟨n, m, vs, l, rfl, T, L, hr⟩
  obtain ⟨n1, n5, p1, p4, hk, len, hv⟩ := id T
  obtain ⟨⟨m1, m2, m3⟩, i1, i2, i3⟩ := fld_told fo (n := n) (m := m) (vs := vs)
  refine seq_to (fun env' => env' = [.val (toldD n m vs), .val (toldD n m vs), .val (rowD l), .val (.lst (((allRows n m).map fun r => fV n vs (ledR l r)).map D.int)), .emp, .emp, .emp, .emp, .emp]) (fun de' hnx hrt => ?_) (fun env' e => ?_)
  · refine ⟨_, rfl, _, rfl, 3, _, _, rfl, m1, i1, _, rfl, 3, _, _, rfl, m2, i2, rfl, n, n, m, l, rfl, n5, n5, p4, L, ?_⟩
    rw [List.map_map]
    refine compL_of _ (fun r => D.int (fV n vs (ledR l r))) (fun r hr2 K hK => ?_) ?_
    · obtain ⟨g1, g2⟩ := led_row (n := n) L (allRows_row n m r hr2) (allRows_val n m r hr2)
      obtain ⟨k, hk1, hk2, _⟩ := idx_toNat g1 g2
      have hat := (atR_in (r := vs) (i := idxR n (ledR l r)) (n := n) (by omega) (by rw [len]; omega) hv).1
      exact ⟨_, rfl, 3, _, _, rfl, m3, i3, _, rfl, _, hat, hK⟩
    · rw [List.nil_append]
      refine hnx _ ?_
      rw [List.map_map]; rfl
  subst e
  refine seq_to (fun env' => env' = [.val (toldD n m vs), .val (toldD n m vs), .val (rowD l), .val (.lst (((allRows n m).map fun r => fV n vs (ledR l r)).map D.int)), .val (.lst (((allRows n m).map fun r => atR l (fV n vs r)).map D.int)), .emp, .emp, .emp, .emp]) (fun de' hnx hrt => ?_) (fun env' e => ?_)
  · refine ⟨_, rfl, 3, _, _, rfl, m3, i3, ?_⟩
    refine compL_of _ (fun v => D.int (atR l v)) (fun v hv2 K hK => ?_) ?_
    · obtain ⟨v0, v1⟩ := hv v hv2
      have hat := (atR_in (r := l) (i := v) (n := n) v0 (by rw [L.1]; exact v1) L.2).1
      exact ⟨_, rfl, _, rfl, _, hat, hK⟩
    · rw [List.nil_append]
      refine hnx _ ?_
      have e : (vs.map fun v => D.int (atR l v)) = ((allRows n m).map fun r => atR l (fV n vs r)).map D.int := by
        conv => lhs; rw [← told_vals (n := n) (m := m) len]
        rw [List.map_map, List.map_map]; rfl
      rw [e]; rfl
  subst e
  refine seq_to (fun env' => (partO n m vs l).isNone = false ∧ env' = [.val (toldD n m vs), .val (toldD n m vs), .val (rowD l), .val (.lst (((allRows n m).map fun r => fV n vs (ledR l r)).map D.int)), .val (.lst (((allRows n m).map fun r => atR l (fV n vs r)).map D.int)), .emp, .emp, .emp, .emp]) (fun de' hnx hrt => ?_) (fun env' e => ?_)
  · refine ⟨_, rfl, _, rfl, eq_lst ⟨_, rfl, ?_⟩⟩
    rw [first_ne]
    refine ite_of (fun hb => ?_) (fun hb => hnx _ ⟨hb, rfl⟩)
    have e0 : partO n m vs l = none := Option.isNone_iff_eq_none.mp hb
    show de'.rt .non _
    rw [hrt]
    rw [e0] at hr
    exact hr
  obtain ⟨hs, rfl⟩ := e
  cases hp : partO n m vs l with
  | none => rw [hp] at hs; cases hs
  | some r =>
    rw [hp] at hr
    obtain ⟨k, hk1, hk2, hk3⟩ := find_idx _ _ _ hp
    have hmem := List.mem_of_getElem? hk1
    have hrl := allRows_row n m r hmem
    have hrv := allRows_val n m r hmem
    refine seq_to (fun env' => ∃ s4, env' = [.val (toldD n m vs), .val (toldD n m vs), .val (rowD l), .val (.lst (((allRows n m).map fun r => fV n vs (ledR l r)).map D.int)), s4, .val (.int (k : Nat)), .emp, .emp, .emp]) (fun de' hnx hrt => ?_) (fun env' e => ?_)
    · refine ⟨_, rfl, _, rfl, ?_⟩
      show compL _ _ _ _ _ (zipD _ _) _
      have ez : zipD (((allRows n m).map fun r => fV n vs (ledR l r)).map D.int) (((allRows n m).map fun r => atR l (fV n vs r)).map D.int) = (allRows n m).map fun r => .tup [.int (fV n vs (ledR l r)), .int (atR l (fV n vs r))] := by rw [zip_map, List.zip_map', List.map_map]; rfl
      rw [ez]
      refine compL_of _ (fun r => D.bl (partsB n vs l r)) (fun r hr2 K hK => ?_) ?_
      · exact ⟨_, rfl, _, rfl, ne_int hK⟩
      · rw [List.nil_append]
        refine ⟨_, ((allRows n m).map (partsB n vs l)).map PyData.bool, rfl, ?_, shaped_bl _, .bool true, k, .bool true, rfl, by decide +kernel, ?_, rfl, fun j z hj hz => ?_, hnx _ ⟨_, rfl⟩⟩
        · rw [← pdL_bl, List.map_map]; rfl
        · rw [List.getElem?_map, List.getElem?_map, hk1, Option.map_some, hk2]; rfl
        · rw [List.getElem?_map, List.getElem?_map] at hz
          obtain ⟨b, hb, rfl⟩ := Option.map_eq_some_iff.mp hz
          obtain ⟨y, hy, rfl⟩ := Option.map_eq_some_iff.mp hb
          rw [hk3 j hj y hy]; rfl
    obtain ⟨s4, rfl⟩ := e
    have e1 := idx_of_row hk1
    exact ⟨_, rfl, _, rfl, 3, _, _, rfl, m1, i1, _, rfl, 3, _, _, rfl, m2, i2, rfl, n, m, r, by rw [e1], n1, n5, hrl, by omega, hrv, hr⟩
def sParting : FSpec := fun ds R _ => ∃ (n m : Nat) (vs l : List Int), ds = [toldD n m vs, leadD n l] ∧ ToldIn n m vs ∧ RowIn n n l ∧ R (optD (partO n m vs l))
abbrev s_parting_row : Stmt := topS 43
theorem sc_parting_row : FnScope ["told", "lead"] ["told", "lead"] (defScope s_parting_row) := ⟨rfl, rfl, rfl, by decide +kernel, rfl, by decide +kernel, by decide +kernel⟩
theorem ok_parting_row (F : Fun G.K "parting_row" "parting_row" s_parting_row f fd) (bn : Bn mg) (fo : Gk G) (F_demand_told : Fk G P w mg base 1 "demand_told" ["told"] 0 sDemTold) (F_first_parting : Fk G P w mg base 2 "first_parting" ["begin", "into", "lead_row"] 0 sFirst) (r_Lead : mg "Lead" = some (.ref (G.cl 1))) : FnD G P w mg base 3 f fd ["told", "lead"] 0 sParting := by
  refine FnD.more (fnd_of F sc_parting_row (fun cdv A outer s H E hr hg => have xk := xk_def (E := E) hr hg; (ds_cons (ds_expr (de_call F_demand_told xk (da_cons (dv 0) da_nil))) (ds_cons (ds_if (dt_cmp (o_isnC) (de_ty (c_type) bn.type (da_cons (dv 1) da_nil)) (de_ref r_Lead) (by rfl)) (ds_one ds_never) ds_nil) (ds_cons (ds_if (dt_w (dw_or (dt_cmp (o_ne xk.K xk.u64) (de_fld xk.K fo.begin (dv 1)) (de_fld xk.K fo.things (dv 0)) (by rfl)) (dw_or1 (dt_cmp (o_ne xk.K xk.u64) (de_fld xk.K fo.into (dv 1)) (de_fld xk.K fo.things (dv 0)) (by rfl))))) (ds_one ds_never) ds_nil) (ds_one (ds_ret (de_call F_first_parting xk (da_cons (dv 0) (da_cons (dv 0) (da_cons (de_fld xk.K fo.row (dv 1)) da_nil)))))))))) ?_) (by decide)
  rintro ds R ex hl ⟨n, m, vs, l, rfl, T, L, hr⟩
  obtain ⟨⟨m1, m2, m3⟩, i1, i2, i3⟩ := fld_told fo (n := n) (m := m) (vs := vs)
  obtain ⟨k1, k2, k3, j1, j2, j3⟩ := fld_lead fo (n := n) (r := l)
  refine ⟨_, rfl, rfl, n, m, vs, rfl, ?_⟩
  refine ⟨_, rfl, 1, _, rfl, G.cl 1, rfl, rfl, false, rfl, ?_⟩
  have eb : ((l.length : Int) == n) = true := by rw [L.1]; exact beq_self_eq_true _
  refine ⟨_, rfl, 1, _, _, rfl, k1, j1, _, rfl, 3, _, _, rfl, m1, i1, ne_int ⟨_, rfl, ?_⟩⟩
  rw [eb]
  refine ⟨_, rfl, 1, _, _, rfl, k2, j2, _, rfl, 3, _, _, rfl, m1, i1, ne_int ⟨_, rfl, ?_⟩⟩
  rw [beq_self_eq_true]
  refine ⟨_, rfl, _, rfl, _, rfl, 1, _, _, rfl, k3, j3, rfl, n, m, vs, l, rfl, T, L, hr⟩
end
end Pg

set_option Elab.async false
set_option linter.all false
set_option maxRecDepth 100000
set_option maxHeartbeats 4100000
namespace Pg
open PySem L2 RZ Kn
section
variable {G : Gd} {P : Program} {w : World} {mg : Str → Option Value} {base : Heap} {f : Addr} {fd : FuncData}
end
section
variable {P : Program} {w : World} {K : PySem.W.Frag} {mg : Str → Option Value} {base : Heap} {f : Addr} {fd : FuncData}
abbrev s_law_bowl : Stmt := topS 45
theorem sc_law_bowl : FnScope ["script", "cell"] ["script"] (defScope s_law_bowl) := ⟨rfl, rfl, rfl, by decide +kernel, rfl, by decide +kernel, by decide +kernel⟩
theorem ok_law_bowl (F : Fun K "_law_bowl" "_law_bowl" s_law_bowl f fd) (bi : mg "int" = none) : FnOk P w K mg base (L2.CX P w) 1 f fd ["script"] (spPen K) := by
  refine F.okX sc_law_bowl (fun vs H Q E h => ?_) (fun cdv A outer s H vs Q E hr h => ?_)
  · obtain ⟨a, ns, rfl, _⟩ := h
    rfl
  obtain ⟨a, ns, rfl, hS, hlen, q⟩ := h
  refine ⟨_, pss_one (ps_ret (pe_lst (pa_cons (pe_lc (own := [("cell", 1)]) rfl sc_law_bowl.nd (pi_sq (pe_slice sl_list (pe_var (i := 0) rfl (by first | exact Or.inl rfl | exact Or.inr (Or.inl rfl) | exact Or.inr (Or.inr rfl)) (by decide) (by decide)) po_none (po_some pe_int))) (blkOk_by (N := ["script", "cell"]) (sc := defScope s_law_bowl) (by decide +kernel))
    (fun s H C cl fp => pg_name (i := 1) sc_law_bowl.nd rfl (Or.inl rfl)) (fun s H C cl fp => pts_nil) (fun s H C cl fp => pe_callTy call_int1 rfl bi (by decide +kernel) (pa_cons (pe_var (i := 1) rfl (by first | exact Or.inl rfl | exact Or.inr (Or.inl rfl) | exact Or.inr (Or.inr rfl)) (by decide) (by decide)) pa_nil) (by decide) (by decide) rfl rfl)) (pa_cons pe_int (pa_cons pe_int pa_nil))))), ?_⟩
  refine ⟨.ref a, rfl, 60, rfl, a, _, rfl, hS, fun c hc => ?_⟩
  have hn60 : (ns.take 60).length ≤ 60 := by rw [List.length_take]; omega
  have k1 : ∀ b o, H b = some o → upd H c (.lst (cutV (ns.map V.int) none (some 60))) b = some o := fun b o e => by rw [upd_ne (ne_of_none e hc)]; exact e
  have hcl : upd H c (.lst (cutV (ns.map V.int) none (some 60))) c = some (.lst ((ns.take 60).map V.int)) := by rw [upd_same, cut_ints]
  generalize upd H c (.lst (cutV (ns.map V.int) none (some 60))) = H1 at *
  generalize ns.take 60 = cs at *
  refine ⟨c, rfl, .inl ⟨⟨_, SqL.of hcl⟩, fun D hD => ?_⟩⟩
  have hDc : c ≠ D := ne_of_none hcl hD
  refine ⟨fun i m H2 => i ≤ cs.length ∧ m = cs.length - i ∧ (∀ b o, H1 b = some o → H2 b = some o) ∧ H2 D = some (.lst ((cs.take i).map V.int)), ⟨_, Nat.zero_le _, rfl, fun b o e => by rw [upd_ne (ne_of_none e hD)]; exact e, by rw [upd_same]; rfl⟩, fun i m H2 hW => ?_⟩
  obtain ⟨hi, rfl, k2, hD2⟩ := hW
  have hc2 := SqL.of (K := K) (k2 _ _ hcl)
  by_cases hlt : i < cs.length
  · refine .inr ⟨⟨_, .int (cs[i]), hc2, by rw [List.getElem?_map, List.getElem?_eq_getElem hlt]; rfl⟩, fun H3 => (∀ b o, H1 b = some o → H3 b = some o) ∧ H3 D = some (.lst ((cs.take (i + 1)).map V.int)), fun H3 ⟨e1, e2⟩ => ⟨cs.length - (i + 1), by omega, hlt, rfl, e1, e2⟩, fun x H3 hy => ?_⟩
    obtain ⟨rfl, hx⟩ := hy
    have ex : x = .int (cs[i]) := by
      have := hx _ hc2
      rw [List.getElem?_map, List.getElem?_eq_getElem hlt] at this; exact (Option.some.inj this).symm
    subst ex
    refine ⟨rfl, ?_⟩
    refine ⟨_, rfl, .inl ⟨_, rfl, _, hD2, by rw [List.length_map, List.length_take, sizeLine_eq]; omega, fun b o e => ?_, ?_⟩⟩
    · rw [upd_ne (ne_of_none e hD)]; exact k2 b o e
    · rw [upd_same, List.take_succ, List.getElem?_eq_getElem hlt, List.map_append]
      rfl
  · have e : i = cs.length := by omega
    refine .inl ⟨⟨_, hc2, by rw [List.length_map]; omega⟩, ?_⟩
    refine ⟨small (by simp), fun p hp => ?_⟩
    have hpD : D ≠ p := ne_of_none hD2 hp
    refine q _ p D cs (fun b o e _ => ?_) ?_ ?_ (Ne.symm hpD) (by omega) upd_same ?_
    · have e2 := k2 b o (k1 b o e)
      rw [upd_ne (ne_of_none e2 hp)]; exact e2
    · cases hq : H p with
      | none => rfl
      | some o => rw [k2 p o (k1 p o hq)] at hp; cases hp
    · cases hq : H D with
      | none => rfl
      | some o => rw [k1 D o hq] at hD; cases hD
    · rw [upd_ne hpD, hD2, e, List.take_length]
end
section
variable {G : Gd} {P : Program} {w : World} {mg : Str → Option Value} {base : Heap} {f : Addr} {fd : FuncData}
abbrev s_law_spoon : Stmt := topS 46
theorem sc_law_spoon : FnScope ["bowl", "many", "rest", "at", "cell", "mixed"] ["bowl", "many"] (defScope s_law_spoon) := ⟨rfl, rfl, rfl, by decide +kernel, rfl, by decide +kernel, by decide +kernel⟩
theorem ok_law_draw (F : Fun G.K "_law_spoon" "_law_spoon" s_law_spoon f fd) (bn : Bn mg) : FnD G P w mg base 1 f fd ["bowl", "many"] 1 sDraw := by
  refine draw_of F sc_law_spoon rfl (fun cdv A outer s H E hr hg => have xk := xk_def (G := { G with u := none }) (E := E) hr hg; (ds_cons (ds_if (dt_cmp (o_gt) (de_oix (i := 0) rfl de_int (fun _ _ => rfl)) de_int (by rfl)) (ds_cons (ds_set (i := 2) sc_law_spoon.nd rfl (Or.inl rfl) (de_ty (c_int) bn.int (da_cons (de_oix (i := 0) rfl de_int (fun _ _ => rfl)) da_nil))) (ds_cons (ds_setIx (i := 0) rfl (de_op (o_div) (dv 2) (dv 1)) de_int) (ds_one (ds_ret (de_op (o_mod) (de_ty (c_int) bn.int (da_cons (dv 2) da_nil)) (dv 1)))))) ds_nil) (ds_cons (ds_set (i := 3) sc_law_spoon.nd rfl (Or.inl rfl) (de_oix (i := 0) rfl de_int (fun _ _ => rfl))) (ds_cons (ds_setIx (i := 0) rfl (de_op (o_add xk.K) (dv 3) de_int) de_int) (ds_cons (ds_set (i := 4) sc_law_spoon.nd rfl (Or.inl rfl) (de_op (o_add xk.K) (de_op (o_mul) de_int (dv 3)) de_int)) (ds_cons (ds_if (dt_cmp (o_ne xk.K xk.u64) (de_oix (i := 0) rfl de_int (fun _ _ => rfl)) (de_lst da_nil) (by rfl)) (ds_one (ds_set (i := 4) sc_law_spoon.nd rfl (Or.inl rfl) (de_ix xk.K (de_oix (i := 0) rfl de_int (fun _ _ => rfl)) (de_op (o_mod) (de_ty (c_int) bn.int (da_cons (dv 3) da_nil)) (de_bi (c_len xk.K) bn.len (da_cons (de_oix (i := 0) rfl de_int (fun _ _ => rfl)) da_nil))) (fun _ _ => rfl)))) ds_nil) (ds_cons (ds_if (dt_w (dw_and (dt_cmp (o_lt) (dv 3) (de_bi (c_len xk.K) bn.len (da_cons (de_oix (i := 0) rfl de_int (fun _ _ => rfl)) da_nil)) (by rfl)) (dw_and1 (dt_cmp (o_ge) (de_bi (c_abs) bn.abs (da_cons (dv 4) da_nil)) (de_op (o_pow) de_int de_int) (by rfl))))) (ds_cons (ds_set (i := 2) sc_law_spoon.nd rfl (Or.inl rfl) (de_op (o_add xk.K) (de_op (o_mul) de_int (de_op (o_sub) (de_bi (c_abs) bn.abs (da_cons (dv 4) da_nil)) (de_op (o_pow) de_int de_int))) (de_ty (c_int) bn.int (da_cons (de_cmp (o_lt) (dv 4) de_int (by rfl)) da_nil)))) (ds_cons (ds_setIx (i := 0) rfl (de_op (o_div) (de_ty (c_int) bn.int (da_cons (dv 2) da_nil)) (dv 1)) de_int) (ds_one (ds_ret (de_op (o_mod) (de_ty (c_int) bn.int (da_cons (dv 2) da_nil)) (dv 1)))))) ds_nil) (ds_cons (ds_set (i := 5) sc_law_spoon.nd rfl (Or.inl rfl) (de_op (o_mod) (de_ty (c_int) bn.int (da_cons (de_op (o_pow) (de_op (o_add xk.K) (de_op (o_add xk.K) (de_op (o_mod) (de_ty (c_int) bn.int (da_cons (dv 4) da_nil)) de_int) (de_op (o_mul) de_int (dv 3))) de_int) de_int) da_nil)) de_int)) (ds_cons (ds_set (i := 5) sc_law_spoon.nd rfl (Or.inl rfl) (de_op (o_mod) (de_ty (c_int) bn.int (da_cons (de_op (o_pow) (de_op (o_add xk.K) (de_op (o_add xk.K) (de_op (o_mul) (dv 5) (de_op (o_add xk.K) (de_op (o_mul) de_int (dv 3)) de_int)) (de_op (o_mulW) (de_op (o_mul) de_int (dv 3)) (dv 3))) de_int) de_int) da_nil)) de_int)) (ds_one (ds_ret (de_op (o_mod) (de_ty (c_int) bn.int (da_cons (de_op (o_div) (dv 5) de_int) da_nil)) (dv 1))))))))))))) ?_
  intro cells at_ r many a b hc h0 h1 hr0 hm1 hm2
  have hpos : 0 < many := by omega
  have cdiv : CDiv r many := ⟨hpos, hm2⟩
  refine seq_to (fun env' => env' = Sl.own a [.at_ b (cells.map D.int), .int at_, .int r] :: Sl.val (.int many) :: List.replicate 4 Sl.emp) (fun de' hnx hrt => ?_) (fun env' e => ?_)
  · refine ⟨a, _, rfl, 2, .int r, rfl, rfl, trivial, _, rfl, ite_of (fun hb => ?_) fun hb => hnx _ rfl⟩
    have hr : 0 < r := of_decide_eq_true hb
    refine ⟨a, _, rfl, 2, .int r, rfl, rfl, ?_⟩
    refine ⟨.int r, rfl, .int many, rfl, ⟨hpos, hm2⟩, a, _, rfl, 2, 2, rfl, rfl, ?_⟩
    refine ⟨.int r, rfl, .int many, rfl, hpos, ?_⟩
    rw [hrt]
    exact ⟨r % many, at_, r / many, rfl, Int.emod_nonneg _ (by omega), Int.emod_lt_of_pos _ hpos, rfl, Int.ediv_nonneg hr0 (by omega), h0, by omega⟩
  subst e
  refine seq_to (fun env' => env' = [Sl.own a [.at_ b (cells.map D.int), .int at_, .int r], .val (.int many), .emp, .val (.int at_), .emp, .emp]) (fun de' hnx hrt => ?_) (fun env' e => ?_)
  · exact ⟨a, _, rfl, 1, .int at_, rfl, rfl, hnx _ rfl⟩
  subst e
  refine seq_to (fun env' => env' = [Sl.own a [.at_ b (cells.map D.int), .int (at_ + 1), .int r], .val (.int many), .emp, .val (.int at_), .emp, .emp]) (fun de' hnx hrt => ?_) (fun env' e => ?_)
  · exact ⟨.int at_, rfl, a, _, rfl, 1, 1, rfl, rfl, hnx _ rfl⟩
  subst e
  refine seq_to (fun env' => ∃ c : Int, env' = [Sl.own a [.at_ b (cells.map D.int), .int (at_ + 1), .int r], .val (.int many), .emp, .val (.int at_), .val (.int c), .emp]) (fun de' hnx hrt => ?_) (fun env' e => ?_)
  · exact ⟨.int at_, rfl, .inl ⟨by decide, by decide⟩, hnx _ ⟨_, rfl⟩⟩
  obtain ⟨c0, rfl⟩ := e
  refine seq_to (fun env' => ∃ c : Int, env' = [Sl.own a [.at_ b (cells.map D.int), .int (at_ + 1), .int r], .val (.int many), .emp, .val (.int at_), .val (.int c), .emp]) (fun de' hnx hrt => ?_) (fun env' e => ?_)
  · refine ⟨a, _, rfl, 0, _, rfl, rfl, small (by simp), ne_nil ⟨_, rfl, ite_of (fun hb => ?_) fun hb => hnx _ ⟨_, rfl⟩⟩⟩
    have hne : 0 < cells.length := by cases cells with
      | nil => cases hb
      | cons x l => simp
    have hne' : (0 : Int) < cells.length := by omega
    have e1 := atR_at (r := cells) (i := at_ % cells.length) (Int.emod_nonneg _ (by omega)) (Int.emod_lt_of_pos _ hne')
    refine ⟨a, _, rfl, 0, _, rfl, rfl, .int at_, rfl, a, _, rfl, 0, _, rfl, rfl, ?_⟩
    have hl : ((cells.map D.int).length : Int) = cells.length := by simp
    refine ⟨by rw [hl]; exact hne', .int (atR cells (at_ % cells.length)), by rw [hl]; exact e1, hnx _ ⟨_, rfl⟩⟩
  obtain ⟨c, rfl⟩ := e
  refine seq_to (fun env' => env' = [Sl.own a [.at_ b (cells.map D.int), .int (at_ + 1), .int r], .val (.int many), .emp, .val (.int at_), .val (.int c), .emp]) (fun de' hnx hrt => ?_) (fun env' e => ?_)
  · refine ⟨.int at_, rfl, a, _, rfl, 0, _, rfl, rfl, trivial, _, rfl, ite_of (fun hb => ?_) fun hb => hnx _ rfl⟩
    refine ⟨.int c, rfl, pow18, trivial, _, rfl, ite_of (fun hb2 => ?_) fun hb2 => hnx _ rfl⟩
    have hge : (10 : Int) ^ (18 : Int).toNat ≤ (if c < 0 then -c else c) := of_decide_eq_true hb2
    refine seq_to (fun env' => ∃ q : Int, 0 ≤ q ∧ env' = [Sl.own a [.at_ b (cells.map D.int), .int (at_ + 1), .int r], .val (.int many), .val (.int q), .val (.int at_), .val (.int c), .emp]) (fun de2 hnx2 hrt2 => ?_) (fun env' e => ?_)
    · refine ⟨.int c, rfl, pow18, trivial, .inl ⟨by decide, by decide⟩, .int c, rfl, trivial, hnx2 _ ⟨_, ?_, rfl⟩⟩
      by_cases hcn : c < 0
      · rw [if_pos hcn] at hge ⊢
        rw [if_pos (decide_eq_true hcn)]
        omega
      · rw [if_neg hcn] at hge ⊢
        rw [if_neg (by rw [decide_eq_false hcn]; decide)]
        omega
    obtain ⟨q, hq0, rfl⟩ := e
    refine ⟨.int q, rfl, .int many, rfl, ⟨hpos, hm2⟩, a, _, rfl, 2, 2, rfl, rfl, ?_⟩
    refine ⟨.int q, rfl, .int many, rfl, hpos, ?_⟩
    rw [hrt]
    exact ⟨q % many, at_ + 1, q / many, rfl, Int.emod_nonneg _ (by omega), Int.emod_lt_of_pos _ hpos, rfl, Int.ediv_nonneg hq0 (by omega), by omega, by omega⟩
  subst e
  refine seq_to (fun env' => ∃ x : Int, 0 ≤ x ∧ x < 2 ^ 62 ∧ env' = [Sl.own a [.at_ b (cells.map D.int), .int (at_ + 1), .int r], .val (.int many), .emp, .val (.int at_), .val (.int c), .val (.int x)]) (fun de' hnx hrt => ?_) (fun env' e => ?_)
  · refine ⟨.int c, rfl, pos_of (by decide), .int at_, rfl, .inl ⟨by decide, by decide⟩, ?_⟩
    refine ⟨draw_pow1 (Int.emod_nonneg _ (by decide)) (Int.lt_trans (Int.emod_lt_of_pos _ (by decide)) (by decide)) (by decide) (by decide) (by decide) (by decide) h0 h1, pos_of (by decide), hnx _ ⟨_, Int.emod_nonneg _ (by decide), Int.lt_trans (Int.emod_lt_of_pos _ (by decide)) (by decide), rfl⟩⟩
  obtain ⟨x, hx0, hx1, rfl⟩ := e
  refine seq_to (fun env' => ∃ y : Int, 0 ≤ y ∧ env' = [Sl.own a [.at_ b (cells.map D.int), .int (at_ + 1), .int r], .val (.int many), .emp, .val (.int at_), .val (.int c), .val (.int y)]) (fun de' hnx hrt => ?_) (fun env' e => ?_)
  · refine ⟨.int x, rfl, .int at_, rfl, .inl ⟨by decide, by decide⟩, .inl ⟨by omega, by omega⟩, .int at_, rfl, .inl ⟨by decide, by decide⟩, .int at_, rfl, draw_wide (by decide) (by decide) h0 h1, ?_⟩
    exact ⟨draw_pow2 hx0 hx1 (by decide) (by decide) (by decide) (by decide) (by decide) (by decide) (by decide) (by decide) h0 h1, pos_of (by decide), hnx _ ⟨_, Int.emod_nonneg _ (by decide), rfl⟩⟩
  obtain ⟨y, hy0, rfl⟩ := e
  refine ⟨.int y, rfl, ⟨by decide, by decide⟩, .int many, rfl, hpos, ?_⟩
  exact ⟨_, at_ + 1, r, rfl, Int.emod_nonneg _ (by omega), Int.emod_lt_of_pos _ hpos, rfl, hr0, by omega, by omega⟩
def sPick : FSpec := fun ds R _ => ∃ (d : D) (xs : List D), ds = [.urn, d] ∧ d.items? = some xs ∧ 1 ≤ xs.length ∧ xs.length ≤ 100000 ∧ ∀ (i : Nat) (x : D), xs[i]? = some x → R x
abbrev s_law_one_of : Stmt := topS 47
theorem sc_law_one_of : FnScope ["bowl", "some"] ["bowl", "some"] (defScope s_law_one_of) := ⟨rfl, rfl, rfl, by decide +kernel, rfl, by decide +kernel, by decide +kernel⟩
theorem ok_law_one_of (F : Fun G.K "_law_one_of" "_law_one_of" s_law_one_of f fd) (bn : Bn mg) (F__law_spoon : Fk G P w mg base 1 "_law_spoon" ["bowl", "many"] 1 sDraw) : FnD G P w mg base 2 f fd ["bowl", "some"] 1 sPick := by
  refine FnD.more (fnd_of F sc_law_one_of (fun cdv A outer s H E hr hg => have xk := xk_def (E := E) hr hg; (ds_one (ds_ret (de_ix xk.K (dv 1) (de_call F__law_spoon xk (da_cons (dv 0) (da_cons (de_bi (c_len xk.K) bn.len (da_cons (dv 1) da_nil)) da_nil))) (fun _ _ => rfl))))) ?_) (by decide)
  rintro ds R ex hl ⟨d, xs, rfl, hx, h1, h2, hr⟩
  refine ⟨d, rfl, .urn, rfl, d, rfl, ?_⟩
  cases d <;> cases hx
  all_goals
    refine ⟨rfl, _, rfl, by omega, by omega, fun i b1 b2 => ?_⟩
    obtain ⟨j, rfl⟩ := Int.eq_ofNat_of_zero_le b1
    have hj : j < xs.length := by omega
    exact ⟨xs[j], atI_nat (List.getElem?_eq_getElem hj), hr j _ (List.getElem?_eq_getElem hj)⟩
def rowN (r : List Int) : D := .tupn (r.map D.int)
def inD (n m : Nat) : D := .lst ((allRows n m).map rowN)
/-- a row as it stands at the turns of the inputs' making -/
def rowX (i : Nat) (r : List Int) : D := if i = 0 then rowD r else rowN r
theorem rowX_s (i : Nat) : rowX (i + 1) = rowN := by funext r; unfold rowX; rw [if_neg (by omega)]
theorem rowX_or (i : Nat) (r : List Int) : rowX i r = .tup (r.map D.int) ∨ rowX i r = .tupn (r.map D.int) := by
  unfold rowX
  split
  · exact .inl rfl
  · exact .inr rfl
def sInputsN : FSpec := fun ds R _ => ∃ n m : Nat, ds = [.int n, .int m] ∧ n ≤ 5 ∧ 1 ≤ m ∧ m ≤ 5 ∧ R (inD n m)
theorem take_next (n i j : Nat) (h : j < (allRows n i).length) : ((allRows n i).take (j + 1)).flatMap (fun r => (List.range n).map fun (t : Nat) => rowN (r ++ [(t : Int)])) = ((allRows n i).take j).flatMap (fun r => (List.range n).map fun (t : Nat) => rowN (r ++ [(t : Int)])) ++ (List.range n).map fun (t : Nat) => rowN ((allRows n i)[j] ++ [(t : Int)]) := by
  rw [List.take_succ, List.getElem?_eq_getElem h, List.flatMap_append]
  simp
abbrev s_law_inputs : Stmt := topS 48
theorem sc_law_inputs : FnScope ["things", "places", "found", "place", "longer", "row", "thing"] ["things", "places"] (defScope s_law_inputs) := ⟨rfl, rfl, rfl, by decide +kernel, rfl, by decide +kernel, by decide +kernel⟩
theorem ok_law_inputs (F : Fun G.K "_law_inputs" "_law_inputs" s_law_inputs f fd) (bn : Bn mg)  : FnD G P w mg base 1 f fd ["things", "places"] 0 sInputsN := by
  refine FnD.more (fnd_of F sc_law_inputs (fun cdv A outer s H E hr hg => have xk := xk_def (E := E) hr hg; (ds_cons (ds_set (i := 2) sc_law_inputs.nd rfl (Or.inl rfl) (de_lst (da_cons (de_tup da_nil) da_nil))) (ds_cons (ds_for xk po_def (di_range1 bn.range (da_cons (dv 1) da_nil)) (dg_name (i := 3) sc_law_inputs.nd rfl (Or.inl rfl)) (ds_cons (ds_own (i := 4) sc_law_inputs.nd rfl (Or.inl rfl) (df_lst da_nil)) (ds_cons (ds_for xk po_def (di_seq xk.K (dv 2)) (dg_name (i := 5) sc_law_inputs.nd rfl (Or.inr rfl)) (ds_one (ds_ext (i := 4) rfl (de_comp (own := [("thing", 6)]) xk sc_law_inputs.nd (di_range1 bn.range (da_cons (dv 0) da_nil)) (blkOk_by (N := ["things", "places", "found", "place", "longer", "row", "thing"]) (sc := defScope s_law_inputs) (by decide +kernel)) (fun s H C cl fp => (dg_name (i := 6) sc_law_inputs.nd rfl (Or.inl rfl))) (fun s H C cl fp => dts_nil) (fun s H C cl fp => (de_op (o_addN (Xk.blk xk _ _ _ _ _).K) (dv 5) (de_tupN (da_cons (dv 6) da_nil)))) (by simp))))) (ds_freeze (i := 4) (ds_one (ds_set (i := 2) sc_law_inputs.nd rfl (Or.inl rfl) (dv 4))))))) (ds_one (ds_ret (dv 2)))))) ?_) (by decide)
  rintro ds R ex hl ⟨n, m, rfl, hn, m1, hm, hr⟩
  refine ⟨small (by simp), small (by simp), ?_⟩
  refine ⟨.int m, rfl, (m : Int), rfl, by omega, by omega, ?_⟩
  rw [Int.toNat_natCast]
  refine sForL_rng (fun i env => i ≤ m ∧ ∃ s3 s4 s5, env = [.val (.int n), .val (.int m), .val (.lst ((allRows n i).map (rowX i))), s3, s4, s5, .emp]) ⟨Nat.zero_le _, _, _, _, rfl⟩ (fun i env hi hI nx hn2 => ?_) (fun env hI => ?_)
  · obtain ⟨him, s3, s4, s5, rfl⟩ := hI
    have hlen : (allRows n i).length ≤ 3125 := by rw [allRows_len]; exact pow_val hn (by omega)
    refine ⟨small (by simp), fun a => ?_⟩
    dsimp only [List.set]
    refine seq_to (fun env' => ∃ a' s5', env' = [.val (.int n), .val (.int m), .val (.lst ((allRows n i).map (rowX i))), .val (.int i), .own a' ((allRows n (i + 1)).map rowN), s5', .emp]) (fun de' hnx hrt => ?_) (fun env' e => ?_)
    · refine ⟨_, rfl, ?_⟩
      refine sForL_of (rowX i) (fun j env => ∃ a' s5', env = [.val (.int n), .val (.int m), .val (.lst ((allRows n i).map (rowX i))), .val (.int i), .own a' (((allRows n i).take j).flatMap fun r => (List.range n).map fun (t : Nat) => rowN (r ++ [(t : Int)])), s5', .emp]) ⟨a, s5, rfl⟩ (fun j r env hj hI nx hn3 => ?_) (fun env hI => ?_)
      · obtain ⟨a', s5', rfl⟩ := hI
        obtain ⟨hjl, hjr⟩ := List.getElem?_eq_some_iff.mp hj
        refine ⟨a', _, rfl, _, rfl, (n : Int), rfl, by omega, by omega, ?_⟩
        rw [Int.toNat_natCast, rangeD_eq]
        refine compL_of (fun (t : Nat) => D.int t) (fun (t : Nat) => rowN (r ++ [(t : Int)])) (fun t ht K hK => ?_) ?_
        · have hrl : r.length = i := allRows_row n i r (List.mem_of_getElem? hj)
          refine ⟨_, rfl, _, rfl, small (by simp), r.map D.int, [.int t], rowX_or i r, rfl, by simp, small (by simp; omega), ?_⟩
          have e2 : rowN (r ++ [(t : Int)]) = .tupn (r.map D.int ++ [.int t]) := by unfold rowN; rw [List.map_append]; rfl
          rw [e2] at hK; exact hK
        · refine ⟨_, rfl, ?_, ?_⟩
          · have h2 : ((((allRows n i).take j).flatMap fun r => (List.range n).map fun (t : Nat) => rowN (r ++ [(t : Int)]))).length ≤ 3125 * 5 := by
              rw [flat_len (k := n)]
              · have h3 : ((allRows n i).take j).length ≤ 3125 := by rw [List.length_take]; omega
                exact Nat.mul_le_mul h3 hn
              · intro x _; simp
            refine small ?_
            simp only [List.nil_append, List.length_map, List.length_range]
            omega
          · refine hn3 _ ⟨a', .val (rowX i r), ?_⟩
            rw [take_next n i j hjl, hjr, List.nil_append]
            rfl
      · obtain ⟨a', s5', rfl⟩ := hI
        refine hnx _ ⟨a', s5', ?_⟩
        rw [List.take_length, show allRows n (i + 1) = (allRows n i).flatMap fun r => (List.range n).map fun (t : Nat) => r ++ [(t : Int)] from rfl, List.map_flatMap]
        simp only [List.map_map, Function.comp_def]
    obtain ⟨a', s5', rfl⟩ := e
    refine ⟨a', _, rfl, _, rfl, hn2 _ ⟨by omega, .val (.int i), .val (.lst ((allRows n (i + 1)).map rowN)), s5', ?_⟩⟩
    rw [rowX_s]
    rfl
  · obtain ⟨him, s3, s4, s5, rfl⟩ := hI
    have e : rowX m = rowN := by rw [show m = m - 1 + 1 by omega]; exact rowX_s _
    rw [e]
    exact ⟨_, rfl, hr⟩
end
end Pg

set_option Elab.async false
set_option linter.all false
set_option maxRecDepth 100000
set_option maxHeartbeats 4100000
namespace Pg
open PySem L2 RZ Kn
section
variable {G : Gd} {P : Program} {w : World} {mg : Str → Option Value} {base : Heap} {f : Addr} {fd : FuncData}
/-- the row l: a list or a tuple -/
def rowL (d : D) (l : List Int) : Prop := d = .lst (l.map D.int) ∨ d = .tup (l.map D.int) ∨ d = .tupn (l.map D.int)
theorem rowL_asT {d : D} {l : List Int} (h : rowL d l) : d.asT = .lst (l.map D.int) ∨ d.asT = .tup (l.map D.int) := by
  rcases h with rfl | rfl | rfl
  · exact .inl rfl
  · exact .inr rfl
  · exact .inr rfl
theorem ix_row {d e : D} {l : List Int} {i x : Int} {Q : D → Prop} (h : d = .lst (l.map D.int) ∨ d = .tup (l.map D.int)) (he : e = .int i) (hx : atI (l.map D.int) i = some (.int x)) (hq : Q (.int x)) : gIx d e Q := by
  subst he
  rcases h with rfl | rfl
  · exact ⟨_, hx, hq⟩
  · exact ⟨_, hx, hq⟩
def tabD (n m : Nat) (vs : List Int) : D := .dcT (allRows n m) (vs.map D.int)
theorem look_zip : ∀ {ks : List (List Int)} {vs : List Int} {k : Nat} {r : List Int} {x : Int}, ks[k]? = some r → vs[k]? = some x → (∀ j, j < k → ks[j]? ≠ some r) → lookT ks (vs.map D.int) r = some (.int x)
  | [], _, _, _, _, h, _, _ =>
        by simp at h
  | _ :: _, [], _, _, _, _, h, _ =>
        by simp at h
  | k0 :: ks, v0 :: vs, 0, r, x, h1, h2, _ => by
    simp only [List.getElem?_cons_zero, Option.some.injEq] at h1 h2
    subst h1; subst h2
    unfold lookT
    rw [List.map_cons, List.zip_cons_cons, List.find?_cons, decide_eq_true rfl]
    rfl
  | k0 :: ks, v0 :: vs, k + 1, r, x, h1, h2, h3 => by
    have hne : k0 ≠ r := fun e => h3 0 (by omega) (by rw [e]; rfl)
    unfold lookT
    rw [List.map_cons, List.zip_cons_cons, List.find?_cons, decide_eq_false hne]
    exact look_zip (k := k) (by simpa using h1) (by simpa using h2) fun j hj e => h3 (j + 1) (by omega) (by simpa using e)
theorem rows_nd (n m : Nat) : (allRows n m).Nodup := by
  refine List.nodup_iff_pairwise_ne.mpr (List.pairwise_iff_getElem.mpr fun i j hi hj hij e => ?_)
  have h1 := idx_of_row (List.getElem?_eq_getElem hi)
  have h2 := idx_of_row (List.getElem?_eq_getElem hj)
  rw [e] at h1
  omega
theorem tab_look {n m : Nat} {vs r : List Int} (hl : vs.length = n ^ m) (hr : r.length = m) (hv : ∀ i ∈ r, 0 ≤ i ∧ i < (n : Int)) : lookT (allRows n m) (vs.map D.int) r = some (.int (fV n vs r)) := by
  obtain ⟨k, h1, h2, h3⟩ := idx_toNat hr hv
  have hk : k < vs.length := by omega
  refine look_zip h3 (x := fV n vs r) ?_ fun j hj e => ?_
  · unfold fV atR
    rw [h1, Int.toNat_natCast, List.getElem?_eq_getElem hk, List.getD_eq_getElem?_getD, List.getElem?_eq_getElem hk]; rfl
  · have e1 := idx_of_row e
    omega
theorem rowK_n (r : List Int) : rowK (rowN r) r := .inr rfl
theorem get_tab {n m : Nat} {vs r : List Int} {d : D} {Q : D → Prop} (hd : rowK d r) (hl : vs.length = n ^ m) (hr : r.length = m) (hv : ∀ i ∈ r, 0 ≤ i ∧ i < (n : Int)) (hq : Q (.int (fV n vs r))) : gGetT (tabD n m vs) d Q :=
  ⟨_, _, r, _, rfl, hd, tab_look hl hr hv, hq⟩
def sPartL : FSpec := fun ds R _ => ∃ (n m : Nat) (vs l : List Int) (t d : D), ds = [t, tabD n m vs, d, inD n m] ∧ ToldIn n m vs ∧ RowIn n n l ∧ rowL d l ∧ R (optD (partO n m vs l))
theorem find_take {α : Type} {p : α → Bool} {l : List α} {k : Nat} {x : α} (h1 : ∀ y ∈ l.take k, p y = false) (hx : l[k]? = some x) (hp : p x = true) : l.find? p = some x := by
  obtain ⟨hk, he⟩ := List.getElem?_eq_some_iff.mp hx
  have e : l = l.take k ++ l[k] :: l.drop (k + 1) := by rw [← List.drop_eq_getElem_cons hk, List.take_append_drop]
  rw [e, List.find?_append, List.find?_eq_none.mpr fun y hy => by rw [h1 y hy]; simp, List.find?_cons, he, hp]
  rfl
abbrev s_law_parting : Stmt := topS 49
theorem sc_law_parting : FnScope ["things", "table", "lead", "inputs", "row", "thing"] ["things", "table", "lead", "inputs"] (defScope s_law_parting) := ⟨rfl, rfl, rfl, by decide +kernel, rfl, by decide +kernel, by decide +kernel⟩
theorem ok_law_parting (F : Fun G.K "_law_parting" "_law_parting" s_law_parting f fd) (bn : Bn mg)  : FnD G P w mg base 1 f fd ["things", "table", "lead", "inputs"] 0 sPartL := by
  refine FnD.more (fnd_of F sc_law_parting (fun cdv A outer s H E hr hg => have xk := xk_def (E := E) hr hg; (ds_cons (ds_for xk po_def (di_seq xk.K (dv 3)) (dg_name (i := 4) sc_law_parting.nd rfl (Or.inl rfl)) (ds_one (ds_if (dt_cmp (o_ne xk.K xk.u64) (de_tget xk.K (xk.u (n := 1)) (dv 1) (de_ty (c_tuple xk.K) bn.tuple (da_cons (de_comp (own := [("thing", 5)]) xk sc_law_parting.nd (di_seq xk.K (dvn 4)) (blkOk_by (N := ["things", "table", "lead", "inputs", "row", "thing"]) (sc := defScope s_law_parting) (by decide +kernel)) (fun s H C cl fp => (dg_name (i := 5) sc_law_parting.nd rfl (Or.inl rfl))) (fun s H C cl fp => dts_nil) (fun s H C cl fp => (de_ix (Xk.blk xk _ _ _ _ _).K (dvn 2) (dv 5) (fun _ _ => rfl))) (by simp)) da_nil))) (de_ix xk.K (dvn 2) (de_tget xk.K (xk.u (n := 1)) (dv 1) (dvn 4)) (fun _ _ => rfl)) (by rfl)) (ds_one (ds_ret (dvn 4))) ds_nil))) (ds_one (ds_ret de_non)))) ?_) (by decide)
  rintro ds R ex hl ⟨n, m, vs, l, t, d, rfl, T, L, hd, hr⟩
  obtain ⟨n1, n5, p1, p4, hk, len, hv⟩ := id T
  have hdT := rowL_asT hd
  refine seq_to (fun env' => (∀ r ∈ allRows n m, partsB n vs l r = false)) (fun de' hnx hrt => ?_) (fun env' e => ?_)
  · refine ⟨_, rfl, ?_⟩
    refine sForL_of rowN (fun i env => (∀ r ∈ (allRows n m).take i, partsB n vs l r = false) ∧ ∃ s, env = [.val t, .val (tabD n m vs), .val d, .val (inD n m), s, .emp]) ⟨fun r hr => (by simp at hr), _, rfl⟩ (fun i r env hi hI nx hn2 => ?_) (fun env hI => ?_)
    · obtain ⟨hI, s, rfl⟩ := hI
      have hmem := List.mem_of_getElem? hi
      have hrl := allRows_row n m r hmem
      have hrv := allRows_val n m r hmem
      obtain ⟨g1, g2⟩ := led_row (n := n) L hrl hrv
      refine sif_of (x := partsB n vs l r) (fun K hK => ?_) (fun hb => ?_) (fun hb => ?_)
      · refine ⟨_, rfl, _, rfl, ?_⟩
        refine compL_of D.int (fun i => D.int (atR l i)) (fun i hi2 K2 hK2 => ?_) ?_
        · obtain ⟨b0, b1⟩ := hrv i hi2
          have hat := (atR_in (r := l) (i := i) (n := n) b0 (by rw [L.1]; exact b1) L.2).1
          exact ⟨_, rfl, _, rfl, ix_row hdT rfl hat hK2⟩
        · rw [List.nil_append]
          have e : (.tup (r.map fun i => D.int (atR l i)) : D) = rowD (ledR l r) := by unfold rowD ledR; rw [List.map_map]; rfl
          refine nilT ?_
          rw [e]
          refine get_tab rowK_t len g1 g2 ?_
          have fv := fV_val T hrl hrv
          have hat := (atR_in (r := l) (i := fV n vs r) (n := n) fv.1 (by rw [L.1]; exact fv.2) L.2).1
          refine ⟨_, rfl, _, rfl, _, rfl, get_tab (.inl rfl) len hrl hrv ?_⟩
          refine ix_row hdT rfl hat ?_
          exact ne_int ⟨_, rfl, hK⟩
      · refine ⟨_, rfl, ?_⟩
        show de'.rt (rowD r) _
        rw [hrt]
        have e : partO n m vs l = some r := find_take hI hi hb
        rw [e] at hr
        exact hr
      · refine hn2 _ ⟨fun y hy => ?_, _, rfl⟩
        rw [List.take_succ, hi] at hy; rcases List.mem_append.mp hy with hy | hy
        · exact hI y hy
        · have hy2 : y = r := by simpa using hy
          rw [hy2]; exact hb
    · obtain ⟨hI, _⟩ := hI
      rw [List.take_length] at hI
      exact hnx _ hI
  · have e' : ∀ r ∈ allRows n m, partsB n vs l r = false := e
    have e0 : partO n m vs l = none := List.find?_eq_none.mpr fun r hr => by rw [e' r hr]; simp
    rw [e0] at hr
    exact hr
def sValuesT : FSpec := fun ds R _ => ∃ (n m : Nat) (vs : List Int), ds = [tabD n m vs, inD n m] ∧ vs.length = n ^ m ∧ R (.lst (vs.map D.int))
abbrev s_law_values : Stmt := topS 55
theorem sc_law_values : FnScope ["table", "inputs", "row"] ["table", "inputs"] (defScope s_law_values) := ⟨rfl, rfl, rfl, by decide +kernel, rfl, by decide +kernel, by decide +kernel⟩
theorem ok_law_values (F : Fun G.K "_law_values" "_law_values" s_law_values f fd) (bn : Bn mg)  : FnD G P w mg base 1 f fd ["table", "inputs"] 0 sValuesT := by
  refine FnD.more (fnd_of F sc_law_values (fun cdv A outer s H E hr hg => have xk := xk_def (E := E) hr hg; (ds_one (ds_ret (de_comp (own := [("row", 2)]) xk sc_law_values.nd (di_seq xk.K (dv 1)) (blkOk_by (N := ["table", "inputs", "row"]) (sc := defScope s_law_values) (by decide +kernel)) (fun s H C cl fp => (dg_name (i := 2) sc_law_values.nd rfl (Or.inl rfl))) (fun s H C cl fp => dts_nil) (fun s H C cl fp => (de_tget (Xk.blk xk _ _ _ _ _).K ((Xk.blk xk _ _ _ _ _).u (n := 1)) (dv 0) (dv 2))) (by simp))))) ?_) (by decide)
  rintro ds R ex hl ⟨n, m, vs, rfl, len, hr⟩
  refine ⟨_, rfl, ?_⟩
  refine compL_of rowN (fun r => D.int (fV n vs r)) (fun r hr2 K hK => ?_) ?_
  · exact ⟨_, rfl, _, rfl, get_tab (rowK_n r) len (allRows_row n m r hr2) (allRows_val n m r hr2) hK⟩
  · rw [List.nil_append]
    have e : ((allRows n m).map fun r => D.int (fV n vs r)) = vs.map D.int := by
      conv => rhs; rw [← told_vals (n := n) (m := m) len]
      rw [List.map_map]; rfl
    rw [e]
    exact hr
def sLeadL : FSpec := fun ds R _ => ∃ n : Nat, ds = [.urn, .int n] ∧ 1 ≤ n ∧ n ≤ 5 ∧ ∀ l : List Int, RowIn n n l → R (.lst (l.map D.int))
theorem perm_row {n : Nat} {l : List Int} (h : l.Perm (idx n)) : RowIn n n l := ⟨by rw [h.length_eq, idx_len], fun i hi => idx_val (h.mem_iff.mp hi)⟩
abbrev s_law_lead : Stmt := topS 56
theorem sc_law_lead : FnScope ["bowl", "things", "left", "found", "thing"] ["bowl", "things"] (defScope s_law_lead) := ⟨rfl, rfl, rfl, by decide +kernel, rfl, by decide +kernel, by decide +kernel⟩
theorem ok_law_lead (F : Fun G.K "_law_lead" "_law_lead" s_law_lead f fd) (bn : Bn mg) (F__law_spoon : Fk G P w mg base 1 "_law_spoon" ["bowl", "many"] 1 sDraw) : FnD G P w mg base 2 f fd ["bowl", "things"] 67108864 sLeadL := by
  refine FnD.more (fnd_of F sc_law_lead (fun cdv A outer s H E hr hg => have xk := xk_def (E := E) hr hg; (ds_cons (ds_if (dt_cmp (o_gt) (de_call F__law_spoon xk (da_cons (dv 0) (da_cons de_int da_nil))) de_int (by rfl)) (ds_one (ds_ret (de_comp (own := [("thing", 4)]) xk sc_law_lead.nd (di_range1 bn.range (da_cons (dv 1) da_nil)) (blkOk_by (N := ["bowl", "things", "left", "found", "thing"]) (sc := defScope s_law_lead) (by decide +kernel)) (fun s H C cl fp => (dg_name (i := 4) sc_law_lead.nd rfl (Or.inl rfl))) (fun s H C cl fp => dts_nil) (fun s H C cl fp => (de_call F__law_spoon (Xk.blk xk _ _ _ _ _) (da_cons (dv 0) (da_cons (dv 1) da_nil)))) (by simp)))) ds_nil) (ds_cons (ds_parF0 (i := 2) (j := 3) xk.calm sc_law_lead.nd rfl rfl (by decide) rfl rfl (df_listRange xk.calm bn.list bn.range (dv 1)) (hw := (by with_unfolding_all rfl))) (ds_cons (ds_while po_def (dt_lend 2 (dt_cmp (o_ne xk.K xk.u64) (dv 2) (de_lst da_nil) (by rfl))) (ds_one (ds2_app (i := 3) rfl (d2_pop (i := 2) rfl (de_lend 2 (de_call F__law_spoon xk (da_cons (dv 0) (da_cons (de_bi (c_len xk.K) bn.len (da_cons (dv 2) da_nil)) da_nil)))))))) (ds_freeze (i := 3) (ds_one (ds_ret (dv 3)))))))) ?_) (by decide)
  rintro ds R ex hl ⟨n, rfl, n1, n5, hr⟩
  refine seq_to (fun env' => env' = [.val .urn, .val (.int n), .emp, .emp, .emp]) (fun de' hnx hrt => ?_) (fun env' e => ?_)
  · refine ⟨_, rfl, rfl, 3, rfl, by omega, by omega, fun v v0 v1 => ⟨trivial, _, rfl, ite_of (fun hb => ?_) (fun hb => hnx _ rfl)⟩⟩
    refine ⟨_, rfl, (n : Int), rfl, by omega, by omega, ?_⟩
    rw [Int.toNat_natCast]
    refine compL_any (fun _ r => ∃ i : Int, r = .int i ∧ 0 ≤ i ∧ i < (n : Int)) (fun d hd K hK => ⟨_, rfl, _, rfl, rfl, n, rfl, by omega, by omega, fun r h0 h1 => hK _ ⟨r, rfl, h0, h1⟩⟩) (fun rs hl hrs => ?_)
    obtain ⟨is, rfl, il, iv⟩ := ints_of (P := fun i => 0 ≤ i ∧ i < (n : Int)) fun d hd => by
      obtain ⟨_, _, i, e, h0, h1⟩ := all_of hl hrs d hd
      exact ⟨i, e, h0, h1⟩
    show de'.rt _ _
    rw [hrt]
    exact hr is ⟨by rw [il, hl]; simp [rangeD], iv⟩
  subst e
  refine seq_to (fun env' => ∃ a b, env' = [.val .urn, .val (.int n), .own a ((idx n).map D.int), .own b [], .emp]) (fun de' hnx hrt => ?_) (fun env' e => ?_)
  · refine ⟨_, rfl, n, rfl, by omega, fun a b => hnx _ ⟨a, b, ?_⟩⟩
    rw [range_idx]; rfl
  obtain ⟨a, b, rfl⟩ := e
  refine seq_to (fun env' => ∃ (a b : Addr) (fs : List Int) (s4 : Sl), fs.Perm (idx n) ∧ env' = [.val .urn, .val (.int n), .own a [], .own b (fs.map D.int), s4]) (fun de' hnx hrt => ?_) (fun env' e => ?_)
  · refine ⟨fun k env => ∃ (a b : Addr) (ls fs : List Int), (fs ++ ls).Perm (idx n) ∧ k = ls.length ∧ env = [.val .urn, .val (.int n), .own a (ls.map D.int), .own b (fs.map D.int), .emp], ⟨(idx n).length, by rw [idx_len]; omega, a, b, idx n, [], .refl _, rfl, rfl⟩, fun k env hI => ?_⟩
    obtain ⟨a, b, ls, fs, hp, rfl, rfl⟩ := hI
    have hsum := hp.length_eq
    rw [List.length_append, idx_len] at hsum
    refine ⟨_, _, rfl, .inl ⟨_, _, rfl, rfl⟩, _, rfl, small (by simp), ne_nil ⟨_, rfl, ite_of (fun hb => ?_) (fun hb => ?_)⟩⟩
    · have hpos : 0 < ls.length := by
        cases ls with
        | nil => cases hb
        | cons x q => simp
      refine ⟨b, _, rfl, a, _, rfl, _, _, rfl, .inl ⟨_, _, rfl, rfl⟩, _, rfl, _, rfl, nilLen ⟨rfl, ls.length, by rw [List.length_map], by omega, by omega, fun j j0 j1 => ?_⟩⟩
      obtain ⟨k, rfl⟩ := Int.eq_ofNat_of_zero_le j0
      have hk : k < ls.length := by omega
      refine ⟨rfl, k, .int ls[k], rfl, by rw [List.getElem?_map, List.getElem?_eq_getElem hk]; rfl, small (by simp; omega), rfl, ls.length - 1, by omega, a, b, ls.eraseIdx k, fs ++ [ls[k]], ?_, ?_, ?_⟩
      · have e1 : (ls[k] :: ls.eraseIdx k).Perm ls := erase_perm hk
        have e2 : (fs ++ [ls[k]] ++ ls.eraseIdx k) = fs ++ (ls[k] :: ls.eraseIdx k) := by simp
        rw [e2]
        exact (e1.append_left fs).trans hp
      · rw [List.length_eraseIdx, if_pos hk]
      · rw [List.map_append, ← map_erase]; rfl
    · have e : ls = [] := by
        cases ls with
        | nil => rfl
        | cons x q => cases hb
      subst e
      rw [List.append_nil] at hp
      exact hnx _ ⟨a, b, fs, .emp, hp, rfl⟩
  obtain ⟨a, b, fs, s4, hp, rfl⟩ := e
  exact ⟨b, _, rfl, _, rfl, hr fs (perm_row hp)⟩
end
end Pg

set_option Elab.async false
set_option linter.all false
set_option maxRecDepth 100000
set_option maxHeartbeats 4100000
namespace Pg
open PySem L2 RZ Kn
section
variable {G : Gd} {P : Program} {w : World} {mg : Str → Option Value} {base : Heap} {f : Addr} {fd : FuncData}
theorem no_lead {n : Int} {r : List Int} : noLst (leadD n r) = true := by
  show (noLstL (r.map D.int) && true) = true
  rw [no_ints, Bool.true_and]
/-- a lead's three parts, shown -/
theorem t_lead (fo : Gk G) {n : Int} {r : List Int} {ex : Exc → Prop} {env : List Sl} {Q : D → Prop} {i : Nat} (he : env[i]? = some (.val (leadD n r))) (hn : 0 ≤ n ∧ n < 8) (hl : r.length < 8) (hv : ∀ i ∈ r, 0 ≤ i ∧ i < 8) (h : Q (.str (shown3 r.length n r))) :
    dBi (g1 gRepr) (aCons (dTup (aCons (dFld G "begin" (dVar i)) (aCons (dFld G "into" (dVar i)) (aCons (dFld G "row" (dVar i)) aNil)))) aNil) ex env Q := by
  obtain ⟨m1, m2, m3, i1, i2, i3⟩ := fld_lead fo (n := n) (r := r)
  exact ⟨_, he, 1, _, _, rfl, m1, i1, _, he, 1, _, _, rfl, m2, i2, _, he, 1, _, _, rfl, m3, i3, small (by simp), nilR (repr3 (by omega) hn (by omega) hv h)⟩
theorem str_txt {r : List Int} {n : Int} (h : r ≠ []) : spc r ++ " : " ++ numS n = txtL r n := by
  unfold spc txtL wordsL
  rw [TL.join_eq, TL.join_eq, show r.map numS ++ [(":" : Str), numS n] = (r.map numS ++ [(":" : Str)]) ++ [numS n] by simp, PyProof.Rows.FinIter.join_snoc, if_neg (by simp), PyProof.Rows.FinIter.join_snoc, if_neg (by simpa using h)]
  simp only [Str.append_assoc]
  congr 1
  rw [← Str.append_assoc (":" : Str), ← Str.append_assoc (" " : Str), show (" " : Str) ++ ((":" : Str) ++ (" " : Str)) = " : " by decide +kernel]
theorem ixN_0 {k : Nat} (h : 0 < k) : ixN k 0 = some 0 := by
  unfold ixN; rw [if_pos (by omega), if_pos (by omega)]
  rfl
/-- the others that a lead is held against -/
def OthOk (d : D) : Prop := ∃ (its : Int) (q : List Int), d = .tup [.int its, .lst (q.map D.int)] ∧ 1 ≤ its ∧ its ≤ 6 ∧ q.length ≤ 6 ∧ ∀ i ∈ q, 0 ≤ i ∧ i < its
theorem sub_row (r : List Int) : rowD r = .tup (r.map D.int) := rfl
def SzIn (n m : Nat) : Prop := 1 ≤ n ∧ n ≤ 5 ∧ 1 ≤ m ∧ m ≤ 4 ∧ n ^ m ≤ 256
def sSize : FSpec := fun ds R _ => ds = [.urn] ∧ ∀ n m : Nat, SzIn n m → R (.tup [.int n, .int m])
abbrev s_law_size : Stmt := topS 54
theorem sc_law_size : FnScope ["bowl"] ["bowl"] (defScope s_law_size) := ⟨rfl, rfl, rfl, by decide +kernel, rfl, by decide +kernel, by decide +kernel⟩
theorem ok_law_size (F : Fun G.K "_law_size" "_law_size" s_law_size f fd) (bn : Bn mg) (F__law_one_of : Fk G P w mg base 2 "_law_one_of" ["bowl", "some"] 1 sPick) : FnD G P w mg base 3 f fd ["bowl"] 1 sSize := by
  refine FnD.more (fnd_of F sc_law_size (fun cdv A outer s H E hr hg => have xk := xk_def (E := E) hr hg; (ds_one (ds_ret (de_call F__law_one_of xk (da_cons (dv 0) (da_cons (de_lst (da_cons (de_tup (da_cons de_int (da_cons de_int da_nil))) (da_cons (de_tup (da_cons de_int (da_cons de_int da_nil))) (da_cons (de_tup (da_cons de_int (da_cons de_int da_nil))) (da_cons (de_tup (da_cons de_int (da_cons de_int da_nil))) (da_cons (de_tup (da_cons de_int (da_cons de_int da_nil))) (da_cons (de_tup (da_cons de_int (da_cons de_int da_nil))) (da_cons (de_tup (da_cons de_int (da_cons de_int da_nil))) (da_cons (de_tup (da_cons de_int (da_cons de_int da_nil))) (da_cons (de_tup (da_cons de_int (da_cons de_int da_nil))) (da_cons (de_tup (da_cons de_int (da_cons de_int da_nil))) (da_cons (de_tup (da_cons de_int (da_cons de_int da_nil))) da_nil)))))))))))) da_nil)))))) ?_) (by decide)
  rintro ds R ex hl ⟨rfl, hr⟩
  refine ⟨_, rfl, small (by simp), small (by simp), small (by simp), small (by simp), small (by simp), small (by simp), small (by simp), small (by simp), small (by simp), small (by simp), small (by simp), small (by simp), rfl, _, _, rfl, rfl, by simp, by simp, fun i x hx => ?_⟩
  have hm := List.mem_of_getElem? hx
  simp only [List.mem_cons, List.not_mem_nil, or_false] at hm; rcases hm with rfl | rfl | rfl | rfl | rfl | rfl | rfl | rfl | rfl | rfl | rfl
  · exact hr 2 2 (by unfold SzIn; decide)
  · exact hr 3 2 (by unfold SzIn; decide)
  · exact hr 2 3 (by unfold SzIn; decide)
  · exact hr 3 1 (by unfold SzIn; decide)
  · exact hr 4 2 (by unfold SzIn; decide)
  · exact hr 2 1 (by unfold SzIn; decide)
  · exact hr 3 3 (by unfold SzIn; decide)
  · exact hr 2 4 (by unfold SzIn; decide)
  · exact hr 4 1 (by unfold SzIn; decide)
  · exact hr 1 2 (by unfold SzIn; decide)
  · exact hr 5 1 (by unfold SzIn; decide)
def numD : D → D | .int i => .str (numS i) | _ => .non
theorem map_numD (r : List Int) : (r.map D.int).map numD = (r.map numS).map D.str := by rw [List.map_map, List.map_map]; rfl
def sMade : FSpec := fun ds R _ => ∃ (n : Nat) (l : List Int), ds = [.urn, .int n, .lst (l.map D.int)] ∧ 1 ≤ n ∧ n ≤ 5 ∧ RowIn n n l ∧ R (leadD n l)
abbrev s_law_made : Stmt := topS 57
theorem sc_law_made : FnScope ["bowl", "things", "lead", "thing"] ["bowl", "things", "lead"] (defScope s_law_made) := ⟨rfl, rfl, rfl, by decide +kernel, rfl, by decide +kernel, by decide +kernel⟩
theorem ok_law_made (F : Fun G.K "_law_made" "_law_made" s_law_made f fd) (bn : Bn mg) (F__law_spoon : Fk G P w mg base 1 "_law_spoon" ["bowl", "many"] 1 sDraw) (F__law_one_of : Fk G P w mg base 2 "_law_one_of" ["bowl", "some"] 1 sPick) (SP_read : Fsp G P w mg base 7 "Lead" 1 "read" ["text"] 0 sReadLead) (C_Lead : Fc G P w mg base 5 "Lead" 1 ["self", "into", "row"] 0 sLeadInitL) : FnD G P w mg base 8 f fd ["bowl", "things", "lead"] 2 sMade := by
  refine FnD.more (fnd_of F sc_law_made (fun cdv A outer s H E hr hg => have xk := xk_def (E := E) hr hg; (ds_cons (ds_if (dt_cmp (o_eq xk.K xk.u64) (de_call F__law_spoon xk (da_cons (dv 0) (da_cons de_int da_nil))) de_int (by rfl)) (ds_one (ds_ret (de_stat SP_read xk (da_cons (de_op (o_add xk.K) (de_op (o_add xk.K) (de_join xk.K de_str (de_comp (own := [("thing", 3)]) xk sc_law_made.nd (di_seq xk.K (dv 2)) (blkOk_by (N := ["bowl", "things", "lead", "thing"]) (sc := defScope s_law_made) (by decide +kernel)) (fun s H C cl fp => (dg_name (i := 3) sc_law_made.nd rfl (Or.inl rfl))) (fun s H C cl fp => dts_nil) (fun s H C cl fp => (de_ty (c_str) bn.str (da_cons (dv 3) da_nil))) (by simp))) de_str) (de_ty (c_str) bn.str (da_cons (dv 1) da_nil))) da_nil)))) ds_nil) (ds_one (ds_ret (de_make C_Lead xk (da_cons (dv 1) (da_cons (de_call F__law_one_of xk (da_cons (dv 0) (da_cons (de_lst (da_cons (dv 2) (da_cons (de_ty (c_tuple xk.K) bn.tuple (da_cons (dv 2) da_nil)) da_nil))) da_nil))) da_nil))))))) ?_) (by decide)
  rintro ds R ex hl ⟨n, l, rfl, n1, n5, L, hr⟩
  have hLI : LeadIn l n := ⟨by rw [L.1]; omega, by rw [L.1]; omega, by omega, by omega, L.2⟩
  have hd := hLI.digits
  refine seq_to (fun env' => env' = [.val .urn, .val (.int n), .val (.lst (l.map D.int)), .emp]) (fun de' hnx hrt => ?_) (fun env' e => ?_)
  · refine ⟨_, rfl, rfl, 2, rfl, by omega, by omega, fun v v0 v1 => eqC (eq_int ⟨_, rfl, ite_of (fun hb => ?_) (fun hb => hnx _ rfl)⟩)⟩
    refine ⟨_, rfl, _, rfl, ?_⟩
    refine compL_of D.int (fun i => D.str (numS i)) (fun i hi K hK => ?_) ?_
    · obtain ⟨h0, h1⟩ := hd i hi
      exact ⟨_, rfl, digit_log h0 h1, hK⟩
    · rw [List.nil_append]
      have hl2 := spc_len hd
      have hn : (numS (n : Int)).length = 1 := digit_len (by omega) (by omega)
      have hc : (Str.ofString " : ").length = 3 := by decide +kernel
      have l5 : l.length ≤ 5 := by rw [L.1]; omega
      refine ⟨l.map numS, .inl (by rw [List.map_map]; rfl), by rw [digits_len hd, blank_len, List.length_map]; omega, ?_⟩
      show dC (.str " : ") _ _ fun y => gAdd (.str (spc l)) y _
      refine ⟨small (by omega), ?_⟩
      refine ⟨_, rfl, digit_log (by omega) (by omega), ?_⟩
      refine ⟨small (by rw [Str.length_append]; show (spc l).length + _ + (numS (n : Int)).length ≤ _; omega), rfl, l, n, ?_, hLI, ?_⟩
      · show [D.str (spc l ++ " : " ++ numS n)] = _
        rw [str_txt (fun z => by rw [z] at l5; have := L.1; rw [z] at this; simp at this; omega)]
      · show de'.rt _ _
        rw [hrt]; exact hr
  subst e
  refine ⟨_, rfl, _, rfl, _, rfl, ?_⟩
  refine ⟨_, rfl, nilT ⟨small (by simp), rfl, _, _, rfl, rfl, by simp, by simp, fun i x hx => ?_⟩⟩
  have hm := List.mem_of_getElem? hx
  simp only [List.mem_cons, List.not_mem_nil, or_false] at hm; have hi : x.items? = some (l.map D.int) := by rcases hm with rfl | rfl <;> rfl
  exact ⟨rfl, n, x, l, rfl, hi, by omega, by omega, hLI.1, hLI.2.1, L.2, hr⟩
def lstD (r : List Int) : D := .lst (r.map D.int)
/-- lots of places: one or more, none empty -/
def LotsIn (m : Nat) (lots : List (List Int)) : Prop := lots ≠ [] ∧ lots.length ≤ 3 ∧ ∀ q ∈ lots, q ≠ [] ∧ q.length ≤ 4 ∧ ∀ i ∈ q, 0 ≤ i ∧ i < (m : Int)
def sLots : FSpec := fun ds R _ => ∃ m : Nat, ds = [.urn, .int m] ∧ 1 ≤ m ∧ m ≤ 4 ∧ ∀ lots : List (List Int), LotsIn m lots → R (.lst (lots.map lstD))
abbrev s_law_lots : Stmt := topS 50
theorem sc_law_lots : FnScope ["bowl", "places", "found", "turn", "lot", "spot"] ["bowl", "places"] (defScope s_law_lots) := ⟨rfl, rfl, rfl, by decide +kernel, rfl, by decide +kernel, by decide +kernel⟩
theorem ok_law_lots (F : Fun G.K "_law_lots" "_law_lots" s_law_lots f fd) (bn : Bn mg) (F__law_spoon : Fk G P w mg base 1 "_law_spoon" ["bowl", "many"] 1 sDraw) : FnD G P w mg base 2 f fd ["bowl", "places"] 1152921504606846976 sLots := by
  refine FnD.more (fnd_of F sc_law_lots (fun cdv A outer s H E hr hg => have xk := xk_def (E := E) hr hg; (ds_cons (ds_own (i := 2) sc_law_lots.nd rfl (Or.inl rfl) (df_lst da_nil)) (ds_cons (ds_for xk po_def (di_range1 bn.range (da_cons (de_op (o_add xk.K) de_int (de_call F__law_spoon xk (da_cons (dv 0) (da_cons de_int da_nil)))) da_nil)) (dg_name (i := 3) sc_law_lots.nd rfl (Or.inl rfl)) (ds_cons (ds_setComp (i := 4) (own := [("spot", 5)]) xk sc_law_lots.nd rfl rfl (sw_true rfl rfl rfl (by decide +kernel)) (di_range1 bn.range (da_cons (dv 1) da_nil)) (blkOk_by (N := ["bowl", "places", "found", "turn", "lot", "spot"]) (sc := defScope s_law_lots) (by decide +kernel)) (fun s H C cl fp => (dg_name (i := 5) sc_law_lots.nd rfl (Or.inl rfl))) (fun s H C cl fp => (dts_one (dt_cmp (o_eq (Xk.blk xk _ _ _ _ _).K (Xk.blk xk _ _ _ _ _).u64) (de_call F__law_spoon (Xk.blk xk _ _ _ _ _) (da_cons (dv 0) (da_cons de_int da_nil))) de_int (by rfl)))) (fun s H C cl fp => (dv 5)) (by simp)) (ds_one (ds_app (i := 2) rfl (de_ife (dt_cmp (o_ne xk.K xk.u64) (dv 4) (de_lst da_nil) (by rfl)) (dv 4) (de_lst (da_cons (de_call F__law_spoon xk (da_cons (dv 0) (da_cons (dv 1) da_nil))) da_nil))))))) (ds_freeze (i := 2) (ds_one (ds_ret (dv 2))))))) ?_) (by decide)
  rintro ds R ex hl ⟨m, rfl, m1, m4, hr⟩
  refine ⟨small (by simp), fun a => ?_⟩
  dsimp only [List.set]
  refine seq_to (fun env' => ∃ a lots s3 s4, LotsIn m lots ∧ env' = [.val .urn, .val (.int m), .own a (lots.map lstD), s3, s4, .emp]) (fun de' hnx hrt => ?_) (fun env' e => ?_)
  · refine ⟨_, rfl, rfl, 3, rfl, by omega, by omega, fun v v0 v1 => ?_⟩
    obtain ⟨k, rfl⟩ := Int.eq_ofNat_of_zero_le v0
    refine ⟨1 + (k : Int), rfl, by omega, by omega, ?_⟩
    rw [show (1 + (k : Int)).toNat = k + 1 by omega]
    refine sForL_rng (fun i env => i ≤ k + 1 ∧ ∃ a lots s3 s4, lots.length = i ∧ (∀ q ∈ lots, q ≠ [] ∧ q.length ≤ 4 ∧ ∀ i ∈ q, 0 ≤ i ∧ i < (m : Int)) ∧ env = [.val .urn, .val (.int m), .own a (lots.map lstD), s3, s4, .emp]) ⟨by omega, a, [], .emp, .emp, rfl, (fun q hq => nomatch hq), rfl⟩ (fun i env hi hI nx hn2 => ?_) (fun env hI => ?_)
    · obtain ⟨hik, a, lots, s3, s4, hlen, hq, rfl⟩ := hI
      refine seq_to (fun env' => ∃ q : List Int, q.length ≤ 4 ∧ (∀ i ∈ q, 0 ≤ i ∧ i < (m : Int)) ∧ env' = [.val .urn, .val (.int m), .own a (lots.map lstD), .val (.int i), .val (lstD q), .emp]) (fun de2 hnx2 hrt2 => ?_) (fun env' e => ?_)
      · refine ⟨_, rfl, (m : Int), rfl, by omega, by omega, ?_⟩
        rw [Int.toNat_natCast]
        refine compL_anyF (fun r => ∃ j : Int, r = .int j ∧ 0 ≤ j ∧ j < (m : Int)) (fun d hd K K' hK hK' => ?_) (fun rs hl2 hrs => ?_)
        · rw [range_idx] at hd
          obtain ⟨j, hj, rfl⟩ := List.mem_map.mp hd
          refine ⟨_, rfl, rfl, 2, rfl, by omega, by omega, fun v v0 v1 => eqC (eq_int ⟨_, rfl, ite_of (fun hb => ⟨_, rfl, hK _ ⟨j, rfl, (idx_val hj).1, (idx_val hj).2⟩⟩) (fun hb => hK')⟩)⟩
        · obtain ⟨q, rfl, ql, qv⟩ := ints_of hrs
          rw [List.nil_append]
          refine hnx2 _ ⟨q, ?_, fun i hi => ?_, rfl⟩
          · have : q.length ≤ m := by simpa [rangeD] using hl2
            omega
          · exact qv i hi
      obtain ⟨q, q4, qv, rfl⟩ := e
      refine ⟨a, _, rfl, ?_⟩
      refine ⟨_, rfl, small (by simp), ne_nil ⟨_, rfl, ite_of (fun hb => ?_) (fun hb => ?_)⟩⟩
      · have hne : q ≠ [] := fun z => by rw [z] at hb; cases hb
        refine ⟨_, rfl, small (by simp; omega), hn2 _ ⟨by omega, a, lots ++ [q], .val (.int i), .val (lstD q), by simp [hlen], fun x hx => ?_, by rw [List.map_append]; rfl⟩⟩
        rcases List.mem_append.mp
              hx with hx | hx
        · exact hq x hx
        · rw [List.mem_singleton.mp hx]; exact ⟨hne, q4, qv⟩
      · refine ⟨_, rfl, _, rfl, rfl, m, rfl, by omega, by omega, fun j j0 j1 => ⟨small (by simp), small (by simp; omega), hn2 _ ⟨by omega, a, lots ++ [[j]], .val (.int i), .val (lstD q), by simp [hlen], fun x hx => ?_, by rw [List.map_append]; rfl⟩⟩⟩
        rcases List.mem_append.mp
              hx with hx | hx
        · exact hq x hx
        · rw [List.mem_singleton.mp hx]
          exact ⟨by simp, by simp, fun i hi => by rw [List.mem_singleton.mp hi]; exact ⟨j0, j1⟩⟩
    · obtain ⟨_, a, lots, s3, s4, hlen, hq, rfl⟩ := hI
      exact hnx _ ⟨a, lots, s3, s4, ⟨fun z => by rw [z] at hlen; simp at hlen, by omega, hq⟩, rfl⟩
  obtain ⟨a, lots, s3, s4, hL, rfl⟩ := e
  exact ⟨a, _, rfl, _, rfl, hr lots hL⟩
end
end Pg

set_option Elab.async false
set_option linter.all false
set_option maxRecDepth 100000
set_option maxHeartbeats 4100000
namespace Pg
open PySem L2 RZ Kn
section
variable {G : Gd} {P : Program} {w : World} {mg : Str → Option Value} {base : Heap} {f : Addr} {fd : FuncData}
/-- the unlike things of a row, each where it first stands -/
def uq : List Int → List Int := fun r => r.foldl (fun u x => if x ∈ u then u else u ++ [x]) []
theorem uq_snoc (r : List Int) (x : Int) : uq (r ++ [x]) = if x ∈ uq r then uq r else uq r ++ [x] := by unfold uq; rw [List.foldl_append]; rfl
theorem uq_mem {r : List Int} {x : Int} : x ∈ uq r ↔ x ∈ r := by
  induction r using PyProof.Rows.FinIter.snoc_ind with
  | nil => simp [uq]
  | snoc r y ih =>
    rw [uq_snoc, List.mem_append, List.mem_singleton]
    by_cases hy : y ∈ uq r
    · rw [if_pos hy, ih]
      constructor
      · exact .inl
      · rintro (h | rfl)
        · exact h
        · exact ih.mp hy
    · rw [if_neg hy, List.mem_append, List.mem_singleton, ih]
theorem uq_len (r : List Int) : (uq r).length ≤ r.length := by
  induction r using PyProof.Rows.FinIter.snoc_ind with
  | nil => simp [uq]
  | snoc r y ih =>
    rw [uq_snoc, List.length_append, List.length_singleton]
    split
    · omega
    · rw [List.length_append,
          List.length_singleton]
      omega
theorem any_int {l : List Int} {x : Int} : ((l.map PyData.int).any fun z => PyData.eqv z (.int x)) = decide (x ∈ l) := by
  rw [List.any_map]
  have : (fun z => PyData.eqv z (.int x)) ∘ PyData.int = fun i : Int => i == x := rfl
  rw [this, Bool.eq_iff_iff]
  simp
theorem idx_first {l : List Int} {x : Int} (h : x ∈ l) : l[l.idxOf x]? = some x ∧ ∀ k, k < l.idxOf x → l[k]? ≠ some x := by
  have hl := List.idxOf_lt_length_of_mem h
  refine ⟨by rw [List.getElem?_eq_getElem hl, List.getElem_idxOf hl], fun j hj e => ?_⟩
  obtain ⟨h1, h2⟩ := List.getElem?_eq_some_iff.mp e
  have h3 := List.not_of_lt_findIdx (p := (· == x)) hj
  simp only [beq_eq_false_iff_ne] at h3
  exact h3 h2
def pat (r : List Int) : List Int := r.map fun x => (((uq r).idxOf x : Nat) : Int)

theorem uq_nd (r : List Int) : (uq r).Nodup := by
  induction r using PyProof.Rows.FinIter.snoc_ind with
  | nil => exact List.nodup_nil
  | snoc r y ih =>
    rw [uq_snoc]
    split
    · exact ih
    · rename_i h
      refine List.nodup_append.mpr ⟨ih, by simp, fun a ha b hb e => ?_⟩
      rw [List.mem_singleton.mp hb] at e
      rw [e] at ha
      exact h ha
theorem len_le_nd : ∀ {l m : List Int}, l.Nodup → (∀ x ∈ l, x ∈ m) → l.length ≤ m.length
  | [], _, _, _ =>
        Nat.zero_le _
  | x :: l, m, nd, sub => by
    obtain ⟨h1, h2⟩ := List.nodup_cons.mp nd
    have hx := sub x List.mem_cons_self
    have z := len_le_nd (m := m.erase x) h2 fun y hy => (List.mem_erase_of_ne (fun e => h1 (by rw [← e]; exact hy))).mpr (sub y (List.mem_cons_of_mem _ hy))
    have e := List.length_erase_of_mem hx; have pos := List.length_pos_of_mem hx
    rw [List.length_cons]; omega
theorem nd_len {a b : List Int} (ha : a.Nodup) (hb : b.Nodup) (h : ∀ x, x ∈ a ↔ x ∈ b) : a.length = b.length :=
  Nat.le_antisymm (len_le_nd ha fun x hx => (h x).mp hx) (len_le_nd hb fun x hx => (h x).mpr hx)

def sPatN : FSpec := fun ds R _ => ∃ (d : D) (r : List Int), ds = [d] ∧ rowL d r ∧ r.length ≤ 1000 ∧ R (rowN (pat r))
theorem idx_fact {l : List Int} {x : Int} (hx : x ∈ l) : ∃ z, (l.map PyData.int)[l.idxOf x]? = some z ∧ PyData.eqv z (.int x) = true ∧ ∀ (m : Nat) (z' : PyData), m < l.idxOf x → (l.map PyData.int)[m]? = some z' → PyData.eqv z' (.int x) = false := by
  obtain ⟨h1, h2⟩ := idx_first hx
  refine ⟨.int x, by rw [List.getElem?_map, h1]; rfl, by show (x == x) = true; simp, fun k z hk hz => ?_⟩
  rw [List.getElem?_map] at hz
  obtain ⟨q, hq, rfl⟩ := Option.map_eq_some_iff.mp hz
  show (q == x) = false
  exact beq_eq_false_iff_ne.mpr fun e => h2 k hk (by rw [hq, e])
theorem seq_row {d : D} {r : List Int} {ex : Exc → Prop} {env : List Sl} {i : Nat} {Q : List D → Prop} (he : env[i]? = some (.val d)) (h : rowL d r) (hq : Q (r.map D.int)) : iSeq (dVarN i) ex env Q := by
  refine ⟨d, he, ?_⟩
  rcases h with rfl | rfl | rfl <;> exact hq
abbrev s_law_pattern : Stmt := topS 51
theorem sc_law_pattern : FnScope ["row", "seen", "thing"] ["row"] (defScope s_law_pattern) := ⟨rfl, rfl, rfl, by decide +kernel, rfl, by decide +kernel, by decide +kernel⟩
theorem ok_law_pattern (F : Fun G.K "_law_pattern" "_law_pattern" s_law_pattern f fd) (bn : Bn mg)  : FnD G P w mg base 1 f fd ["row"] 0 sPatN := by
  refine FnD.more (fnd_of F sc_law_pattern (fun cdv A outer s H E hr hg => have xk := xk_def (E := E) hr hg; (ds_cons (ds_own (i := 1) sc_law_pattern.nd rfl (Or.inr rfl) (df_lst da_nil)) (ds_cons (ds_for xk po_def (di_seq xk.K (dvn 0)) (dg_name (i := 2) sc_law_pattern.nd rfl (Or.inl rfl)) (ds_one (ds_ext (i := 1) rfl (de_ife (dt_lend 1 (dt_cmp (o_ni xk.K xk.u65) (dv 2) (dv 1) (by rfl))) (de_lst (da_cons (dv 2) da_nil)) (de_lst da_nil))))) (ds_freeze (i := 1) (ds_one (ds_ret (de_ty (c_tupleN xk.K) bn.tuple (da_cons (de_comp (own := [("thing", 2)]) xk sc_law_pattern.nd (di_seq xk.K (dvn 0)) (blkOk_by (N := ["row", "seen", "thing"]) (sc := defScope s_law_pattern) (by decide +kernel)) (fun s H C cl fp => (dg_name (i := 2) sc_law_pattern.nd rfl (Or.inl rfl))) (fun s H C cl fp => dts_nil) (fun s H C cl fp => (de_index (Xk.blk xk _ _ _ _ _) (dv 1) (dv 2))) (by simp)) da_nil)))))))) ?_) (by decide)
  rintro ds R ex hl ⟨d, r, rfl, hd, hlen, hr⟩
  have hu : ∀ n, (uq (r.take n)).length ≤ 1000 := fun n => by
    have := uq_len (r.take n)
    rw [List.length_take] at this
    omega
  refine ⟨small (by simp), fun a => ?_⟩
  dsimp only [List.set]
  refine seq_to (fun env' => ∃ a s, env' = [.val d, .own a ((uq r).map D.int), s]) (fun de' hnx hrt => ?_) (fun env' e => ?_)
  · refine seq_row rfl hd ?_
    refine sForL_of D.int (fun i env => ∃ a s, env = [.val d, .own a ((uq (r.take i)).map D.int), s]) ⟨a, _, rfl⟩ (fun i x env hi hI nx hn => ?_) (fun env hI => ?_)
    · obtain ⟨a, s, rfl⟩ := hI
      have et : r.take (i + 1) = r.take i ++ [x] := by rw [List.take_succ, hi]; rfl
      refine ⟨a, _, rfl, _, _, rfl, .inl ⟨_, _, rfl, rfl⟩, _, rfl, _, rfl, .int x, (uq (r.take i)).map PyData.int, _, rfl, rfl, pdL_int _, rfl, shaped_lst _, ?_⟩
      rw [any_int]
      refine ⟨_, rfl, ite_of (fun hb => ?_) (fun hb => ?_)⟩
      · refine ⟨_, rfl, small (by simp), _, rfl, small (by have := hu i; simp; omega), hn _ ⟨a, .val (.int x), ?_⟩⟩
        rw [et, uq_snoc, if_neg (by simpa using hb), List.map_append]
        rfl
      · refine ⟨small (by simp), _, rfl, small (by have := hu i; simp; omega), hn _ ⟨a, .val (.int x), ?_⟩⟩
        rw [et, uq_snoc, if_pos (by simpa using hb), List.append_nil]
        rfl
    · obtain ⟨a, s, rfl⟩ := hI
      rw [List.take_length]
      exact hnx _ ⟨a, s, rfl⟩
  obtain ⟨a, s, rfl⟩ := e
  refine ⟨a, _, rfl, seq_row (ex := ex) rfl hd ?_⟩
  refine compL_of D.int (fun x => D.int (((uq r).idxOf x : Nat) : Int)) (fun x hx K hK => ?_) ?_
  · obtain ⟨z, z1, z2, z3⟩ := idx_fact (uq_mem.mpr hx)
    exact ⟨_, rfl, _, _, rfl, pdL_int _, shaped_lst _, _, rfl, .int x, _, z, rfl, rfl, z1, z2, z3, hK⟩
  · rw [List.nil_append]
    refine nilTN ?_
    have e : (r.map fun x => D.int (((uq r).idxOf x : Nat) : Int)) = (pat r).map D.int := by unfold pat; rw [List.map_map]; rfl
    rw [e]
    exact hr
/-- how many unlike things a row has -/
def blN (r : List Int) : Nat := (uq r).length
theorem pat_val {r : List Int} {b : Int} : b ∈ pat r ↔ ∃ k : Nat, b = k ∧ k < blN r := by
  constructor
  · intro h
    obtain ⟨x, hx, rfl⟩ := List.mem_map.mp h
    exact ⟨_, rfl, List.idxOf_lt_length_of_mem (uq_mem.mpr hx)⟩
  · rintro ⟨k, rfl, hk⟩
    have hk' : k < (uq r).length := hk
    refine List.mem_map.mpr ⟨(uq r)[k], uq_mem.mp (List.getElem_mem hk'), ?_⟩
    have := nd_idx (uq_nd r) hk'
    show (((uq r).idxOf (uq r)[k] : Nat) : Int) = k
    rw [this]
theorem bl_pos {r : List Int} (h : r ≠ []) : 0 < blN r := by
  cases r with
  | nil => exact absurd rfl h
  | cons x r => exact List.length_pos_of_mem (uq_mem.mpr (List.mem_cons_self (a := x) (l := r)))
theorem pat_best {r : List Int} (h : r ≠ []) : greatest (pat r) = some ((blN r : Int) - 1) := by
  cases hg : greatest (pat r) with
  | none =>
    exfalso
    cases r with
    | nil => exact h rfl
    | cons x r => cases hg
  | some m =>
    obtain ⟨h1, h2⟩ := greatest_mem hg
    obtain ⟨k, rfl, hk⟩ := pat_val.mp h1
    have hp := bl_pos h
    have h3 := h2 ((blN r - 1 : Nat) : Int) (pat_val.mpr ⟨_, rfl, by omega⟩)
    congr 1
    omega
theorem pat_bl {r q : List Int} (hr : r ≠ []) (hq : q ≠ []) (h : pat r = pat q) : blN r = blN q := by
  have h1 := pat_best hr
  rw [h, pat_best hq] at h1
  have := Option.some.inj h1
  omega
theorem idx_nd (n : Nat) : (idx n).Nodup := by
  refine List.nodup_iff_pairwise_ne.mpr (List.pairwise_iff_getElem.mpr fun i j hi hj hij e => ?_)
  simp only [idx, List.getElem_map, List.getElem_range] at e
  omega
def leftR (n : Nat) (r : List Int) : List Int := (idx n).filter fun x => !decide (x ∈ r)
theorem part_len {α : Type} (p : α → Bool) : ∀ l : List α, (l.filter p).length + (l.filter fun x => !p x).length = l.length
  | [] => rfl
  | x :: l => by
    rw [List.filter_cons, List.filter_cons, List.length_cons, ← part_len p l]
    cases p x <;> simp <;> omega
theorem mem_idx {n : Nat} {i : Int} : i ∈ idx n ↔ 0 ≤ i ∧ i < n := by
  refine ⟨idx_val, fun ⟨h0, h1⟩ => ?_⟩
  obtain ⟨k, rfl⟩ := Int.eq_ofNat_of_zero_le h0
  exact List.mem_map.mpr ⟨k, List.mem_range.mpr (by omega), rfl⟩
theorem left_len {n : Nat} {r : List Int} (hv : ∀ i ∈ r, 0 ≤ i ∧ i < (n : Int)) : blN r + (leftR n r).length = n := by
  have h1 := part_len (fun x => decide (x ∈ r)) (idx n)
  rw [idx_len] at h1
  have h2 : ((idx n).filter fun x => decide (x ∈ r)).length = blN r := nd_len ((idx_nd n).filter _) (uq_nd r) fun x => by
    rw [List.mem_filter, uq_mem, mem_idx]
    constructor
    · rintro ⟨_, h⟩; exact of_decide_eq_true h
    · intro h; exact ⟨hv x h, decide_eq_true h⟩
  rw [h2] at h1
  exact h1
theorem look_mem {ks : List (List Int)} {cs : List Int} {r : List Int} (hl : cs.length = ks.length) (h : r ∈ ks) : ∃ (i : Nat) (c : Int), ks[i]? = some r ∧ cs[i]? = some c ∧ lookT ks (cs.map D.int) r = some (.int c) := by
  have hi := List.idxOf_lt_length_of_mem h
  have h1 : ks[ks.idxOf r]? = some r := by rw [List.getElem?_eq_getElem hi, List.getElem_idxOf hi]
  have h2 : cs[ks.idxOf r]? = some cs[ks.idxOf r] := List.getElem?_eq_getElem (by omega)
  refine ⟨_, _, h1, h2, look_zip h1 h2 fun j hj e => ?_⟩
  obtain ⟨g1, g2⟩ := List.getElem?_eq_some_iff.mp e
  have h3 := List.not_of_lt_findIdx (p := (· == r)) hj
  simp only [beq_eq_false_iff_ne] at h3
  exact h3 g2
/-- what is chosen for each pattern -/
def ChoOk (n : Nat) (ks : List (List Int)) (cs : List Int) : Prop := cs.length = ks.length ∧ ∀ (i : Nat) (k : List Int) (c : Int), ks[i]? = some k → cs[i]? = some c → ∃ r : List Int, r ≠ [] ∧ k = pat r ∧ 0 ≤ c ∧ c < blN r + (if blN r + 1 = n then 1 else 0)
theorem ChoOk.get {n : Nat} {ks : List (List Int)} {cs : List Int} {r : List Int} (h : ChoOk n ks cs) (hne : r ≠ []) (hr : pat r ∈ ks) : ∃ c : Int, lookT ks (cs.map D.int) (pat r) = some (.int c) ∧ 0 ≤ c ∧ c < blN r + (if blN r + 1 = n then 1 else 0) := by
  obtain ⟨i, c, h1, h2, h3⟩ := look_mem h.1 hr
  obtain ⟨q, q0, q1, q2, q3⟩ := h.2 i _ c h1 h2
  have e := pat_bl hne q0 q1
  rw [← e] at q3
  exact ⟨c, h3, q2, q3⟩
theorem ChoOk.put {n : Nat} {ks : List (List Int)} {cs : List Int} {r : List Int} {c : Int} (h : ChoOk n ks cs) (hne : r ≠ []) (h0 : 0 ≤ c) (h1 : c < blN r + (if blN r + 1 = n then 1 else 0)) : ChoOk n (ks ++ [pat r]) (cs ++ [c]) := by
  obtain ⟨hl, hc⟩ := h
  refine ⟨by rw [List.length_append, List.length_append, hl]; rfl, fun i k x hk hx => ?_⟩
  by_cases hi : i < ks.length
  · rw [List.getElem?_append_left hi] at hk
    rw [List.getElem?_append_left (by omega)] at hx
    exact hc i k x hk hx
  · rw [List.getElem?_append_right (by omega)] at hk
    rw [List.getElem?_append_right (by omega)] at hx
    have hz : i - ks.length = 0 := by
      have := (List.getElem?_eq_some_iff.mp hk).1
      simp at this; omega
    rw [hz] at hk
    rw [show i - cs.length = 0 by omega] at hx
    cases hk; cases hx
    exact ⟨r, hne, rfl, h0, h1⟩
theorem putKs_new {ks : List (List Int)} {r : List Int} (h : r ∉ ks) : putKs ks r = ks ++ [r] := by unfold putKs; rw [if_neg h]
theorem putDs_new {ks : List (List Int)} {ds : List D} {r : List Int} {d : D} (h : r ∉ ks) : putDs ks ds r d = ds ++ [d] := by unfold putDs; rw [if_neg h]
def sBlocksT : TSpec := fun ds R _ => ∃ n m : Nat, ds = [.urn, .int n, .int m, inD n m] ∧ SzIn n m ∧ ∀ vs : List Int, ToldIn n m vs → R (allRows n m) (vs.map D.int)
abbrev s_law_by_blocks : Stmt := topS 52
theorem sc_law_by_blocks : FnScope ["bowl", "things", "places", "inputs", "chosen", "table", "row", "pattern", "blocks", "left", "thing"] ["bowl", "things", "places", "inputs"] (defScope s_law_by_blocks) := ⟨rfl, rfl, rfl, by decide +kernel, rfl, by decide +kernel, by decide +kernel⟩
theorem ok_law_by_blocks (F : Fun G.K "_law_by_blocks" "_law_by_blocks" s_law_by_blocks f fd) (bn : Bn mg) (F__law_spoon : Fk G P w mg base 1 "_law_spoon" ["bowl", "many"] 1 sDraw) (F__law_pattern : Fk G P w mg base 1 "_law_pattern" ["row"] 0 sPatN) : FnT G P w mg base 2 f fd ["bowl", "things", "places", "inputs"] 67108864 sBlocksT := by
  refine FnT.cost (fnt_of F sc_law_by_blocks (fun cdv A outer s H E hr hg => have xk := xk_def (E := E) hr hg; (ds_cons (ds_dic2 (i := 4) (j := 5) xk.calm sc_law_by_blocks.nd rfl rfl (by decide) rfl rfl (hw := (by with_unfolding_all rfl))) (ds_cons (ds_for xk po_def (di_seq xk.K (dv 3)) (dg_name (i := 6) sc_law_by_blocks.nd rfl (Or.inr rfl)) (ds_cons (ds_set (i := 7) sc_law_by_blocks.nd rfl (Or.inl rfl) (de_call F__law_pattern xk (da_cons (dvn 6) da_nil))) (ds_cons (ds_par (i := 8) (j := 9) xk.calm sc_law_by_blocks.nd rfl rfl (by decide) rfl rfl (da_cons (de_op (o_add xk.K) (de_bi (c_maxA xk.K xk.calm xk.u64) bn.max (da_cons (dv 7) da_nil)) de_int) (da_cons (de_comp (own := [("thing", 10)]) xk sc_law_by_blocks.nd (di_range1 bn.range (da_cons (dv 1) da_nil)) (blkOk_by (N := ["bowl", "things", "places", "inputs", "chosen", "table", "row", "pattern", "blocks", "left", "thing"]) (sc := defScope s_law_by_blocks) (by decide +kernel)) (fun s H C cl fp => (dg_name (i := 10) sc_law_by_blocks.nd rfl (Or.inl rfl))) (fun s H C cl fp => (dts_one (dt_cmp (o_niT (Xk.blk xk _ _ _ _ _).K (Xk.blk xk _ _ _ _ _).u65) (dv 10) (dvn 6) (by rfl)))) (fun s H C cl fp => (dv 10)) (by simp)) da_nil)) (hw := (by with_unfolding_all rfl))) (ds_cons (ds_if (dt_lend 4 (dt_cmp (o_niD xk.K (xk.u (n := 1))) (dv 7) (dv 4) (by rfl))) (ds_one (ds_dput (i := 4) xk.K (xk.u (n := 1)) rfl (de_call F__law_spoon xk (da_cons (dv 0) (da_cons (de_op (o_add xk.K) (dv 8) (de_ty (c_int) bn.int (da_cons (de_cmp (o_eq xk.K xk.u64) (de_bi (c_len xk.K) bn.len (da_cons (dv 9) da_nil)) de_int (by rfl)) da_nil))) da_nil))) (dv 7))) ds_nil) (ds_one (ds_dput (i := 5) xk.K (xk.u (n := 1)) rfl (de_ife (dt_cmp (o_eq xk.K xk.u64) (de_lend 4 (de_tget xk.K (xk.u (n := 1)) (dv 4) (dv 7))) (dv 8) (by rfl)) (de_ix xk.K (dv 9) de_int (fun _ _ => rfl)) (de_ix xk.K (dvn 6) (de_indexV (i := 7) xk rfl (de_lend 4 (de_tget xk.K (xk.u (n := 1)) (dv 4) (dv 7)))) (fun _ _ => rfl))) (dvn 6))))))) (ds_one (ds_ret (de_ownT 5)))))) ?_) (by decide)
  rintro ds R ex hl ⟨n, m, rfl, S, hr⟩
  obtain ⟨n1, n5, m1, m4, hk⟩ := id S
  intro a b
  dsimp only [List.set]
  refine seq_to (fun env' => ∃ (a b : Addr) (ks : List (List Int)) (cs vs : List Int) (s6 s7 s8 s9 : Sl), ToldIn n m vs ∧ env' = [.val .urn, .val (.int n), .val (.int m), .val (inD n m), .dic a ks (cs.map D.int), .dic b (allRows n m) (vs.map D.int), s6, s7, s8, s9, .emp]) (fun de' hnx hrt => ?_) (fun env' e => ?_)
  · refine ⟨_, rfl, ?_⟩
    refine sForL_of rowN (fun i env => ∃ (a b : Addr) (ks : List (List Int)) (cs vs : List Int) (s6 s7 s8 s9 : Sl), ks.length ≤ i ∧ ChoOk n ks cs ∧ vs.length = i ∧ (∀ v ∈ vs, 0 ≤ v ∧ v < (n : Int)) ∧ env = [.val .urn, .val (.int n), .val (.int m), .val (inD n m), .dic a ks (cs.map D.int), .dic b ((allRows n m).take i) (vs.map D.int), s6, s7, s8, s9, .emp]) ⟨a, b, [], [], [], .emp, .emp, .emp, .emp, Nat.le_refl _, ⟨rfl, fun i k c h => by simp at h⟩, rfl, (fun v hv => nomatch hv), rfl⟩ (fun i r env hi hI nx hn2 => ?_) (fun env hI => ?_)
    · obtain ⟨a, b, ks, cs, vs, s6, s7, s8, s9, hkl, hC, hvl, hvv, rfl⟩ := hI
      obtain ⟨hil, hir⟩ := List.getElem?_eq_some_iff.mp hi
      have hmem := List.mem_of_getElem? hi
      have hrl := allRows_row n m r hmem
      have hrv := allRows_val n m r hmem
      have hne : r ≠ [] := fun z => by rw [z] at hrl; simp at hrl; omega
      have hbp := bl_pos hne
      have hll := left_len hrv
      have hcount : (allRows n m).length ≤ 256 := by rw [allRows_len]; exact hk
      refine seq_to (fun env' => env' = [.val .urn, .val (.int n), .val (.int m), .val (inD n m), .dic a ks (cs.map D.int), .dic b ((allRows n m).take i) (vs.map D.int), .val (rowN r), .val (rowN (pat r)), s8, s9, .emp]) (fun de' hnx hrt => ?_) (fun env' e => ?_)
      · exact ⟨_, rfl, rfl, _, r, rfl, .inr (.inl rfl), by omega, hnx _ rfl⟩
      subst e
      refine seq_to (fun env' => env' = [.val .urn, .val (.int n), .val (.int m), .val (inD n m), .dic a ks (cs.map D.int), .dic b ((allRows n m).take i) (vs.map D.int), .val (rowN r), .val (rowN (pat r)), .val (.int (blN r)), .val (.lst ((leftR n r).map D.int)), .emp]) (fun de' hnx hrt => ?_) (fun env' e => ?_)
      · refine ⟨_, rfl, pat r, _, .inr (.inr rfl), pat_best hne, ?_⟩
        refine ⟨_, rfl, (n : Int), rfl, by omega, by omega, ?_⟩
        rw [Int.toNat_natCast, range_idx]
        refine compL_ofF D.int D.int (fun x => !decide (x ∈ r)) (fun x hx K K' h1 h2 => ?_) ?_
        · refine ⟨_, rfl, _, rfl, .int x, r.map PyData.int, _, rfl, rfl, pdL_int _, rfl, shaped_row _, ?_⟩
          rw [any_int]
          exact ⟨_, rfl, ite_of (fun hb => ⟨_, rfl, h1 hb⟩) (fun hb => h2 hb)⟩
        · rw [List.nil_append]
          refine ⟨_, _, rfl, hnx _ ?_⟩
          rw [show (blN r : Int) - 1 + 1 = blN r by omega]
          rfl
      subst e
      refine seq_to (fun env' => ∃ (ks : List (List Int)) (cs : List Int), ks.length ≤ i + 1 ∧ ChoOk n ks cs ∧ pat r ∈ ks ∧ env' = [.val .urn, .val (.int n), .val (.int m), .val (inD n m), .dic a ks (cs.map D.int), .dic b ((allRows n m).take i) (vs.map D.int), .val (rowN r), .val (rowN (pat r)), .val (.int (blN r)), .val (.lst ((leftR n r).map D.int)), .emp]) (fun de' hnx hrt => ?_) (fun env' e => ?_)
      · refine ⟨_, _, rfl, .inr (.inr ⟨_, _, _, rfl, rfl⟩), _, rfl, _, rfl, ks, _, pat r, rowK_n _, rfl, _, rfl, ite_of (fun hb => ?_) (fun hb => ?_)⟩
        · have hnk : pat r ∉ ks := by simpa using hb
          refine ⟨⟨_, _, _, rfl⟩, _, rfl, _, rfl, _, rfl, nilLen ?_⟩
          rw [List.length_map]
          refine eqC (eq_int ?_)
          refine ⟨rfl, blN r + (if ((leftR n r).length : Int) == 1 then 1 else 0), ?_, ?_, ?_, fun c c0 c1 => ?_⟩
          · rfl
          · split <;> omega
          · split <;> omega
          · have hcb : c < blN r + (if blN r + 1 = n then 1 else 0) := by
              by_cases h1 : blN r + 1 = n
              · rw [if_pos h1]
                rw [if_pos (by rw [show (leftR n r).length = 1 by omega]; rfl)] at c1
                exact c1
              · rw [if_neg h1]
                have hne1 : (((leftR n r).length : Int) == 1) = false := beq_eq_false_iff_ne.mpr (by omega)
                rw [if_neg (by rw [hne1]; decide)] at c1
                exact c1
            refine ⟨_, rfl, _, _, _, pat r, rfl, rowK_n _, small (by omega), hnx _ ⟨ks ++ [pat r], cs ++ [c], by rw [List.length_append, List.length_singleton]; omega, hC.put hne c0 hcb, List.mem_append_right _ (List.mem_singleton_self _), ?_⟩⟩
            rw [putKs_new hnk, putDs_new hnk, List.map_append]
            rfl
        · have hnk : pat r ∈ ks := by simpa using hb
          exact hnx _ ⟨ks, cs, by omega, hC, hnk, rfl⟩
      obtain ⟨ks, cs, hkl, hC, hin, rfl⟩ := e
      obtain ⟨c, hc1, c0, c1⟩ := hC.get hne hin
      have hnr : r ∉ (allRows n m).take i := fun z => by
        obtain ⟨j, hj, e⟩ := List.mem_iff_getElem.mp z
        rw [List.length_take] at hj
        rw [List.getElem_take] at e
        have e3 := (List.getElem_inj (h₀ := by omega) (h₁ := hil) (rows_nd n m)).mp (e.trans hir.symm)
        omega
      have fin : ∀ x : Int, 0 ≤ x → x < n → dVarN 6 ex [.val .urn, .val (.int n), .val (.int m), .val (inD n m), .dic a ks (cs.map D.int), .dic b ((allRows n m).take i) (vs.map D.int), .val (rowN r), .val (rowN (pat r)), .val (.int (blN r)), .val (.lst ((leftR n r).map D.int)), .emp] fun y => ∃ (a1 : Addr) (ks1 : List (List Int)) (ds1 : List D) (r1 : List Int), ([.val .urn, .val (.int n), .val (.int m), .val (inD n m), .dic a ks (cs.map D.int), .dic b ((allRows n m).take i) (vs.map D.int), .val (rowN r), .val (rowN (pat r)), .val (.int (blN r)), .val (.lst ((leftR n r).map D.int)), .emp] : List Sl)[5]? = some (.dic a1 ks1 ds1) ∧ rowK y r1 ∧ ks1.length < sizeLine ∧ nx (([.val .urn, .val (.int n), .val (.int m), .val (inD n m), .dic a ks (cs.map D.int), .dic b ((allRows n m).take i) (vs.map D.int), .val (rowN r), .val (rowN (pat r)), .val (.int (blN r)), .val (.lst ((leftR n r).map D.int)), .emp] : List Sl).set 5 (.dic a1 (putKs ks1 r1) (putDs ks1 ds1 r1 (.int x)))) := fun x x0 x1 => by
        refine ⟨_, rfl, b, _, _, r, rfl, rowK_t, small (by rw [List.length_take]; omega), hn2 _ ⟨a, b, ks, cs, vs ++ [x], .val (rowN r), .val (rowN (pat r)), .val (.int (blN r)), .val (.lst ((leftR n r).map D.int)), hkl, hC, by rw [List.length_append, hvl]; rfl, fun v hv => ?_, ?_⟩⟩
        · rcases List.mem_append.mp
              hv with hv | hv
          · exact hvv v hv
          · rw [List.mem_singleton.mp hv]; exact ⟨x0, x1⟩
        · rw [putKs_new hnr, putDs_new hnr, List.map_append, List.take_succ, hi]
          rfl
      refine ⟨⟨_, _, _, rfl⟩, _, _, rfl, .inr (.inr ⟨_, _, _, rfl, rfl⟩), _, rfl, _, rfl, ks, _, pat r, .int c, rfl, rowK_n _, hc1, rfl, _, rfl, eq_int ⟨_, rfl, ite_of (fun hb => ?_) (fun hb => ?_)⟩⟩
      · have hcb : c = blN r := eq_of_beq hb
        have h1 : blN r + 1 = n := by
          by_cases h1 : blN r + 1 = n
          · exact h1
          · rw [if_neg h1] at c1; omega
        have hl1 : 0 < (leftR n r).length := by omega
        have hm := List.getElem_mem hl1
        obtain ⟨x0, x1⟩ := mem_idx.mp (List.mem_filter.mp hm).1
        refine ⟨_, rfl, .int (leftR n r)[0], atI_nat (j := 0) (by rw [List.getElem?_map, List.getElem?_eq_getElem hl1]; rfl), fin _ x0 x1⟩
      · have hcn : c ≠ blN r := by simpa using hb
        have hcl : c < blN r := by
          by_cases h1 : blN r + 1 = n
          · rw [if_pos h1] at c1; omega
          · rw [if_neg h1] at c1; omega
        obtain ⟨k, rfl⟩ := Int.eq_ofNat_of_zero_le c0
        have hcm : (k : Int) ∈ pat r := pat_val.mpr ⟨k, rfl, by omega⟩
        have hf := idx_first hcm
        have hj : (pat r).idxOf (k : Int) < r.length := by
          have := List.idxOf_lt_length_of_mem hcm
          unfold pat at this ⊢
          rwa [List.length_map] at this
        obtain ⟨x0, x1⟩ := hrv _ (List.getElem_mem hj)
        refine ⟨_, rfl, _, pat r, rfl, .inr rfl, _, _, rfl, .inr (.inr ⟨_, _, _, rfl, rfl⟩), _, rfl, _, rfl, ks, _, pat r, .int k, rfl, rowK_n _, hc1, rfl, k, _, rfl, hf, .int r[(pat r).idxOf (k : Int)], atI_nat (by rw [List.getElem?_map, List.getElem?_eq_getElem hj]; rfl), fin _ x0 x1⟩
    · obtain ⟨a, b, ks, cs, vs, s6, s7, s8, s9, hkl, hC, hvl, hvv, rfl⟩ := hI
      rw [List.take_length]
      exact hnx _ ⟨a, b, ks, cs, vs, s6, s7, s8, s9, ⟨n1, n5, m1, m4, hk, by rw [hvl, allRows_len], hvv⟩, rfl⟩
  obtain ⟨a, b, ks, cs, vs, s6, s7, s8, s9, T, rfl⟩ := e
  refine ⟨b, _, _, rfl, 5, b, _, _, rfl, rfl, hr vs T⟩
end
end Pg

set_option Elab.async false
set_option linter.all false
set_option maxRecDepth 100000
set_option maxHeartbeats 4100000
namespace Pg
open PySem L2 RZ Kn
section
variable {G : Gd} {P : Program} {w : World} {mg : Str → Option Value} {base : Heap} {f : Addr} {fd : FuncData}
theorem compL_draw {α : Type} {tg : DG} {te : DT} {Q : List D → Prop} {env : List Sl} (g : α → D) (r : α → Int → D) (P : Int → Prop) : ∀ {xs : List α} {acc : List D}, (∀ x ∈ xs, ∀ K : D → Prop, (∀ v, P v → K (r x v)) → tg (g x) env fun env2 => te noX env2 K) →
    (∀ vs : List Int, vs.length = xs.length → (∀ v ∈ vs, P v) → Q (acc ++ List.zipWith r xs vs)) → compL tg bYes te Q env (xs.map g) acc
  | [], acc, _, hq => by
    unfold compL
    simpa using hq [] rfl (fun v hv => nomatch hv)
  | x :: xs, acc, h, hq => by
    rw [List.map_cons]
    unfold compL
    refine h x List.mem_cons_self _ fun v hv => ?_
    refine compL_draw g r P (fun y hy => h y (List.mem_cons_of_mem _ hy)) fun vs hl hvs => ?_
    have := hq (v :: vs) (by simp [hl]) fun z hz => by
      rcases List.mem_cons.mp
            hz with rfl | hz
      · exact hv
      · exact hvs z hz
    simpa using this
def pairD (r : List Int) (v : Int) : D := .tup [rowD r, .int v]
theorem zw_keys : ∀ {rows : List (List Int)} {vs : List Int}, vs.length = rows.length → (List.zipWith (fun r v => ((rowD r, r, D.int v) : D × List Int × D)) rows vs).map (·.2.1) = rows ∧ (List.zipWith (fun r v => ((rowD r, r, D.int v) : D × List Int × D)) rows vs).map (·.2.2) = vs.map D.int ∧ (List.zipWith (fun r v => ((rowD r, r, D.int v) : D × List Int × D)) rows vs).map (fun p => D.tup [p.1, p.2.2]) = List.zipWith pairD rows vs ∧ ∀ p ∈ List.zipWith (fun r v => ((rowD r, r, D.int v) : D × List Int × D)) rows vs, rowK p.1 p.2.1
  | [], [], _ => ⟨rfl, rfl, rfl, fun p hp => nomatch hp⟩
  | [], _ :: _, h => by cases h
  | _ :: _, [], h => by cases h
  | r :: rows, v :: vs, h => by
    obtain ⟨h1, h2, h3, h4⟩ := zw_keys (rows := rows) (vs := vs) (by simpa using h)
    refine ⟨by simp only [List.zipWith_cons_cons, List.map_cons, h1], by simp only [List.zipWith_cons_cons, List.map_cons, h2], by simp only [List.zipWith_cons_cons, List.map_cons, h3]; rfl, fun p hp => ?_⟩
    rw [List.zipWith_cons_cons] at hp; rcases List.mem_cons.mp hp with rfl | hp
    · exact rowK_t
    · exact h4 p hp
theorem dict_zip {rows : List (List Int)} {vs : List Int} (hl : vs.length = rows.length) (hn : rows.Nodup) :
    ∃ ps : List (D × List Int × D), D.lst (List.zipWith pairD rows vs) = .lst (ps.map fun p => .tup [p.1, p.2.2]) ∧ (∀ p ∈ ps, rowK p.1 p.2.1) ∧ (ps.map (·.2.1)).Nodup ∧ ps.map (·.2.1) = rows ∧ ps.map (·.2.2) = vs.map D.int := by
  obtain ⟨h1, h2, h3, h4⟩ := zw_keys hl
  exact ⟨_, by rw [h3], h4, by rw [h1]; exact hn, h1, h2⟩
theorem dict_map {rows : List (List Int)} (g : List Int → Int) (hn : rows.Nodup) :
    ∃ ps : List (D × List Int × D), D.lst (rows.map fun r => pairD r (g r)) = .lst (ps.map fun p => .tup [p.1, p.2.2]) ∧ (∀ p ∈ ps, rowK p.1 p.2.1) ∧ (ps.map (·.2.1)).Nodup ∧ ps.map (·.2.1) = rows ∧ ps.map (·.2.2) = (rows.map g).map D.int := by
  have e : (rows.map fun r => pairD r (g r)) = List.zipWith pairD rows (rows.map g) := by
    rw [List.zipWith_map_right, List.zipWith_self]
  rw [e]
  exact dict_zip (by simp) hn
theorem told_map {n m : Nat} {g : List Int → Int} (S : SzIn n m) (h : ∀ r ∈ allRows n m, 0 ≤ g r ∧ g r < (n : Int)) : ToldIn n m ((allRows n m).map g) :=
  ⟨S.1, S.2.1, S.2.2.1, S.2.2.2.1, S.2.2.2.2, by rw [List.length_map, allRows_len], fun i hi => by obtain ⟨r, hr, rfl⟩ := List.mem_map.mp hi; exact h r hr⟩
theorem told_of {n m : Nat} {vs : List Int} (S : SzIn n m) (hl : vs.length = (allRows n m).length) (h : ∀ v ∈ vs, 0 ≤ v ∧ v < (n : Int)) : ToldIn n m vs :=
  ⟨S.1, S.2.1, S.2.2.1, S.2.2.2.1, S.2.2.2.2, by rw [hl, allRows_len], h⟩
theorem putKs_old {ks : List (List Int)} {r : List Int} (h : r ∈ ks) : putKs ks r = ks := by unfold putKs; rw [if_pos h]
theorem putDs_old {ks : List (List Int)} {vs : List Int} {r : List Int} {x : Int} {i : Nat} (h : r ∈ ks) (hn : ks.Nodup) (hi : ks[i]? = some r) (hl : vs.length = ks.length) : putDs ks (vs.map D.int) r (.int x) = (vs.set i x).map D.int := by
  unfold putDs
  rw [if_pos h]
  refine List.ext_getElem? fun j => ?_; by_cases hj : j < ks.length
  · have hz : j < (ks.zip (vs.map D.int)).length := by rw [List.length_zip, List.length_map]; omega
    rw [List.getElem?_map, List.getElem?_eq_getElem hz, List.getElem_zip, List.getElem?_map, List.getElem?_set]
    obtain ⟨hil, hie⟩ := List.getElem?_eq_some_iff.mp hi
    by_cases e : i = j
    · subst e
      rw [if_pos rfl, if_pos (by omega)]
      show some (if ks[i] = r then D.int x else _) = _
      rw [if_pos hie]; rfl
    · rw [if_neg e]
      have hne : ks[j] ≠ r := fun z => e ((List.getElem_inj (h₀ := hil) (h₁ := hj) hn).mp (hie.trans z.symm))
      show some (if ks[j] = r then D.int x else _) = _
      rw [if_neg hne, List.getElem?_eq_getElem (by omega : j < vs.length), List.getElem_map]; rfl
  · rw [List.getElem?_eq_none (by rw [List.length_map, List.length_zip, List.length_map]; omega), List.getElem?_eq_none (by rw [List.length_map, List.length_set]; omega)]
def sTableD : FSpec := fun ds R _ => ∃ n m : Nat, ds = [.urn, .int n, .int m] ∧ SzIn n m ∧ ∀ vs : List Int, ToldIn n m vs → R (tabD n m vs)
/-- the greatest of the leasts of lots -/
def lotV (lots : List (List Int)) (r : List Int) : Int := ((greatest (lots.map fun q => (least (q.map (atR r))).getD 0)).getD 0)
theorem best_of {f : List Int → Option Int} {ds : List D} {ns : List Int} {m : Int} {Q : D → Prop} (e : ds = ns.map D.int) (hm : f ns = some m) (hq : Q (.int m)) : gBest f (.lst ds) Q := ⟨ns, m, .inl (by rw [e]), hm, hq⟩
theorem some_best {l : List Int} (h : l ≠ []) : ∃ m, greatest l = some m := by
  cases l with
  | nil => exact absurd rfl h
  | cons x l => exact ⟨_, rfl⟩
theorem some_least {l : List Int} (h : l ≠ []) : ∃ m, least l = some m := by
  cases l with
  | nil => exact absurd rfl h
  | cons x l => exact ⟨_, rfl⟩
abbrev s_law_table : Stmt := topS 53
theorem sc_law_table : FnScope ["bowl", "things", "places", "inputs", "way", "fixed", "lots", "place", "table", "row", "lot", "spot"] ["bowl", "things", "places"] (defScope s_law_table) := ⟨rfl, rfl, rfl, by decide +kernel, rfl, by decide +kernel, by decide +kernel⟩
theorem ok_law_table (F : Fun G.K "_law_table" "_law_table" s_law_table f fd) (bn : Bn mg) (F__law_spoon : Fk G P w mg base 1 "_law_spoon" ["bowl", "many"] 1 sDraw) (F__law_one_of : Fk G P w mg base 2 "_law_one_of" ["bowl", "some"] 1 sPick) (F__law_inputs : Fk G P w mg base 1 "_law_inputs" ["things", "places"] 0 sInputsN) (F__law_lots : Fk G P w mg base 2 "_law_lots" ["bowl", "places"] 1152921504606846976 sLots) (F__law_by_blocks : FkT G P w mg base 2 "_law_by_blocks" ["bowl", "things", "places", "inputs"] 67108864 sBlocksT) : FnD G P w mg base 4 f fd ["bowl", "things", "places"] 4611686018427387904 sTableD := by
  refine FnD.more (fnd_of F sc_law_table (fun cdv A outer s H E hr hg => have xk := xk_def (E := E) hr hg; (ds_cons (ds_par (i := 3) (j := 4) xk.calm sc_law_table.nd rfl rfl (by decide) rfl rfl (da_cons (de_call F__law_inputs xk (da_cons (dv 1) (da_cons (dv 2) da_nil))) (da_cons (de_call F__law_spoon xk (da_cons (dv 0) (da_cons de_int da_nil))) da_nil)) (hw := (by with_unfolding_all rfl))) (ds_cons (ds_asg (de_tup (da_cons (de_call F__law_spoon xk (da_cons (dv 0) (da_cons (dv 1) da_nil))) (da_cons (de_call F__law_lots xk (da_cons (dv 0) (da_cons (dv 2) da_nil))) da_nil))) (dg_two (i := 5) (j := 6) xk.K xk.calm sc_law_table.nd rfl (Or.inr rfl) rfl (Or.inr rfl) (pg_name sc_law_table.nd rfl (Or.inr rfl)) (pg_name sc_law_table.nd rfl (Or.inr rfl)))) (ds_cons (ds_set (i := 7) sc_law_table.nd rfl (Or.inr rfl) (de_call F__law_spoon xk (da_cons (dv 0) (da_cons (dv 2) da_nil)))) (ds_cons (ds_if (dt_cmp (o_eq xk.K xk.u64) (dv 4) de_int (by rfl)) (ds_one (ds_dic (i := 8) sc_law_table.nd rfl (Or.inl rfl) (dk_dict xk.K xk.calm (xk.u (n := 2)) bn.dict (de_comp (own := [("row", 9)]) xk sc_law_table.nd (di_seq xk.K (dv 3)) (blkOk_by (N := ["bowl", "things", "places", "inputs", "way", "fixed", "lots", "place", "table", "row", "lot", "spot"]) (sc := defScope s_law_table) (by decide +kernel)) (fun s H C cl fp => (dg_name (i := 9) sc_law_table.nd rfl (Or.inl rfl))) (fun s H C cl fp => dts_nil) (fun s H C cl fp => (de_tup (da_cons (dvn 9) (da_cons (de_ix (Xk.blk xk _ _ _ _ _).K (dvn 9) (dv 7) (fun _ _ => rfl)) da_nil)))) (by simp))))) (ds_one (ds_if (dt_cmp (o_eq xk.K xk.u64) (dv 4) de_int (by rfl)) (ds_one (ds_dic (i := 8) sc_law_table.nd rfl (Or.inl rfl) (dk_dict xk.K xk.calm (xk.u (n := 2)) bn.dict (de_comp (own := [("row", 9)]) xk sc_law_table.nd (di_seq xk.K (dv 3)) (blkOk_by (N := ["bowl", "things", "places", "inputs", "way", "fixed", "lots", "place", "table", "row", "lot", "spot"]) (sc := defScope s_law_table) (by decide +kernel)) (fun s H C cl fp => (dg_name (i := 9) sc_law_table.nd rfl (Or.inl rfl))) (fun s H C cl fp => dts_nil) (fun s H C cl fp => (de_tup (da_cons (dvn 9) (da_cons (dv 5) da_nil)))) (by simp))))) (ds_one (ds_if (dt_cmp (o_lt) (dv 4) de_int (by rfl)) (ds_one (ds_dic (i := 8) sc_law_table.nd rfl (Or.inl rfl) (dk_dict xk.K xk.calm (xk.u (n := 2)) bn.dict (de_comp (own := [("row", 9)]) xk sc_law_table.nd (di_seq xk.K (dv 3)) (blkOk_by (N := ["bowl", "things", "places", "inputs", "way", "fixed", "lots", "place", "table", "row", "lot", "spot"]) (sc := defScope s_law_table) (by decide +kernel)) (fun s H C cl fp => (dg_name (i := 9) sc_law_table.nd rfl (Or.inr rfl))) (fun s H C cl fp => dts_nil) (fun s H C cl fp => (de_tup (da_cons (dvn 9) (da_cons (de_bi (c_maxA (Xk.blk xk _ _ _ _ _).K (Xk.blk xk _ _ _ _ _).calm (Xk.blk xk _ _ _ _ _).u64) bn.max (da_cons (de_comp (own := [("lot", 10)]) (Xk.blk xk _ _ _ _ _) sc_law_table.nd (di_seq (Xk.blk xk _ _ _ _ _).K (dv 6)) (by refine blkOk_by ?_; kernel_rfl) (fun s H C cl fp => (dg_name (i := 10) sc_law_table.nd rfl (Or.inl rfl))) (fun s H C cl fp => dts_nil) (fun s H C cl fp => (de_bi (c_minA (Xk.blk (Xk.blk xk _ _ _ _ _) _ _ _ _ _).K (Xk.blk (Xk.blk xk _ _ _ _ _) _ _ _ _ _).calm (Xk.blk (Xk.blk xk _ _ _ _ _) _ _ _ _ _).u64) bn.min (da_cons (de_comp (own := [("spot", 11)]) (Xk.blk (Xk.blk xk _ _ _ _ _) _ _ _ _ _) sc_law_table.nd (di_seq (Xk.blk (Xk.blk xk _ _ _ _ _) _ _ _ _ _).K (dv 10)) (by refine blkOk_by ?_; kernel_rfl) (fun s H C cl fp => (dg_name (i := 11) sc_law_table.nd rfl (Or.inl rfl))) (fun s H C cl fp => dts_nil) (fun s H C cl fp => (de_ix (Xk.blk (Xk.blk (Xk.blk xk _ _ _ _ _) _ _ _ _ _) _ _ _ _ _).K (dvn 9) (dv 11) (fun _ _ => rfl))) (by simp)) da_nil))) (by simp)) da_nil)) da_nil)))) (by simp))))) (ds_one (ds_if (dt_cmp (o_eq xk.K xk.u64) (dv 4) de_int (by rfl)) (ds_one (ds_dic (i := 8) sc_law_table.nd rfl (Or.inl rfl) (dk_call F__law_by_blocks xk (da_cons (dv 0) (da_cons (dv 1) (da_cons (dv 2) (da_cons (dv 3) da_nil))))))) (ds_one (ds_if (dt_cmp (o_eq xk.K xk.u64) (dv 4) de_int (by rfl)) (ds_one (ds_dic (i := 8) sc_law_table.nd rfl (Or.inl rfl) (dk_dict xk.K xk.calm (xk.u (n := 2)) bn.dict (de_comp (own := [("row", 9)]) xk sc_law_table.nd (di_seq xk.K (dv 3)) (blkOk_by (N := ["bowl", "things", "places", "inputs", "way", "fixed", "lots", "place", "table", "row", "lot", "spot"]) (sc := defScope s_law_table) (by decide +kernel)) (fun s H C cl fp => (dg_name (i := 9) sc_law_table.nd rfl (Or.inl rfl))) (fun s H C cl fp => dts_nil) (fun s H C cl fp => (de_tup (da_cons (dvn 9) (da_cons (de_ife (dt_cmp (o_eq (Xk.blk xk _ _ _ _ _).K (Xk.blk xk _ _ _ _ _).u64) (de_countV (i := 9) (Xk.blk xk _ _ _ _ _) rfl (de_ix (Xk.blk xk _ _ _ _ _).K (dvn 9) de_int (fun _ _ => rfl))) de_int (by rfl)) (de_ix (Xk.blk xk _ _ _ _ _).K (dvn 9) (dv 7) (fun _ _ => rfl)) (de_ix (Xk.blk xk _ _ _ _ _).K (dvn 9) de_int (fun _ _ => rfl))) da_nil)))) (by simp))))) (ds_one (ds_dic (i := 8) sc_law_table.nd rfl (Or.inl rfl) (dk_dict xk.K xk.calm (xk.u (n := 2)) bn.dict (de_comp (own := [("row", 9)]) xk sc_law_table.nd (di_seq xk.K (dv 3)) (blkOk_by (N := ["bowl", "things", "places", "inputs", "way", "fixed", "lots", "place", "table", "row", "lot", "spot"]) (sc := defScope s_law_table) (by decide +kernel)) (fun s H C cl fp => (dg_name (i := 9) sc_law_table.nd rfl (Or.inl rfl))) (fun s H C cl fp => dts_nil) (fun s H C cl fp => (de_tup (da_cons (dvn 9) (da_cons (de_call F__law_spoon (Xk.blk xk _ _ _ _ _) (da_cons (dv 0) (da_cons (dv 1) da_nil))) da_nil)))) (by simp)))))))))))))) (ds_cons (ds_if (dt_cmp (o_eq xk.K xk.u64) (de_call F__law_spoon xk (da_cons (dv 0) (da_cons de_int da_nil))) de_int (by rfl)) (ds_one (ds_dput (i := 8) xk.K (xk.u (n := 1)) rfl (de_call F__law_spoon xk (da_cons (dv 0) (da_cons (dv 1) da_nil))) (de_call F__law_one_of xk (da_cons (dv 0) (da_cons (dv 3) da_nil))))) ds_nil) (ds_freezeD (i := 8) (ds_one (ds_ret (dv 8)))))))))) ?_) (by decide)
  rintro ds R ex hl ⟨n, m, rfl, S, hr⟩
  obtain ⟨n1, n5, m1, m4, hk⟩ := id S
  have hpos : 0 < (allRows n m).length := by rw [allRows_len]; exact Nat.pow_pos (by omega)
  have hcnt : (allRows n m).length ≤ 256 := by rw [allRows_len]; exact hk
  refine seq_to (fun env' => ∃ way : Int, env' = [.val .urn, .val (.int n), .val (.int m), .val (inD n m), .val (.int way), .emp, .emp, .emp, .emp, .emp, .emp, .emp]) (fun de' hnx hrt => ?_) (fun env' e => ?_)
  · refine ⟨_, rfl, _, rfl, rfl, n, m, rfl, n5, m1, by omega, ?_⟩
    exact ⟨_, rfl, rfl, 8, rfl, by omega, by omega, fun way w0 w1 => ⟨_, _, rfl, hnx _ ⟨way, rfl⟩⟩⟩
  obtain ⟨way, rfl⟩ := e
  refine seq_to (fun env' => ∃ (fixed : Int) (lots : List (List Int)), 0 ≤ fixed ∧ fixed < n ∧ LotsIn m lots ∧ env' = [.val .urn, .val (.int n), .val (.int m), .val (inD n m), .val (.int way), .val (.int fixed), .val (.lst (lots.map lstD)), .emp, .emp, .emp, .emp, .emp]) (fun de' hnx hrt => ?_) (fun env' e => ?_)
  · refine ⟨_, rfl, _, rfl, rfl, n, rfl, by omega, by omega, fun fixed f0 f1 => ?_⟩
    exact ⟨_, rfl, _, rfl, rfl, m, rfl, m1, m4, fun lots hL => ⟨small (by simp), hnx _ ⟨fixed, lots, f0, f1, hL, rfl⟩⟩⟩
  obtain ⟨fixed, lots, f0, f1, hL, rfl⟩ := e
  refine seq_to (fun env' => ∃ (place : Int), 0 ≤ place ∧ place < m ∧ env' = [.val .urn, .val (.int n), .val (.int m), .val (inD n m), .val (.int way), .val (.int fixed), .val (.lst (lots.map lstD)), .val (.int place), .emp, .emp, .emp, .emp]) (fun de' hnx hrt => ?_) (fun env' e => ?_)
  · exact ⟨_, rfl, _, rfl, rfl, m, rfl, by omega, by omega, fun place p0 p1 => hnx _ ⟨place, p0, p1, rfl⟩⟩
  obtain ⟨place, p0, p1, rfl⟩ := e
  have hat : ∀ r ∈ allRows n m, ∀ i : Int, 0 ≤ i → i < m → atI (r.map D.int) i = some (.int (atR r i)) ∧ 0 ≤ atR r i ∧ atR r i < n := fun r hr2 i i0 i1 => atR_in i0 (by rw [allRows_row n m r hr2]; exact i1) (allRows_val n m r hr2)
  refine seq_to (fun env' => ∃ (a : Addr) (vs : List Int), ToldIn n m vs ∧ env' = [.val .urn, .val (.int n), .val (.int m), .val (inD n m), .val (.int way), .val (.int fixed), .val (.lst (lots.map lstD)), .val (.int place), .dic a (allRows n m) (vs.map D.int), .emp, .emp, .emp]) (fun de' hnx hrt => ?_) (fun env' e => ?_)
  · have fin : ∀ (a : Addr) (vs : List Int), ToldIn n m vs → de'.nx [.val .urn, .val (.int n), .val (.int m), .val (inD n m), .val (.int way), .val (.int fixed), .val (.lst (lots.map lstD)), .val (.int place), .dic a (allRows n m) (vs.map D.int), .emp, .emp, .emp] := fun a vs T => hnx _ ⟨a, vs, T, rfl⟩
    refine sif_of (x := way == 0) (fun K hK => ⟨_, rfl, eqC (eq_int ⟨_, rfl, hK⟩)⟩) (fun hb => ?_) (fun hb => ?_)
    · refine ⟨_, rfl, ?_⟩
      refine compL_of rowN (fun r => pairD r (atR r place)) (fun r hr2 K hK => ?_) ?_
      · exact ⟨_, rfl, _, rfl, _, rfl, _, (hat r hr2 place p0 p1).1, small (by simp), hK⟩
      · rw [List.nil_append]
        obtain ⟨ps, e1, e2, e3, e4, e5⟩ := dict_map (fun r => atR r place) (rows_nd n m)
        refine ⟨ps, e1, e2, e3, fun a => ?_⟩
        rw [e4, e5]
        exact fin a _ (told_map S fun r hr2 => (hat r hr2 place p0 p1).2)
    refine sif_of (x := way == 1) (fun K hK => ⟨_, rfl, eqC (eq_int ⟨_, rfl, hK⟩)⟩) (fun hb => ?_) (fun hb => ?_)
    · refine ⟨_, rfl, ?_⟩
      refine compL_of rowN (fun r => pairD r fixed) (fun r hr2 K hK => ?_) ?_
      · exact ⟨_, rfl, _, rfl, small (by simp), hK⟩
      · rw [List.nil_append]
        obtain ⟨ps, e1, e2, e3, e4, e5⟩ := dict_map (fun _ => fixed) (rows_nd n m)
        refine ⟨ps, e1, e2, e3, fun a => ?_⟩
        rw [e4, e5]
        exact fin a _ (told_map S fun r hr2 => ⟨f0, f1⟩)
    refine sif_of (x := decide (way < 5)) (fun K hK => ⟨_, rfl, trivial, _, rfl, hK⟩) (fun hb => ?_) (fun hb => ?_)
    · refine ⟨_, rfl, ?_⟩
      have lv : ∀ r ∈ allRows n m, ∃ v : Int, greatest (lots.map fun q => (least (q.map (atR r))).getD 0) = some v ∧ lotV lots r = v ∧ 0 ≤ v ∧ v < n := fun r hr2 => by
        obtain ⟨v, hv⟩ := some_best (l := lots.map fun q => (least (q.map (atR r))).getD 0) (by simpa using hL.1)
        refine ⟨v, hv, by unfold lotV; rw [hv]; rfl, ?_⟩
        obtain ⟨q, hq, e⟩ := List.mem_map.mp (greatest_mem hv).1
        obtain ⟨u, hu⟩ := some_least (l := q.map (atR r)) (by simpa using (hL.2.2 q hq).1)
        rw [hu] at e
        have e2 : u = v := e
        obtain ⟨i, hi, e3⟩ := List.mem_map.mp (least_mem hu).1
        have := (hL.2.2 q hq).2.2 i hi
        rw [← e2, ← e3]
        exact (hat r hr2 i this.1 this.2).2
      refine compL_of rowN (fun r => pairD r (lotV lots r)) (fun r hr2 K hK => ?_) ?_
      · obtain ⟨v, hv1, hv2, _⟩ := lv r hr2
        refine ⟨_, rfl, _, rfl, ?_⟩
        refine compL_of lstD (fun q => D.int ((least (q.map (atR r))).getD 0)) (fun q hq K2 hK2 => ?_) ?_
        · obtain ⟨u, hu⟩ := some_least (l := q.map (atR r)) (by simpa using (hL.2.2 q hq).1)
          rw [hu] at hK2
          refine ⟨_, rfl, ?_⟩
          refine compL_of D.int (fun i => D.int (atR r i)) (fun i hi K3 hK3 => ?_) ?_
          · have := (hL.2.2 q hq).2.2 i hi
            exact ⟨_, rfl, _, rfl, _, (hat r hr2 i this.1 this.2).1, hK3⟩
          · rw [List.nil_append]
            exact best_of (by rw [List.map_map]; rfl) hu hK2
        · rw [List.nil_append]
          rw [hv2] at hK
          exact ⟨lots.map fun q => (least (q.map (atR r))).getD 0, v, .inl (by rw [List.map_map]; rfl), hv1, small (by simp), hK⟩
      · rw [List.nil_append]
        obtain ⟨ps, e1, e2, e3, e4, e5⟩ := dict_map (lotV lots) (rows_nd n m)
        refine ⟨ps, e1, e2, e3, fun a => ?_⟩
        rw [e4, e5]
        refine fin a _ (told_map S fun r hr2 => ?_)
        obtain ⟨v, hv1, hv2, h0, h1⟩ := lv r hr2
        rw [hv2]; exact ⟨h0, h1⟩
    refine sif_of (x := way == 5) (fun K hK => ⟨_, rfl, eqC (eq_int ⟨_, rfl, hK⟩)⟩) (fun hb => ?_) (fun hb => ?_)
    · exact ⟨_, rfl, _, rfl, _, rfl, _, rfl, rfl, n, m, rfl, S, fun vs T a => fin a vs T⟩
    refine sif_of (x := way == 6) (fun K hK => ⟨_, rfl, eqC (eq_int ⟨_, rfl, hK⟩)⟩) (fun hb => ?_) (fun hb => ?_)
    · refine ⟨_, rfl, ?_⟩
      refine compL_of rowN (fun r => pairD r (if ((r.count (atR r 0) : Nat) : Int) == 1 then atR r place else atR r 0)) (fun r hr2 K hK => ?_) ?_
      · have h0 := (hat r hr2 0 (by omega) (by omega)).1
        refine ⟨_, rfl, r, rfl, _, rfl, .int (atR r 0), h0, _, rfl, eqC (eq_int ⟨_, rfl, ite_of (fun hb => ?_) (fun hb => ?_)⟩)⟩
        · rw [if_pos hb] at hK
          exact ⟨_, rfl, _, rfl, _, (hat r hr2 place p0 p1).1, small (by simp), hK⟩
        · rw [if_neg (by rw [hb]; decide)] at hK
          exact ⟨_, rfl, .int (atR r 0), h0, small (by simp), hK⟩
      · rw [List.nil_append]
        obtain ⟨ps, e1, e2, e3, e4, e5⟩ := dict_map (fun r => if ((r.count (atR r 0) : Nat) : Int) == 1 then atR r place else atR r 0) (rows_nd n m)
        refine ⟨ps, e1, e2, e3, fun a => ?_⟩
        rw [e4, e5]
        refine fin a _ (told_map S fun r hr2 => ?_)
        split
        · exact (hat r hr2 place p0 p1).2
        · exact (hat r hr2 0 (by omega) (by omega)).2
    · refine ⟨_, rfl, ?_⟩
      refine compL_draw rowN pairD (fun v => 0 ≤ v ∧ v < (n : Int)) (fun r hr2 K hK => ?_) (fun vs hvl hvs => ?_)
      · exact ⟨_, rfl, _, rfl, _, rfl, rfl, n, rfl, by omega, by omega, fun v v0 v1 => ⟨small (by simp), hK v ⟨v0, v1⟩⟩⟩
      · rw [List.nil_append]
        obtain ⟨ps, e1, e2, e3, e4, e5⟩ := dict_zip hvl (rows_nd n m)
        refine ⟨ps, e1, e2, e3, fun a => ?_⟩
        rw [e4, e5]
        exact fin a _ (told_of S hvl hvs)
  obtain ⟨a, vs, T, rfl⟩ := e
  refine seq_to (fun env' => ∃ (a : Addr) (vs : List Int), ToldIn n m vs ∧ env' = [.val .urn, .val (.int n), .val (.int m), .val (inD n m), .val (.int way), .val (.int fixed), .val (.lst (lots.map lstD)), .val (.int place), .dic a (allRows n m) (vs.map D.int), .emp, .emp, .emp]) (fun de' hnx hrt => ?_) (fun env' e => ?_)
  · refine ⟨_, rfl, rfl, 4, rfl, by omega, by omega, fun v v0 v1 => eqC (eq_int ⟨_, rfl, ite_of (fun hb => ?_) (fun hb => hnx _ ⟨a, vs, T, rfl⟩)⟩)⟩
    refine ⟨⟨_, _, _, rfl⟩, _, rfl, _, rfl, rfl, n, rfl, by omega, by omega, fun x x0 x1 => ?_⟩
    refine ⟨_, rfl, _, rfl, rfl, inD n m, _, rfl, rfl, by rw [List.length_map]; omega, by rw [List.length_map]; omega, fun i d hi => ?_⟩
    rw [List.getElem?_map] at hi
    obtain ⟨r, hr2, rfl⟩ := Option.map_eq_some_iff.mp hi
    have hmem := List.mem_of_getElem? hr2
    refine ⟨a, _, _, r, rfl, rowK_n r, small (by omega), hnx _ ⟨a, vs.set i x, ?_, ?_⟩⟩
    · refine ⟨n1, n5, m1, m4, hk, by rw [List.length_set]; exact T.len, fun v hv => ?_⟩
      rcases List.mem_or_eq_of_mem_set hv with z | rfl
      · exact T.val v z
      · exact ⟨x0, x1⟩
    · have hlen : vs.length = (allRows n m).length := by rw [T.len, allRows_len]
      rw [putKs_old hmem, putDs_old hmem (rows_nd n m) hr2 hlen]
      rfl
  obtain ⟨a, vs, T, rfl⟩ := e
  exact ⟨a, _, _, rfl, _, rfl, hr vs T⟩
end
end Pg

set_option Elab.async false
set_option linter.all false
set_option maxRecDepth 100000
set_option maxHeartbeats 4100000
namespace Pg
open PySem L2 RZ Kn
section
variable {G : Gd} {P : Program} {w : World} {mg : Str → Option Value} {base : Heap} {f : Addr} {fd : FuncData}
theorem optD_R (o : Option (List Int)) : optD o = optR o := by cases o <;> rfl
theorem optD_no (o : Option (List Int)) : ∀ v, optD o ≠ .opq v := by intro v h; cases o <;> cases h
theorem optD_isN (o : Option (List Int)) : (optD o).isN = o.isNone := by cases o <;> rfl
theorem part_small {n m : Nat} {vs l : List Int} (n5 : n ≤ 5) (m4 : m ≤ 4) : ∀ r, partO n m vs l = some r → r.length ≤ 1000 ∧ ∀ i ∈ r, 0 ≤ i ∧ i < 8 := fun r h => by
  have hm := List.mem_of_find?_eq_some h; refine ⟨by rw [allRows_row n m r hm]; omega, fun i hi => ?_⟩
  have := allRows_val n m r hm i hi
  omega
theorem nilRO {n m : Nat} {vs l : List Int} {ex : Exc → Prop} {env : List Sl} {Q : D → Prop} (n5 : n ≤ 5) (m4 : m ≤ 4) (hq : Q (.str (shownO (partO n m vs l)))) : aNil ex env fun xs => g1 gReprN (optD (partO n m vs l) :: xs) Q := by
  rw [optD_R]
  exact nilRN (reprO (part_small n5 m4) hq)
theorem part_none {n m : Nat} {vs l : List Int} : partO n m vs l = none ↔ ∀ r ∈ allRows n m, fV n vs (ledR l r) = atR l (fV n vs r) := by
  unfold partO
  rw [List.find?_eq_none]
  refine forall_congr' fun r => forall_congr' fun _ => ?_
  unfold partsB
  simp
theorem led_led {l k r : List Int} {n : Nat} (L : RowIn n n l) (hv : ∀ i ∈ r, 0 ≤ i ∧ i < (n : Int)) : ledR (l.map (atR k)) r = ledR k (ledR l r) := by
  unfold ledR
  rw [List.map_map]
  refine List.map_congr_left fun i hi => ?_
  obtain ⟨h0, h1⟩ := hv i hi
  exact atR_map h0 (by rw [L.1]; exact h1)
theorem comp_row {n : Nat} {l k : List Int} (L : RowIn n n l) (K : RowIn n n k) : RowIn n n (l.map (atR k)) := by
  refine ⟨by rw [List.length_map]; exact L.1, fun i hi => ?_⟩
  obtain ⟨j, hj, rfl⟩ := List.mem_map.mp hi
  obtain ⟨h0, h1⟩ := L.2 j hj
  exact atR_val h0 (by rw [K.1]; exact h1) K.2
/-- along with two leads, along with one behind the other -/
theorem part_comp {n m : Nat} {vs l k : List Int} (T : ToldIn n m vs) (L : RowIn n n l) (K : RowIn n n k) (h1 : partO n m vs l = none) (h2 : partO n m vs k = none) : partO n m vs (l.map (atR k)) = none := by
  refine part_none.mpr fun r hr => ?_
  have hrl := allRows_row n m r hr
  have hrv := allRows_val n m r hr
  obtain ⟨g1, g2⟩ := led_row (n := n) L hrl hrv
  obtain ⟨v0, v1⟩ := fV_val T hrl hrv
  rw [led_led L hrv, part_none.mp h2 _ (mem_rows g1 g2), part_none.mp h1 r hr]
  exact (atR_map v0 (by rw [L.1]; exact v1)).symm
/-- back and forth -/
theorem part_back {n m : Nat} {vs l b : List Int} (T : ToldIn n m vs) (L : RowIn n n l) (B : RowIn n n b) (hb : ∀ i : Int, 0 ≤ i → i < n → atR b (atR l i) = i) (hl : ∀ i : Int, 0 ≤ i → i < n → atR l (atR b i) = i) (h : partO n m vs b = none) : partO n m vs l = none := by
  refine part_none.mpr fun r hr => ?_
  have hrl := allRows_row n m r hr
  have hrv := allRows_val n m r hr
  obtain ⟨g1, g2⟩ := led_row (n := n) L hrl hrv
  obtain ⟨v0, v1⟩ := fV_val T hrl hrv
  obtain ⟨u0, u1⟩ := fV_val T g1 g2
  have e := part_none.mp h _ (mem_rows g1 g2)
  have e2 : ledR b (ledR l r) = r := by
    unfold ledR
    rw [List.map_map]
    refine (List.map_congr_left fun i hi => ?_).trans (List.map_id r)
    obtain ⟨h0, h1⟩ := hrv i hi
    exact hb i h0 h1
  rw [e2] at e
  show fV n vs (ledR l r) = atR l (fV n vs r)
  rw [e, hl _ u0 u1]
/-- a lead that leads no two to one, back -/
def backR (n : Nat) (l : List Int) : List Int := (idx n).map fun t => ((l.idxOf t : Nat) : Int)
theorem back_row {n : Nat} {l : List Int} (L : RowIn n n l) (hp : l.Perm (idx n)) : RowIn n n (backR n l) ∧ (∀ i : Int, 0 ≤ i → i < n → atR (backR n l) (atR l i) = i) ∧ ∀ i : Int, 0 ≤ i → i < n → atR l (atR (backR n l) i) = i := by
  have nd : l.Nodup := hp.nodup_iff.mpr (idx_nd n)
  have at_b : ∀ t : Int, 0 ≤ t → t < n → atR (backR n l) t = ((l.idxOf t : Nat) : Int) := fun t t0 t1 => by
    unfold backR
    rw [atR_map t0 (by rw [idx_len]; exact t1), atR_idx t0 t1]
  refine ⟨⟨by unfold backR; rw [List.length_map, idx_len], fun i hi => ?_⟩, fun i h0 h1 => ?_, fun i h0 h1 => ?_⟩
  · obtain ⟨t, ht, rfl⟩ := List.mem_map.mp hi
    have := List.idxOf_lt_length_of_mem (hp.mem_iff.mpr ht)
    rw [L.1] at this
    omega
  · obtain ⟨k, rfl⟩ := Int.eq_ofNat_of_zero_le h0
    have hk : k < l.length := by rw [L.1]; omega
    have e : atR l (k : Int) = l[k] := atR_get (List.getElem?_eq_getElem hk)
    obtain ⟨v0, v1⟩ := L.2 _ (List.getElem_mem hk)
    rw [e, at_b _ v0 v1, nd_idx nd hk]
  · rw [at_b i h0 h1]
    have hm : i ∈ l := hp.mem_iff.mpr (mem_idx.mpr ⟨h0, h1⟩)
    exact atR_get (idx_first hm).1
theorem part_perm {n m : Nat} {vs l : List Int} (T : ToldIn n m vs) (L : RowIn n n l) (hp : l.Perm (idx n)) : (partO n m vs (backR n l)).isNone = (partO n m vs l).isNone := by
  obtain ⟨B, h1, h2⟩ := back_row L hp
  rw [Bool.eq_iff_iff, Option.isNone_iff_eq_none, Option.isNone_iff_eq_none]
  exact ⟨part_back T L B h1 h2, part_back T B L h2 h1⟩
theorem part_idle {n m : Nat} {vs : List Int} (T : ToldIn n m vs) : partO n m vs (idx n) = none := by
  refine part_none.mpr fun r hr => ?_
  have hrl := allRows_row n m r hr
  have hrv := allRows_val n m r hr
  obtain ⟨v0, v1⟩ := fV_val T hrl hrv
  have e : ledR (idx n) r = r := by
    unfold ledR
    refine (List.map_congr_left fun i hi => ?_).trans (List.map_id r)
    obtain ⟨h0, h1⟩ := hrv i hi
    exact atR_idx h0 h1
  rw [e, atR_idx v0 v1]
theorem idx_in (n : Nat) : RowIn n n (idx n) := perm_row (.refl _)
theorem lead_of {n : Nat} {l : List Int} (n1 : 1 ≤ n) (n5 : n ≤ 5) (L : RowIn n n l) : LeadIn l n := ⟨by rw [L.1]; omega, by rw [L.1]; omega, by omega, by omega, L.2⟩
def sSomeR : FSpec := fun ds R _ => ∃ (n m : Nat) (vs : List Int), ds = [.urn, toldD n m vs, tabD n m vs, inD n m] ∧ ToldIn n m vs ∧ R (.bl true)
abbrev s_law_some_right : Stmt := topS 58
theorem sc_law_some_right : FnScope ["bowl", "told", "table", "inputs", "things", "turn", "one", "other", "first", "second", "due", "its", "behind", "told_of", "back", "thing"] ["bowl", "told", "table", "inputs"] (defScope s_law_some_right) := ⟨rfl, rfl, rfl, by decide +kernel, rfl, by decide +kernel, by decide +kernel⟩
theorem ok_law_some_right (F : Fun G.K "_law_some_right" "_law_some_right" s_law_some_right f fd) (bn : Bn mg) (fo : Gk G) (F_parting_row : Fk G P w mg base 3 "parting_row" ["told", "lead"] 0 sParting) (K_parting_row : FkK G P w mg base 3 "parting_row" ["told", "lead"] ["told", "lead"] [0, 1] 0 sParting) (F__law_lead : Fk G P w mg base 2 "_law_lead" ["bowl", "things"] 67108864 sLeadL) (F__law_made : Fk G P w mg base 8 "_law_made" ["bowl", "things", "lead"] 2 sMade) (F__law_parting : Fk G P w mg base 1 "_law_parting" ["things", "table", "lead", "inputs"] 0 sPartL) (M_then : Fm G P w mg base 7 1 "then" ["self", "other"] 0 sThenL) (F_idle : Fk G P w mg base 7 "idle" ["things"] 0 sIdleL) (C_Lead : Fc G P w mg base 5 "Lead" 1 ["self", "into", "row"] 0 sLeadInitL) : FnD G P w mg base 9 f fd ["bowl", "told", "table", "inputs"] 4503599627370496 sSomeR := by
  refine FnD.more (fnd_of F sc_law_some_right (fun cdv A outer s H E hr hg => have xk := xk_def (E := E) hr hg; (ds_cons (ds_set (i := 4) sc_law_some_right.nd rfl (Or.inl rfl) (de_fld xk.K fo.things (dv 1))) (ds_cons (ds_for xk po_def (di_range1 bn.range (da_cons de_int da_nil)) (dg_name (i := 5) sc_law_some_right.nd rfl (Or.inl rfl)) (ds_cons (ds_asg (de_tup (da_cons (de_call F__law_lead xk (da_cons (dv 0) (da_cons (dv 4) da_nil))) (da_cons (de_call F__law_lead xk (da_cons (dv 0) (da_cons (dv 4) da_nil))) da_nil))) (dg_two (i := 6) (j := 7) xk.K xk.calm sc_law_some_right.nd rfl (Or.inr rfl) rfl (Or.inr rfl) (pg_name sc_law_some_right.nd rfl (Or.inr rfl)) (pg_name sc_law_some_right.nd rfl (Or.inr rfl)))) (ds_cons (ds_par (i := 8) (j := 9) xk.calm sc_law_some_right.nd rfl rfl (by decide) rfl rfl (da_cons (de_call F__law_made xk (da_cons (dv 0) (da_cons (dv 4) (da_cons (dv 6) da_nil)))) (da_cons (de_call F__law_made xk (da_cons (dv 0) (da_cons (dv 4) (da_cons (dv 7) da_nil)))) da_nil)) (hw := (by with_unfolding_all rfl))) (ds_cons (ds_par (i := 10) (j := 11) xk.calm sc_law_some_right.nd rfl rfl (by decide) rfl rfl (da_cons (de_call F__law_parting xk (da_cons (dv 4) (da_cons (dv 2) (da_cons (dv 6) (da_cons (dv 3) da_nil))))) (da_cons (de_call F__law_parting xk (da_cons (dv 4) (da_cons (dv 2) (da_cons (dv 7) (da_cons (dv 3) da_nil))))) da_nil)) (hw := (by with_unfolding_all rfl))) (ds_cons (ds_if (dt_w (dw_or (dt_cmp (o_neS) (de_bi (c_reprN xk) bn.repr (da_cons (de_callk K_parting_row xk (dk_cons (dv 1) (dk_cons (dv 8) dk_nil))) da_nil)) (de_bi (c_reprN xk) bn.repr (da_cons (dv 10) da_nil)) (by rfl)) (dw_or1 (dt_cmp (o_neS) (de_bi (c_reprN xk) bn.repr (da_cons (de_call F_parting_row xk (da_cons (dv 1) (da_cons (dv 9) da_nil))) da_nil)) (de_bi (c_reprN xk) bn.repr (da_cons (dv 11) da_nil)) (by rfl))))) (ds_one (ds_ret de_bl)) ds_nil) (ds_cons (ds_setComp (i := 12) (own := [("thing", 15)]) xk sc_law_some_right.nd rfl rfl (sw_true rfl rfl rfl (by decide +kernel)) (di_seq xk.K (dv 6)) (blkOk_by (N := ["bowl", "told", "table", "inputs", "things", "turn", "one", "other", "first", "second", "due", "its", "behind", "told_of", "back", "thing"]) (sc := defScope s_law_some_right) (by decide +kernel)) (fun s H C cl fp => (dg_name (i := 15) sc_law_some_right.nd rfl (Or.inl rfl))) (fun s H C cl fp => dts_nil) (fun s H C cl fp => (de_ix (Xk.blk xk _ _ _ _ _).K (dv 7) (dv 15) (fun _ _ => rfl))) (by simp)) (ds_cons (ds_set (i := 13) sc_law_some_right.nd rfl (Or.inl rfl) (de_call F_parting_row xk (da_cons (dv 1) (da_cons (de_meth M_then xk (dv 8) (da_cons (dv 9) da_nil)) da_nil)))) (ds_cons (ds_if (dt_w (dw_or (dt_cmp (o_neS) (de_bi (c_reprN xk) bn.repr (da_cons (dv 13) da_nil)) (de_bi (c_reprN xk) bn.repr (da_cons (de_call F__law_parting xk (da_cons (dv 4) (da_cons (dv 2) (da_cons (dv 12) (da_cons (dv 3) da_nil))))) da_nil)) (by rfl)) (dw_or1 (dt_w (dw_and (dt_cmp (o_is) (dv 10) de_non (by rfl)) (dw_and (dt_cmp (o_is) (dv 11) de_non (by rfl)) (dw_and1 (dt_cmp (o_isn) (dv 13) de_non (by rfl))))))))) (ds_one (ds_ret de_bl)) ds_nil) (ds_one (ds_if (dt_cmp (o_eq xk.K xk.u64) (de_bi (c_sortA xk.K) bn.sorted (da_cons (dv 6) da_nil)) (de_listRange xk.calm bn.list bn.range (dv 4)) (by rfl)) (ds_cons (ds_setComp (i := 14) (own := [("thing", 15)]) xk sc_law_some_right.nd rfl rfl (sw_true rfl rfl rfl (by decide +kernel)) (di_range1 bn.range (da_cons (dv 4) da_nil)) (blkOk_by (N := ["bowl", "told", "table", "inputs", "things", "turn", "one", "other", "first", "second", "due", "its", "behind", "told_of", "back", "thing"]) (sc := defScope s_law_some_right) (by decide +kernel)) (fun s H C cl fp => (dg_name (i := 15) sc_law_some_right.nd rfl (Or.inl rfl))) (fun s H C cl fp => dts_nil) (fun s H C cl fp => (de_index (Xk.blk xk _ _ _ _ _) (dv 6) (dv 15))) (by simp)) (ds_one (ds_if (dt_cmp (o_ne xk.K xk.u64) (de_cmp (o_is) (de_call F_parting_row xk (da_cons (dv 1) (da_cons (de_make C_Lead xk (da_cons (dv 4) (da_cons (dv 14) da_nil))) da_nil))) de_non (by rfl)) (de_cmp (o_is) (dv 10) de_non (by rfl)) (by rfl)) (ds_one (ds_ret de_bl)) ds_nil))) ds_nil)))))))))) (ds_one (ds_ret (de_cmp (o_is) (de_call F_parting_row xk (da_cons (dv 1) (da_cons (de_call F_idle xk (da_cons (dv 4) da_nil)) da_nil))) de_non (by rfl))))))) ?_) (by decide)
  rintro ds R ex hl ⟨n, m, vs, rfl, T, hr⟩
  obtain ⟨n1, n5, m1, m4, hk, len, hv⟩ := id T
  obtain ⟨⟨q1, q2, q3⟩, i1, i2, i3⟩ := fld_told fo (n := n) (m := m) (vs := vs)
  refine seq_to (fun env' => env' = [.val .urn, .val (toldD n m vs), .val (tabD n m vs), .val (inD n m), .val (.int n), .emp, .emp, .emp, .emp, .emp, .emp, .emp, .emp, .emp, .emp, .emp]) (fun de' hnx hrt => ?_) (fun env' e => ?_)
  · exact ⟨_, rfl, 3, _, _, rfl, q1, i1, hnx _ rfl⟩
  subst e
  refine seq_to (fun env' => ∃ s5 s6 s7 s8 s9 s10 s11 s12 s13 s14, env' = [.val .urn, .val (toldD n m vs), .val (tabD n m vs), .val (inD n m), .val (.int n), s5, s6, s7, s8, s9, s10, s11, s12, s13, s14, .emp]) (fun de' hnx hrt => ?_) (fun env' e => ?_)
  · refine ⟨4, rfl, by omega, by omega, ?_⟩
    refine sForL_rng (fun i env => ∃ s5 s6 s7 s8 s9 s10 s11 s12 s13 s14, env = [.val .urn, .val (toldD n m vs), .val (tabD n m vs), .val (inD n m), .val (.int n), s5, s6, s7, s8, s9, s10, s11, s12, s13, s14, .emp]) ⟨_, _, _, _, _, _, _, _, _, _, rfl⟩ (fun i env hi hI nx hn2 => ?_) (fun env hI => hnx _ hI)
    obtain ⟨s5, s6, s7, s8, s9, s10, s11, s12, s13, s14, rfl⟩ := hI
    refine seq_to (fun env' => ∃ l k, RowIn n n l ∧ RowIn n n k ∧ env' = [.val .urn, .val (toldD n m vs), .val (tabD n m vs), .val (inD n m), .val (.int n), .val (.int i), .val (lstD l), .val (lstD k), s8, s9, s10, s11, s12, s13, s14, .emp]) (fun de2 hnx2 hrt2 => ?_) (fun env' e => ?_)
    · exact ⟨_, rfl, _, rfl, rfl, n, rfl, n1, n5, fun l L => ⟨_, rfl, _, rfl, rfl, n, rfl, n1, n5, fun k K => ⟨small (by simp), hnx2 _ ⟨l, k, L, K, rfl⟩⟩⟩⟩
    obtain ⟨l, k, L, K', rfl⟩ := e
    have LL := lead_of n1 n5 L
    have KK := lead_of n1 n5 K'
    refine seq_to (fun env' => env' = [.val .urn, .val (toldD n m vs), .val (tabD n m vs), .val (inD n m), .val (.int n), .val (.int i), .val (lstD l), .val (lstD k), .val (leadD n l), .val (leadD n k), s10, s11, s12, s13, s14, .emp]) (fun de2 hnx2 hrt2 => ?_) (fun env' e => ?_)
    · exact ⟨_, rfl, _, rfl, _, rfl, rfl, n, l, rfl, n1, n5, L, _, rfl, _, rfl, _, rfl, rfl, n, k, rfl, n1, n5, K', _, _, rfl, hnx2 _ rfl⟩
    subst e
    refine seq_to (fun env' => env' = [.val .urn, .val (toldD n m vs), .val (tabD n m vs), .val (inD n m), .val (.int n), .val (.int i), .val (lstD l), .val (lstD k), .val (leadD n l), .val (leadD n k), .val (optD (partO n m vs l)), .val (optD (partO n m vs k)), s12, s13, s14, .emp]) (fun de2 hnx2 hrt2 => ?_) (fun env' e => ?_)
    · exact ⟨_, rfl, _, rfl, _, rfl, _, rfl, rfl, n, m, vs, l, _, _, rfl, T, L, .inl rfl, _, rfl, _, rfl, _, rfl, _, rfl, rfl, n, m, vs, k, _, _, rfl, T, K', .inl rfl, _, _, rfl, hnx2 _ rfl⟩
    subst e
    refine seq_to (fun env' => env' = [.val .urn, .val (toldD n m vs), .val (tabD n m vs), .val (inD n m), .val (.int n), .val (.int i), .val (lstD l), .val (lstD k), .val (leadD n l), .val (leadD n k), .val (optD (partO n m vs l)), .val (optD (partO n m vs k)), s12, s13, s14, .emp]) (fun de2 hnx2 hrt2 => ?_) (fun env' e => ?_)
    · refine sif_of (x := false || false) (tst_or (fun K hK => ?_) (fun _ K hK => ?_)) (fun hb => by cases hb) (fun _ => hnx2 _ rfl)
      · refine ⟨_, rfl, _, rfl, rfl, n, m, vs, l, rfl, T, L, nilRO n5 m4 ⟨_, rfl, nilRO n5 m4 ⟨_, _, rfl, rfl, _, rfl, by simpa using hK⟩⟩⟩
      · refine ⟨_, rfl, _, rfl, rfl, n, m, vs, k, rfl, T, K', nilRO n5 m4 ⟨_, rfl, nilRO n5 m4 ⟨_, _, rfl, rfl, _, rfl, by simpa using hK⟩⟩⟩
    subst e
    have C := comp_row L K'
    refine seq_to (fun env' => env' = [.val .urn, .val (toldD n m vs), .val (tabD n m vs), .val (inD n m), .val (.int n), .val (.int i), .val (lstD l), .val (lstD k), .val (leadD n l), .val (leadD n k), .val (optD (partO n m vs l)), .val (optD (partO n m vs k)), .val (lstD (l.map (atR k))), s13, s14, .emp]) (fun de2 hnx2 hrt2 => ?_) (fun env' e => ?_)
    · refine ⟨_, rfl, ?_⟩
      refine compL_of D.int (fun i => D.int (atR k i)) (fun i hi K hK => ?_) ?_
      · obtain ⟨h0, h1⟩ := L.2 i hi
        exact ⟨_, rfl, _, rfl, _, (atR_in (n := n) h0 (by rw [K'.1]; exact h1) K'.2).1, hK⟩
      · rw [List.nil_append]
        have e : (l.map fun i => D.int (atR k i)) = (l.map (atR k)).map D.int := by rw [List.map_map]; rfl
        rw [e]
        exact hnx2 _ rfl
    subst e
    refine seq_to (fun env' => env' = [.val .urn, .val (toldD n m vs), .val (tabD n m vs), .val (inD n m), .val (.int n), .val (.int i), .val (lstD l), .val (lstD k), .val (leadD n l), .val (leadD n k), .val (optD (partO n m vs l)), .val (optD (partO n m vs k)), .val (lstD (l.map (atR k))), .val (optD (partO n m vs (l.map (atR k)))), s14, .emp]) (fun de2 hnx2 hrt2 => ?_) (fun env' e => ?_)
    · exact ⟨_, rfl, _, rfl, _, rfl, _, rfl, rfl, n, n, l, k, rfl, by rw [K'.1], L.2, K'.2, LL.1, LL.2.1, by omega, by omega, rfl, n, m, vs, _, rfl, T, C, hnx2 _ rfl⟩
    subst e
    refine seq_to (fun env' => env' = [.val .urn, .val (toldD n m vs), .val (tabD n m vs), .val (inD n m), .val (.int n), .val (.int i), .val (lstD l), .val (lstD k), .val (leadD n l), .val (leadD n k), .val (optD (partO n m vs l)), .val (optD (partO n m vs k)), .val (lstD (l.map (atR k))), .val (optD (partO n m vs (l.map (atR k)))), s14, .emp]) (fun de2 hnx2 hrt2 => ?_) (fun env' e => ?_)
    · refine sif_of (x := false || ((partO n m vs l).isNone && ((partO n m vs k).isNone && !(partO n m vs (l.map (atR k))).isNone))) (tst_or (fun K hK => ?_) (fun _ => tst_and (fun K hK => ?_) (fun _ => tst_and (fun K hK => ?_) (fun _ K hK => ?_)))) (fun hb => ?_) (fun _ => hnx2 _ rfl)
      · refine ⟨_, rfl, nilRO n5 m4 ⟨_, rfl, _, rfl, _, rfl, _, rfl, rfl, n, m, vs, _, _, _, rfl, T, C, .inl rfl, nilRO n5 m4 ⟨_, _, rfl, rfl, _, rfl, by simpa using hK⟩⟩⟩
      · exact ⟨_, rfl, rfl, optD_no _, _, rfl, by rw [optD_isN]; exact hK⟩
      · exact ⟨_, rfl, rfl, optD_no _, _, rfl, by rw [optD_isN]; exact hK⟩
      · exact ⟨_, rfl, rfl, optD_no _, _, rfl, by rw [optD_isN]; exact hK⟩
      · exfalso
        simp only [Bool.false_or, Bool.and_eq_true, Option.isNone_iff_eq_none, Bool.not_eq_true'] at hb
        obtain ⟨h1, h2, h3⟩ := hb
        rw [part_comp T L K' h1 h2] at h3
        cases h3
    subst e
    refine ⟨_, rfl, l, .inl rfl, fun ns' hp hs => ?_⟩
    refine ⟨_, rfl, (n : Int), rfl, by omega, by omega, ?_⟩
    rw [Int.toNat_natCast, range_idx]
    refine eq_lst ⟨_, rfl, ite_of (fun hb => ?_) (fun hb => ?_)⟩
    · have hp2 : l.Perm (idx n) := by
        have e : ns' = idx n := eq_of_beq hb
        rw [← e]; exact hp.symm
      have B := (back_row L hp2).1
      have BB := lead_of n1 n5 B
      refine seq_to (fun env' => env' = [.val .urn, .val (toldD n m vs), .val (tabD n m vs), .val (inD n m), .val (.int n), .val (.int i), .val (lstD l), .val (lstD k), .val (leadD n l), .val (leadD n k), .val (optD (partO n m vs l)), .val (optD (partO n m vs k)), .val (lstD (l.map (atR k))), .val (optD (partO n m vs (l.map (atR k)))), .val (lstD (backR n l)), .emp]) (fun de2 hnx2 hrt2 => ?_) (fun env' e => ?_)
      · refine ⟨_, rfl, (n : Int), rfl, by omega, by omega, ?_⟩
        rw [Int.toNat_natCast, range_idx]
        refine compL_of D.int (fun t => D.int ((l.idxOf t : Nat) : Int)) (fun t ht K hK => ?_) ?_
        · obtain ⟨z, z1, z2, z3⟩ := idx_fact (hp2.mem_iff.mpr ht)
          exact ⟨_, rfl, _, _, rfl, pdL_int _, shaped_lst _, _, rfl, .int t, _, z, rfl, rfl, z1, z2, z3, hK⟩
        · rw [List.nil_append]
          have e : ((idx n).map fun t => D.int ((l.idxOf t : Nat) : Int)) = (backR n l).map D.int := by unfold backR; rw [List.map_map]; rfl
          rw [e]
          exact hnx2 _ rfl
      subst e
      refine sif_of (x := false) (fun K hK => ?_) (fun hb => by cases hb) (fun _ => hn2 _ ⟨_, _, _, _, _, _, _, _, _, _, rfl⟩)
      refine ⟨_, rfl, _, rfl, _, rfl, rfl, n, _, backR n l, rfl, rfl, by omega, by omega, BB.1, BB.2.1, B.2, rfl, n, m, vs, _, rfl, T, B, rfl, optD_no _, ?_⟩
      refine ⟨_, rfl, rfl, optD_no _, ?_⟩
      rw [optD_isN, optD_isN, part_perm T L hp2]
      refine ne_bl ⟨_, rfl, ?_⟩
      rw [beq_self_eq_true]
      exact hK
    · exact hn2 _ ⟨_, _, _, _, _, _, _, _, _, _, rfl⟩
  obtain ⟨s5, s6, s7, s8, s9, s10, s11, s12, s13, s14, rfl⟩ := e
  refine ⟨_, rfl, _, rfl, rfl, n, rfl, n1, n5, rfl, n, m, vs, idx n, rfl, T, idx_in n, rfl, optD_no _, ?_⟩
  rw [optD_isN, part_idle T]
  exact hr
end
end Pg

set_option Elab.async false
set_option linter.all false
set_option maxRecDepth 100000
set_option maxHeartbeats 4100000
namespace Pg
open PySem L2 RZ Kn
section
variable {G : Gd} {P : Program} {w : World} {mg : Str → Option Value} {base : Heap} {f : Addr} {fd : FuncData}
theorem fV_map {n m : Nat} {g : List Int → Int} {r : List Int} (hr : r.length = m) (hv : ∀ i ∈ r, 0 ≤ i ∧ i < (n : Int)) : fV n ((allRows n m).map g) r = g r := by
  obtain ⟨k, h1, h2, h3⟩ := idx_toNat hr hv
  unfold fV
  rw [h1]
  exact atR_get (by rw [List.getElem?_map, h3]; rfl)
/-- a place goes along with all -/
theorem part_place {n m : Nat} {l : List Int} {p : Int} (L : RowIn n n l) (p0 : 0 ≤ p) (p1 : p < m) : partO n m ((allRows n m).map fun r => atR r p) l = none := by
  refine part_none.mpr fun r hr => ?_
  have hrl := allRows_row n m r hr
  have hrv := allRows_val n m r hr
  obtain ⟨g1, g2⟩ := led_row (n := n) L hrl hrv
  rw [fV_map hrl hrv, fV_map g1 g2]
  exact atR_map p0 (by rw [hrl]; exact p1)
/-- a thing with what leaves it, else it parts at once -/
theorem part_thing {n m : Nat} {l : List Int} {t : Int} (L : RowIn n n l) (n1 : 1 ≤ n) : partO n m ((allRows n m).map fun _ => t) l = if atR l t == t then none else some (List.replicate m 0) := by
  by_cases h : atR l t = t
  · rw [if_pos (beq_iff_eq.mpr h)]
    refine part_none.mpr fun r hr => ?_
    have hrl := allRows_row n m r hr
    have hrv := allRows_val n m r hr
    obtain ⟨g1, g2⟩ := led_row (n := n) L hrl hrv
    rw [fV_map hrl hrv, fV_map g1 g2]
    exact h.symm
  · rw [if_neg (by simpa using h)]
    have hz : ∀ i ∈ List.replicate m (0 : Int), 0 ≤ i ∧ i < (n : Int) := fun i hi => by rw [List.eq_of_mem_replicate hi]; omega
    have hi : idxR n (List.replicate m 0) = 0 := by
      induction m with
      | zero => rfl
      | succ m ih =>
        rw [List.replicate_succ', idx_snoc, ih (fun i hi => by rw [List.eq_of_mem_replicate hi]; omega)]
        omega
    have h0 := rows_at (n := n) (m := m) (List.length_replicate (n := m) (a := (0 : Int))) hz
    rw [hi] at h0
    have hp : ∀ r ∈ allRows n m, partsB n ((allRows n m).map fun _ => t) l r = true := fun r hr => by
      have hrl := allRows_row n m r hr
      have hrv := allRows_val n m r hr
      obtain ⟨g1, g2⟩ := led_row (n := n) L hrl hrv
      unfold partsB
      rw [fV_map hrl hrv, fV_map g1 g2]
      simpa using fun e => h e.symm
    exact find_take (k := 0) (fun y hy => by simp at hy) h0 (hp _ (List.mem_of_getElem? h0))
theorem rep_zero (m : Nat) : (.tup (repD m [.int 0]) : D) = rowD (List.replicate m 0) := by
  unfold repD rowD
  rw [List.map_replicate]
  congr 1
  induction m with
  | zero => rfl
  | succ m ih => rw [List.replicate_succ, List.flatten_cons, ih, List.replicate_succ]; rfl
theorem nonN {ex : Exc → Prop} {env : List Sl} {Q : D → Prop} (h : Q (.str "None")) : dC .non ex env fun x => aNil ex env fun xs => g1 gReprN (x :: xs) Q := .inl ⟨rfl, h⟩
def sAllR : FSpec := fun ds R _ => ∃ n m : Nat, ds = [.urn, .int n, .int m] ∧ SzIn n m ∧ R (.bl true)
abbrev s_law_all_right : Stmt := topS 59
theorem sc_law_all_right : FnScope ["bowl", "things", "places", "inputs", "place", "thing", "table", "told", "its", "same", "row", "lead"] ["bowl", "things", "places"] (defScope s_law_all_right) := ⟨rfl, rfl, rfl, by decide +kernel, rfl, by decide +kernel, by decide +kernel⟩
theorem ok_law_all_right (F : Fun G.K "_law_all_right" "_law_all_right" s_law_all_right f fd) (bn : Bn mg) (fo : Gk G) (F__law_spoon : Fk G P w mg base 1 "_law_spoon" ["bowl", "many"] 1 sDraw) (F__law_inputs : Fk G P w mg base 1 "_law_inputs" ["things", "places"] 0 sInputsN) (F__law_table : Fk G P w mg base 4 "_law_table" ["bowl", "things", "places"] 4611686018427387904 sTableD) (F__law_values : Fk G P w mg base 1 "_law_values" ["table", "inputs"] 0 sValuesT) (F_parting_row : Fk G P w mg base 3 "parting_row" ["told", "lead"] 0 sParting) (F__law_parting : Fk G P w mg base 1 "_law_parting" ["things", "table", "lead", "inputs"] 0 sPartL) (C_Told : Fc G P w mg base 5 "Told" 3 ["self", "things", "places", "tells"] 0 sToldInit) (C_Lead : Fc G P w mg base 5 "Lead" 1 ["self", "into", "row"] 0 sLeadInitL) : FnD G P w mg base 7 f fd ["bowl", "things", "places"] 9223372036854775808 sAllR := by
  refine FnD.more (fnd_of F sc_law_all_right (fun cdv A outer s H E hr hg => have xk := xk_def (E := E) hr hg; (ds_cons (ds_asg (de_tup (da_cons (de_call F__law_inputs xk (da_cons (dv 1) (da_cons (dv 2) da_nil))) (da_cons (de_call F__law_spoon xk (da_cons (dv 0) (da_cons (dv 2) da_nil))) (da_cons (de_call F__law_spoon xk (da_cons (dv 0) (da_cons (dv 1) da_nil))) da_nil)))) (dg_three xk.K xk.calm (pg_name (i := 3) sc_law_all_right.nd rfl (Or.inl rfl)) (pg_name (i := 4) sc_law_all_right.nd rfl (Or.inr rfl)) (pg_name (i := 5) sc_law_all_right.nd rfl (Or.inr rfl)))) (ds_cons (ds_set (i := 6) sc_law_all_right.nd rfl (Or.inl rfl) (de_call F__law_table xk (da_cons (dv 0) (da_cons (dv 1) (da_cons (dv 2) da_nil))))) (ds_cons (ds_par (i := 7) (j := 8) xk.calm sc_law_all_right.nd rfl rfl (by decide) rfl rfl (da_cons (de_make C_Told xk (da_cons (dv 1) (da_cons (dv 2) (da_cons (de_call F__law_values xk (da_cons (dv 6) (da_cons (dv 3) da_nil))) da_nil)))) (da_cons (de_make C_Told xk (da_cons (dv 1) (da_cons (dv 2) (da_cons (de_comp (own := [("row", 10)]) xk sc_law_all_right.nd (di_seq xk.K (dv 3)) (blkOk_by (N := ["bowl", "things", "places", "inputs", "place", "thing", "table", "told", "its", "same", "row", "lead"]) (sc := defScope s_law_all_right) (by decide +kernel)) (fun s H C cl fp => (dg_name (i := 10) sc_law_all_right.nd rfl (Or.inl rfl))) (fun s H C cl fp => dts_nil) (fun s H C cl fp => (de_ix (Xk.blk xk _ _ _ _ _).K (dvn 10) (dv 4) (fun _ _ => rfl))) (by simp)) da_nil)))) da_nil)) (hw := (by with_unfolding_all rfl))) (ds_cons (ds_set (i := 9) sc_law_all_right.nd rfl (Or.inl rfl) (de_make C_Told xk (da_cons (dv 1) (da_cons (dv 2) (da_cons (de_comp (own := [("row", 10)]) xk sc_law_all_right.nd (di_seq xk.K (dv 3)) (blkOk_by (N := ["bowl", "things", "places", "inputs", "place", "thing", "table", "told", "its", "same", "row", "lead"]) (sc := defScope s_law_all_right) (by decide +kernel)) (fun s H C cl fp => (dg_name (i := 10) sc_law_all_right.nd rfl (Or.inl rfl))) (fun s H C cl fp => dts_nil) (fun s H C cl fp => (dv 5)) (by simp)) da_nil))))) (ds_cons (ds_for xk po_def (di_seq xk.K (de_call F__law_inputs xk (da_cons (dv 1) (da_cons (dv 1) da_nil)))) (dg_name (i := 10) sc_law_all_right.nd rfl (Or.inl rfl)) (ds_cons (ds_set (i := 11) sc_law_all_right.nd rfl (Or.inl rfl) (de_make C_Lead xk (da_cons (dv 1) (da_cons (dvn 10) da_nil)))) (ds_cons (ds_if (dt_w (dw_or (dt_cmp (o_neS) (de_bi (c_reprN xk) bn.repr (da_cons (de_call F_parting_row xk (da_cons (dv 7) (da_cons (dv 11) da_nil))) da_nil)) (de_bi (c_reprN xk) bn.repr (da_cons (de_call F__law_parting xk (da_cons (dv 1) (da_cons (dv 6) (da_cons (dvn 10) (da_cons (dv 3) da_nil))))) da_nil)) (by rfl)) (dw_or1 (dt_cmp (o_isn) (de_call F_parting_row xk (da_cons (dv 8) (da_cons (dv 11) da_nil))) de_non (by rfl))))) (ds_one (ds_ret de_bl)) ds_nil) (ds_one (ds_if (dt_cmp (o_neS) (de_bi (c_reprN xk) bn.repr (da_cons (de_call F_parting_row xk (da_cons (dv 9) (da_cons (dv 11) da_nil))) da_nil)) (de_bi (c_reprN xk) bn.repr (da_cons (de_ife (dt_cmp (o_eq xk.K xk.u64) (de_ix xk.K (dvn 10) (dv 5) (fun _ _ => rfl)) (dv 5) (by rfl)) de_non (de_op (o_repT xk.K) (de_tup (da_cons de_int da_nil)) (dv 2))) da_nil)) (by rfl)) (ds_one (ds_ret de_bl)) ds_nil))))) (ds_one (ds_ret de_bl)))))))) ?_) (by decide)
  rintro ds R ex hl ⟨n, m, rfl, S, hr⟩
  obtain ⟨n1, n5, m1, m4, hk⟩ := id S
  refine seq_to (fun env' => ∃ p t : Int, 0 ≤ p ∧ p < m ∧ 0 ≤ t ∧ t < n ∧ env' = [.val .urn, .val (.int n), .val (.int m), .val (inD n m), .val (.int p), .val (.int t), .emp, .emp, .emp, .emp, .emp, .emp]) (fun de' hnx hrt => ?_) (fun env' e => ?_)
  · refine ⟨_, rfl, _, rfl, rfl, n, m, rfl, n5, m1, by omega, ?_⟩
    refine ⟨_, rfl, _, rfl, rfl, m, rfl, by omega, by omega, fun p p0 p1 => ?_⟩
    exact ⟨_, rfl, _, rfl, rfl, n, rfl, by omega, by omega, fun t t0 t1 => ⟨small (by simp), _, _, _, rfl, hnx _ ⟨p, t, p0, p1, t0, t1, rfl⟩⟩⟩
  obtain ⟨p, t, p0, p1, t0, t1, rfl⟩ := e
  refine seq_to (fun env' => ∃ vs, ToldIn n m vs ∧ env' = [.val .urn, .val (.int n), .val (.int m), .val (inD n m), .val (.int p), .val (.int t), .val (tabD n m vs), .emp, .emp, .emp, .emp, .emp]) (fun de' hnx hrt => ?_) (fun env' e => ?_)
  · exact ⟨_, rfl, _, rfl, _, rfl, rfl, n, m, rfl, S, fun vs T => hnx _ ⟨vs, T, rfl⟩⟩
  obtain ⟨vs, T, rfl⟩ := e
  have TP : ToldIn n m ((allRows n m).map fun r => atR r p) := told_map S fun r hr2 => (atR_in p0 (by rw [allRows_row n m r hr2]; exact p1) (allRows_val n m r hr2)).2
  have TT : ToldIn n m ((allRows n m).map fun _ => t) := told_map S fun r hr2 => ⟨t0, t1⟩
  refine seq_to (fun env' => env' = [.val .urn, .val (.int n), .val (.int m), .val (inD n m), .val (.int p), .val (.int t), .val (tabD n m vs), .val (toldD n m vs), .val (toldD n m ((allRows n m).map fun r => atR r p)), .emp, .emp, .emp]) (fun de' hnx hrt => ?_) (fun env' e => ?_)
  · refine ⟨_, rfl, _, rfl, _, rfl, _, rfl, rfl, n, m, vs, rfl, T.len, ?_⟩
    refine ⟨rfl, n, m, _, vs, rfl, rfl, T, ?_⟩
    refine ⟨_, rfl, _, rfl, _, rfl, ?_⟩
    refine compL_of rowN (fun r => D.int (atR r p)) (fun r hr2 K hK => ?_) ?_
    · have hat := (atR_in (n := n) p0 (by rw [allRows_row n m r hr2]; exact p1) (allRows_val n m r hr2)).1
      exact ⟨_, rfl, _, rfl, _, hat, hK⟩
    · rw [List.nil_append]
      have e : ((allRows n m).map fun r => D.int (atR r p)) = ((allRows n m).map fun r => atR r p).map D.int := by rw [List.map_map]; rfl
      rw [e]
      exact ⟨rfl, n, m, _, _, rfl, rfl, TP, _, _, rfl, hnx _ rfl⟩
  subst e
  refine seq_to (fun env' => env' = [.val .urn, .val (.int n), .val (.int m), .val (inD n m), .val (.int p), .val (.int t), .val (tabD n m vs), .val (toldD n m vs), .val (toldD n m ((allRows n m).map fun r => atR r p)), .val (toldD n m ((allRows n m).map fun _ => t)), .emp, .emp]) (fun de' hnx hrt => ?_) (fun env' e => ?_)
  · refine ⟨_, rfl, _, rfl, _, rfl, ?_⟩
    refine compL_of rowN (fun r => D.int t) (fun r hr2 K hK => ⟨_, rfl, hK⟩) ?_
    rw [List.nil_append]
    have e : ((allRows n m).map fun r => D.int t) = ((allRows n m).map fun _ => t).map D.int := by rw [List.map_map]; rfl
    rw [e]
    exact ⟨rfl, n, m, _, _, rfl, rfl, TT, hnx _ rfl⟩
  subst e
  refine seq_to (fun env' => True) (fun de' hnx hrt => ?_) (fun env' e => hr)
  refine ⟨_, rfl, _, rfl, rfl, n, n, rfl, n5, n1, n5, ?_⟩
  refine sForL_of rowN (fun i env => ∃ s10 s11, env = [.val .urn, .val (.int n), .val (.int m), .val (inD n m), .val (.int p), .val (.int t), .val (tabD n m vs), .val (toldD n m vs), .val (toldD n m ((allRows n m).map fun r => atR r p)), .val (toldD n m ((allRows n m).map fun _ => t)), s10, s11]) ⟨_, _, rfl⟩ (fun i l env hi hI nx hn2 => ?_) (fun env hI => hnx _ trivial)
  obtain ⟨s10, s11, rfl⟩ := hI
  have hmem := List.mem_of_getElem? hi
  have L : RowIn n n l := ⟨allRows_row n n l hmem, allRows_val n n l hmem⟩
  have LL := lead_of n1 n5 L
  have base : ∀ s : Sl, True := fun _ => trivial
  refine seq_to (fun env' => env' = [.val .urn, .val (.int n), .val (.int m), .val (inD n m), .val (.int p), .val (.int t), .val (tabD n m vs), .val (toldD n m vs), .val (toldD n m ((allRows n m).map fun r => atR r p)), .val (toldD n m ((allRows n m).map fun _ => t)), .val (rowN l), .val (leadD n l)]) (fun de2 hnx2 hrt2 => ?_) (fun env' e => ?_)
  · exact ⟨_, rfl, _, rfl, rfl, n, _, l, rfl, rfl, by omega, by omega, LL.1, LL.2.1, L.2, hnx2 _ rfl⟩
  subst e
  refine seq_to (fun env' => env' = [.val .urn, .val (.int n), .val (.int m), .val (inD n m), .val (.int p), .val (.int t), .val (tabD n m vs), .val (toldD n m vs), .val (toldD n m ((allRows n m).map fun r => atR r p)), .val (toldD n m ((allRows n m).map fun _ => t)), .val (rowN l), .val (leadD n l)]) (fun de2 hnx2 hrt2 => ?_) (fun env' e => ?_)
  · refine sif_of (x := false || false) (tst_or (fun K hK => ?_) (fun _ K hK => ?_)) (fun hb => by cases hb) (fun _ => hnx2 _ rfl)
    · refine ⟨_, rfl, _, rfl, rfl, n, m, vs, l, rfl, T, L, nilRO n5 m4 ⟨_, rfl, _, rfl, _, rfl, _, rfl, rfl, n, m, vs, l, _, _, rfl, T, L, .inr (.inl rfl), nilRO n5 m4 ⟨_, _, rfl, rfl, _, rfl, by simpa using hK⟩⟩⟩
    · refine ⟨_, rfl, _, rfl, rfl, n, m, _, l, rfl, TP, L, rfl, optD_no _, _, rfl, ?_⟩
      rw [optD_isN, part_place L p0 p1]
      exact hK
  subst e
  refine sif_of (x := false) (fun K hK => ?_) (fun hb => by cases hb) (fun _ => hn2 _ ⟨_, _, rfl⟩)
  have hat := (atR_in (r := l) (i := t) (n := n) t0 (by rw [L.1]; exact t1) L.2).1
  have eT := part_thing (m := m) (t := t) L n1
  refine ⟨_, rfl, _, rfl, rfl, n, m, _, l, rfl, TT, L, nilRO n5 m4 ?_⟩
  refine ⟨_, rfl, _, rfl, _, hat, _, rfl, eq_int ⟨_, rfl, ite_of (fun hb => ?_) (fun hb => ?_)⟩⟩
  · rw [if_pos hb] at eT
    rw [eT]
    refine nonN ?_
    exact ⟨_, _, rfl, rfl, _, rfl, by simpa [shownO] using hK⟩
  · rw [if_neg (by rw [hb]; decide)] at eT
    rw [eT]
    refine ⟨small (by simp), _, rfl, [.int 0], m, rfl, rfl, m1, by omega, by simp, by simp, ?_⟩
    rw [rep_zero]
    refine nilRN ?_
    refine .inr (repr1 (by simp; omega) (fun i hi => by rw [List.eq_of_mem_replicate hi]; omega) ?_)
    exact ⟨_, _, rfl, rfl, _, rfl, by simpa [shownO] using hK⟩
end
end Pg

set_option Elab.async false
set_option linter.all false
set_option maxRecDepth 100000
set_option maxHeartbeats 4100000
namespace Pg
open PySem L2 RZ Kn
open PyProof.Rows (envOfC)
section
variable {G : Gd} {P : Program} {w : World} {mg : Str → Option Value} {fa a : Addr} {fd : FuncData} {s₁ : Shared} {ns : List Int}

/-- the facts of the law's callees, over the urn -/
structure Calls (G : Gd) (P : Program) (w : World) (mg : Str → Option Value) (base : Heap) : Prop where
  size : Fk G P w mg base 3 "_law_size" ["bowl"] 1 sSize
  inputs : Fk G P w mg base 1 "_law_inputs" ["things", "places"] 0 sInputsN
  table : Fk G P w mg base 4 "_law_table" ["bowl", "things", "places"] 4611686018427387904 sTableD
  values : Fk G P w mg base 1 "_law_values" ["table", "inputs"] 0 sValuesT
  told : Fc G P w mg base 5 "Told" 3 ["self", "things", "places", "tells"] 0 sToldInit
  someR : Fk G P w mg base 9 "_law_some_right" ["bowl", "told", "table", "inputs"] 4503599627370496 sSomeR
  one : Fk G P w mg base 2 "_law_one_of" ["bowl", "some"] 1 sPick
  allR : Fk G P w mg base 7 "_law_all_right" ["bowl", "things", "places"] 9223372036854775808 sAllR
abbrev s_law : Stmt := topS 60
theorem sc_law : FnScope ["script", "bowl", "turn", "things", "places", "inputs", "table", "told"] ["script"] (defScope s_law) := ⟨rfl, rfl, rfl, by decide +kernel, rfl, by decide +kernel, by decide +kernel⟩
theorem ok_law {cd : Addr} (hGu : G.u = none) (F : FunC G.K "law" "law" s_law fa fd cd) (hb : ∀ (s : Shared) (v : Value), BindsTo s fd ⟨[v], []⟩ [("script", v)]) (bn : Bn mg) (hlen : ns.length ≤ 63) (hr : Room 10 callerA)
    (hC : ∀ (q : Addr × Addr) (base : Heap), Calls { G with u := some (q, []) } P w mg base)
    (h0 : ∀ (base : Heap) (H : Hp), Room 9 (callerA.deeper (envOfC "law" (defScope s_law) s₁.heap.objs.size fa (.ref cd))) → PS (cxOf (L2.CX P w) P w G.K mg base ["script", "bowl", "turn", "things", "places", "inputs", "table", "told"] "law" (defScope s_law) fa (.ref cd) callerA [] s₁ H EF) ((defBody s_law).getD 0 (.Pass ⟨0, 0, 0, 0⟩)) (tAsg (tCall (spPen G.K) [] EF (tCons (tVar 0) tNil)) (gName 1))) :
    LawOkT P w G.K mg fa a ns s₁ [] := by
  refine law_of (T := []) nofun hGu F sc_law hb hr (by decide) rfl ?_ hlen h0 (fun p b base H _ rm => have xk := xk_def (G := { G with u := some ((p, b), []) }) (E := EF) rm rfl; have Cc := hC (p, b) base; (ds_cons (ds_for xk po_def (di_range1 bn.range (da_cons de_int da_nil)) (dg_name (i := 2) sc_law.nd rfl (Or.inl rfl)) (ds_cons (ds_asg (de_call Cc.size xk (da_cons (dv 1) da_nil)) (dg_two (i := 3) (j := 4) xk.K xk.calm sc_law.nd rfl (Or.inl rfl) rfl (Or.inl rfl) (pg_name sc_law.nd rfl (Or.inl rfl)) (pg_name sc_law.nd rfl (Or.inl rfl)))) (ds_cons (ds_par (i := 5) (j := 6) xk.calm sc_law.nd rfl rfl (by decide) rfl rfl (da_cons (de_call Cc.inputs xk (da_cons (dv 3) (da_cons (dv 4) da_nil))) (da_cons (de_call Cc.table xk (da_cons (dv 1) (da_cons (dv 3) (da_cons (dv 4) da_nil)))) da_nil)) (hw := (by with_unfolding_all rfl))) (ds_cons (ds_set (i := 7) sc_law.nd rfl (Or.inl rfl) (de_make Cc.told xk (da_cons (dv 3) (da_cons (dv 4) (da_cons (de_call Cc.values xk (da_cons (dv 6) (da_cons (dv 5) da_nil))) da_nil))))) (ds_one (ds_if (dt_not (dt_val (de_call Cc.someR xk (da_cons (dv 1) (da_cons (dv 7) (da_cons (dv 6) (da_cons (dv 5) da_nil))))))) (ds_one (ds_ret de_bl)) ds_nil)))))) (ds_cons (ds_asg (de_call Cc.one xk (da_cons (dv 1) (da_cons (de_lst (da_cons (de_tup (da_cons de_int (da_cons de_int da_nil))) (da_cons (de_tup (da_cons de_int (da_cons de_int da_nil))) (da_cons (de_tup (da_cons de_int (da_cons de_int da_nil))) (da_cons (de_tup (da_cons de_int (da_cons de_int da_nil))) (da_cons (de_tup (da_cons de_int (da_cons de_int da_nil))) da_nil)))))) da_nil))) (dg_two (i := 3) (j := 4) xk.K xk.calm sc_law.nd rfl (Or.inl rfl) rfl (Or.inl rfl) (pg_name sc_law.nd rfl (Or.inl rfl)) (pg_name sc_law.nd rfl (Or.inl rfl)))) (ds_one (ds_ret (de_call Cc.allR xk (da_cons (dv 1) (da_cons (dv 3) (da_cons (dv 4) da_nil))))))))) ?_
  · decide
  refine seq_to (fun env' => ∃ s2 s3 s4 s5 s6 s7, env' = [.emp, .val .urn, s2, s3, s4, s5, s6, s7]) (fun de' hnx hrt => ?_) (fun env' e => ?_)
  · refine ⟨4, rfl, by omega, by omega, ?_⟩
    refine sForL_rng (fun i env => ∃ s2 s3 s4 s5 s6 s7, env = [.emp, .val .urn, s2, s3, s4, s5, s6, s7]) ⟨_, _, _, _, _, _, rfl⟩ (fun i env hi hI nx hn2 => ?_) (fun env hI => hnx _ hI)
    obtain ⟨s2, s3, s4, s5, s6, s7, rfl⟩ := hI
    refine seq_to (fun env' => ∃ n m : Nat, SzIn n m ∧ env' = [.emp, .val .urn, .val (.int i), .val (.int n), .val (.int m), s5, s6, s7]) (fun de2 hnx2 hrt2 => ?_) (fun env' e => ?_)
    · exact ⟨_, rfl, rfl, rfl, fun n m S => tg_two (hnx2 _ ⟨n, m, S, rfl⟩)⟩
    obtain ⟨n, m, S, rfl⟩ := e
    obtain ⟨n1, n5, m1, m4, hk⟩ := id S
    refine seq_to (fun env' => ∃ vs, ToldIn n m vs ∧ env' = [.emp, .val .urn, .val (.int i), .val (.int n), .val (.int m), .val (inD n m), .val (tabD n m vs), s7]) (fun de2 hnx2 hrt2 => ?_) (fun env' e => ?_)
    · exact ⟨_, rfl, _, rfl, rfl, n, m, rfl, n5, m1, by omega, _, rfl, _, rfl, _, rfl, rfl, n, m, rfl, S, fun vs T => ⟨_, _, rfl, hnx2 _ ⟨vs, T, rfl⟩⟩⟩
    obtain ⟨vs, T, rfl⟩ := e
    refine seq_to (fun env' => env' = [.emp, .val .urn, .val (.int i), .val (.int n), .val (.int m), .val (inD n m), .val (tabD n m vs), .val (toldD n m vs)]) (fun de2 hnx2 hrt2 => ?_) (fun env' e => ?_)
    · exact ⟨_, rfl, _, rfl, _, rfl, _, rfl, rfl, n, m, vs, rfl, T.len, rfl, n, m, _, vs, rfl, rfl, T, hnx2 _ rfl⟩
    subst e
    exact sif_of (x := !true) (fun K hK => ⟨_, rfl, _, rfl, _, rfl, _, rfl, rfl, n, m, vs, rfl, T, true, rfl, hK⟩) (fun hb => by simp at hb) fun hb => hn2 _ ⟨_, _, _, _, _, _, rfl⟩
  obtain ⟨s2, s3, s4, s5, s6, s7, rfl⟩ := e
  refine seq_to (fun env' => ∃ n m : Nat, SzIn n m ∧ env' = [.emp, .val .urn, s2, .val (.int n), .val (.int m), s5, s6, s7]) (fun de' hnx hrt => ?_) (fun env' e => ?_)
  · refine ⟨_, rfl, small (by simp), small (by simp), small (by simp), small (by simp), small (by simp), small (by simp), rfl, _, _, rfl, rfl, by simp, by simp, fun i x hx => ?_⟩
    have hm := List.mem_of_getElem? hx
    simp only [List.mem_cons, List.not_mem_nil, or_false] at hm; rcases hm with rfl | rfl | rfl | rfl | rfl
    · exact tg_two (hnx _ ⟨2, 2, by unfold SzIn; decide, rfl⟩)
    · exact tg_two (hnx _ ⟨3, 2, by unfold SzIn; decide, rfl⟩)
    · exact tg_two (hnx _ ⟨3, 1, by unfold SzIn; decide, rfl⟩)
    · exact tg_two (hnx _ ⟨2, 3, by unfold SzIn; decide, rfl⟩)
    · exact tg_two (hnx _ ⟨1, 3, by unfold SzIn; decide, rfl⟩)
  obtain ⟨n, m, S, rfl⟩ := e
  exact ⟨_, rfl, _, rfl, _, rfl, rfl, n, m, rfl, S, rfl⟩
end
end Pg

set_option Elab.async false
set_option linter.all false
set_option maxRecDepth 100000
set_option maxHeartbeats 4100000
namespace Pg
open PySem L2 RZ Kn
/-- the classes that the law reaches: their addresses, their fields -/
def clK (a1 a2 a3 : Addr) : Nat → Addr
  | 1 => a1
  | 2 => a2
  | 3 => a3
  | _ => 0
def flK : Nat → List Str
  | 1 => ["begin", "into", "row"]
  | 2 => ["words", "taken"]
  | 3 => ["things", "places", "tells"]
  | _ => []
section
variable {K : PySem.W.Frag} {a1 a2 a3 : Addr} {u : Option Ur} {f : Str}
theorem fld_ok (h1 : f ∈ (["begin", "into", "row"] : List Str) → Cls K a1 ∧ NoAttr K a1 f) (h2 : f ∈ (["words", "taken"] : List Str) → Cls K a2 ∧ NoAttr K a2 f) (h3 : f ∈ (["things", "places", "tells"] : List Str) → Cls K a3 ∧ NoAttr K a3 f) : FldOk ⟨K, clK a1 a2 a3, flK, u⟩ f := ⟨fun c hc => by
  match c with
  | 0 => cases hc
  | 1 => exact h1 hc
  | 2 => exact h2 hc
  | 3 => exact h3 hc
  | n + 4 => cases hc⟩
theorem flK_nd (c : Nat) : (flK c).Nodup := by
  match c with
  | 0 => exact List.nodup_nil
  | 1 => decide +kernel
  | 2 => decide +kernel
  | 3 => decide +kernel
  | n + 4 => exact List.nodup_nil
theorem flK_sm (c : Nat) : (flK c).length ≤ 100 := by
  match c with
  | 0 => exact Nat.zero_le _
  | 1 => decide
  | 2 => decide
  | 3 => decide
  | n + 4 => exact Nat.zero_le _
end
end Pg

set_option Elab.async false
set_option linter.all false
set_option maxRecDepth 100000
set_option maxHeartbeats 4100000
namespace Pg
open PySem PySem.Spec PyProof.Rows L2 Kn
open RZ
theorem close {l : PySem.W.OpenLaw} {w : World} {K : PySem.W.Frag} {h : Heap} {mg : Str → Option Value} {fa a : Addr} {s : Shared} {ns : List Int} (X : K.In h) (Gh : h.Ns mainGlobals mg) (hfa : mg "law" = some (.ref fa)) (hlen : ns.length ≤ 63)
    {C_Lead : Addr}
    {C_Items : Addr}
    {C_Told : Addr}
    {f_law : Addr} {oc_law kV_law dc_law pm_law ct_law : Value} {od_law an_law : Option Addr} {sl_law : Array (Option Value)}
    {cd_law : Addr}
    {f_is_integer : Addr} {oc_is_integer kV_is_integer dc_is_integer pm_is_integer ct_is_integer : Value} {od_is_integer an_is_integer : Option Addr} {sl_is_integer : Array (Option Value)}
    {cd_is_integer : Value}
    {f_are_numbers : Addr} {oc_are_numbers kV_are_numbers dc_are_numbers pm_are_numbers ct_are_numbers : Value} {od_are_numbers an_are_numbers : Option Addr} {sl_are_numbers : Array (Option Value)}
    {cd_are_numbers : Value}
    {f_is_within : Addr} {oc_is_within kV_is_within dc_is_within pm_is_within ct_is_within : Value} {od_is_within an_is_within : Option Addr} {sl_is_within : Array (Option Value)}
    {cd_is_within : Value}
    {f_demand_number : Addr} {oc_demand_number kV_demand_number dc_demand_number pm_demand_number ct_demand_number : Value} {od_demand_number an_demand_number : Option Addr} {sl_demand_number : Array (Option Value)}
    {cd_demand_number : Value}
    {f_demand_world : Addr} {oc_demand_world kV_demand_world dc_demand_world pm_demand_world ct_demand_world : Value} {od_demand_world an_demand_world : Option Addr} {sl_demand_world : Array (Option Value)}
    {cd_demand_world : Value}
    {f_demand_numbers : Addr} {oc_demand_numbers kV_demand_numbers dc_demand_numbers pm_demand_numbers ct_demand_numbers : Value} {od_demand_numbers an_demand_numbers : Option Addr} {sl_demand_numbers : Array (Option Value)}
    {cd_demand_numbers : Value}
    {f_demand_things : Addr} {oc_demand_things kV_demand_things dc_demand_things pm_demand_things ct_demand_things : Value} {od_demand_things an_demand_things : Option Addr} {sl_demand_things : Array (Option Value)}
    {cd_demand_things : Value}
    {f_Lead___init__ : Addr} {oc_Lead___init__ kV_Lead___init__ dc_Lead___init__ pm_Lead___init__ ct_Lead___init__ : Value} {od_Lead___init__ an_Lead___init__ : Option Addr} {sl_Lead___init__ : Array (Option Value)}
    {cd_Lead___init__ : Value}
    {f_idle : Addr} {oc_idle kV_idle dc_idle pm_idle ct_idle : Value} {od_idle an_idle : Option Addr} {sl_idle : Array (Option Value)}
    {cd_idle : Value}
    {f_Lead_of : Addr} {oc_Lead_of kV_Lead_of dc_Lead_of pm_Lead_of ct_Lead_of : Value} {od_Lead_of an_Lead_of : Option Addr} {sl_Lead_of : Array (Option Value)}
    {cd_Lead_of : Value}
    {f_Lead_then : Addr} {oc_Lead_then kV_Lead_then dc_Lead_then pm_Lead_then ct_Lead_then : Value} {od_Lead_then an_Lead_then : Option Addr} {sl_Lead_then : Array (Option Value)}
    {cd_Lead_then : Value}
    {f_many_rows : Addr} {oc_many_rows kV_many_rows dc_many_rows pm_many_rows ct_many_rows : Value} {od_many_rows an_many_rows : Option Addr} {sl_many_rows : Array (Option Value)}
    {cd_many_rows : Value}
    {f_row_index : Addr} {oc_row_index kV_row_index dc_row_index pm_row_index ct_row_index : Value} {od_row_index an_row_index : Option Addr} {sl_row_index : Array (Option Value)}
    {cd_row_index : Value}
    {f_demand_many_places : Addr} {oc_demand_many_places kV_demand_many_places dc_demand_many_places pm_demand_many_places ct_demand_many_places : Value} {od_demand_many_places an_demand_many_places : Option Addr} {sl_demand_many_places : Array (Option Value)}
    {cd_demand_many_places : Value}
    {f_demand_many_numbers : Addr} {oc_demand_many_numbers kV_demand_many_numbers dc_demand_many_numbers pm_demand_many_numbers ct_demand_many_numbers : Value} {od_demand_many_numbers an_demand_many_numbers : Option Addr} {sl_demand_many_numbers : Array (Option Value)}
    {cd_demand_many_numbers : Value}
    {f_demand_few_values : Addr} {oc_demand_few_values kV_demand_few_values dc_demand_few_values pm_demand_few_values ct_demand_few_values : Value} {od_demand_few_values an_demand_few_values : Option Addr} {sl_demand_few_values : Array (Option Value)}
    {cd_demand_few_values : Value}
    {f_Told___init__ : Addr} {oc_Told___init__ kV_Told___init__ dc_Told___init__ pm_Told___init__ ct_Told___init__ : Value} {od_Told___init__ an_Told___init__ : Option Addr} {sl_Told___init__ : Array (Option Value)}
    {cd_Told___init__ : Value}
    {f_Items___init__ : Addr} {oc_Items___init__ kV_Items___init__ dc_Items___init__ pm_Items___init__ ct_Items___init__ : Value} {od_Items___init__ an_Items___init__ : Option Addr} {sl_Items___init__ : Array (Option Value)}
    {cd_Items___init__ : Value}
    {f_Items_stands : Addr} {oc_Items_stands kV_Items_stands dc_Items_stands pm_Items_stands ct_Items_stands : Value} {od_Items_stands an_Items_stands : Option Addr} {sl_Items_stands : Array (Option Value)}
    {cd_Items_stands : Value}
    {f_Items_take : Addr} {oc_Items_take kV_Items_take dc_Items_take pm_Items_take ct_Items_take : Value} {od_Items_take an_Items_take : Option Addr} {sl_Items_take : Array (Option Value)}
    {cd_Items_take : Value}
    {f_Items_take_number : Addr} {oc_Items_take_number kV_Items_take_number dc_Items_take_number pm_Items_take_number ct_Items_take_number : Value} {od_Items_take_number an_Items_take_number : Option Addr} {sl_Items_take_number : Array (Option Value)}
    {cd_Items_take_number : Value}
    {f_Items_take_end : Addr} {oc_Items_take_end kV_Items_take_end dc_Items_take_end pm_Items_take_end ct_Items_take_end : Value} {od_Items_take_end an_Items_take_end : Option Addr} {sl_Items_take_end : Array (Option Value)}
    {cd_Items_take_end : Value}
    {f_Lead_read : Addr} {oc_Lead_read kV_Lead_read dc_Lead_read pm_Lead_read ct_Lead_read : Value} {od_Lead_read an_Lead_read : Option Addr} {sl_Lead_read : Array (Option Value)}
    {cd_Lead_read : Value}
    {p_Lead_read : Addr} {rs_Lead_read : List Value}
    {f_row_at : Addr} {oc_row_at kV_row_at dc_row_at pm_row_at ct_row_at : Value} {od_row_at an_row_at : Option Addr} {sl_row_at : Array (Option Value)}
    {cd_row_at : Value}
    {f_led_indices : Addr} {oc_led_indices kV_led_indices dc_led_indices pm_led_indices ct_led_indices : Value} {od_led_indices an_led_indices : Option Addr} {sl_led_indices : Array (Option Value)}
    {cd_led_indices : Value}
    {f_demand_told : Addr} {oc_demand_told kV_demand_told dc_demand_told pm_demand_told ct_demand_told : Value} {od_demand_told an_demand_told : Option Addr} {sl_demand_told : Array (Option Value)}
    {cd_demand_told : Value}
    {f_first_parting : Addr} {oc_first_parting kV_first_parting dc_first_parting pm_first_parting ct_first_parting : Value} {od_first_parting an_first_parting : Option Addr} {sl_first_parting : Array (Option Value)}
    {cd_first_parting : Value}
    {f_parting_row : Addr} {oc_parting_row kV_parting_row dc_parting_row pm_parting_row ct_parting_row : Value} {od_parting_row an_parting_row : Option Addr} {sl_parting_row : Array (Option Value)}
    {cd_parting_row : Value}
    {f_law_bowl : Addr} {oc_law_bowl kV_law_bowl dc_law_bowl pm_law_bowl ct_law_bowl : Value} {od_law_bowl an_law_bowl : Option Addr} {sl_law_bowl : Array (Option Value)}
    {cd_law_bowl : Value}
    {f_law_spoon : Addr} {oc_law_spoon kV_law_spoon dc_law_spoon pm_law_spoon ct_law_spoon : Value} {od_law_spoon an_law_spoon : Option Addr} {sl_law_spoon : Array (Option Value)}
    {cd_law_spoon : Value}
    {f_law_one_of : Addr} {oc_law_one_of kV_law_one_of dc_law_one_of pm_law_one_of ct_law_one_of : Value} {od_law_one_of an_law_one_of : Option Addr} {sl_law_one_of : Array (Option Value)}
    {cd_law_one_of : Value}
    {f_law_inputs : Addr} {oc_law_inputs kV_law_inputs dc_law_inputs pm_law_inputs ct_law_inputs : Value} {od_law_inputs an_law_inputs : Option Addr} {sl_law_inputs : Array (Option Value)}
    {cd_law_inputs : Value}
    {f_law_parting : Addr} {oc_law_parting kV_law_parting dc_law_parting pm_law_parting ct_law_parting : Value} {od_law_parting an_law_parting : Option Addr} {sl_law_parting : Array (Option Value)}
    {cd_law_parting : Value}
    {f_law_values : Addr} {oc_law_values kV_law_values dc_law_values pm_law_values ct_law_values : Value} {od_law_values an_law_values : Option Addr} {sl_law_values : Array (Option Value)}
    {cd_law_values : Value}
    {f_law_lead : Addr} {oc_law_lead kV_law_lead dc_law_lead pm_law_lead ct_law_lead : Value} {od_law_lead an_law_lead : Option Addr} {sl_law_lead : Array (Option Value)}
    {cd_law_lead : Value}
    {f_law_size : Addr} {oc_law_size kV_law_size dc_law_size pm_law_size ct_law_size : Value} {od_law_size an_law_size : Option Addr} {sl_law_size : Array (Option Value)}
    {cd_law_size : Value}
    {f_law_made : Addr} {oc_law_made kV_law_made dc_law_made pm_law_made ct_law_made : Value} {od_law_made an_law_made : Option Addr} {sl_law_made : Array (Option Value)}
    {cd_law_made : Value}
    {f_law_lots : Addr} {oc_law_lots kV_law_lots dc_law_lots pm_law_lots ct_law_lots : Value} {od_law_lots an_law_lots : Option Addr} {sl_law_lots : Array (Option Value)}
    {cd_law_lots : Value}
    {f_law_pattern : Addr} {oc_law_pattern kV_law_pattern dc_law_pattern pm_law_pattern ct_law_pattern : Value} {od_law_pattern an_law_pattern : Option Addr} {sl_law_pattern : Array (Option Value)}
    {cd_law_pattern : Value}
    {f_law_by_blocks : Addr} {oc_law_by_blocks kV_law_by_blocks dc_law_by_blocks pm_law_by_blocks ct_law_by_blocks : Value} {od_law_by_blocks an_law_by_blocks : Option Addr} {sl_law_by_blocks : Array (Option Value)}
    {cd_law_by_blocks : Value}
    {f_law_table : Addr} {oc_law_table kV_law_table dc_law_table pm_law_table ct_law_table : Value} {od_law_table an_law_table : Option Addr} {sl_law_table : Array (Option Value)}
    {cd_law_table : Value}
    {f_law_some_right : Addr} {oc_law_some_right kV_law_some_right dc_law_some_right pm_law_some_right ct_law_some_right : Value} {od_law_some_right an_law_some_right : Option Addr} {sl_law_some_right : Array (Option Value)}
    {cd_law_some_right : Value}
    {f_law_all_right : Addr} {oc_law_all_right kV_law_all_right dc_law_all_right pm_law_all_right ct_law_all_right : Value} {od_law_all_right an_law_all_right : Option Addr} {sl_law_all_right : Array (Option Value)}
    {cd_law_all_right : Value}
    {t_MOST_THINGS : Tok}
    {t_MOST_PLACES : Tok}
    {t_MOST_VALUES : Tok}
    (aC_Lead : PySem.W.nsIn K mainGlobals "Lead" = some (some (.ref C_Lead)))
    (pg_Lead : PySem.W.plainGet K C_Lead Str.empty = true)
    (hd_Lead : PySem.W.hasDictIn K C_Lead = true)
    (po_Lead : PySem.W.plainOver K C_Lead = true)
    (sa_Lead : PySem.W.findIn K (.ref C_Lead) "__setattr__" = some (some (.builtin "object.__setattr__")))
    (rd_Lead : PySem.W.readsIn K C_Lead (.type "type") = true)
    (ga_Lead : PySem.W.specialIn K (.ref C_Lead) "__getattribute__" = some (some (.builtin "type.__getattribute__")))
    (mk_Lead : PySem.W.makesIn K C_Lead = true)
    (kc_Lead : PySem.W.keepIn K (.ref C_Lead) = true)
    (n_Lead_begin : PySem.W.findIn K (.ref C_Lead) "begin" = some none)
    (n_Lead_into : PySem.W.findIn K (.ref C_Lead) "into" = some none)
    (n_Lead_row : PySem.W.findIn K (.ref C_Lead) "row" = some none)
    (aC_Items : PySem.W.nsIn K mainGlobals "Items" = some (some (.ref C_Items)))
    (pg_Items : PySem.W.plainGet K C_Items Str.empty = true)
    (hd_Items : PySem.W.hasDictIn K C_Items = true)
    (po_Items : PySem.W.plainOver K C_Items = true)
    (sa_Items : PySem.W.findIn K (.ref C_Items) "__setattr__" = some (some (.builtin "object.__setattr__")))
    (mk_Items : PySem.W.makesIn K C_Items = true)
    (kc_Items : PySem.W.keepIn K (.ref C_Items) = true)
    (n_Items_words : PySem.W.findIn K (.ref C_Items) "words" = some none)
    (n_Items_taken : PySem.W.findIn K (.ref C_Items) "taken" = some none)
    (aC_Told : PySem.W.nsIn K mainGlobals "Told" = some (some (.ref C_Told)))
    (pg_Told : PySem.W.plainGet K C_Told Str.empty = true)
    (hd_Told : PySem.W.hasDictIn K C_Told = true)
    (po_Told : PySem.W.plainOver K C_Told = true)
    (sa_Told : PySem.W.findIn K (.ref C_Told) "__setattr__" = some (some (.builtin "object.__setattr__")))
    (mk_Told : PySem.W.makesIn K C_Told = true)
    (kc_Told : PySem.W.keepIn K (.ref C_Told) = true)
    (n_Told_things : PySem.W.findIn K (.ref C_Told) "things" = some none)
    (n_Told_places : PySem.W.findIn K (.ref C_Told) "places" = some none)
    (n_Told_tells : PySem.W.findIn K (.ref C_Told) "tells" = some none)
    (a_law : PySem.W.nsIn K mainGlobals "law" = some (some (.ref f_law)))
    (l_law : K.lookup f_law = some ⟨oc_law, od_law, .func (PySem.W.fnOf "law" "law" (defArgs (topS 60)) (defBody (topS 60)) (defScope (topS 60)) .none kV_law dc_law pm_law an_law (.ref cd_law) ct_law), sl_law⟩)
    (c_law : PySem.W.codeIn K (.ref cd_law) "law" = true)
    (k_law : PySem.W.keepIn K (.ref f_law) = true)
    (a_is_integer : PySem.W.nsIn K mainGlobals "is_integer" = some (some (.ref f_is_integer)))
    (l_is_integer : K.lookup f_is_integer = some ⟨oc_is_integer, od_is_integer, .func (PySem.W.fnOf "is_integer" "is_integer" (defArgs (topS 12)) (defBody (topS 12)) (defScope (topS 12)) .none kV_is_integer dc_is_integer pm_is_integer an_is_integer cd_is_integer ct_is_integer), sl_is_integer⟩)
    (c_is_integer : PySem.W.codeIn K cd_is_integer "is_integer" = true)
    (k_is_integer : PySem.W.keepIn K (.ref f_is_integer) = true)
    (a_are_numbers : PySem.W.nsIn K mainGlobals "are_numbers" = some (some (.ref f_are_numbers)))
    (l_are_numbers : K.lookup f_are_numbers = some ⟨oc_are_numbers, od_are_numbers, .func (PySem.W.fnOf "are_numbers" "are_numbers" (defArgs (topS 14)) (defBody (topS 14)) (defScope (topS 14)) .none kV_are_numbers dc_are_numbers pm_are_numbers an_are_numbers cd_are_numbers ct_are_numbers), sl_are_numbers⟩)
    (c_are_numbers : PySem.W.codeIn K cd_are_numbers "are_numbers" = true)
    (k_are_numbers : PySem.W.keepIn K (.ref f_are_numbers) = true)
    (a_is_within : PySem.W.nsIn K mainGlobals "is_within" = some (some (.ref f_is_within)))
    (l_is_within : K.lookup f_is_within = some ⟨oc_is_within, od_is_within, .func (PySem.W.fnOf "is_within" "is_within" (defArgs (topS 13)) (defBody (topS 13)) (defScope (topS 13)) .none kV_is_within dc_is_within pm_is_within an_is_within cd_is_within ct_is_within), sl_is_within⟩)
    (c_is_within : PySem.W.codeIn K cd_is_within "is_within" = true)
    (k_is_within : PySem.W.keepIn K (.ref f_is_within) = true)
    (a_demand_number : PySem.W.nsIn K mainGlobals "demand_number" = some (some (.ref f_demand_number)))
    (l_demand_number : K.lookup f_demand_number = some ⟨oc_demand_number, od_demand_number, .func (PySem.W.fnOf "demand_number" "demand_number" (defArgs (topS 18)) (defBody (topS 18)) (defScope (topS 18)) .none kV_demand_number dc_demand_number pm_demand_number an_demand_number cd_demand_number ct_demand_number), sl_demand_number⟩)
    (c_demand_number : PySem.W.codeIn K cd_demand_number "demand_number" = true)
    (k_demand_number : PySem.W.keepIn K (.ref f_demand_number) = true)
    (a_demand_world : PySem.W.nsIn K mainGlobals "demand_world" = some (some (.ref f_demand_world)))
    (l_demand_world : K.lookup f_demand_world = some ⟨oc_demand_world, od_demand_world, .func (PySem.W.fnOf "demand_world" "demand_world" (defArgs (topS 19)) (defBody (topS 19)) (defScope (topS 19)) .none kV_demand_world dc_demand_world pm_demand_world an_demand_world cd_demand_world ct_demand_world), sl_demand_world⟩)
    (c_demand_world : PySem.W.codeIn K cd_demand_world "demand_world" = true)
    (k_demand_world : PySem.W.keepIn K (.ref f_demand_world) = true)
    (a_demand_numbers : PySem.W.nsIn K mainGlobals "demand_numbers" = some (some (.ref f_demand_numbers)))
    (l_demand_numbers : K.lookup f_demand_numbers = some ⟨oc_demand_numbers, od_demand_numbers, .func (PySem.W.fnOf "demand_numbers" "demand_numbers" (defArgs (topS 21)) (defBody (topS 21)) (defScope (topS 21)) .none kV_demand_numbers dc_demand_numbers pm_demand_numbers an_demand_numbers cd_demand_numbers ct_demand_numbers), sl_demand_numbers⟩)
    (c_demand_numbers : PySem.W.codeIn K cd_demand_numbers "demand_numbers" = true)
    (k_demand_numbers : PySem.W.keepIn K (.ref f_demand_numbers) = true)
    (a_demand_things : PySem.W.nsIn K mainGlobals "demand_things" = some (some (.ref f_demand_things)))
    (l_demand_things : K.lookup f_demand_things = some ⟨oc_demand_things, od_demand_things, .func (PySem.W.fnOf "demand_things" "demand_things" (defArgs (topS 23)) (defBody (topS 23)) (defScope (topS 23)) .none kV_demand_things dc_demand_things pm_demand_things an_demand_things cd_demand_things ct_demand_things), sl_demand_things⟩)
    (c_demand_things : PySem.W.codeIn K cd_demand_things "demand_things" = true)
    (k_demand_things : PySem.W.keepIn K (.ref f_demand_things) = true)
    (a_Lead___init__ : PySem.W.findIn K (.ref C_Lead) "__init__" = some (some (.ref f_Lead___init__)))
    (i_Lead___init__ : PySem.W.isFn K (.ref f_Lead___init__) = true)
    (l_Lead___init__ : K.lookup f_Lead___init__ = some ⟨oc_Lead___init__, od_Lead___init__, .func (PySem.W.fnOf "__init__" "Lead.__init__" (defArgs (inClass (topS 28) 0)) (defBody (inClass (topS 28) 0)) (defScope (inClass (topS 28) 0)) .none kV_Lead___init__ dc_Lead___init__ pm_Lead___init__ an_Lead___init__ cd_Lead___init__ ct_Lead___init__), sl_Lead___init__⟩)
    (c_Lead___init__ : PySem.W.codeIn K cd_Lead___init__ "Lead.__init__" = true)
    (k_Lead___init__ : PySem.W.keepIn K (.ref f_Lead___init__) = true)
    (a_idle : PySem.W.nsIn K mainGlobals "idle" = some (some (.ref f_idle)))
    (l_idle : K.lookup f_idle = some ⟨oc_idle, od_idle, .func (PySem.W.fnOf "idle" "idle" (defArgs (topS 29)) (defBody (topS 29)) (defScope (topS 29)) .none kV_idle dc_idle pm_idle an_idle cd_idle ct_idle), sl_idle⟩)
    (c_idle : PySem.W.codeIn K cd_idle "idle" = true)
    (k_idle : PySem.W.keepIn K (.ref f_idle) = true)
    (a_Lead_of : PySem.W.findIn K (.ref C_Lead) "of" = some (some (.ref f_Lead_of)))
    (i_Lead_of : PySem.W.isFn K (.ref f_Lead_of) = true)
    (l_Lead_of : K.lookup f_Lead_of = some ⟨oc_Lead_of, od_Lead_of, .func (PySem.W.fnOf "of" "Lead.of" (defArgs (inClass (topS 28) 4)) (defBody (inClass (topS 28) 4)) (defScope (inClass (topS 28) 4)) .none kV_Lead_of dc_Lead_of pm_Lead_of an_Lead_of cd_Lead_of ct_Lead_of), sl_Lead_of⟩)
    (c_Lead_of : PySem.W.codeIn K cd_Lead_of "Lead.of" = true)
    (k_Lead_of : PySem.W.keepIn K (.ref f_Lead_of) = true)
    (a_Lead_then : PySem.W.findIn K (.ref C_Lead) "then" = some (some (.ref f_Lead_then)))
    (i_Lead_then : PySem.W.isFn K (.ref f_Lead_then) = true)
    (l_Lead_then : K.lookup f_Lead_then = some ⟨oc_Lead_then, od_Lead_then, .func (PySem.W.fnOf "then" "Lead.then" (defArgs (inClass (topS 28) 5)) (defBody (inClass (topS 28) 5)) (defScope (inClass (topS 28) 5)) .none kV_Lead_then dc_Lead_then pm_Lead_then an_Lead_then cd_Lead_then ct_Lead_then), sl_Lead_then⟩)
    (c_Lead_then : PySem.W.codeIn K cd_Lead_then "Lead.then" = true)
    (k_Lead_then : PySem.W.keepIn K (.ref f_Lead_then) = true)
    (a_many_rows : PySem.W.nsIn K mainGlobals "many_rows" = some (some (.ref f_many_rows)))
    (l_many_rows : K.lookup f_many_rows = some ⟨oc_many_rows, od_many_rows, .func (PySem.W.fnOf "many_rows" "many_rows" (defArgs (topS 31)) (defBody (topS 31)) (defScope (topS 31)) .none kV_many_rows dc_many_rows pm_many_rows an_many_rows cd_many_rows ct_many_rows), sl_many_rows⟩)
    (c_many_rows : PySem.W.codeIn K cd_many_rows "many_rows" = true)
    (k_many_rows : PySem.W.keepIn K (.ref f_many_rows) = true)
    (a_row_index : PySem.W.nsIn K mainGlobals "row_index" = some (some (.ref f_row_index)))
    (l_row_index : K.lookup f_row_index = some ⟨oc_row_index, od_row_index, .func (PySem.W.fnOf "row_index" "row_index" (defArgs (topS 32)) (defBody (topS 32)) (defScope (topS 32)) .none kV_row_index dc_row_index pm_row_index an_row_index cd_row_index ct_row_index), sl_row_index⟩)
    (c_row_index : PySem.W.codeIn K cd_row_index "row_index" = true)
    (k_row_index : PySem.W.keepIn K (.ref f_row_index) = true)
    (a_demand_many_places : PySem.W.nsIn K mainGlobals "demand_many_places" = some (some (.ref f_demand_many_places)))
    (l_demand_many_places : K.lookup f_demand_many_places = some ⟨oc_demand_many_places, od_demand_many_places, .func (PySem.W.fnOf "demand_many_places" "demand_many_places" (defArgs (topS 20)) (defBody (topS 20)) (defScope (topS 20)) .none kV_demand_many_places dc_demand_many_places pm_demand_many_places an_demand_many_places cd_demand_many_places ct_demand_many_places), sl_demand_many_places⟩)
    (c_demand_many_places : PySem.W.codeIn K cd_demand_many_places "demand_many_places" = true)
    (k_demand_many_places : PySem.W.keepIn K (.ref f_demand_many_places) = true)
    (a_demand_many_numbers : PySem.W.nsIn K mainGlobals "demand_many_numbers" = some (some (.ref f_demand_many_numbers)))
    (l_demand_many_numbers : K.lookup f_demand_many_numbers = some ⟨oc_demand_many_numbers, od_demand_many_numbers, .func (PySem.W.fnOf "demand_many_numbers" "demand_many_numbers" (defArgs (topS 22)) (defBody (topS 22)) (defScope (topS 22)) .none kV_demand_many_numbers dc_demand_many_numbers pm_demand_many_numbers an_demand_many_numbers cd_demand_many_numbers ct_demand_many_numbers), sl_demand_many_numbers⟩)
    (c_demand_many_numbers : PySem.W.codeIn K cd_demand_many_numbers "demand_many_numbers" = true)
    (k_demand_many_numbers : PySem.W.keepIn K (.ref f_demand_many_numbers) = true)
    (a_demand_few_values : PySem.W.nsIn K mainGlobals "demand_few_values" = some (some (.ref f_demand_few_values)))
    (l_demand_few_values : K.lookup f_demand_few_values = some ⟨oc_demand_few_values, od_demand_few_values, .func (PySem.W.fnOf "demand_few_values" "demand_few_values" (defArgs (topS 37)) (defBody (topS 37)) (defScope (topS 37)) .none kV_demand_few_values dc_demand_few_values pm_demand_few_values an_demand_few_values cd_demand_few_values ct_demand_few_values), sl_demand_few_values⟩)
    (c_demand_few_values : PySem.W.codeIn K cd_demand_few_values "demand_few_values" = true)
    (k_demand_few_values : PySem.W.keepIn K (.ref f_demand_few_values) = true)
    (a_Told___init__ : PySem.W.findIn K (.ref C_Told) "__init__" = some (some (.ref f_Told___init__)))
    (i_Told___init__ : PySem.W.isFn K (.ref f_Told___init__) = true)
    (l_Told___init__ : K.lookup f_Told___init__ = some ⟨oc_Told___init__, od_Told___init__, .func (PySem.W.fnOf "__init__" "Told.__init__" (defArgs (inClass (topS 39) 0)) (defBody (inClass (topS 39) 0)) (defScope (inClass (topS 39) 0)) .none kV_Told___init__ dc_Told___init__ pm_Told___init__ an_Told___init__ cd_Told___init__ ct_Told___init__), sl_Told___init__⟩)
    (c_Told___init__ : PySem.W.codeIn K cd_Told___init__ "Told.__init__" = true)
    (k_Told___init__ : PySem.W.keepIn K (.ref f_Told___init__) = true)
    (a_Items___init__ : PySem.W.findIn K (.ref C_Items) "__init__" = some (some (.ref f_Items___init__)))
    (i_Items___init__ : PySem.W.isFn K (.ref f_Items___init__) = true)
    (l_Items___init__ : K.lookup f_Items___init__ = some ⟨oc_Items___init__, od_Items___init__, .func (PySem.W.fnOf "__init__" "Items.__init__" (defArgs (inClass (topS 26) 0)) (defBody (inClass (topS 26) 0)) (defScope (inClass (topS 26) 0)) .none kV_Items___init__ dc_Items___init__ pm_Items___init__ an_Items___init__ cd_Items___init__ ct_Items___init__), sl_Items___init__⟩)
    (c_Items___init__ : PySem.W.codeIn K cd_Items___init__ "Items.__init__" = true)
    (k_Items___init__ : PySem.W.keepIn K (.ref f_Items___init__) = true)
    (a_Items_stands : PySem.W.findIn K (.ref C_Items) "stands" = some (some (.ref f_Items_stands)))
    (i_Items_stands : PySem.W.isFn K (.ref f_Items_stands) = true)
    (l_Items_stands : K.lookup f_Items_stands = some ⟨oc_Items_stands, od_Items_stands, .func (PySem.W.fnOf "stands" "Items.stands" (defArgs (inClass (topS 26) 1)) (defBody (inClass (topS 26) 1)) (defScope (inClass (topS 26) 1)) .none kV_Items_stands dc_Items_stands pm_Items_stands an_Items_stands cd_Items_stands ct_Items_stands), sl_Items_stands⟩)
    (c_Items_stands : PySem.W.codeIn K cd_Items_stands "Items.stands" = true)
    (k_Items_stands : PySem.W.keepIn K (.ref f_Items_stands) = true)
    (a_Items_take : PySem.W.findIn K (.ref C_Items) "take" = some (some (.ref f_Items_take)))
    (i_Items_take : PySem.W.isFn K (.ref f_Items_take) = true)
    (l_Items_take : K.lookup f_Items_take = some ⟨oc_Items_take, od_Items_take, .func (PySem.W.fnOf "take" "Items.take" (defArgs (inClass (topS 26) 2)) (defBody (inClass (topS 26) 2)) (defScope (inClass (topS 26) 2)) .none kV_Items_take dc_Items_take pm_Items_take an_Items_take cd_Items_take ct_Items_take), sl_Items_take⟩)
    (c_Items_take : PySem.W.codeIn K cd_Items_take "Items.take" = true)
    (k_Items_take : PySem.W.keepIn K (.ref f_Items_take) = true)
    (a_Items_take_number : PySem.W.findIn K (.ref C_Items) "take_number" = some (some (.ref f_Items_take_number)))
    (i_Items_take_number : PySem.W.isFn K (.ref f_Items_take_number) = true)
    (l_Items_take_number : K.lookup f_Items_take_number = some ⟨oc_Items_take_number, od_Items_take_number, .func (PySem.W.fnOf "take_number" "Items.take_number" (defArgs (inClass (topS 26) 3)) (defBody (inClass (topS 26) 3)) (defScope (inClass (topS 26) 3)) .none kV_Items_take_number dc_Items_take_number pm_Items_take_number an_Items_take_number cd_Items_take_number ct_Items_take_number), sl_Items_take_number⟩)
    (c_Items_take_number : PySem.W.codeIn K cd_Items_take_number "Items.take_number" = true)
    (k_Items_take_number : PySem.W.keepIn K (.ref f_Items_take_number) = true)
    (a_Items_take_end : PySem.W.findIn K (.ref C_Items) "take_end" = some (some (.ref f_Items_take_end)))
    (i_Items_take_end : PySem.W.isFn K (.ref f_Items_take_end) = true)
    (l_Items_take_end : K.lookup f_Items_take_end = some ⟨oc_Items_take_end, od_Items_take_end, .func (PySem.W.fnOf "take_end" "Items.take_end" (defArgs (inClass (topS 26) 4)) (defBody (inClass (topS 26) 4)) (defScope (inClass (topS 26) 4)) .none kV_Items_take_end dc_Items_take_end pm_Items_take_end an_Items_take_end cd_Items_take_end ct_Items_take_end), sl_Items_take_end⟩)
    (c_Items_take_end : PySem.W.codeIn K cd_Items_take_end "Items.take_end" = true)
    (k_Items_take_end : PySem.W.keepIn K (.ref f_Items_take_end) = true)
    (a_Lead_read : PySem.W.findCls K (.ref C_Lead) (.type "type") "read" = some (.get (.builtin "staticmethod.__get__") (.ref p_Lead_read) .none (.ref C_Lead)))
    (r_Lead_read : PySem.W.recIn K p_Lead_read "staticmethod" = some (.ref f_Lead_read :: rs_Lead_read))
    (l_Lead_read : K.lookup f_Lead_read = some ⟨oc_Lead_read, od_Lead_read, .func (PySem.W.fnOf "read" "Lead.read" (defArgs (inClass (topS 28) 3)) (defBody (inClass (topS 28) 3)) (defScope (inClass (topS 28) 3)) .none kV_Lead_read dc_Lead_read pm_Lead_read an_Lead_read cd_Lead_read ct_Lead_read), sl_Lead_read⟩)
    (c_Lead_read : PySem.W.codeIn K cd_Lead_read "Lead.read" = true)
    (k_Lead_read : PySem.W.keepIn K (.ref f_Lead_read) = true)
    (a_row_at : PySem.W.nsIn K mainGlobals "row_at" = some (some (.ref f_row_at)))
    (l_row_at : K.lookup f_row_at = some ⟨oc_row_at, od_row_at, .func (PySem.W.fnOf "row_at" "row_at" (defArgs (topS 33)) (defBody (topS 33)) (defScope (topS 33)) .none kV_row_at dc_row_at pm_row_at an_row_at cd_row_at ct_row_at), sl_row_at⟩)
    (c_row_at : PySem.W.codeIn K cd_row_at "row_at" = true)
    (k_row_at : PySem.W.keepIn K (.ref f_row_at) = true)
    (a_led_indices : PySem.W.nsIn K mainGlobals "led_indices" = some (some (.ref f_led_indices)))
    (l_led_indices : K.lookup f_led_indices = some ⟨oc_led_indices, od_led_indices, .func (PySem.W.fnOf "led_indices" "led_indices" (defArgs (topS 34)) (defBody (topS 34)) (defScope (topS 34)) .none kV_led_indices dc_led_indices pm_led_indices an_led_indices cd_led_indices ct_led_indices), sl_led_indices⟩)
    (c_led_indices : PySem.W.codeIn K cd_led_indices "led_indices" = true)
    (k_led_indices : PySem.W.keepIn K (.ref f_led_indices) = true)
    (a_demand_told : PySem.W.nsIn K mainGlobals "demand_told" = some (some (.ref f_demand_told)))
    (l_demand_told : K.lookup f_demand_told = some ⟨oc_demand_told, od_demand_told, .func (PySem.W.fnOf "demand_told" "demand_told" (defArgs (topS 40)) (defBody (topS 40)) (defScope (topS 40)) .none kV_demand_told dc_demand_told pm_demand_told an_demand_told cd_demand_told ct_demand_told), sl_demand_told⟩)
    (c_demand_told : PySem.W.codeIn K cd_demand_told "demand_told" = true)
    (k_demand_told : PySem.W.keepIn K (.ref f_demand_told) = true)
    (a_first_parting : PySem.W.nsIn K mainGlobals "first_parting" = some (some (.ref f_first_parting)))
    (l_first_parting : K.lookup f_first_parting = some ⟨oc_first_parting, od_first_parting, .func (PySem.W.fnOf "first_parting" "first_parting" (defArgs (topS 42)) (defBody (topS 42)) (defScope (topS 42)) .none kV_first_parting dc_first_parting pm_first_parting an_first_parting cd_first_parting ct_first_parting), sl_first_parting⟩)
    (c_first_parting : PySem.W.codeIn K cd_first_parting "first_parting" = true)
    (k_first_parting : PySem.W.keepIn K (.ref f_first_parting) = true)
    (a_parting_row : PySem.W.nsIn K mainGlobals "parting_row" = some (some (.ref f_parting_row)))
    (l_parting_row : K.lookup f_parting_row = some ⟨oc_parting_row, od_parting_row, .func (PySem.W.fnOf "parting_row" "parting_row" (defArgs (topS 43)) (defBody (topS 43)) (defScope (topS 43)) .none kV_parting_row dc_parting_row pm_parting_row an_parting_row cd_parting_row ct_parting_row), sl_parting_row⟩)
    (c_parting_row : PySem.W.codeIn K cd_parting_row "parting_row" = true)
    (k_parting_row : PySem.W.keepIn K (.ref f_parting_row) = true)
    (a_law_bowl : PySem.W.nsIn K mainGlobals "_law_bowl" = some (some (.ref f_law_bowl)))
    (l_law_bowl : K.lookup f_law_bowl = some ⟨oc_law_bowl, od_law_bowl, .func (PySem.W.fnOf "_law_bowl" "_law_bowl" (defArgs (topS 45)) (defBody (topS 45)) (defScope (topS 45)) .none kV_law_bowl dc_law_bowl pm_law_bowl an_law_bowl cd_law_bowl ct_law_bowl), sl_law_bowl⟩)
    (c_law_bowl : PySem.W.codeIn K cd_law_bowl "_law_bowl" = true)
    (k_law_bowl : PySem.W.keepIn K (.ref f_law_bowl) = true)
    (a_law_spoon : PySem.W.nsIn K mainGlobals "_law_spoon" = some (some (.ref f_law_spoon)))
    (l_law_spoon : K.lookup f_law_spoon = some ⟨oc_law_spoon, od_law_spoon, .func (PySem.W.fnOf "_law_spoon" "_law_spoon" (defArgs (topS 46)) (defBody (topS 46)) (defScope (topS 46)) .none kV_law_spoon dc_law_spoon pm_law_spoon an_law_spoon cd_law_spoon ct_law_spoon), sl_law_spoon⟩)
    (c_law_spoon : PySem.W.codeIn K cd_law_spoon "_law_spoon" = true)
    (k_law_spoon : PySem.W.keepIn K (.ref f_law_spoon) = true)
    (a_law_one_of : PySem.W.nsIn K mainGlobals "_law_one_of" = some (some (.ref f_law_one_of)))
    (l_law_one_of : K.lookup f_law_one_of = some ⟨oc_law_one_of, od_law_one_of, .func (PySem.W.fnOf "_law_one_of" "_law_one_of" (defArgs (topS 47)) (defBody (topS 47)) (defScope (topS 47)) .none kV_law_one_of dc_law_one_of pm_law_one_of an_law_one_of cd_law_one_of ct_law_one_of), sl_law_one_of⟩)
    (c_law_one_of : PySem.W.codeIn K cd_law_one_of "_law_one_of" = true)
    (k_law_one_of : PySem.W.keepIn K (.ref f_law_one_of) = true)
    (a_law_inputs : PySem.W.nsIn K mainGlobals "_law_inputs" = some (some (.ref f_law_inputs)))
    (l_law_inputs : K.lookup f_law_inputs = some ⟨oc_law_inputs, od_law_inputs, .func (PySem.W.fnOf "_law_inputs" "_law_inputs" (defArgs (topS 48)) (defBody (topS 48)) (defScope (topS 48)) .none kV_law_inputs dc_law_inputs pm_law_inputs an_law_inputs cd_law_inputs ct_law_inputs), sl_law_inputs⟩)
    (c_law_inputs : PySem.W.codeIn K cd_law_inputs "_law_inputs" = true)
    (k_law_inputs : PySem.W.keepIn K (.ref f_law_inputs) = true)
    (a_law_parting : PySem.W.nsIn K mainGlobals "_law_parting" = some (some (.ref f_law_parting)))
    (l_law_parting : K.lookup f_law_parting = some ⟨oc_law_parting, od_law_parting, .func (PySem.W.fnOf "_law_parting" "_law_parting" (defArgs (topS 49)) (defBody (topS 49)) (defScope (topS 49)) .none kV_law_parting dc_law_parting pm_law_parting an_law_parting cd_law_parting ct_law_parting), sl_law_parting⟩)
    (c_law_parting : PySem.W.codeIn K cd_law_parting "_law_parting" = true)
    (k_law_parting : PySem.W.keepIn K (.ref f_law_parting) = true)
    (a_law_values : PySem.W.nsIn K mainGlobals "_law_values" = some (some (.ref f_law_values)))
    (l_law_values : K.lookup f_law_values = some ⟨oc_law_values, od_law_values, .func (PySem.W.fnOf "_law_values" "_law_values" (defArgs (topS 55)) (defBody (topS 55)) (defScope (topS 55)) .none kV_law_values dc_law_values pm_law_values an_law_values cd_law_values ct_law_values), sl_law_values⟩)
    (c_law_values : PySem.W.codeIn K cd_law_values "_law_values" = true)
    (k_law_values : PySem.W.keepIn K (.ref f_law_values) = true)
    (a_law_lead : PySem.W.nsIn K mainGlobals "_law_lead" = some (some (.ref f_law_lead)))
    (l_law_lead : K.lookup f_law_lead = some ⟨oc_law_lead, od_law_lead, .func (PySem.W.fnOf "_law_lead" "_law_lead" (defArgs (topS 56)) (defBody (topS 56)) (defScope (topS 56)) .none kV_law_lead dc_law_lead pm_law_lead an_law_lead cd_law_lead ct_law_lead), sl_law_lead⟩)
    (c_law_lead : PySem.W.codeIn K cd_law_lead "_law_lead" = true)
    (k_law_lead : PySem.W.keepIn K (.ref f_law_lead) = true)
    (a_law_size : PySem.W.nsIn K mainGlobals "_law_size" = some (some (.ref f_law_size)))
    (l_law_size : K.lookup f_law_size = some ⟨oc_law_size, od_law_size, .func (PySem.W.fnOf "_law_size" "_law_size" (defArgs (topS 54)) (defBody (topS 54)) (defScope (topS 54)) .none kV_law_size dc_law_size pm_law_size an_law_size cd_law_size ct_law_size), sl_law_size⟩)
    (c_law_size : PySem.W.codeIn K cd_law_size "_law_size" = true)
    (k_law_size : PySem.W.keepIn K (.ref f_law_size) = true)
    (a_law_made : PySem.W.nsIn K mainGlobals "_law_made" = some (some (.ref f_law_made)))
    (l_law_made : K.lookup f_law_made = some ⟨oc_law_made, od_law_made, .func (PySem.W.fnOf "_law_made" "_law_made" (defArgs (topS 57)) (defBody (topS 57)) (defScope (topS 57)) .none kV_law_made dc_law_made pm_law_made an_law_made cd_law_made ct_law_made), sl_law_made⟩)
    (c_law_made : PySem.W.codeIn K cd_law_made "_law_made" = true)
    (k_law_made : PySem.W.keepIn K (.ref f_law_made) = true)
    (a_law_lots : PySem.W.nsIn K mainGlobals "_law_lots" = some (some (.ref f_law_lots)))
    (l_law_lots : K.lookup f_law_lots = some ⟨oc_law_lots, od_law_lots, .func (PySem.W.fnOf "_law_lots" "_law_lots" (defArgs (topS 50)) (defBody (topS 50)) (defScope (topS 50)) .none kV_law_lots dc_law_lots pm_law_lots an_law_lots cd_law_lots ct_law_lots), sl_law_lots⟩)
    (c_law_lots : PySem.W.codeIn K cd_law_lots "_law_lots" = true)
    (k_law_lots : PySem.W.keepIn K (.ref f_law_lots) = true)
    (a_law_pattern : PySem.W.nsIn K mainGlobals "_law_pattern" = some (some (.ref f_law_pattern)))
    (l_law_pattern : K.lookup f_law_pattern = some ⟨oc_law_pattern, od_law_pattern, .func (PySem.W.fnOf "_law_pattern" "_law_pattern" (defArgs (topS 51)) (defBody (topS 51)) (defScope (topS 51)) .none kV_law_pattern dc_law_pattern pm_law_pattern an_law_pattern cd_law_pattern ct_law_pattern), sl_law_pattern⟩)
    (c_law_pattern : PySem.W.codeIn K cd_law_pattern "_law_pattern" = true)
    (k_law_pattern : PySem.W.keepIn K (.ref f_law_pattern) = true)
    (a_law_by_blocks : PySem.W.nsIn K mainGlobals "_law_by_blocks" = some (some (.ref f_law_by_blocks)))
    (l_law_by_blocks : K.lookup f_law_by_blocks = some ⟨oc_law_by_blocks, od_law_by_blocks, .func (PySem.W.fnOf "_law_by_blocks" "_law_by_blocks" (defArgs (topS 52)) (defBody (topS 52)) (defScope (topS 52)) .none kV_law_by_blocks dc_law_by_blocks pm_law_by_blocks an_law_by_blocks cd_law_by_blocks ct_law_by_blocks), sl_law_by_blocks⟩)
    (c_law_by_blocks : PySem.W.codeIn K cd_law_by_blocks "_law_by_blocks" = true)
    (k_law_by_blocks : PySem.W.keepIn K (.ref f_law_by_blocks) = true)
    (a_law_table : PySem.W.nsIn K mainGlobals "_law_table" = some (some (.ref f_law_table)))
    (l_law_table : K.lookup f_law_table = some ⟨oc_law_table, od_law_table, .func (PySem.W.fnOf "_law_table" "_law_table" (defArgs (topS 53)) (defBody (topS 53)) (defScope (topS 53)) .none kV_law_table dc_law_table pm_law_table an_law_table cd_law_table ct_law_table), sl_law_table⟩)
    (c_law_table : PySem.W.codeIn K cd_law_table "_law_table" = true)
    (k_law_table : PySem.W.keepIn K (.ref f_law_table) = true)
    (a_law_some_right : PySem.W.nsIn K mainGlobals "_law_some_right" = some (some (.ref f_law_some_right)))
    (l_law_some_right : K.lookup f_law_some_right = some ⟨oc_law_some_right, od_law_some_right, .func (PySem.W.fnOf "_law_some_right" "_law_some_right" (defArgs (topS 58)) (defBody (topS 58)) (defScope (topS 58)) .none kV_law_some_right dc_law_some_right pm_law_some_right an_law_some_right cd_law_some_right ct_law_some_right), sl_law_some_right⟩)
    (c_law_some_right : PySem.W.codeIn K cd_law_some_right "_law_some_right" = true)
    (k_law_some_right : PySem.W.keepIn K (.ref f_law_some_right) = true)
    (a_law_all_right : PySem.W.nsIn K mainGlobals "_law_all_right" = some (some (.ref f_law_all_right)))
    (l_law_all_right : K.lookup f_law_all_right = some ⟨oc_law_all_right, od_law_all_right, .func (PySem.W.fnOf "_law_all_right" "_law_all_right" (defArgs (topS 59)) (defBody (topS 59)) (defScope (topS 59)) .none kV_law_all_right dc_law_all_right pm_law_all_right an_law_all_right cd_law_all_right ct_law_all_right), sl_law_all_right⟩)
    (c_law_all_right : PySem.W.codeIn K cd_law_all_right "_law_all_right" = true)
    (k_law_all_right : PySem.W.keepIn K (.ref f_law_all_right) = true)
    (v_MOST_THINGS : PySem.W.nsIn K mainGlobals "MOST_THINGS" = some (some (.int 5 t_MOST_THINGS)))
    (v_MOST_PLACES : PySem.W.nsIn K mainGlobals "MOST_PLACES" = some (some (.int 4 t_MOST_PLACES)))
    (v_MOST_VALUES : PySem.W.nsIn K mainGlobals "MOST_VALUES" = some (some (.int 256 t_MOST_VALUES)))
    (z_len : PySem.W.nsIn K mainGlobals "len" = some none)
    (z_all : PySem.W.nsIn K mainGlobals "all" = some none)
    (z_any : PySem.W.nsIn K mainGlobals "any" = some none)
    (z_isinstance : PySem.W.nsIn K mainGlobals "isinstance" = some none)
    (z_int : PySem.W.nsIn K mainGlobals "int" = some none)
    (z_bool : PySem.W.nsIn K mainGlobals "bool" = some none)
    (z_list : PySem.W.nsIn K mainGlobals "list" = some none)
    (z_tuple : PySem.W.nsIn K mainGlobals "tuple" = some none)
    (z_str : PySem.W.nsIn K mainGlobals "str" = some none)
    (z_range : PySem.W.nsIn K mainGlobals "range" = some none)
    (z_zip : PySem.W.nsIn K mainGlobals "zip" = some none)
    (z_sorted : PySem.W.nsIn K mainGlobals "sorted" = some none)
    (z_type : PySem.W.nsIn K mainGlobals "type" = some none)
    (z_max : PySem.W.nsIn K mainGlobals "max" = some none)
    (z_min : PySem.W.nsIn K mainGlobals "min" = some none)
    (z_abs : PySem.W.nsIn K mainGlobals "abs" = some none)
    (z_repr : PySem.W.nsIn K mainGlobals "repr" = some none)
    (z_set : PySem.W.nsIn K mainGlobals "set" = some none)
    (z_enumerate : PySem.W.nsIn K mainGlobals "enumerate" = some none)
    (z_dict : PySem.W.nsIn K mainGlobals "dict" = some none)
    (z_sum : PySem.W.nsIn K mainGlobals "sum" = some none) :
    LawOkT l.prog w K mg fa a ns s [] := by
  cases hfa.symm.trans (PySem.W.mg_of X Gh a_law)
  have F_law := fun_mk (st := (topS 60)) l_law c_law k_law
  have FC_law : FunC K "law" "law" (topS 60) _ _ cd_law := ⟨⟨_, _, _, _, _, _, _, _, rfl, l_law, c_law⟩, k_law⟩
  have b_law := F_law.binds (ps := ["script"]) fun _ _ _ _ _ _ us hl => match us, hl with | [_], _ => rfl
  have F_is_integer := fun_mk (st := (topS 12)) l_is_integer c_is_integer k_is_integer
  have b_is_integer := F_is_integer.binds (ps := ["value"]) fun _ _ _ _ _ _ us hl => match us, hl with | [_], _ => rfl
  have F_are_numbers := fun_mk (st := (topS 14)) l_are_numbers c_are_numbers k_are_numbers
  have b_are_numbers := F_are_numbers.binds (ps := ["value"]) fun _ _ _ _ _ _ us hl => match us, hl with | [_], _ => rfl
  have F_is_within := fun_mk (st := (topS 13)) l_is_within c_is_within k_is_within
  have b_is_within := F_is_within.binds (ps := ["value", "least", "most"]) fun _ _ _ _ _ _ us hl => match us, hl with | [_, _, _], _ => rfl
  have F_demand_number := fun_mk (st := (topS 18)) l_demand_number c_demand_number k_demand_number
  have b_demand_number := F_demand_number.binds (ps := ["value", "least", "most", "part"]) fun _ _ _ _ _ _ us hl => match us, hl with | [_, _, _, _], _ => rfl
  have F_demand_world := fun_mk (st := (topS 19)) l_demand_world c_demand_world k_demand_world
  have b_demand_world := F_demand_world.binds (ps := ["things", "part"]) fun _ _ _ _ _ _ us hl => match us, hl with | [_, _], _ => rfl
  have F_demand_numbers := fun_mk (st := (topS 21)) l_demand_numbers c_demand_numbers k_demand_numbers
  have b_demand_numbers := F_demand_numbers.binds (ps := ["values", "part"]) fun _ _ _ _ _ _ us hl => match us, hl with | [_, _], _ => rfl
  have F_demand_things := fun_mk (st := (topS 23)) l_demand_things c_demand_things k_demand_things
  have b_demand_things := F_demand_things.binds (ps := ["values", "things"]) fun _ _ _ _ _ _ us hl => match us, hl with | [_, _], _ => rfl
  have F_Lead___init__ := fun_mk (st := (inClass (topS 28) 0)) l_Lead___init__ c_Lead___init__ k_Lead___init__
  have b_Lead___init__ := F_Lead___init__.binds (ps := ["self", "into", "row"]) fun _ _ _ _ _ _ us hl => match us, hl with | [_, _, _], _ => rfl
  have F_idle := fun_mk (st := (topS 29)) l_idle c_idle k_idle
  have b_idle := F_idle.binds (ps := ["things"]) fun _ _ _ _ _ _ us hl => match us, hl with | [_], _ => rfl
  have F_Lead_of := fun_mk (st := (inClass (topS 28) 4)) l_Lead_of c_Lead_of k_Lead_of
  have b_Lead_of := F_Lead_of.binds (ps := ["self", "values"]) fun _ _ _ _ _ _ us hl => match us, hl with | [_, _], _ => rfl
  have F_Lead_then := fun_mk (st := (inClass (topS 28) 5)) l_Lead_then c_Lead_then k_Lead_then
  have b_Lead_then := F_Lead_then.binds (ps := ["self", "other"]) fun _ _ _ _ _ _ us hl => match us, hl with | [_, _], _ => rfl
  have F_many_rows := fun_mk (st := (topS 31)) l_many_rows c_many_rows k_many_rows
  have b_many_rows := F_many_rows.binds (ps := ["things", "many"]) fun _ _ _ _ _ _ us hl => match us, hl with | [_, _], _ => rfl
  have F_row_index := fun_mk (st := (topS 32)) l_row_index c_row_index k_row_index
  have b_row_index := F_row_index.binds (ps := ["row", "things"]) fun _ _ _ _ _ _ us hl => match us, hl with | [_, _], _ => rfl
  have F_demand_many_places := fun_mk (st := (topS 20)) l_demand_many_places c_demand_many_places k_demand_many_places
  have b_demand_many_places := F_demand_many_places.binds (ps := ["places"]) fun _ _ _ _ _ _ us hl => match us, hl with | [_], _ => rfl
  have F_demand_many_numbers := fun_mk (st := (topS 22)) l_demand_many_numbers c_demand_many_numbers k_demand_many_numbers
  have b_demand_many_numbers := F_demand_many_numbers.binds (ps := ["values", "many", "part"]) fun _ _ _ _ _ _ us hl => match us, hl with | [_, _, _], _ => rfl
  have F_demand_few_values := fun_mk (st := (topS 37)) l_demand_few_values c_demand_few_values k_demand_few_values
  have b_demand_few_values := F_demand_few_values.binds (ps := ["things", "places"]) fun _ _ _ _ _ _ us hl => match us, hl with | [_, _], _ => rfl
  have F_Told___init__ := fun_mk (st := (inClass (topS 39) 0)) l_Told___init__ c_Told___init__ k_Told___init__
  have b_Told___init__ := F_Told___init__.binds (ps := ["self", "things", "places", "tells"]) fun _ _ _ _ _ _ us hl => match us, hl with | [_, _, _, _], _ => rfl
  have F_Items___init__ := fun_mk (st := (inClass (topS 26) 0)) l_Items___init__ c_Items___init__ k_Items___init__
  have b_Items___init__ := F_Items___init__.binds (ps := ["self", "text"]) fun _ _ _ _ _ _ us hl => match us, hl with | [_, _], _ => rfl
  have F_Items_stands := fun_mk (st := (inClass (topS 26) 1)) l_Items_stands c_Items_stands k_Items_stands
  have b_Items_stands := F_Items_stands.binds (ps := ["self", "word"]) fun _ _ _ _ _ _ us hl => match us, hl with | [_, _], _ => rfl
  have F_Items_take := fun_mk (st := (inClass (topS 26) 2)) l_Items_take c_Items_take k_Items_take
  have b_Items_take := F_Items_take.binds (ps := ["self", "word"]) fun _ _ _ _ _ _ us hl => match us, hl with | [_, _], _ => rfl
  have F_Items_take_number := fun_mk (st := (inClass (topS 26) 3)) l_Items_take_number c_Items_take_number k_Items_take_number
  have b_Items_take_number := F_Items_take_number.binds (ps := ["self", "least", "most"]) fun _ _ _ _ _ _ us hl => match us, hl with | [_, _, _], _ => rfl
  have F_Items_take_end := fun_mk (st := (inClass (topS 26) 4)) l_Items_take_end c_Items_take_end k_Items_take_end
  have b_Items_take_end := F_Items_take_end.binds (ps := ["self"]) fun _ _ _ _ _ _ us hl => match us, hl with | [_], _ => rfl
  have F_Lead_read := fun_mk (st := (inClass (topS 28) 3)) l_Lead_read c_Lead_read k_Lead_read
  have b_Lead_read := F_Lead_read.binds (ps := ["text"]) fun _ _ _ _ _ _ us hl => match us, hl with | [_], _ => rfl
  have F_row_at := fun_mk (st := (topS 33)) l_row_at c_row_at k_row_at
  have b_row_at := F_row_at.binds (ps := ["index", "things", "many"]) fun _ _ _ _ _ _ us hl => match us, hl with | [_, _, _], _ => rfl
  have F_led_indices := fun_mk (st := (topS 34)) l_led_indices c_led_indices k_led_indices
  have b_led_indices := F_led_indices.binds (ps := ["row", "into", "many"]) fun _ _ _ _ _ _ us hl => match us, hl with | [_, _, _], _ => rfl
  have F_demand_told := fun_mk (st := (topS 40)) l_demand_told c_demand_told k_demand_told
  have b_demand_told := F_demand_told.binds (ps := ["told"]) fun _ _ _ _ _ _ us hl => match us, hl with | [_], _ => rfl
  have F_first_parting := fun_mk (st := (topS 42)) l_first_parting c_first_parting k_first_parting
  have b_first_parting := F_first_parting.binds (ps := ["begin", "into", "lead_row"]) fun _ _ _ _ _ _ us hl => match us, hl with | [_, _, _], _ => rfl
  have F_parting_row := fun_mk (st := (topS 43)) l_parting_row c_parting_row k_parting_row
  have b_parting_row := F_parting_row.binds (ps := ["told", "lead"]) fun _ _ _ _ _ _ us hl => match us, hl with | [_, _], _ => rfl
  have F_law_bowl := fun_mk (st := (topS 45)) l_law_bowl c_law_bowl k_law_bowl
  have b_law_bowl := F_law_bowl.binds (ps := ["script"]) fun _ _ _ _ _ _ us hl => match us, hl with | [_], _ => rfl
  have F_law_spoon := fun_mk (st := (topS 46)) l_law_spoon c_law_spoon k_law_spoon
  have b_law_spoon := F_law_spoon.binds (ps := ["bowl", "many"]) fun _ _ _ _ _ _ us hl => match us, hl with | [_, _], _ => rfl
  have F_law_one_of := fun_mk (st := (topS 47)) l_law_one_of c_law_one_of k_law_one_of
  have b_law_one_of := F_law_one_of.binds (ps := ["bowl", "some"]) fun _ _ _ _ _ _ us hl => match us, hl with | [_, _], _ => rfl
  have F_law_inputs := fun_mk (st := (topS 48)) l_law_inputs c_law_inputs k_law_inputs
  have b_law_inputs := F_law_inputs.binds (ps := ["things", "places"]) fun _ _ _ _ _ _ us hl => match us, hl with | [_, _], _ => rfl
  have F_law_parting := fun_mk (st := (topS 49)) l_law_parting c_law_parting k_law_parting
  have b_law_parting := F_law_parting.binds (ps := ["things", "table", "lead", "inputs"]) fun _ _ _ _ _ _ us hl => match us, hl with | [_, _, _, _], _ => rfl
  have F_law_values := fun_mk (st := (topS 55)) l_law_values c_law_values k_law_values
  have b_law_values := F_law_values.binds (ps := ["table", "inputs"]) fun _ _ _ _ _ _ us hl => match us, hl with | [_, _], _ => rfl
  have F_law_lead := fun_mk (st := (topS 56)) l_law_lead c_law_lead k_law_lead
  have b_law_lead := F_law_lead.binds (ps := ["bowl", "things"]) fun _ _ _ _ _ _ us hl => match us, hl with | [_, _], _ => rfl
  have F_law_size := fun_mk (st := (topS 54)) l_law_size c_law_size k_law_size
  have b_law_size := F_law_size.binds (ps := ["bowl"]) fun _ _ _ _ _ _ us hl => match us, hl with | [_], _ => rfl
  have F_law_made := fun_mk (st := (topS 57)) l_law_made c_law_made k_law_made
  have b_law_made := F_law_made.binds (ps := ["bowl", "things", "lead"]) fun _ _ _ _ _ _ us hl => match us, hl with | [_, _, _], _ => rfl
  have F_law_lots := fun_mk (st := (topS 50)) l_law_lots c_law_lots k_law_lots
  have b_law_lots := F_law_lots.binds (ps := ["bowl", "places"]) fun _ _ _ _ _ _ us hl => match us, hl with | [_, _], _ => rfl
  have F_law_pattern := fun_mk (st := (topS 51)) l_law_pattern c_law_pattern k_law_pattern
  have b_law_pattern := F_law_pattern.binds (ps := ["row"]) fun _ _ _ _ _ _ us hl => match us, hl with | [_], _ => rfl
  have F_law_by_blocks := fun_mk (st := (topS 52)) l_law_by_blocks c_law_by_blocks k_law_by_blocks
  have b_law_by_blocks := F_law_by_blocks.binds (ps := ["bowl", "things", "places", "inputs"]) fun _ _ _ _ _ _ us hl => match us, hl with | [_, _, _, _], _ => rfl
  have F_law_table := fun_mk (st := (topS 53)) l_law_table c_law_table k_law_table
  have b_law_table := F_law_table.binds (ps := ["bowl", "things", "places"]) fun _ _ _ _ _ _ us hl => match us, hl with | [_, _, _], _ => rfl
  have F_law_some_right := fun_mk (st := (topS 58)) l_law_some_right c_law_some_right k_law_some_right
  have b_law_some_right := F_law_some_right.binds (ps := ["bowl", "told", "table", "inputs"]) fun _ _ _ _ _ _ us hl => match us, hl with | [_, _, _, _], _ => rfl
  have F_law_all_right := fun_mk (st := (topS 59)) l_law_all_right c_law_all_right k_law_all_right
  have b_law_all_right := F_law_all_right.binds (ps := ["bowl", "things", "places"]) fun _ _ _ _ _ _ us hl => match us, hl with | [_, _, _], _ => rfl
  have bn : Bn mg := ⟨PySem.W.mg_none_of X Gh z_len, PySem.W.mg_none_of X Gh z_all, PySem.W.mg_none_of X Gh z_any, PySem.W.mg_none_of X Gh z_isinstance, PySem.W.mg_none_of X Gh z_int, PySem.W.mg_none_of X Gh z_bool, PySem.W.mg_none_of X Gh z_list, PySem.W.mg_none_of X Gh z_tuple, PySem.W.mg_none_of X Gh z_str, PySem.W.mg_none_of X Gh z_range, PySem.W.mg_none_of X Gh z_zip, PySem.W.mg_none_of X Gh z_sorted, PySem.W.mg_none_of X Gh z_type, PySem.W.mg_none_of X Gh z_max, PySem.W.mg_none_of X Gh z_min, PySem.W.mg_none_of X Gh z_abs, PySem.W.mg_none_of X Gh z_repr, PySem.W.mg_none_of X Gh z_set, PySem.W.mg_none_of X Gh z_enumerate, PySem.W.mg_none_of X Gh z_dict, PySem.W.mg_none_of X Gh z_sum⟩
  have cls_Lead : Cls K C_Lead := ⟨pg_Lead, hd_Lead, po_Lead, sa_Lead⟩
  have cls_Items : Cls K C_Items := ⟨pg_Items, hd_Items, po_Items, sa_Items⟩
  have cls_Told : Cls K C_Told := ⟨pg_Told, hd_Told, po_Told, sa_Told⟩
  let Gd0 : Option Ur → Gd := fun u => ⟨K, clK C_Lead C_Items C_Told, flK, u⟩
  have all : ∀ (u : Option Ur) (base : Heap), Calls (Gd0 u) l.prog w mg base := by
    intro u base
    have fo : Gk (Gd0 u) := ⟨rfl, rfl, rfl, fld_ok (fun _ => ⟨cls_Lead, n_Lead_begin⟩) (fun h => absurd h (by decide +kernel)) (fun h => absurd h (by decide +kernel)), fld_ok (fun _ => ⟨cls_Lead, n_Lead_into⟩) (fun h => absurd h (by decide +kernel)) (fun h => absurd h (by decide +kernel)), fld_ok (fun _ => ⟨cls_Lead, n_Lead_row⟩) (fun h => absurd h (by decide +kernel)) (fun h => absurd h (by decide +kernel)), fld_ok (fun h => absurd h (by decide +kernel)) (fun _ => ⟨cls_Items, n_Items_words⟩) (fun h => absurd h (by decide +kernel)), fld_ok (fun h => absurd h (by decide +kernel)) (fun _ => ⟨cls_Items, n_Items_taken⟩) (fun h => absurd h (by decide +kernel)), fld_ok (fun h => absurd h (by decide +kernel)) (fun h => absurd h (by decide +kernel)) (fun _ => ⟨cls_Told, n_Told_things⟩), fld_ok (fun h => absurd h (by decide +kernel)) (fun h => absurd h (by decide +kernel)) (fun _ => ⟨cls_Told, n_Told_places⟩), fld_ok (fun h => absurd h (by decide +kernel)) (fun h => absurd h (by decide +kernel)) (fun _ => ⟨cls_Told, n_Told_tells⟩), flK_nd, flK_sm⟩
    have A_is_integer := ok_is_integer (G := Gd0 u) (P := l.prog) (w := w) (base := base) F_is_integer bn
    have A_are_numbers := ok_are_numbers (G := Gd0 u) (P := l.prog) (w := w) (base := base) F_are_numbers bn ⟨_, _, A_is_integer, PySem.W.mg_of X Gh a_is_integer, k_is_integer, b_is_integer⟩
    have A_is_within := ok_is_within (G := Gd0 u) (P := l.prog) (w := w) (base := base) F_is_within bn ⟨_, _, A_is_integer, PySem.W.mg_of X Gh a_is_integer, k_is_integer, b_is_integer⟩
    have A_demand_number := ok_demand_number (G := Gd0 u) (P := l.prog) (w := w) (base := base) F_demand_number bn ⟨_, _, A_is_within, PySem.W.mg_of X Gh a_is_within, k_is_within, b_is_within⟩
    have A_demand_world := ok_demand_world (G := Gd0 u) (P := l.prog) (w := w) (base := base) F_demand_world bn ⟨_, _, A_demand_number, PySem.W.mg_of X Gh a_demand_number, k_demand_number, b_demand_number⟩ ⟨_, PySem.W.mg_of X Gh v_MOST_THINGS⟩
    have A_demand_numbers := ok_demand_numbers (G := Gd0 u) (P := l.prog) (w := w) (base := base) F_demand_numbers bn ⟨_, _, A_are_numbers, PySem.W.mg_of X Gh a_are_numbers, k_are_numbers, b_are_numbers⟩
    have A_demand_things := ok_demand_things (G := Gd0 u) (P := l.prog) (w := w) (base := base) F_demand_things bn ⟨_, _, A_is_within, PySem.W.mg_of X Gh a_is_within, k_is_within, b_is_within⟩
    have A_Lead___init__ := ok_Lead___init__ (G := Gd0 u) (P := l.prog) (w := w) (base := base) F_Lead___init__ bn fo ⟨_, _, A_demand_world, PySem.W.mg_of X Gh a_demand_world, k_demand_world, b_demand_world⟩ ⟨_, _, A_demand_things, PySem.W.mg_of X Gh a_demand_things, k_demand_things, b_demand_things⟩ ⟨_, _, A_are_numbers, PySem.W.mg_of X Gh a_are_numbers, k_are_numbers, b_are_numbers⟩ ⟨_, PySem.W.mg_of X Gh v_MOST_THINGS⟩
    have A_idle := ok_idle (G := Gd0 u) (P := l.prog) (w := w) (base := base) F_idle bn ⟨_, _, A_demand_world, PySem.W.mg_of X Gh a_demand_world, k_demand_world, b_demand_world⟩ ⟨_, _, A_Lead___init__, PySem.W.mg_of X Gh aC_Lead, ⟨mk_Lead, a_Lead___init__, i_Lead___init__, kc_Lead⟩, b_Lead___init__, by decide⟩
    have A_Lead_of := ok_Lead_of (G := Gd0 u) (P := l.prog) (w := w) (base := base) F_Lead_of bn fo ⟨_, _, A_demand_numbers, PySem.W.mg_of X Gh a_demand_numbers, k_demand_numbers, b_demand_numbers⟩ ⟨_, _, A_demand_things, PySem.W.mg_of X Gh a_demand_things, k_demand_things, b_demand_things⟩
    have A_Lead_then := ok_Lead_then (G := Gd0 u) (P := l.prog) (w := w) (base := base) F_Lead_then bn fo ⟨_, _, A_Lead_of, ⟨a_Lead_of, i_Lead_of, k_Lead_of⟩, cls_Lead, b_Lead_of, by show ("of" : Str) ∉ (["begin", "into", "row"] : List Str); decide +kernel⟩ ⟨_, _, A_Lead___init__, PySem.W.mg_of X Gh aC_Lead, ⟨mk_Lead, a_Lead___init__, i_Lead___init__, kc_Lead⟩, b_Lead___init__, by decide⟩ (PySem.W.mg_of X Gh aC_Lead)
    have A_many_rows := ok_many_rows (G := Gd0 u) (P := l.prog) (w := w) (base := base) F_many_rows bn
    have A_row_index := ok_row_index (G := Gd0 u) (P := l.prog) (w := w) (base := base) F_row_index bn
    have A_demand_many_places := ok_demand_many_places (G := Gd0 u) (P := l.prog) (w := w) (base := base) F_demand_many_places bn ⟨_, _, A_demand_number, PySem.W.mg_of X Gh a_demand_number, k_demand_number, b_demand_number⟩ ⟨_, PySem.W.mg_of X Gh v_MOST_PLACES⟩
    have A_demand_many_numbers := ok_demand_many_numbers (G := Gd0 u) (P := l.prog) (w := w) (base := base) F_demand_many_numbers bn ⟨_, _, A_are_numbers, PySem.W.mg_of X Gh a_are_numbers, k_are_numbers, b_are_numbers⟩
    have A_demand_few_values := ok_demand_few_values (G := Gd0 u) (P := l.prog) (w := w) (base := base) F_demand_few_values bn ⟨_, _, A_many_rows, PySem.W.mg_of X Gh a_many_rows, k_many_rows, b_many_rows⟩ ⟨_, PySem.W.mg_of X Gh v_MOST_VALUES⟩
    have A_Told___init__ := ok_Told___init__ (G := Gd0 u) (P := l.prog) (w := w) (base := base) F_Told___init__ bn fo ⟨_, _, A_demand_world, PySem.W.mg_of X Gh a_demand_world, k_demand_world, b_demand_world⟩ ⟨_, _, A_demand_many_places, PySem.W.mg_of X Gh a_demand_many_places, k_demand_many_places, b_demand_many_places⟩ ⟨_, _, A_demand_many_numbers, PySem.W.mg_of X Gh a_demand_many_numbers, k_demand_many_numbers, b_demand_many_numbers⟩ ⟨_, _, A_many_rows, PySem.W.mg_of X Gh a_many_rows, k_many_rows, b_many_rows⟩ ⟨_, _, A_demand_things, PySem.W.mg_of X Gh a_demand_things, k_demand_things, b_demand_things⟩ ⟨_, _, A_demand_few_values, PySem.W.mg_of X Gh a_demand_few_values, k_demand_few_values, b_demand_few_values⟩
    have A_Items___init__ := ok_Items___init__ (G := Gd0 u) (P := l.prog) (w := w) (base := base) F_Items___init__ bn fo
    have A_Items_stands := ok_Items_stands (G := Gd0 u) (P := l.prog) (w := w) (base := base) F_Items_stands bn fo
    have A_Items_take := ok_Items_take (G := Gd0 u) (P := l.prog) (w := w) (base := base) F_Items_take bn fo ⟨_, _, A_Items_stands, ⟨a_Items_stands, i_Items_stands, k_Items_stands⟩, cls_Items, b_Items_stands, by show ("stands" : Str) ∉ (["words", "taken"] : List Str); decide +kernel⟩
    have A_Items_take_number := ok_Items_take_number (G := Gd0 u) (P := l.prog) (w := w) (base := base) F_Items_take_number bn fo ⟨_, _, A_Items_stands, ⟨a_Items_stands, i_Items_stands, k_Items_stands⟩, cls_Items, b_Items_stands, by show ("stands" : Str) ∉ (["words", "taken"] : List Str); decide +kernel⟩
    have A_Items_take_end := ok_Items_take_end (G := Gd0 u) (P := l.prog) (w := w) (base := base) F_Items_take_end bn fo
    have A_Lead_read := ok_Lead_read (G := Gd0 u) (P := l.prog) (w := w) (base := base) F_Lead_read bn fo ⟨_, _, A_Items_stands, ⟨a_Items_stands, i_Items_stands, k_Items_stands⟩, cls_Items, b_Items_stands, by show ("stands" : Str) ∉ (["words", "taken"] : List Str); decide +kernel⟩ ⟨_, _, A_Items_take_number, ⟨a_Items_take_number, i_Items_take_number, k_Items_take_number⟩, cls_Items, b_Items_take_number, by show ("take_number" : Str) ∉ (["words", "taken"] : List Str); decide +kernel⟩ ⟨_, _, A_Items_take, ⟨a_Items_take, i_Items_take, k_Items_take⟩, cls_Items, b_Items_take, by show ("take" : Str) ∉ (["words", "taken"] : List Str); decide +kernel⟩ ⟨_, _, A_Items_take_end, ⟨a_Items_take_end, i_Items_take_end, k_Items_take_end⟩, cls_Items, b_Items_take_end, by show ("take_end" : Str) ∉ (["words", "taken"] : List Str); decide +kernel⟩ ⟨_, _, A_Items___init__, PySem.W.mg_of X Gh aC_Items, ⟨mk_Items, a_Items___init__, i_Items___init__, kc_Items⟩, b_Items___init__, by decide⟩ ⟨_, _, A_Lead___init__, PySem.W.mg_of X Gh aC_Lead, ⟨mk_Lead, a_Lead___init__, i_Lead___init__, kc_Lead⟩, b_Lead___init__, by decide⟩ ⟨_, PySem.W.mg_of X Gh v_MOST_THINGS⟩
    have A_row_at := ok_row_at (G := Gd0 u) (P := l.prog) (w := w) (base := base) F_row_at bn
    have A_led_indices := ok_led_indices (G := Gd0 u) (P := l.prog) (w := w) (base := base) F_led_indices bn
    have A_demand_told := ok_demand_told (G := Gd0 u) (P := l.prog) (w := w) (base := base) F_demand_told bn (PySem.W.mg_of X Gh aC_Told)
    have A_first_parting := ok_first_parting (G := Gd0 u) (P := l.prog) (w := w) (base := base) F_first_parting bn fo ⟨_, _, A_led_indices, PySem.W.mg_of X Gh a_led_indices, k_led_indices, b_led_indices⟩ ⟨_, _, A_row_at, PySem.W.mg_of X Gh a_row_at, k_row_at, b_row_at⟩
    have A_parting_row := ok_parting_row (G := Gd0 u) (P := l.prog) (w := w) (base := base) F_parting_row bn fo ⟨_, _, A_demand_told, PySem.W.mg_of X Gh a_demand_told, k_demand_told, b_demand_told⟩ ⟨_, _, A_first_parting, PySem.W.mg_of X Gh a_first_parting, k_first_parting, b_first_parting⟩ (PySem.W.mg_of X Gh aC_Lead)
    have A_law_spoon := ok_law_draw (G := Gd0 u) (P := l.prog) (w := w) (base := base) F_law_spoon bn
    have A_law_one_of := ok_law_one_of (G := Gd0 u) (P := l.prog) (w := w) (base := base) F_law_one_of bn ⟨_, _, A_law_spoon, PySem.W.mg_of X Gh a_law_spoon, k_law_spoon, b_law_spoon⟩
    have A_law_inputs := ok_law_inputs (G := Gd0 u) (P := l.prog) (w := w) (base := base) F_law_inputs bn
    have A_law_parting := ok_law_parting (G := Gd0 u) (P := l.prog) (w := w) (base := base) F_law_parting bn
    have A_law_values := ok_law_values (G := Gd0 u) (P := l.prog) (w := w) (base := base) F_law_values bn
    have A_law_lead := ok_law_lead (G := Gd0 u) (P := l.prog) (w := w) (base := base) F_law_lead bn ⟨_, _, A_law_spoon, PySem.W.mg_of X Gh a_law_spoon, k_law_spoon, b_law_spoon⟩
    have A_law_size := ok_law_size (G := Gd0 u) (P := l.prog) (w := w) (base := base) F_law_size bn ⟨_, _, A_law_one_of, PySem.W.mg_of X Gh a_law_one_of, k_law_one_of, b_law_one_of⟩
    have A_law_made := ok_law_made (G := Gd0 u) (P := l.prog) (w := w) (base := base) F_law_made bn ⟨_, _, A_law_spoon, PySem.W.mg_of X Gh a_law_spoon, k_law_spoon, b_law_spoon⟩ ⟨_, _, A_law_one_of, PySem.W.mg_of X Gh a_law_one_of, k_law_one_of, b_law_one_of⟩ ⟨_, _, _, _, A_Lead_read, PySem.W.mg_of X Gh aC_Lead, ⟨rd_Lead, ga_Lead⟩, a_Lead_read, ⟨_, r_Lead_read⟩, rfl, k_Lead_read, b_Lead_read⟩ ⟨_, _, A_Lead___init__, PySem.W.mg_of X Gh aC_Lead, ⟨mk_Lead, a_Lead___init__, i_Lead___init__, kc_Lead⟩, b_Lead___init__, by decide⟩
    have A_law_lots := ok_law_lots (G := Gd0 u) (P := l.prog) (w := w) (base := base) F_law_lots bn ⟨_, _, A_law_spoon, PySem.W.mg_of X Gh a_law_spoon, k_law_spoon, b_law_spoon⟩
    have A_law_pattern := ok_law_pattern (G := Gd0 u) (P := l.prog) (w := w) (base := base) F_law_pattern bn
    have A_law_by_blocks := ok_law_by_blocks (G := Gd0 u) (P := l.prog) (w := w) (base := base) F_law_by_blocks bn ⟨_, _, A_law_spoon, PySem.W.mg_of X Gh a_law_spoon, k_law_spoon, b_law_spoon⟩ ⟨_, _, A_law_pattern, PySem.W.mg_of X Gh a_law_pattern, k_law_pattern, b_law_pattern⟩
    have A_law_table := ok_law_table (G := Gd0 u) (P := l.prog) (w := w) (base := base) F_law_table bn ⟨_, _, A_law_spoon, PySem.W.mg_of X Gh a_law_spoon, k_law_spoon, b_law_spoon⟩ ⟨_, _, A_law_one_of, PySem.W.mg_of X Gh a_law_one_of, k_law_one_of, b_law_one_of⟩ ⟨_, _, A_law_inputs, PySem.W.mg_of X Gh a_law_inputs, k_law_inputs, b_law_inputs⟩ ⟨_, _, A_law_lots, PySem.W.mg_of X Gh a_law_lots, k_law_lots, b_law_lots⟩ ⟨_, _, A_law_by_blocks, PySem.W.mg_of X Gh a_law_by_blocks, k_law_by_blocks, b_law_by_blocks⟩
    have A_law_some_right := ok_law_some_right (G := Gd0 u) (P := l.prog) (w := w) (base := base) F_law_some_right bn fo ⟨_, _, A_parting_row, PySem.W.mg_of X Gh a_parting_row, k_parting_row, b_parting_row⟩ ⟨_, _, A_parting_row, PySem.W.mg_of X Gh a_parting_row, k_parting_row, Kk.all (fun us hl => match us, hl with | [_, _], _ => rfl) (by decide) rfl⟩ ⟨_, _, A_law_lead, PySem.W.mg_of X Gh a_law_lead, k_law_lead, b_law_lead⟩ ⟨_, _, A_law_made, PySem.W.mg_of X Gh a_law_made, k_law_made, b_law_made⟩ ⟨_, _, A_law_parting, PySem.W.mg_of X Gh a_law_parting, k_law_parting, b_law_parting⟩ ⟨_, _, A_Lead_then, ⟨a_Lead_then, i_Lead_then, k_Lead_then⟩, cls_Lead, b_Lead_then, by show ("then" : Str) ∉ (["begin", "into", "row"] : List Str); decide +kernel⟩ ⟨_, _, A_idle, PySem.W.mg_of X Gh a_idle, k_idle, b_idle⟩ ⟨_, _, A_Lead___init__, PySem.W.mg_of X Gh aC_Lead, ⟨mk_Lead, a_Lead___init__, i_Lead___init__, kc_Lead⟩, b_Lead___init__, by decide⟩
    have A_law_all_right := ok_law_all_right (G := Gd0 u) (P := l.prog) (w := w) (base := base) F_law_all_right bn fo ⟨_, _, A_law_spoon, PySem.W.mg_of X Gh a_law_spoon, k_law_spoon, b_law_spoon⟩ ⟨_, _, A_law_inputs, PySem.W.mg_of X Gh a_law_inputs, k_law_inputs, b_law_inputs⟩ ⟨_, _, A_law_table, PySem.W.mg_of X Gh a_law_table, k_law_table, b_law_table⟩ ⟨_, _, A_law_values, PySem.W.mg_of X Gh a_law_values, k_law_values, b_law_values⟩ ⟨_, _, A_parting_row, PySem.W.mg_of X Gh a_parting_row, k_parting_row, b_parting_row⟩ ⟨_, _, A_law_parting, PySem.W.mg_of X Gh a_law_parting, k_law_parting, b_law_parting⟩ ⟨_, _, A_Told___init__, PySem.W.mg_of X Gh aC_Told, ⟨mk_Told, a_Told___init__, i_Told___init__, kc_Told⟩, b_Told___init__, by decide⟩ ⟨_, _, A_Lead___init__, PySem.W.mg_of X Gh aC_Lead, ⟨mk_Lead, a_Lead___init__, i_Lead___init__, kc_Lead⟩, b_Lead___init__, by decide⟩
    exact ⟨⟨_, _, A_law_size, PySem.W.mg_of X Gh a_law_size, k_law_size, b_law_size⟩, ⟨_, _, A_law_inputs, PySem.W.mg_of X Gh a_law_inputs, k_law_inputs, b_law_inputs⟩, ⟨_, _, A_law_table, PySem.W.mg_of X Gh a_law_table, k_law_table, b_law_table⟩, ⟨_, _, A_law_values, PySem.W.mg_of X Gh a_law_values, k_law_values, b_law_values⟩, ⟨_, _, A_Told___init__, PySem.W.mg_of X Gh aC_Told, ⟨mk_Told, a_Told___init__, i_Told___init__, kc_Told⟩, b_Told___init__, by decide⟩, ⟨_, _, A_law_some_right, PySem.W.mg_of X Gh a_law_some_right, k_law_some_right, b_law_some_right⟩, ⟨_, _, A_law_one_of, PySem.W.mg_of X Gh a_law_one_of, k_law_one_of, b_law_one_of⟩, ⟨_, _, A_law_all_right, PySem.W.mg_of X Gh a_law_all_right, k_law_all_right, b_law_all_right⟩⟩
  exact ok_law (G := Gd0 none) rfl FC_law (fun s v => .of_eq rfl) bn hlen ⟨rfl, by decide, by decide⟩ (fun q base => all (some (q, [])) base)
    (fun base H rm => ps_set (i := 1) sc_law.nd rfl (by first | exact Or.inl rfl | exact Or.inr rfl) (pe_call (ok_law_bowl F_law_bowl bn.int) (rm.mono (by decide)) rfl (PySem.W.mg_of X Gh a_law_bowl) k_law_bowl b_law_bowl .nil (xk_def (G := Gd0 none) (E := EF) rm rfl).pass (pa_cons (pe_var (i := 0) rfl (by first | exact Or.inl rfl | exact Or.inr (Or.inl rfl) | exact Or.inr (Or.inr rfl)) (by decide) (by decide)) pa_nil)))
end Pg

set_option Elab.async false
set_option linter.all false
set_option maxRecDepth 100000
set_option maxHeartbeats 4100000

open PySem
open PySem.W PyProof.Rows in
set_option
      maxRecDepth 100000 in
set_option maxHeartbeats 0 in
theorem PySem.Challenge.cw_kindtells_k09_along_or_the_first_input_holds : PySem.Challenge.rw_kindtells_k09_along_or_the_first_input.Holds := by
  w_on; o_law; k_head;
        (case hw => w_witness2)
  k_fill
  refine Kn.law_rowT (l := PySem.Challenge.rw_kindtells_k09_along_or_the_first_input) (n := 63) rfl (by decide) rfl (fun w h Y => by first | exact PySem.W.kIn_of Y | exact PySem.W.km_in_of Y) ?F
  case F =>
    intro w mg fa a h s ns KX Gh hmg hlen
    refine ⟨[], nofun, ?_⟩
    refine' Pg.close KX Gh hmg hlen ?aC_Lead ?pg_Lead ?hd_Lead ?po_Lead ?sa_Lead ?rd_Lead ?ga_Lead ?mk_Lead ?kc_Lead ?n_Lead_begin ?n_Lead_into ?n_Lead_row ?aC_Items ?pg_Items ?hd_Items ?po_Items ?sa_Items ?mk_Items ?kc_Items ?n_Items_words ?n_Items_taken ?aC_Told ?pg_Told ?hd_Told ?po_Told ?sa_Told ?mk_Told ?kc_Told ?n_Told_things ?n_Told_places ?n_Told_tells ?a_law ?l_law ?c_law ?k_law ?a_is_integer ?l_is_integer ?c_is_integer ?k_is_integer ?a_are_numbers ?l_are_numbers ?c_are_numbers ?k_are_numbers ?a_is_within ?l_is_within ?c_is_within ?k_is_within ?a_demand_number ?l_demand_number ?c_demand_number ?k_demand_number ?a_demand_world ?l_demand_world ?c_demand_world ?k_demand_world ?a_demand_numbers ?l_demand_numbers ?c_demand_numbers ?k_demand_numbers ?a_demand_things ?l_demand_things ?c_demand_things ?k_demand_things ?a_Lead___init__ ?i_Lead___init__ ?l_Lead___init__ ?c_Lead___init__ ?k_Lead___init__ ?a_idle ?l_idle ?c_idle ?k_idle ?a_Lead_of ?i_Lead_of ?l_Lead_of ?c_Lead_of ?k_Lead_of ?a_Lead_then ?i_Lead_then ?l_Lead_then ?c_Lead_then ?k_Lead_then ?a_many_rows ?l_many_rows ?c_many_rows ?k_many_rows ?a_row_index ?l_row_index ?c_row_index ?k_row_index ?a_demand_many_places ?l_demand_many_places ?c_demand_many_places ?k_demand_many_places ?a_demand_many_numbers ?l_demand_many_numbers ?c_demand_many_numbers ?k_demand_many_numbers ?a_demand_few_values ?l_demand_few_values ?c_demand_few_values ?k_demand_few_values ?a_Told___init__ ?i_Told___init__ ?l_Told___init__ ?c_Told___init__ ?k_Told___init__ ?a_Items___init__ ?i_Items___init__ ?l_Items___init__ ?c_Items___init__ ?k_Items___init__ ?a_Items_stands ?i_Items_stands ?l_Items_stands ?c_Items_stands ?k_Items_stands ?a_Items_take ?i_Items_take ?l_Items_take ?c_Items_take ?k_Items_take ?a_Items_take_number ?i_Items_take_number ?l_Items_take_number ?c_Items_take_number ?k_Items_take_number ?a_Items_take_end ?i_Items_take_end ?l_Items_take_end ?c_Items_take_end ?k_Items_take_end ?a_Lead_read ?r_Lead_read ?l_Lead_read ?c_Lead_read ?k_Lead_read ?a_row_at ?l_row_at ?c_row_at ?k_row_at ?a_led_indices ?l_led_indices ?c_led_indices ?k_led_indices ?a_demand_told ?l_demand_told ?c_demand_told ?k_demand_told ?a_first_parting ?l_first_parting ?c_first_parting ?k_first_parting ?a_parting_row ?l_parting_row ?c_parting_row ?k_parting_row ?a_law_bowl ?l_law_bowl ?c_law_bowl ?k_law_bowl ?a_law_spoon ?l_law_spoon ?c_law_spoon ?k_law_spoon ?a_law_one_of ?l_law_one_of ?c_law_one_of ?k_law_one_of ?a_law_inputs ?l_law_inputs ?c_law_inputs ?k_law_inputs ?a_law_parting ?l_law_parting ?c_law_parting ?k_law_parting ?a_law_values ?l_law_values ?c_law_values ?k_law_values ?a_law_lead ?l_law_lead ?c_law_lead ?k_law_lead ?a_law_size ?l_law_size ?c_law_size ?k_law_size ?a_law_made ?l_law_made ?c_law_made ?k_law_made ?a_law_lots ?l_law_lots ?c_law_lots ?k_law_lots ?a_law_pattern ?l_law_pattern ?c_law_pattern ?k_law_pattern ?a_law_by_blocks ?l_law_by_blocks ?c_law_by_blocks ?k_law_by_blocks ?a_law_table ?l_law_table ?c_law_table ?k_law_table ?a_law_some_right ?l_law_some_right ?c_law_some_right ?k_law_some_right ?a_law_all_right ?l_law_all_right ?c_law_all_right ?k_law_all_right ?v_MOST_THINGS ?v_MOST_PLACES ?v_MOST_VALUES ?z_len ?z_all ?z_any ?z_isinstance ?z_int ?z_bool ?z_list ?z_tuple ?z_str ?z_range ?z_zip ?z_sorted ?z_type ?z_max ?z_min ?z_abs ?z_repr ?z_set ?z_enumerate ?z_dict ?z_sum
    (case aC_Lead => k_is)
    (case pg_Lead => k_is)
    (case hd_Lead => k_is)
    (case po_Lead => k_is)
    (case sa_Lead => k_is)
    (case rd_Lead => k_is)
    (case ga_Lead => k_is)
    (case mk_Lead => k_is)
    (case kc_Lead => k_is)
    (case n_Lead_begin => k_is)
    (case n_Lead_into => k_is)
    (case n_Lead_row => k_is)
    (case aC_Items => k_is)
    (case pg_Items => k_is)
    (case hd_Items => k_is)
    (case po_Items => k_is)
    (case sa_Items => k_is)
    (case mk_Items => k_is)
    (case kc_Items => k_is)
    (case n_Items_words => k_is)
    (case n_Items_taken => k_is)
    (case aC_Told => k_is)
    (case pg_Told => k_is)
    (case hd_Told => k_is)
    (case po_Told => k_is)
    (case sa_Told => k_is)
    (case mk_Told => k_is)
    (case kc_Told => k_is)
    (case n_Told_things => k_is)
    (case n_Told_places => k_is)
    (case n_Told_tells => k_is)
    (case a_law => k_is)
    (case l_law => k_is)
    (case c_law => k_is)
    (case k_law => k_is)
    (case a_is_integer => k_is)
    (case l_is_integer => k_is)
    (case c_is_integer => k_is)
    (case k_is_integer => k_is)
    (case a_are_numbers => k_is)
    (case l_are_numbers => k_is)
    (case c_are_numbers => k_is)
    (case k_are_numbers => k_is)
    (case a_is_within => k_is)
    (case l_is_within => k_is)
    (case c_is_within => k_is)
    (case k_is_within => k_is)
    (case a_demand_number => k_is)
    (case l_demand_number => k_is)
    (case c_demand_number => k_is)
    (case k_demand_number => k_is)
    (case a_demand_world => k_is)
    (case l_demand_world => k_is)
    (case c_demand_world => k_is)
    (case k_demand_world => k_is)
    (case a_demand_numbers => k_is)
    (case l_demand_numbers => k_is)
    (case c_demand_numbers => k_is)
    (case k_demand_numbers => k_is)
    (case a_demand_things => k_is)
    (case l_demand_things => k_is)
    (case c_demand_things => k_is)
    (case k_demand_things => k_is)
    (case a_Lead___init__ => k_is)
    (case i_Lead___init__ => k_is)
    (case l_Lead___init__ => k_is)
    (case c_Lead___init__ => k_is)
    (case k_Lead___init__ => k_is)
    (case a_idle => k_is)
    (case l_idle => k_is)
    (case c_idle => k_is)
    (case k_idle => k_is)
    (case a_Lead_of => k_is)
    (case i_Lead_of => k_is)
    (case l_Lead_of => k_is)
    (case c_Lead_of => k_is)
    (case k_Lead_of => k_is)
    (case a_Lead_then => k_is)
    (case i_Lead_then => k_is)
    (case l_Lead_then => k_is)
    (case c_Lead_then => k_is)
    (case k_Lead_then => k_is)
    (case a_many_rows => k_is)
    (case l_many_rows => k_is)
    (case c_many_rows => k_is)
    (case k_many_rows => k_is)
    (case a_row_index => k_is)
    (case l_row_index => k_is)
    (case c_row_index => k_is)
    (case k_row_index => k_is)
    (case a_demand_many_places => k_is)
    (case l_demand_many_places => k_is)
    (case c_demand_many_places => k_is)
    (case k_demand_many_places => k_is)
    (case a_demand_many_numbers => k_is)
    (case l_demand_many_numbers => k_is)
    (case c_demand_many_numbers => k_is)
    (case k_demand_many_numbers => k_is)
    (case a_demand_few_values => k_is)
    (case l_demand_few_values => k_is)
    (case c_demand_few_values => k_is)
    (case k_demand_few_values => k_is)
    (case a_Told___init__ => k_is)
    (case i_Told___init__ => k_is)
    (case l_Told___init__ => k_is)
    (case c_Told___init__ => k_is)
    (case k_Told___init__ => k_is)
    (case a_Items___init__ => k_is)
    (case i_Items___init__ => k_is)
    (case l_Items___init__ => k_is)
    (case c_Items___init__ => k_is)
    (case k_Items___init__ => k_is)
    (case a_Items_stands => k_is)
    (case i_Items_stands => k_is)
    (case l_Items_stands => k_is)
    (case c_Items_stands => k_is)
    (case k_Items_stands => k_is)
    (case a_Items_take => k_is)
    (case i_Items_take => k_is)
    (case l_Items_take => k_is)
    (case c_Items_take => k_is)
    (case k_Items_take => k_is)
    (case a_Items_take_number => k_is)
    (case i_Items_take_number => k_is)
    (case l_Items_take_number => k_is)
    (case c_Items_take_number => k_is)
    (case k_Items_take_number => k_is)
    (case a_Items_take_end => k_is)
    (case i_Items_take_end => k_is)
    (case l_Items_take_end => k_is)
    (case c_Items_take_end => k_is)
    (case k_Items_take_end => k_is)
    (case a_Lead_read => k_is)
    (case r_Lead_read => k_is)
    (case l_Lead_read => k_is)
    (case c_Lead_read => k_is)
    (case k_Lead_read => k_is)
    (case a_row_at => k_is)
    (case l_row_at => k_is)
    (case c_row_at => k_is)
    (case k_row_at => k_is)
    (case a_led_indices => k_is)
    (case l_led_indices => k_is)
    (case c_led_indices => k_is)
    (case k_led_indices => k_is)
    (case a_demand_told => k_is)
    (case l_demand_told => k_is)
    (case c_demand_told => k_is)
    (case k_demand_told => k_is)
    (case a_first_parting => k_is)
    (case l_first_parting => k_is)
    (case c_first_parting => k_is)
    (case k_first_parting => k_is)
    (case a_parting_row => k_is)
    (case l_parting_row => k_is)
    (case c_parting_row => k_is)
    (case k_parting_row => k_is)
    (case a_law_bowl => k_is)
    (case l_law_bowl => k_is)
    (case c_law_bowl => k_is)
    (case k_law_bowl => k_is)
    (case a_law_spoon => k_is)
    (case l_law_spoon => k_is)
    (case c_law_spoon => k_is)
    (case k_law_spoon => k_is)
    (case a_law_one_of => k_is)
    (case l_law_one_of => k_is)
    (case c_law_one_of => k_is)
    (case k_law_one_of => k_is)
    (case a_law_inputs => k_is)
    (case l_law_inputs => k_is)
    (case c_law_inputs => k_is)
    (case k_law_inputs => k_is)
    (case a_law_parting => k_is)
    (case l_law_parting => k_is)
    (case c_law_parting => k_is)
    (case k_law_parting => k_is)
    (case a_law_values => k_is)
    (case l_law_values => k_is)
    (case c_law_values => k_is)
    (case k_law_values => k_is)
    (case a_law_lead => k_is)
    (case l_law_lead => k_is)
    (case c_law_lead => k_is)
    (case k_law_lead => k_is)
    (case a_law_size => k_is)
    (case l_law_size => k_is)
    (case c_law_size => k_is)
    (case k_law_size => k_is)
    (case a_law_made => k_is)
    (case l_law_made => k_is)
    (case c_law_made => k_is)
    (case k_law_made => k_is)
    (case a_law_lots => k_is)
    (case l_law_lots => k_is)
    (case c_law_lots => k_is)
    (case k_law_lots => k_is)
    (case a_law_pattern => k_is)
    (case l_law_pattern => k_is)
    (case c_law_pattern => k_is)
    (case k_law_pattern => k_is)
    (case a_law_by_blocks => k_is)
    (case l_law_by_blocks => k_is)
    (case c_law_by_blocks => k_is)
    (case k_law_by_blocks => k_is)
    (case a_law_table => k_is)
    (case l_law_table => k_is)
    (case c_law_table => k_is)
    (case k_law_table => k_is)
    (case a_law_some_right => k_is)
    (case l_law_some_right => k_is)
    (case c_law_some_right => k_is)
    (case k_law_some_right => k_is)
    (case a_law_all_right => k_is)
    (case l_law_all_right => k_is)
    (case c_law_all_right => k_is)
    (case k_law_all_right => k_is)
    (case v_MOST_THINGS => k_is)
    (case v_MOST_PLACES => k_is)
    (case v_MOST_VALUES => k_is)
    (case z_len => k_is)
    (case z_all => k_is)
    (case z_any => k_is)
    (case z_isinstance => k_is)
    (case z_int => k_is)
    (case z_bool => k_is)
    (case z_list => k_is)
    (case z_tuple => k_is)
    (case z_str => k_is)
    (case z_range => k_is)
    (case z_zip => k_is)
    (case z_sorted => k_is)
    (case z_type => k_is)
    (case z_max => k_is)
    (case z_min => k_is)
    (case z_abs => k_is)
    (case z_repr => k_is)
    (case z_set => k_is)
    (case z_enumerate => k_is)
    (case z_dict => k_is)
    (case z_sum => k_is)

