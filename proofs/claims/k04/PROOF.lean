import PyProof.Rows.All
import Wide.All
import OpenK.AllK
import Wide.FinOn
import HandS.ForMost
import HandS.Exc
import HandS.WordsExc
import HandS.Deep
import HandS.TupAny
import HandS.SortInts
import HandS.IsInst
import HandS.RaiseMore
import HandS.Zip
import HandS.Wide
import HandS.Style
import HandS.TupMul
import HandS.TupLe
import HandS.SetFor
import PyProof.P3In
import HandS.SlotsOwn
import PyProof.ReprRoads
import HandS.Conv
import PyProof.EqAt
import HandS.OwnEq
import PyProof.SeqRoads2
import HandS.Dict
import HandS.FStr
import HandS.ClsMeth
import KE.KCallOwn
import PyProof.TypeOfCall
import KE.KTypeOf
import HandS.TryOnly
import PyProof.Rows.RegFStrParts
import PyProof.Rows.FinIter
import PySem.Challenge.RW_kindtells_k04_leads_kept_and_behind_one
set_option Elab.async false
set_option linter.all false
set_option maxRecDepth 100000
set_option maxHeartbeats 2100000
/-! Kn: values as trees over the hand layer. -/
namespace Kn
open PySem L2

/-- a value with all that it holds -/
inductive D where
  | non | bl (b : Bool) | int (i : Int) | str (x : Str)
  | lst (ds : List D) | tup (ds : List D)
  | ins (c : Nat) (ds : List D)
  | opq (v : V)
  | urn
  | at_ (a : Addr) (ds : List D)
  | dct (ks : List Str) (ds : List D)

/-- what is known of the program: its written part, its classes by number, the fields of each, in order -/
structure Gd where
  K : PySem.W.Frag
  cl : Nat → Addr
  fl : Nat → List Str
  u : Option (Addr × Addr)

/-- an error of one's own: the number of its class, its fields -/
structure Exc where
  c : Nat
  ds : List D

/-- a tuple of the module -/
def KTup (K : PySem.W.Frag) (a : Addr) (xs : List V) : Prop :=
  ∃ (o : Obj) (its : Array Value) (n : Nat), K.lookup a = some o ∧ o.cls =
    .type "tuple" ∧ o.data = .seq its n ∧ its.size ≤ sizeLine ∧ Vals xs its.toList
section
variable (G : Gd) (B : Addr → Prop) (H : Hp)
mutual
def Den : D → V → Prop
  | .non, v => v = .non
  | .bl b, v => v = .bl b
  | .int i, v => v = .int i
  | .str x, v => v = .str x
  | .lst ds, v => ∃ a xs, v = .ref a ∧ ¬ B a ∧ H a = some (.lst xs) ∧ xs.length ≤ sizeLine ∧ DenL ds xs
  | .tup ds, v => ∃ a xs, v = .ref a ∧ (¬ B a ∨ KTup G.K a xs) ∧ SqT G.K H a xs ∧ xs.length ≤ sizeLine ∧ DenL ds xs
  | .ins c ds, v => ∃ a dx xs, v = .ref a ∧ ¬ B a ∧ H a = some (.ins (G.cl c) dx ((G.fl c).zip xs)) ∧ xs.length = (G.fl c).length ∧ DenL ds xs
  | .opq w, v => v = w
  | .urn, v => ∃ p, G.u = some p ∧ v = .ref p.1
  | .at_ a ds, v => ∃ xs, v = .ref a ∧ ¬ B a ∧ H a = some (.lst xs) ∧ xs.length ≤ sizeLine ∧ DenL ds xs
  | .dct ks ds, v => ∃ (a : Addr) (kvs : List (Key × V)), v = .ref a ∧ ¬ B a ∧ H a = some (.dK kvs) ∧ kvs.map (·.1) = ks.map Sum.inr ∧ DenL ds (kvs.map (·.2))
def DenL : List D → List V → Prop
  | [], xs => xs = []
  | d :: ds, xs => ∃ x r, xs = x :: r ∧ Den d x ∧ DenL ds r
end
end

/-- what was tracked stands, but at u -/
def Ext (u : Option (Addr × Addr)) (H H' : Hp) : Prop := ∀ b o, H b = some o → u.map (·.1) ≠ some b → H' b = some o
theorem Ext.refl (u : Option (Addr × Addr)) (H : Hp) : Ext u H H := fun _ _ h _ => h
theorem Ext.trans {u : Option (Addr × Addr)} {H H1 H2 : Hp} (a : Ext u H H1) (b : Ext u H1 H2) : Ext u H H2 := fun c o h n => b c o (a c o h n) n
theorem Ext.weak {u : Option (Addr × Addr)} {H H1 : Hp} (a : Ext none H H1) : Ext u H H1 := fun c o h _ => a c o h (by simp)
theorem Ext.new {u : Option (Addr × Addr)} {H : Hp} {p : Addr} {o : HO} (h : H p = none) : Ext u H (upd H p o) := fun a x e _ => by
  rw [upd_ne (ne_of_none e h)]; exact e
theorem Ext.rd {u : Option (Addr × Addr)} {H H' : Hp} {a : Addr} {o : HO} (e : Ext u H H') (n : u.map (·.1) ≠ some a) (h : Rd H a o) : Rd H' a o := by
  rcases h with h | ⟨q, h⟩
  · exact .inl (e _ _ h n)
  · exact .inr ⟨q, e _ _ h n⟩
theorem Ext.sqL {K : PySem.W.Frag} {u : Option (Addr × Addr)} {H H' : Hp} {a : Addr} {xs : List V} (e : Ext u H H') (n : u.map (·.1) ≠ some a) (h : SqL K H a xs) : SqL K H' a xs := by
  rcases h with h | h
  · exact .inl (e.rd n h)
  · exact .inr h
theorem Ext.sqT {K : PySem.W.Frag} {u : Option (Addr × Addr)} {H H' : Hp} {a : Addr} {xs : List V} (e : Ext u H H') (n : u.map (·.1) ≠ some a) (h : SqT K H a xs) : SqT K H' a xs := by
  rcases h with h | h
  · exact .inl (e.rd n h)
  · exact .inr h

section
variable {G : Gd} {B B' : Addr → Prop} {H H' : Hp} {u : Option (Addr × Addr)}
mutual
/-- what stands at addresses out of B stays as it is -/
theorem Den.keep (k : ∀ b o, ¬ B b → H b = some o → H' b = some o) (s : ∀ b, B' b → B b ∨ H b = none) : ∀ (d : D) (v : V), Den G B H d v → Den G B' H' d v
  | .non, _, h => h
  | .bl _, _, h => h
  | .int _, _, h => h
  | .str _, _, h => h
  | .opq _, _, h => h
  | .urn, _, h => h
  | .at_ a ds, v, ⟨xs, e, nb, hs, hl, hd⟩ => by
    refine ⟨xs, e, fun hb => ?_, k _ _ nb hs, hl, DenL.keep k s ds xs hd⟩
    rcases s a hb with z | z
    · exact nb z
    · rw [z] at hs; cases hs
  | .lst ds, v, ⟨a, xs, e, nb, hs, hl, hd⟩ => by
    refine ⟨a, xs, e, fun hb => ?_, k _ _ nb hs, hl, DenL.keep k s ds xs hd⟩
    rcases s a hb with z | z
    · exact nb z
    · rw [z] at hs; cases hs
  | .tup ds, v, ⟨a, xs, e, nb, hs, hl, hd⟩ => by
    rcases nb with nb | nb
    · rcases hs with (h | ⟨o, h⟩) | h
      · refine ⟨a, xs, e, .inl fun hb => ?_, .inl (.inl (k _ _ nb h)), hl, DenL.keep k s ds xs hd⟩
        rcases s a hb with z | z
        · exact nb z
        · rw [z] at h; cases h
      · refine ⟨a, xs, e, .inl fun hb => ?_, .inl (.inr ⟨o, k _ _ nb h⟩), hl, DenL.keep k s ds xs hd⟩
        rcases s a hb with z | z
        · exact nb z
        · rw [z] at h; cases h
      · exact ⟨a, xs, e, .inr h, .inr h, hl, DenL.keep k s ds xs hd⟩
    · exact ⟨a, xs, e, .inr nb, .inr nb, hl, DenL.keep k s ds xs hd⟩
  | .dct ks ds, v, ⟨a, kvs, e, nb, hs, hk, hd⟩ => by
    refine ⟨a, kvs, e, fun hb => ?_, k _ _ nb hs, hk, DenL.keep k s ds _ hd⟩
    rcases s a hb with z | z
    · exact nb z
    · rw [z] at hs; cases hs
  | .ins c ds, v, ⟨a, dx, xs, e, nb, hs, hl, hd⟩ => by
    refine ⟨a, dx, xs, e, fun hb => ?_, k _ _ nb hs, hl, DenL.keep k s ds xs hd⟩
    rcases s a hb with z | z
    · exact nb z
    · rw [z] at hs; cases hs
theorem DenL.keep (k : ∀ b o, ¬ B b → H b = some o → H' b = some o) (s : ∀ b, B' b → B b ∨ H b = none) : ∀ (ds : List D) (xs : List V), DenL G B H ds xs → DenL G B' H' ds xs
  | [], _, h => h
  | d :: ds, xs, ⟨x, r, e, h1, h2⟩ => ⟨x, r, e, Den.keep k s d x h1, DenL.keep k s ds r h2⟩
end
theorem Den.ext (e : Ext u H H') (hu : ∀ p, u = some p → B p.1) {d : D} {v : V} (h : Den G B H d v) : Den G B H' d v :=
  Den.keep (fun b o nb hb => e b o hb fun z => by
    cases u with
    | none => cases z
    | some p => cases z; exact nb (hu p rfl)) (fun b h => .inl h) d v h
theorem DenL.ext (e : Ext u H H') (hu : ∀ p, u = some p → B p.1) {ds : List D} {xs : List V} (h : DenL G B H ds xs) : DenL G B H' ds xs :=
  DenL.keep (fun b o nb hb => e b o hb fun z => by
    cases u with
    | none => cases z
    | some p => cases z; exact nb (hu p rfl)) (fun b h => .inl h) ds xs h
theorem DenL.length : ∀ {ds : List D} {xs : List V}, DenL G B H ds xs → ds.length = xs.length
  | [], _, h => by cases h; rfl
  | _ :: ds, _, ⟨x, r, e, _, h2⟩ => by subst e; simp [DenL.length h2]
theorem DenL.get : ∀ {ds : List D} {xs : List V} {i : Nat} {d : D}, DenL G B H ds xs → ds[i]? = some d → ∃ x, xs[i]? = some x ∧ Den G B H d x
  | [], _, _, _, _, e => by simp at e
  | _ :: ds, _, 0, d, ⟨x, r, e, h1, _⟩, ed => by simp at ed; subst e; subst ed; exact ⟨x, rfl, h1⟩
  | _ :: ds, _, i + 1, d, ⟨x, r, e, _, h2⟩, ed => by subst e; simpa using DenL.get (i := i) h2 (by simpa using ed)
theorem DenL.getV : ∀ {ds : List D} {xs : List V} {i : Nat} {x : V}, DenL G B H ds xs → xs[i]? = some x → ∃ d, ds[i]? = some d ∧ Den G B H d x
  | [], _, _, _, h, e => by cases h; simp at e
  | d :: ds, _, 0, x, ⟨y, r, e, h1, _⟩, ed => by subst e; simp at ed; subst ed; exact ⟨d, rfl, h1⟩
  | _ :: ds, _, i + 1, x, ⟨y, r, e, _, h2⟩, ed => by subst e; simpa using DenL.getV (i := i) h2 (by simpa using ed)
theorem DenL.append : ∀ {ds es : List D} {xs ys : List V}, DenL G B H ds xs → DenL G B H es ys → DenL G B H (ds ++ es) (xs ++ ys)
  | [], _, _, _, h, h' => by cases h; exact h'
  | _ :: ds, _, _, _, ⟨x, r, e, h1, h2⟩, h' => by subst e; exact ⟨x, r ++ _, rfl, h1, DenL.append h2 h'⟩
theorem DenL.take : ∀ (n : Nat) {ds : List D} {xs : List V}, DenL G B H ds xs → DenL G B H (ds.take n) (xs.take n)
  | 0, _, _, _ => rfl
  | _ + 1, [], _, h => by cases h; rfl
  | n + 1, _ :: ds, _, ⟨x, r, e, h1, h2⟩ => by subst e; exact ⟨x, r.take n, rfl, h1, DenL.take n h2⟩
theorem DenL.drop : ∀ (n : Nat) {ds : List D} {xs : List V}, DenL G B H ds xs → DenL G B H (ds.drop n) (xs.drop n)
  | 0, _, _, h => h
  | _ + 1, [], _, h => by cases h; rfl
  | n + 1, _ :: ds, _, ⟨x, r, e, h1, h2⟩ => by subst e; exact DenL.drop n h2
theorem DenL.set : ∀ (i : Nat) {ds : List D} {xs : List V} {d : D} {x : V}, DenL G B H ds xs → Den G B H d x → DenL G B H (ds.set i d) (xs.set i x)
  | _, [], _, _, _, h, _ => by cases h; rfl
  | 0, _ :: ds, _, d, x, ⟨y, r, e, h1, h2⟩, h => by subst e; exact ⟨x, r, rfl, h, h2⟩
  | i + 1, _ :: ds, _, d, x, ⟨y, r, e, h1, h2⟩, h => by subst e; exact ⟨y, r.set i x, rfl, h1, DenL.set i h2 h⟩
theorem DenL.ints : ∀ {is : List Int} {xs : List V}, DenL G B H (is.map D.int) xs → xs = is.map V.int
  | [], _, h => h
  | i :: is, _, ⟨x, r, e, h1, h2⟩ => by subst e; rw [show x = V.int i from h1, DenL.ints h2]; rfl
theorem DenL.of_ints : ∀ {is : List Int}, DenL G B H (is.map D.int) (is.map V.int)
  | [] => rfl
  | i :: is => ⟨_, _, rfl, rfl, DenL.of_ints⟩
end

/-! ### the urn: what draws; at most n more draws -/
def atLine : Int := 2 ^ 4096
def Good : Option (Addr × Addr) → Hp → Nat → Prop
  | none, _, _ => True
  | some (a, b), H, n => ∃ (cells : List Int) (k r : Int), H a = some (.lst [.ref b, .int k, .int r]) ∧ H b = some (.lst (cells.map V.int)) ∧ cells.length ≤ 63 ∧ a ≠ b ∧ 0 ≤ r ∧ 0 ≤ k ∧ k + n ≤ atLine
theorem Good.less {u : Option (Addr × Addr)} {H : Hp} {n m : Nat} (h : Good u H n) (hm : m ≤ n) : Good u H m := by
  cases u with
  | none => trivial
  | some p =>
    obtain ⟨a, b⟩ := p
    obtain ⟨cells, k, r, h1, h2, h3, h4, h5, h6, h7⟩ := h
    exact ⟨cells, k, r, h1, h2, h3, h4, h5, h6, by omega⟩
theorem Good.ext {u : Option (Addr × Addr)} {H H' : Hp} {n : Nat} (h : Good u H n) (e : Ext none H H') : Good u H' n := by
  cases u with
  | none => trivial
  | some p =>
    obtain ⟨a, b⟩ := p
    obtain ⟨cells, k, r, h1, h2, h⟩ := h
    exact ⟨cells, k, r, e _ _ h1 (by simp), e _ _ h2 (by simp), h⟩

/-! ### a slot: nothing known, a value that stays, a list that this frame alone holds -/
inductive Sl where
  | emp | val (d : D) | own (a : Addr) (ds : List D) | slf (a dx : Addr) (c : Nat) (ds : List D)
/-- what this frame alone may change -/
def Sl.mine : Sl → Bool
  | .own _ _ => true
  | .slf _ _ _ _ => true
  | _ => false

section
variable (G : Gd) (X0 : Hp) (B : Addr → Prop) (H : Hp)
def SlOk : Sl → Option V → Prop
  | .emp, _ => True
  | .val d, v => ∃ x, v = some x ∧ Den G B H d x
  | .own a ds, v => ∃ xs, v = some (.ref a) ∧ X0 a = none ∧ H a = some (.lst xs) ∧ xs.length ≤ sizeLine ∧ DenL G B H ds xs
  | .slf a dx c ds, v => ∃ xs, v = some (.ref a) ∧ X0 a = none ∧ H a = some (.ins (G.cl c) dx ((G.fl c).zip xs)) ∧ xs.length ≤ (G.fl c).length ∧ DenL G B H ds xs
end
/-- B, and the addresses of the frame's own lists -/
def XBof (B : Addr → Prop) (env : List Sl) (σ : List (Option V)) : Addr → Prop := fun a => B a ∨ ∃ (i : Nat) (s : Sl), env[i]? = some s ∧ s.mine = true ∧ σ[i]? = some (some (V.ref a))

/-- an error as it lies: its class, its own dict -/
def ExcIs (G : Gd) (B : Addr → Prop) (H : Hp) (x : Exc) (C : Value) (d : Option Addr) : Prop :=
  C = .ref (G.cl x.c) ∧ ∃ dd xs, d = some dd ∧ H dd = some (.xd ((G.fl x.c).zip xs)) ∧ xs.length = (G.fl x.c).length ∧ DenL G B H x.ds xs

/-- the state of a body: what is known of its slots, of the heap, what is wanted of errors -/
structure Wd (G : Gd) (E : XK) (σ : List (Option V)) (H : Hp) where
  u : Option (Addr × Addr)
  n : Nat
  m : Nat
  B : Addr → Prop
  H0 : Hp
  env : List Sl
  ex : Exc → Prop
  ug : u = G.u
  hu : ∀ p, u = some p → B p.1 ∧ B p.2
  hB : ∀ a, B a → H0 a ≠ none
  fr : Ext u H0 H
  good : Good u H n
  len : env.length = σ.length
  sl : ∀ (i : Nat) (s : Sl), env[i]? = some s → SlOk G H0 (XBof B env σ) H s (σ[i]?.join)
  nd : ∀ (i j : Nat) (a : Addr) (s t : Sl), env[i]? = some s → env[j]? = some t → s.mine = true → t.mine = true → σ[i]? = some (some (V.ref a)) → σ[j]? = some (some (V.ref a)) → i = j
  exc : ∀ x C d H', Ext u H0 H' → Good u H' m → ExcIs G B H' x C d → ex x → E C d H'

section
variable {G : Gd} {E : XK} {σ : List (Option V)} {H H' : Hp}
abbrev Wd.XB (W : Wd G E σ H) : Addr → Prop := XBof W.B W.env σ
structure Step (W : Wd G E σ H) (c : Nat) (H' : Hp) : Prop where
  ext : Ext W.u H H'
  good : Good W.u H' (W.n - c)
theorem Wd.huX (W : Wd G E σ H) : ∀ p, W.u = some p → W.XB p.1 := fun p e => .inl (W.hu p e).1
theorem Wd.den (W : Wd G E σ H) {c : Nat} (st : Step W c H') {d : D} {v : V} (h : Den G W.XB H d v) : Den G W.XB H' d v := h.ext st.ext W.huX
/-- the frame's own address is none of the urn's -/
theorem Wd.own_ne (W : Wd G E σ H) {a : Addr} (h : W.H0 a = none) : ¬ W.B a := fun z => W.hB a z h
theorem SlOk.step (W : Wd G E σ H) {c : Nat} (st : Step W c H') {s : Sl} {v : Option V} (h : SlOk G W.H0 W.XB H s v) : SlOk G W.H0 W.XB H' s v := by
  cases s with
  | emp => trivial
  | val d => obtain ⟨x, e, h⟩ := h; exact ⟨x, e, W.den st h⟩
  | own a ds =>
    obtain ⟨xs, e, h0, h1, hl, h2⟩ := h
    refine ⟨xs, e, h0, st.ext a _ h1 (fun z => ?_), hl, h2.ext st.ext W.huX⟩
    cases hu : W.u with
    | none => rw [hu] at z; cases z
    | some p => rw [hu] at z; cases z; exact W.own_ne h0 (W.hu p hu).1
  | slf a dx c ds =>
    obtain ⟨xs, e, h0, h1, hl, h2⟩ := h
    refine ⟨xs, e, h0, st.ext a _ h1 (fun z => ?_), hl, h2.ext st.ext W.huX⟩
    cases hu : W.u with
    | none => rw [hu] at z; cases z
    | some p => rw [hu] at z; cases z; exact W.own_ne h0 (W.hu p hu).1
/-- where a thing of the frame's own stands -/
theorem Wd.mine_at (W : Wd G E σ H) {i : Nat} {s : Sl} {a : Addr} (e : W.env[i]? = some s) (hm : s.mine = true) (es : σ[i]? = some (some (.ref a))) : W.H0 a = none ∧ ∃ o, H a = some o := by
  have z := W.sl i _ e
  rw [es] at z
  cases s with
  | emp => cases hm
  | val d => cases hm
  | own b ds => obtain ⟨xs, ea, h0, h1, _⟩ := z; cases ea; exact ⟨h0, _, h1⟩
  | slf b dx c ds => obtain ⟨xs, ea, h0, h1, _⟩ := z; cases ea; exact ⟨h0, _, h1⟩
def Wd.next (W : Wd G E σ H) {c : Nat} (st : Step W c H') : Wd G E σ H' where
  u := W.u
  n := W.n - c
  m := W.m
  B := W.B
  H0 := W.H0
  env := W.env
  ex := W.ex
  ug := W.ug
  hu := W.hu
  hB := W.hB
  fr := W.fr.trans st.ext
  good := st.good
  len := W.len
  sl := fun i s e => (W.sl i s e).step W st
  nd := W.nd
  exc := W.exc
theorem Step.refl (W : Wd G E σ H) : Step W 0 H := ⟨Ext.refl _ _, W.good⟩
theorem Step.trans {W : Wd G E σ H} {c c' : Nat} {H2 : Hp} (a : Step W c H') (b : Step (W.next a) c' H2) : Step W (c + c') H2 :=
  ⟨a.ext.trans b.ext, by have := b.good; show Good W.u H2 (W.n - (c + c')); rw [Nat.sub_add_eq]; exact this⟩
theorem Step.pure {W : Wd G E σ H} {c : Nat} (a : Step W c H') {H2 : Hp} (e : Ext none H' H2) : Step W c H2 := ⟨a.ext.trans e.weak, a.good.ext e⟩
theorem Step.new {W : Wd G E σ H} {c : Nat} (a : Step W c H') {p : Addr} {o : HO} (h : H' p = none) : Step W c (upd H' p o) := a.pure (Ext.new h)
theorem Step.less {W : Wd G E σ H} {c c' : Nat} (a : Step W c H') (h : c ≤ c') : Step W c' H' := ⟨a.ext, a.good.less (by omega)⟩
/-- a new address is out of XB -/
theorem Wd.fresh (W : Wd G E σ H) {p : Addr} (h : H p = none) : ¬ W.XB p := fun z => by
  have hn : ∀ o, W.H0 p = some o → W.u.map (·.1) ≠ some p → False := fun o e n => by rw [W.fr p o e n] at h; cases h
  rcases z with z | ⟨i, sl, e, hm, es⟩
  · cases q : W.H0 p with
    | none => exact W.hB p z q
    | some o =>
      refine hn o q fun hu => ?_
      cases hu' : W.u with
      | none => rw [hu'] at hu; cases hu
      | some r =>
        rw [hu'] at hu
        cases hu
        have g := W.good
        obtain ⟨a, b⟩ := r
        rw [hu'] at g
        obtain ⟨_, _, _, h1, _⟩ := g
        rw [h1] at h; cases h
  · obtain ⟨_, o, h1⟩ := W.mine_at e hm es
    rw [h1] at h; cases h
end

/-! ### expressions -/
abbrev DT := (Exc → Prop) → List Sl → (D → Prop) → Prop
def lift (G : Gd) (E : XK) (c : Nat) (t : DT) : TE := fun σ H Q' => ∃ W : Wd G E σ H, W.m + c ≤ W.n ∧ ∃ Q, t W.ex W.env Q ∧ ∀ v H' d, Step W c H' → Den G W.XB H' d v → Q d → Q' v H'
abbrev DA := (Exc → Prop) → List Sl → (List D → Prop) → Prop
def liftA (G : Gd) (E : XK) (c : Nat) (t : DA) : TA := fun σ H Q' => ∃ W : Wd G E σ H, W.m + c ≤ W.n ∧ ∃ Q, t W.ex W.env Q ∧ ∀ vs H' ds, Step W c H' → DenL G W.XB H' ds vs → Q ds → Q' vs H'
abbrev DB := (Exc → Prop) → List Sl → (Bool → Prop) → Prop
def liftB (G : Gd) (E : XK) (c : Nat) (t : DB) : TT := fun σ H Q' => ∃ W : Wd G E σ H, W.m + c ≤ W.n ∧ ∃ Q, t W.ex W.env Q ∧ ∀ b H', Step W c H' → Q b → Q' b H'
/-- e is t, at most c draws -/
abbrev DE (G : Gd) (E : XK) (X : Cx) (c : Nat) (e : Expr) (t : DT) : Prop := PE X e (lift G E c t)
abbrev DEs (G : Gd) (E : XK) (X : Cx) (c : Nat) (es : List Expr) (t : DA) : Prop := PA X es (liftA G E c t)
abbrev DPt (G : Gd) (E : XK) (X : Cx) (c : Nat) (e : Expr) (t : DB) : Prop := PT X e (liftB G E c t)

theorem imp {X : Cx} {e : Expr} {t t' : TE} (h : PE X e t) (i : ∀ σ H Q, t' σ H Q → t σ H Q) : PE X e t' := ⟨fun pins s σ H Q I q => h.run pins s σ H Q I (i σ H Q q)⟩
theorem impT {X : Cx} {e : Expr} {t t' : TT} (h : PT X e t) (i : ∀ σ H Q, t' σ H Q → t σ H Q) : PT X e t' := ⟨fun pins s σ H Q I q => h.run pins s σ H Q I (i σ H Q q)⟩
theorem impA {X : Cx} {e : List Expr} {t t' : TA} (h : PA X e t) (i : ∀ σ H Q, t' σ H Q → t σ H Q) : PA X e t' := ⟨fun pos pins s σ H Q I q => h.run pos pins s σ H Q I (i σ H Q q)⟩
end Kn

set_option Elab.async false
set_option linter.all false
set_option maxRecDepth 100000
set_option maxHeartbeats 2100000
namespace Kn
open PySem L2
section
variable {G : Gd} {E : XK} {X : Cx}

/-! ### names, constants -/
def dVar (i : Nat) : DT := fun _ env Q => ∃ d, env[i]? = some (.val d) ∧ Q d
def dC (d : D) : DT := fun _ _ Q => Q d
theorem lift_var {i : Nat} {σ : List (Option V)} {H : Hp} {Q' : VK} (h : lift G E 0 (dVar i) σ H Q') : tVar i σ H Q' := by
  obtain ⟨W, _, Q, ⟨d, he, hq⟩, k⟩ := h
  obtain ⟨x, hx, hd⟩ := W.sl i _ he
  cases hs : σ[i]? with
  | none => rw [hs] at hx; cases hx
  | some o =>
    rw [hs] at hx
    have hx' : o = some x := hx
    exact ⟨x, by rw [hs, hx'], k x H d (Step.refl W) hd hq⟩
theorem dv (i : Nat) {x : Str} {pos : Pos} (hN : X.N[i]? = some x := by rfl) (hv : Vis X.env.scope x := by first | exact Or.inl rfl | exact Or.inr (Or.inl rfl) | exact Or.inr (Or.inr rfl)) (hd : (x == ("__debug__" : Str)) = false := by decide)
    (hcd : (x == ("__classdict__" : Str)) = false := by decide) : DE G E X 0 (.Name x pos) (dVar i) := imp (pe_var hN hv hd hcd) fun _ _ _ h => lift_var h
theorem den_int {B : Addr → Prop} {H : Hp} (i : Int) : Den G B H (.int i) (.int i) := rfl
theorem den_bl {B : Addr → Prop} {H : Hp} (b : Bool) : Den G B H (.bl b) (.bl b) := rfl
theorem den_str {B : Addr → Prop} {H : Hp} (x : Str) : Den G B H (.str x) (.str x) := rfl
theorem den_non {B : Addr → Prop} {H : Hp} : Den G B H .non .non := rfl
theorem lift_c {d : D} {v : V} (hd : ∀ B H, Den G B H d v) {σ : List (Option V)} {H : Hp} {Q' : VK} (h : lift G E 0 (dC d) σ H Q') : tC v σ H Q' := by
  obtain ⟨W, _, Q, hq, k⟩ := h
  exact k v H d (Step.refl W) (hd _ _) hq
theorem de_int {i j pos} : DE G E X 0 (.Constant (.int i) j pos) (dC (.int i)) := imp pe_int fun _ _ _ h => lift_c (fun _ _ => den_int i) h
theorem de_bl {b j pos} : DE G E X 0 (.Constant (.bool b) j pos) (dC (.bl b)) := imp pe_bl fun _ _ _ h => lift_c (fun _ _ => den_bl b) h
theorem de_non {j pos} : DE G E X 0 (.Constant .none j pos) (dC .non) := imp pe_non fun _ _ _ h => lift_c (fun _ _ => den_non) h
theorem de_str {x j pos} : DE G E X 0 (.Constant (.str x) j pos) (dC (.str x)) := imp pe_str fun _ _ _ h => lift_c (fun _ _ => den_str x) h

/-! ### two-place operations by values -/
abbrev G2 := D → D → (D → Prop) → Prop
def rD (G : Gd) (g : G2) : R2 := fun x y H Q' => ∃ B d e Q, Den G B H d x ∧ Den G B H e y ∧ (∀ p, H p = none → ¬ B p) ∧ g d e Q ∧ ∀ r H' rd, Ext none H H' → Den G B H' rd r → Q rd → Q' r H'
def dOp (g : G2) (ta tb : DT) : DT := fun ex env Q => ta ex env fun x => tb ex env fun y => g x y Q
theorem lift_op {g : G2} {ca cb : Nat} {ta tb : DT} {σ : List (Option V)} {H : Hp} {Q' : VK} (h : lift G E (ca + cb) (dOp g ta tb) σ H Q') : tOp (rD G g) (lift G E ca ta) (lift G E cb tb) σ H Q' := by
  obtain ⟨W, hc, Q, ht, k⟩ := h
  refine ⟨W, by omega, _, ht, fun v H1 d st hd hq => ?_⟩
  refine ⟨W.next st, by show W.m + cb ≤ W.n - ca; omega, _, hq, fun v2 H2 e st2 he hg => ?_⟩
  refine ⟨W.XB, d, e, Q, (W.next st).den st2 hd, he, fun p hp => ((W.next st).next st2).fresh hp, hg, fun r H' rd ex hr q => ?_⟩
  exact k r H' rd ((st.trans st2).pure ex) hr q
theorem de_op {a b : Expr} {op : Operator} {pos : Pos} {g : G2} {ca cb : Nat} {ta tb : DT} (ho : OpR X (binaryOp op) (rD G g)) (ha : DE G E X ca a ta) (hb : DE G E X cb b tb) : DE G E X (ca + cb) (.BinOp a op b pos) (dOp g ta tb) :=
  imp (pe_op ho ha hb) fun _ _ _ h => lift_op h
theorem de_cmp {a b : Expr} {op : CmpOp} {pos : Pos} {g : G2} {ca cb : Nat} {ta tb : DT} (ho : OpR X (compareOp op) (rD G g)) (ha : DE G E X ca a ta) (hb : DE G E X cb b tb) (hm : behindInMarks op b = false) : DE G E X (ca + cb) (.Compare a [op] [b] pos) (dOp g ta tb) :=
  imp (pe_cmpR ho ha hb hm) fun _ _ _ h => lift_op h

theorem den_upd {B : Addr → Prop} {H : Hp} {p : Addr} {o : HO} {d : D} {v : V} (hp : H p = none) (h : Den G B H d v) : Den G B (upd H p o) d v := h.ext (u := none) (Ext.new hp) (fun _ z => by cases z)
theorem denL_upd {B : Addr → Prop} {H : Hp} {p : Addr} {o : HO} {ds : List D} {xs : List V} (hp : H p = none) (h : DenL G B H ds xs) : DenL G B (upd H p o) ds xs := h.ext (u := none) (Ext.new hp) (fun _ z => by cases z)
/-- a new list | tuple of known items -/
theorem den_lst {B : Addr → Prop} {H : Hp} {p : Addr} {ds : List D} {xs : List V} (hp : H p = none) (nb : ¬ B p) (hl : xs.length ≤ sizeLine) (h : DenL G B H ds xs) : Den G B (upd H p (.lst xs)) (.lst ds) (.ref p) :=
  ⟨p, xs, rfl, nb, upd_same, hl, denL_upd hp h⟩
theorem den_tup {B : Addr → Prop} {H : Hp} {p : Addr} {ds : List D} {xs : List V} (hp : H p = none) (nb : ¬ B p) (hl : xs.length ≤ sizeLine) (h : DenL G B H ds xs) : Den G B (upd H p (.tup xs)) (.tup ds) (.ref p) :=
  ⟨p, xs, rfl, .inl nb, SqT.of upd_same, hl, denL_upd hp h⟩

def gI (C : Int → Int → Prop) (f : Int → Int → D) : G2 := fun d e Q => match d, e with
  | .int i, .int j => C i j ∧ Q (f i j)
  | _, _ => False
theorem rD_I {g : Int → Int → V} {f : Int → Int → D} {C : Int → Int → Prop} (hf : ∀ i j B H, Den G B H (f i j) (g i j)) {x y : V} {H : Hp} {Q' : VK} (h : rD G (gI C f) x y H Q') : rI C g x y H Q' := by
  obtain ⟨B, d, e, Q, hd, he, _, hg, k⟩ := h
  cases d <;> cases e <;> try exact hg.elim
  rename_i i j
  exact ⟨i, j, hd, he, hg.1, k _ H _ (Ext.refl _ _) (hf i j B H) hg.2⟩
theorem opr_imp {f : Value → Value → Sem Value} {r r' : R2} (h : OpR X f r) (i : ∀ x y H Q, r' x y H Q → r x y H Q) : OpR X f r' := fun pins s σ H x y v u Q I rx ry q => h pins s σ H x y v u Q I rx ry (i x y H Q q)
theorem rI_of0 {g : Int → Int → V} {x y : V} {H : Hp} {Q : VK} (h : rI (fun _ _ => True) g x y H Q) : rI0 g x y H Q := by
  obtain ⟨i, j, h1, h2, _, q⟩ := h
  exact ⟨i, j, h1, h2, q⟩

def gAdd : G2 := fun d e Q => match d, e with
  | .int i, .int j => Q (.int (i + j))
  | .lst xs, .lst ys => xs.length + ys.length ≤ sizeLine ∧ Q (.lst (xs ++ ys))
  | .tup xs, .tup ys => xs.length + ys.length ≤ sizeLine ∧ Q (.tup (xs ++ ys))
  | .str x, .str y => x.length + y.length ≤ sizeLine ∧ Q (.str (x ++ y))
  | _, _ => False
theorem o_add (hK : X.K = G.K) : OpR X (binaryOp .Add) (rD G gAdd) := by
  intro pins s σ H x y v u Q' I rx ry h
  obtain ⟨B, d, e, Q, hd, he, hf, hg, k⟩ := h
  cases d <;> cases e <;> try exact hg.elim
  · rename_i i j
    exact op_add pins s σ H x y v u Q' I rx ry ⟨i, j, hd, he, k _ H (.int (i + j)) (Ext.refl _ _) rfl hg⟩
  · rename_i a b
    exact op_add_str pins s σ H x y v u Q' I rx ry ⟨a, b, hd, he, hg.1, k _ H (.str (a ++ b)) (Ext.refl _ _) rfl hg.2⟩
  · rename_i ds es
    obtain ⟨a, xs, rfl, na, ha, la, da⟩ := hd
    obtain ⟨b, ys, rfl, nb, hb, lb, db⟩ := he
    have e1 := da.length
    have e2 := db.length
    have hz : ds.length + es.length ≤ sizeLine := hg.1
    refine op_cat pins s σ H _ _ v u Q' I rx ry ⟨a, b, xs, ys, rfl, rfl, ha, hb, by omega, fun p hp => ?_⟩
    exact k _ _ (.lst (ds ++ es)) (Ext.new hp) (den_lst hp (hf p hp) (by rw [List.length_append]; omega) (da.append db)) hg.2
  · rename_i ds es
    obtain ⟨a, xs, rfl, na, ha, la, da⟩ := hd
    obtain ⟨b, ys, rfl, nb, hb, lb, db⟩ := he
    have e1 := da.length
    have e2 := db.length
    have hz : ds.length + es.length ≤ sizeLine := hg.1
    refine op_catA pins s σ H _ _ v u Q' I rx ry ⟨a, b, xs, ys, rfl, rfl, by rw [hK]; exact ha, by rw [hK]; exact hb, by omega, fun h => ?_, fun _ h => ?_, fun _ _ p hp => ?_⟩
    · subst h
      have : ds = [] := List.eq_nil_of_length_eq_zero (by simpa using e1)
      subst this
      exact k _ H (.tup ([] ++ es)) (Ext.refl _ _) ⟨b, ys, rfl, nb, hb, lb, db⟩ hg.2
    · subst h
      have : es = [] := List.eq_nil_of_length_eq_zero (by simpa using e2)
      subst this
      exact k _ H (.tup (ds ++ [])) (Ext.refl _ _) (by rw [List.append_nil]; exact ⟨a, xs, rfl, na, ha, la, da⟩) hg.2
    · exact k _ _ (.tup (ds ++ es)) (Ext.new hp) (den_tup hp (hf p hp) (by rw [List.length_append]; omega) (da.append db)) hg.2
def gSub : G2 := gI (fun _ _ => True) fun i j => .int (i - j)
theorem o_sub : OpR X (binaryOp .Sub) (rD G gSub) := opr_imp op_sub fun _ _ _ _ h => rI_of0 (rD_I (fun _ _ _ _ => den_int _) h)
def gMul : G2 := gI CMul fun i j => .int (i * j)
theorem o_mul : OpR X (binaryOp .Mult) (rD G gMul) := opr_imp op_mul fun _ _ _ _ h => rD_I (fun _ _ _ _ => den_int _) h
def gMod : G2 := gI (fun _ j => 0 < j) fun i j => .int (i % j)
theorem o_mod : OpR X (binaryOp .Mod) (rD G gMod) := opr_imp op_mod fun _ _ _ _ h => rD_I (fun _ _ _ _ => den_int _) h
def gDiv : G2 := gI CDiv fun i j => .int (i / j)
theorem o_div : OpR X (binaryOp .FloorDiv) (rD G gDiv) := opr_imp op_fdiv fun _ _ _ _ h => rD_I (fun _ _ _ _ => den_int _) h
def gLt : G2 := gI (fun _ _ => True) fun i j => .bl (decide (i < j))
theorem o_lt : OpR X (compareOp .Lt) (rD G gLt) := opr_imp op_lt fun _ _ _ _ h => rI_of0 (rD_I (fun _ _ _ _ => den_bl _) h)
def gLe : G2 := gI (fun _ _ => True) fun i j => .bl (decide (i ≤ j))
theorem o_le : OpR X (compareOp .LtE) (rD G gLe) := opr_imp op_le fun _ _ _ _ h => rI_of0 (rD_I (fun _ _ _ _ => den_bl _) h)
def gGt : G2 := gI (fun _ _ => True) fun i j => .bl (decide (j < i))
theorem o_gt : OpR X (compareOp .Gt) (rD G gGt) := opr_imp op_gt fun _ _ _ _ h => rI_of0 (rD_I (fun _ _ _ _ => den_bl _) h)
def gGe : G2 := gI (fun _ _ => True) fun i j => .bl (decide (j ≤ i))
theorem o_ge : OpR X (compareOp .GtE) (rD G gGe) := opr_imp op_ge fun _ _ _ _ h => rI_of0 (rD_I (fun _ _ _ _ => den_bl _) h)

/-! ### plain data: none, truths, ints, texts, lists, tuples -/
mutual
def pd : D → Option PyData
  | .non => some .none
  | .bl b => some (.bool b)
  | .int i => some (.int i)
  | .str x => some (.str x)
  | .lst ds => (pdL ds).map .list
  | .tup ds => (pdL ds).map .tuple
  | .ins _ _ => none
  | .opq _ => none
  | .urn => none
  | .at_ _ _ => none
  | .dct _ _ => none
def pdL : List D → Option (List PyData)
  | [] => some []
  | d :: ds => match pd d, pdL ds with
    | some p, some ps => some (p :: ps)
    | _, _ => none
end
mutual
theorem Den.dp {B : Addr → Prop} {H : Hp} : ∀ (d : D) (v : V) (p : PyData), Den G B H d v → pd d = some p → Dp G.K H v p
  | .non, _, _, h, e => by cases h; cases e; exact .non
  | .bl b, _, _, h, e => by cases h; cases e; exact .bl b
  | .int i, _, _, h, e => by cases h; cases e; exact .int i
  | .str x, _, _, h, e => by cases h; cases e; exact .str x
  | .lst ds, v, p, ⟨a, xs, e1, _, hs, _, hd⟩, e => by
    cases hp : pdL ds with
    | none => simp [pd, hp] at e
    | some ps =>
      simp [pd, hp] at e
      subst e; subst e1
      exact .lst (SqL.of hs) (DenL.dp ds xs ps hd hp)
  | .tup ds, v, p, ⟨a, xs, e1, _, hs, _, hd⟩, e => by
    cases hp : pdL ds with
    | none => simp [pd, hp] at e
    | some ps =>
      simp [pd, hp] at e
      subst e; subst e1
      exact .tup hs (DenL.dp ds xs ps hd hp)
  | .ins _ _, _, _, _, e => by simp [pd] at e
  | .opq _, _, _, _, e => by simp [pd] at e
  | .urn, _, _, _, e => by simp [pd] at e
  | .at_ _ _, _, _, _, e => by simp [pd] at e
  | .dct _ _, _, _, _, e => by simp [pd] at e
theorem DenL.dp {B : Addr → Prop} {H : Hp} : ∀ (ds : List D) (xs : List V) (ps : List PyData), DenL G B H ds xs → pdL ds = some ps → DpAll G.K H xs ps
  | [], _, _, h, e => by cases h; cases e; exact .nil
  | d :: ds, xs, ps, ⟨x, r, e1, h1, h2⟩, e => by
    subst e1
    cases hp : pd d with
    | none => simp [pdL, hp] at e
    | some p =>
      cases hq : pdL ds with
      | none => simp [pdL, hp, hq] at e
      | some qs =>
        simp [pdL, hp, hq] at e
        subst e
        exact .cons (Den.dp d x p h1 hp) (DenL.dp ds r qs h2 hq)
end
def gEq : G2 := fun d e Q => ∃ p q, pd d = some p ∧ pd e = some q ∧ SeqAt.shaped p = true ∧ SeqAt.shaped q = true ∧ Q (.bl (PyData.eqv p q))
def gNe : G2 := fun d e Q => ∃ p q, pd d = some p ∧ pd e = some q ∧ SeqAt.shaped p = true ∧ SeqAt.shaped q = true ∧ Q (.bl (!PyData.eqv p q))
theorem o_eq (hK : X.K = G.K) (hu : X.A.units + 64 < cLine) : OpR X (compareOp .Eq) (rD G gEq) := opr_imp (op_eqD hu) fun x y H Q' h => by
  obtain ⟨B, d, e, Q, hd, he, _, ⟨p, q, e1, e2, s1, s2, hq⟩, k⟩ := h
  exact ⟨p, q, by rw [hK]; exact hd.dp _ _ _ e1, by rw [hK]; exact he.dp _ _ _ e2, s1, s2, k _ H (.bl _) (Ext.refl _ _) (den_bl _) hq⟩
theorem o_ne (hK : X.K = G.K) (hu : X.A.units + 64 < cLine) : OpR X (compareOp .NotEq) (rD G gNe) := opr_imp (op_neD hu) fun x y H Q' h => by
  obtain ⟨B, d, e, Q, hd, he, _, ⟨p, q, e1, e2, s1, s2, hq⟩, k⟩ := h
  exact ⟨p, q, by rw [hK]; exact hd.dp _ _ _ e1, by rw [hK]; exact he.dp _ _ _ e2, s1, s2, k _ H (.bl _) (Ext.refl _ _) (den_bl _) hq⟩
/-- x in l, l a list of plain data -/
def gIn : G2 := fun d e Q => ∃ p qs es, e = .lst es ∧ pd d = some p ∧ pdL es = some qs ∧ SeqAt.shaped p = true ∧ SeqAt.shaped (.list qs) = true ∧ Q (.bl (qs.any fun z => PyData.eqv z p))
def gNi : G2 := fun d e Q => ∃ p qs es, e = .lst es ∧ pd d = some p ∧ pdL es = some qs ∧ SeqAt.shaped p = true ∧ SeqAt.shaped (.list qs) = true ∧ Q (.bl (!qs.any fun z => PyData.eqv z p))
theorem o_in (hK : X.K = G.K) (hu : X.A.units + 65 < cLine) : OpR X (compareOp .In) (rD G gIn) := opr_imp (op_inD hu) fun x y H Q' h => by
  obtain ⟨B, d, e, Q, hd, he, _, ⟨p, qs, es, e0, e1, e2, s1, s2, hq⟩, k⟩ := h
  subst e0
  exact ⟨p, qs, by rw [hK]; exact hd.dp _ _ _ e1, by rw [hK]; exact he.dp _ _ _ (by simp [pd, e2]), s1, s2, k _ H (.bl _) (Ext.refl _ _) (den_bl _) hq⟩
theorem o_ni (hK : X.K = G.K) (hu : X.A.units + 65 < cLine) : OpR X (compareOp .NotIn) (rD G gNi) := opr_imp (op_notInD hu) fun x y H Q' h => by
  obtain ⟨B, d, e, Q, hd, he, _, ⟨p, qs, es, e0, e1, e2, s1, s2, hq⟩, k⟩ := h
  subst e0
  exact ⟨p, qs, by rw [hK]; exact hd.dp _ _ _ e1, by rw [hK]; exact he.dp _ _ _ (by simp [pd, e2]), s1, s2, k _ H (.bl _) (Ext.refl _ _) (den_bl _) hq⟩
def D.isN : D → Bool
  | .non => true
  | _ => false
/-- is None -/
def gIs : G2 := fun d e Q => e = .non ∧ (∀ v, d ≠ .opq v) ∧ Q (.bl d.isN)
def gIsn : G2 := fun d e Q => e = .non ∧ (∀ v, d ≠ .opq v) ∧ Q (.bl (!d.isN))
theorem Den.isN {B : Addr → Prop} {H : Hp} {d : D} {v : V} (h : Den G B H d v) (n : ∀ v, d ≠ .opq v) : decide (v = .non) = d.isN := by
  cases d with
  | non => cases h; rfl
  | bl b => cases h; rfl
  | int b => cases h; rfl
  | str b => cases h; rfl
  | lst ds => obtain ⟨a, _, rfl, _⟩ := h; rfl
  | tup ds => obtain ⟨a, _, rfl, _⟩ := h; rfl
  | ins c ds => obtain ⟨a, _, _, rfl, _⟩ := h; rfl
  | opq w => exact absurd rfl (n w)
  | urn => obtain ⟨p, _, rfl⟩ := h; rfl
  | at_ a ds => obtain ⟨xs, rfl, _⟩ := h; rfl
  | dct ks ds => obtain ⟨a, _, rfl, _⟩ := h; rfl
theorem o_is : OpR X (compareOp .Is) (rD G gIs) := opr_imp op_isN fun x y H Q' h => by
  obtain ⟨B, d, e, Q, hd, he, _, ⟨e0, n, hq⟩, k⟩ := h
  subst e0
  cases he
  exact ⟨rfl, k _ H (.bl d.isN) (Ext.refl _ _) (by rw [hd.isN n]; rfl) hq⟩
theorem o_isn : OpR X (compareOp .IsNot) (rD G gIsn) := opr_imp op_notN fun x y H Q' h => by
  obtain ⟨B, d, e, Q, hd, he, _, ⟨e0, n, hq⟩, k⟩ := h
  subst e0
  cases he
  exact ⟨rfl, k _ H (.bl (!d.isN)) (Ext.refl _ _) (by rw [hd.isN n]; rfl) hq⟩

/-! ### and, or, not, if -/
def dAnd (ta tb : DT) : DT := fun ex env Q => ta ex env fun x => ∃ c, x = .bl c ∧ if c = true then tb ex env Q else Q (.bl false)
def dOr (ta tb : DT) : DT := fun ex env Q => ta ex env fun x => ∃ c, x = .bl c ∧ if c = true then Q (.bl true) else tb ex env Q
def dNot (ta : DT) : DT := fun ex env Q => ta ex env fun x => ∃ c, x = .bl c ∧ Q (.bl (!c))
theorem de_and {a b : Expr} {rest : List Expr} {pos : Pos} {ca cb : Nat} {ta tb : DT} (ha : DE G E X ca a ta) (hb : DE G E X cb (.BoolOp .And (b :: rest) pos) tb) : DE G E X (ca + cb) (.BoolOp .And (a :: b :: rest) pos) (dAnd ta tb) :=
  imp (pe_and ha hb) fun σ H Q' h => by
    obtain ⟨W, hc, Q, ht, k⟩ := h
    refine ⟨W, by omega, _, ht, fun v H1 d st hd ⟨c, e, hq⟩ => ⟨c, by subst e; exact hd, ?_⟩⟩
    cases c with
    | true => exact ⟨W.next st, by show W.m + cb ≤ W.n - ca; omega, Q, hq, fun r H2 rd st2 hr q => k r H2 rd (st.trans st2) hr q⟩
    | false => exact k _ H1 (.bl false) (st.less (by omega)) rfl hq
theorem de_or {a b : Expr} {rest : List Expr} {pos : Pos} {ca cb : Nat} {ta tb : DT} (ha : DE G E X ca a ta) (hb : DE G E X cb (.BoolOp .Or (b :: rest) pos) tb) : DE G E X (ca + cb) (.BoolOp .Or (a :: b :: rest) pos) (dOr ta tb) :=
  imp (pe_or ha hb) fun σ H Q' h => by
    obtain ⟨W, hc, Q, ht, k⟩ := h
    refine ⟨W, by omega, _, ht, fun v H1 d st hd ⟨c, e, hq⟩ => ⟨c, by subst e; exact hd, ?_⟩⟩
    cases c with
    | false => exact ⟨W.next st, by show W.m + cb ≤ W.n - ca; omega, Q, hq, fun r H2 rd st2 hr q => k r H2 rd (st.trans st2) hr q⟩
    | true => exact k _ H1 (.bl true) (st.less (by omega)) rfl hq
theorem de_not {a : Expr} {pos : Pos} {ca : Nat} {ta : DT} (ha : DE G E X ca a ta) : DE G E X ca (.UnaryOp .Not a pos) (dNot ta) :=
  imp (pe_not ha) fun σ H Q' h => by
    obtain ⟨W, hc, Q, ht, k⟩ := h
    exact ⟨W, hc, _, ht, fun v H1 d st hd ⟨c, e, hq⟩ => ⟨c, by subst e; exact hd, k _ H1 (.bl (!c)) st rfl hq⟩⟩
end
end Kn

set_option Elab.async false
set_option linter.all false
set_option maxRecDepth 100000
set_option maxHeartbeats 2100000
namespace Kn
open PySem L2
open PyProof.Rows (envOfC)

/-! ### statements -/
structure DEnds where
  nx : List Sl → Prop
  rt : D → List Sl → Prop
  bk : List Sl → Prop := fun _ => False
  ct : List Sl → Prop := fun _ => False
abbrev DS := (Exc → Prop) → DEnds → List Sl → Prop
section
variable {G : Gd} {E : XK}
/-- the same body, later -/
structure Later {σ σ' : List (Option V)} {H H' : Hp} (W : Wd G E σ H) (c : Nat) (W' : Wd G E σ' H') : Prop where
  u : W'.u = W.u
  B : W'.B = W.B
  H0 : W'.H0 = W.H0
  ex : W'.ex = W.ex
  m : W'.m = W.m
  n : W.n ≤ W'.n + c
  keep : ∀ b o, ¬ W.XB b → H b = some o → H' b = some o
  xb : ∀ b, W'.XB b → W.XB b ∨ H b = none
theorem Later.trans {σ σ' τ : List (Option V)} {H H' L : Hp} {W : Wd G E σ H} {c d : Nat} {W' : Wd G E σ' H'} {W2 : Wd G E τ L} (a : Later W c W') (b : Later W' d W2) : Later W (c + d) W2 :=
  ⟨b.u.trans a.u, b.B.trans a.B, b.H0.trans a.H0, b.ex.trans a.ex, b.m.trans a.m, by have := a.n; have := b.n; omega,
    fun p o n e => b.keep p o (fun z => (a.xb p z).elim n (fun q => by rw [e] at q; cases q)) (a.keep p o n e), fun p z => (b.xb p z).elim (a.xb p) fun q => by
      by_cases hx : W.XB p
      · exact .inl hx
      · cases hp : H p with
        | none => exact .inr rfl
        | some o => rw [a.keep p o hx hp] at q; cases q⟩
theorem Later.more {σ σ' : List (Option V)} {H H' : Hp} {W : Wd G E σ H} {c d : Nat} {W' : Wd G E σ' H'} (a : Later W c W') (h : c ≤ d) : Later W d W' :=
  ⟨a.u, a.B, a.H0, a.ex, a.m, by have := a.n; omega, a.keep, a.xb⟩
theorem Later.refl {σ : List (Option V)} {H : Hp} (W : Wd G E σ H) : Later W 0 W := ⟨rfl, rfl, rfl, rfl, rfl, by omega, fun _ _ _ h => h, fun _ h => .inl h⟩
theorem Step.keep {σ : List (Option V)} {H H' : Hp} {W : Wd G E σ H} {c : Nat} (st : Step W c H') {b : Addr} {o : HO} (n : ¬ W.XB b) (h : H b = some o) : H' b = some o := st.ext b o h fun z => by
  cases hu : W.u with
  | none => rw [hu] at z; cases z
  | some p => rw [hu] at z; cases z; exact n (W.huX p hu)
theorem Later.next {σ : List (Option V)} {H H' : Hp} {W : Wd G E σ H} {c : Nat} (st : Step W c H') : Later W c (W.next st) := ⟨rfl, rfl, rfl, rfl, rfl, by show W.n ≤ W.n - c + c; omega, fun b o n h => st.keep n h, fun b h => .inl h⟩
/-- what holds of a value beside the frame's own lists holds of it behind the frame -/
theorem Den.out {σ : List (Option V)} {H H' : Hp} (W : Wd G E σ H) {d : D} {v : V} (h : Den G W.XB H' d v) : Den G W.B H' d v :=
  Den.keep (fun _ _ _ h => h) (fun _ h => .inl (.inl h)) d v h
end
def liftS (G : Gd) (E : XK) (c : Nat) (ts : DS) : TS := fun Dn σ H => ∃ W : Wd G E σ H, W.m + c ≤ W.n ∧ ∃ de : DEnds, ts W.ex de W.env ∧
  (∀ σ' H' (W' : Wd G E σ' H'), Later W c W' → de.nx W'.env → Dn.nx σ' H') ∧
  (∀ v σ' H' (W' : Wd G E σ' H') d, Later W c W' → Den G W.B H' d v → de.rt d W'.env → Dn.rt v H') ∧
  (∀ σ' H' (W' : Wd G E σ' H'), Later W c W' → de.bk W'.env → Dn.bk σ' H') ∧
  (∀ σ' H' (W' : Wd G E σ' H'), Later W c W' → de.ct W'.env → Dn.ct σ' H')
abbrev DSt (G : Gd) (E : XK) (X : Cx) (c : Nat) (st : Stmt) (t : DS) : Prop := PS X st (liftS G E c t)
abbrev DSs (G : Gd) (E : XK) (X : Cx) (c : Nat) (sts : List Stmt) (t : DS) : Prop := PSs X sts (liftS G E c t)
theorem impS {X : Cx} {st : Stmt} {t t' : TS} (h : PS X st t) (i : ∀ D σ H, t' D σ H → t D σ H) : PS X st t' := ⟨fun pins s σ H D I q => h.run pins s σ H D I (i D σ H q)⟩
theorem impSs {X : Cx} {st : List Stmt} {t t' : TS} (h : PSs X st t) (i : ∀ D σ H, t' D σ H → t D σ H) : PSs X st t' := ⟨fun pins s σ H D I q => h.run pins s σ H D I (i D σ H q)⟩

/-! ### what a def promises, by trees -/
abbrev FSpec := List D → (D → Prop) → (Exc → Prop) → Prop
def liftF (G : Gd) (c : Nat) (S : FSpec) : Sp := fun vs H Q E => ∃ (u : Option (Addr × Addr)) (n : Nat) (B : Addr → Prop) (ds : List D) (R : D → Prop) (ex : Exc → Prop),
  u = G.u ∧ c ≤ n ∧ (∀ p, u = some p → B p.1 ∧ B p.2) ∧ (∀ a, B a → H a ≠ none) ∧ Good u H n ∧ DenL G B H ds vs ∧ S ds R ex ∧
  (∀ v H' d, Ext u H H' → Good u H' (n - c) → Den G B H' d v → R d → Q v H') ∧ (∀ x C d H', Ext u H H' → Good u H' (n - c) → ExcIs G B H' x C d → ex x → E C d H')

/-- the def at f keeps S, by at most c draws and k calls deep, where no repr is under way -/
structure FnD (G : Gd) (P : Program) (w : World) (mg : Str → Option Value) (base : Heap) (k : Nat) (f : Addr) (fd : FuncData) (ps : List Str) (c : Nat) (S : FSpec) : Prop where
  run : ∀ (A : Around) (outer : List Env) (s : Shared) (H : Hp) (args : Args) (us : List Value) (vs : List V) (Q : VK) (E : XK), Room k A → A.guards = some [] → Env0 P w G.K mg base A outer s H →
    BindsTo s fd args (ps.zip us) → Vals vs us → vs.length = ps.length → liftF G c S vs H Q E → codeAny (model P w) A (.call (.ref f) args) (CR (L2.CX P w) outer P w H s Q E) s

/-- the slots at the entry -/
def env0 (N : List Str) (ds : List D) : List Sl := ds.map Sl.val ++ List.replicate (N.length - ds.length) Sl.emp

section
variable {G : Gd} {P : Program} {w : World} {mg : Str → Option Value} {base : Heap}
theorem FnD.mono {j k : Nat} {f : Addr} {fd : FuncData} {ps : List Str} {c : Nat} {S : FSpec} (F : FnD G P w mg base j f fd ps c S) (h : j ≤ k) : FnD G P w mg base k f fd ps c S :=
  ⟨fun A outer s H args us vs Q E hr => F.run A outer s H args us vs Q E (hr.mono h)⟩

theorem env0_get {N : List Str} {ds : List D} {i : Nat} {s : Sl} (h : (env0 N ds)[i]? = some s) : (∃ d, ds[i]? = some d ∧ s = .val d) ∨ s = .emp := by
  unfold env0 at h
  by_cases hi : i < ds.length
  · rw [List.getElem?_append_left (by simpa using hi), List.getElem?_map, List.getElem?_eq_getElem hi] at h
    exact .inl ⟨ds[i], List.getElem?_eq_getElem hi, (Option.some.inj h).symm⟩
  · rw [List.getElem?_append_right (by simpa using hi), List.getElem?_replicate] at h
    split at h
    · exact .inr (Option.some.inj h).symm
    · cases h
theorem start_get {N : List Str} {vs : List V} {i : Nat} {v : V} (h : vs[i]? = some v) : (L2.start N vs)[i]? = some (some v) := by
  have hi : i < vs.length := (List.getElem?_eq_some_iff.mp h).1
  unfold L2.start
  rw [List.getElem?_append_left (by simpa using hi), List.getElem?_map, h]
  rfl
/-- the state at a body's entry -/
theorem wd_start {N : List Str} {vs : List V} {H : Hp} {E : XK} {u : Option (Addr × Addr)} {n c : Nat} {B : Addr → Prop} {ds : List D} {ex : Exc → Prop} (hN : vs.length ≤ N.length) (hug : u = G.u) (hc : c ≤ n)
    (hu : ∀ p, u = some p → B p.1 ∧ B p.2) (hB : ∀ a, B a → H a ≠ none) (hg : Good u H n) (hd : DenL G B H ds vs) (hx : ∀ x C d H', Ext u H H' → Good u H' (n - c) → ExcIs G B H' x C d → ex x → E C d H') :
    ∃ W : Wd G E (L2.start N vs) H, W.u = u ∧ W.n = n ∧ W.m = n - c ∧ W.B = B ∧ W.H0 = H ∧ W.env = env0 N ds ∧ W.ex = ex := by
  have hl := hd.length
  refine ⟨{ u := u, n := n, m := n - c, B := B, H0 := H, env := env0 N ds, ex := ex, ug := hug, hu := hu, hB := hB, fr := Ext.refl _ _, good := hg, len := ?_, sl := ?_, nd := ?_, exc := hx }, rfl, rfl, rfl, rfl, rfl, rfl, rfl⟩
  · unfold env0 L2.start
    simp only [List.length_append, List.length_map, List.length_replicate]
    omega
  · intro i s hs
    rcases env0_get hs with ⟨d, hd1, rfl⟩ | rfl
    · obtain ⟨x, hx1, hx2⟩ := hd.get hd1
      refine ⟨x, by rw [start_get hx1]; rfl, ?_⟩
      exact Den.keep (fun _ _ _ h => h) (fun b hb => by
        rcases hb with hb | ⟨i, es, e1, hm, _⟩
        · exact .inl hb
        · rcases env0_get e1 with ⟨_, _, z⟩ | z <;> (subst z; cases hm)) d x hx2
    · trivial
  · intro i j a s t e1 _ hm
    rcases env0_get e1 with ⟨_, _, z⟩ | z <;> (subst z; cases hm)

theorem guards_deeper {A : Around} {env : Env} : (A.deeper env).guards = A.guards := rfl

/-- THE RULE for a def: its body as a term of rules over trees, what the promise asks of that term -/
theorem fnd_of {k : Nat} {f : Addr} {x qual : Str} {st : Stmt} {fd : FuncData} {N ps : List Str} {c : Nat} {S : FSpec} {ts : DS} (F : Fun G.K x qual st f fd) (Sc : FnScope N ps (defScope st))
    (hder : ∀ (cdv : Value) (A : Around) (outer : List Env) (s : Shared) (H : Hp) (E : XK), Room k (A.deeper (envOfC qual (defScope st) s.heap.objs.size f cdv)) → A.guards = some [] →
      DSs G E (cxOf (L2.CX P w) P w G.K mg base N qual (defScope st) f cdv A outer s H E) c (defBody st) ts)
    (hS : ∀ ds R ex, ds.length = ps.length → S ds R ex → ts ex { nx := fun _ => R .non, rt := fun d _ => R d } (env0 N ds)) : FnD G P w mg base (k + 1) f fd ps c S := by
  refine ⟨fun A outer s H args us vs Q E hr hgd e0 hb rv hlen hsp => ?_⟩
  obtain ⟨u, n, B, ds, R, ex, hug, hc, hu, hB, hg, hd, hs, hq, hx⟩ := hsp
  have hNl : vs.length ≤ N.length := by
    have h1 := congrArg List.length Sc.pre
    rw [List.length_take] at h1
    omega
  obtain ⟨oc, od, kV, doc, pm, an, cdv, ct, osl, rfl, lk, hcd⟩ := F.ex; have KX : G.K.In s.heap := PySem.W.Frag.In.keeps e0.mod.kin (fun b o e => (e0.bs b o e).1)
  have nolim : s.heap.NoLimit := Heap.NoLimit.keeps e0.mod.nolimit (fun b o e => (e0.bs b o e).1)
  have kinds : ∀ y ∈ ps.zip us, (defScope st).names.lookup y.1 = some .local ∨
      ((defScope st).names.lookup y.1 = some .cell ∧ ((cellsFrom (s.heap.objs.size + 1) (defScope st).names []).lookup y.1).isSome = true) := by
    intro y hy
    obtain ⟨n1, v1⟩ := y
    rcases Sc.par n1 (List.of_mem_zip hy).1 with z | z
    · exact .inl z
    · exact .inr ⟨z, PySem.W.cellsFrom_some _ _ _ (.inl z)⟩
  refine codeAny_call_function hr.depth (KX _ _ lk) rfl Sc.co Sc.gen rfl (PySem.W.codeRec_of KX hcd) ?_
  refine hb _ _ _ _ (wpAny_newFunctionEnv_cells Sc.kind kinds ?_)
  intro env he s1 ic
  subst he
  refine ⟨nolim.keeps ic.toInCall.keep, codeAny_func ?_⟩
  have I : Inv (cxOf (L2.CX P w) P w G.K mg base N qual (defScope st) f cdv A outer s H E) [] (L2.start N vs) H s1 := inv_start Sc hr.hd e0 hlen rv ic
  have hds : ds.length = ps.length := by rw [hd.length, hlen]
  obtain ⟨W, w1, w2, w3, w4, w5, w6, w7⟩ := wd_start (N := N) (E := E) hNl hug hc hu hB hg hd hx
  have body := (hder cdv A outer s H E (hr.deeper _) hgd).run [] s1 (L2.start N vs) H { nx := fun _ H' => Q .non H', rt := Q } I (by
    refine ⟨W, by rw [w2, w3]; omega, _, by rw [w6, w7]; exact hS ds R ex hds hs, ?_, ?_, ?_, ?_⟩
    · intro σ' H' W' lt hr'
      have hE : Ext u H H' := by have z := W'.fr; rw [lt.u, lt.H0, w1, w5] at z; exact z
      have hG : Good u H' (n - c) := by have z := W'.good; rw [lt.u, w1] at z; exact z.less (by have := lt.n; rw [w2] at this; omega)
      exact hq .non H' .non hE hG rfl hr'
    · intro v σ' H' W' d lt hd' hr'
      have hE : Ext u H H' := by have z := W'.fr; rw [lt.u, lt.H0, w1, w5] at z; exact z
      have hG : Good u H' (n - c) := by have z := W'.good; rw [lt.u, w1] at z; exact z.less (by have := lt.n; rw [w2] at this; omega)
      rw [w4] at hd'
      exact hq v H' d hE hG hd' hr'
    · intro σ' H' W' lt z; exact z.elim
    · intro σ' H' W' lt z; exact z.elim)
  refine wpAny_mono body ?_ (fun e s' hs => hs)
  intro fl s' hfl
  cases fl with
  | next => obtain ⟨σ', H', J, q⟩ := hfl; exact ⟨.non, H', J.os, J.bare, J.base, J.hok, rfl, q⟩
  | ret v' => obtain ⟨v, σ', H', J, r1, q⟩ := hfl; exact ⟨v, H', J.os, J.bare, J.base, J.hok, r1, q⟩
  | brk => obtain ⟨σ', H', J, q⟩ := hfl; exact q.elim
  | cont => obtain ⟨σ', H', J, q⟩ := hfl; exact q.elim
end
end Kn

set_option Elab.async false
set_option linter.all false
set_option maxRecDepth 100000
set_option maxHeartbeats 2100000
namespace Kn
open PySem L2
open PyProof.Rows (envOfC)
section
variable {G : Gd} {E : XK} {X : Cx}

/-! ### blocks -/
def sNil : DS := fun _ de env => de.nx env
def sSeq (t u : DS) : DS := fun ex de env => t ex { de with nx := fun env' => u ex de env' } env
theorem ds_nil : DSs G E X 0 [] sNil := impSs pss_nil fun Dn σ H h => by
  obtain ⟨W, _, de, ht, k, _⟩ := h
  exact k σ H W (Later.refl W) ht
theorem lift_seq {c d : Nat} {t u : DS} {Dn : Ends} {σ : List (Option V)} {H : Hp} (h : liftS G E (c + d) (sSeq t u) Dn σ H) : tSeq (liftS G E c t) (liftS G E d u) Dn σ H := by
  obtain ⟨W, hc, de, ht, k1, k2, k3, k4⟩ := h
  refine ⟨W, by omega, _, ht, fun σ' H' W' lt hn => ?_, fun v σ' H' W' d' lt hd hr => k2 v σ' H' W' d' (lt.more (by omega)) hd hr, fun σ' H' W' lt hn => k3 σ' H' W' (lt.more (by omega)) hn, fun σ' H' W' lt hn => k4 σ' H' W' (lt.more (by omega)) hn⟩
  refine ⟨W', by have := lt.n; rw [lt.m]; omega, de, by rw [lt.ex]; exact hn, fun σ2 H2 W2 l2 q => k1 σ2 H2 W2 (lt.trans l2) q, fun v σ2 H2 W2 d' l2 hd hr => k2 v σ2 H2 W2 d' (lt.trans l2) (by rw [lt.B] at hd; exact hd) hr,
    fun σ2 H2 W2 l2 q => k3 σ2 H2 W2 (lt.trans l2) q, fun σ2 H2 W2 l2 q => k4 σ2 H2 W2 (lt.trans l2) q⟩
theorem ds_cons {c d : Nat} {st : Stmt} {rest : List Stmt} {t u : DS} (h1 : DSt G E X c st t) (h2 : DSs G E X d rest u) : DSs G E X (c + d) (st :: rest) (sSeq t u) := impSs (pss_cons h1 h2) fun Dn σ H h => lift_seq h
theorem ds_one {c : Nat} {st : Stmt} {t : DS} (h1 : DSt G E X c st t) : DSs G E X c [st] t := pss_one h1
theorem ds_pass {pos : Pos} : DSt G E X 0 (.Pass pos) sNil := impS ps_pass fun Dn σ H h => by
  obtain ⟨W, _, de, ht, k, _⟩ := h
  exact k σ H W (Later.refl W) ht
def sNever : DS := fun _ _ _ => False
theorem ds_never {st : Stmt} : DSt G E X 0 st sNever := impS ps_never fun Dn σ H h => by
  obtain ⟨W, _, de, ht, _⟩ := h
  exact ht

/-! ### return, if -/
def sRet (te : DT) : DS := fun ex de env => te ex env fun d => de.rt d env
theorem ds_ret {c : Nat} {e : Expr} {pos : Pos} {te : DT} (he : DE G E X c e te) : DSt G E X c (.Return (some e) pos) (sRet te) := impS (ps_ret he) fun Dn σ H h => by
  obtain ⟨W, hc, de, ht, k1, k2, k3, k4⟩ := h
  exact ⟨W, hc, _, ht, fun v H' d st hd hr => k2 v _ H' (W.next st) d (Later.next st) (hd.out W) hr⟩
def sRetN : DS := fun ex de env => de.rt .non env
theorem ds_retN {pos : Pos} : DSt G E X 0 (.Return none pos) sRetN := impS ps_retN fun Dn σ H h => by
  obtain ⟨W, hc, de, ht, k1, k2, k3, k4⟩ := h
  exact k2 .non σ H W .non (Later.refl W) den_non ht
def dTrue (te : DT) : DB := fun ex env Q => te ex env fun x => ∃ b, x = .bl b ∧ Q b
def sIf (tc : DB) (t u : DS) : DS := fun ex de env => tc ex env fun b => if b = true then t ex de env else u ex de env
theorem ds_if {cc ca cb : Nat} {e : Expr} {a b : List Stmt} {pos : Pos} {tc : DB} {t u : DS} (hc : DPt G E X cc e tc) (ha : DSs G E X ca a t) (hb : DSs G E X cb b u) : DSt G E X (cc + (ca + cb)) (.If e a b pos) (sIf tc t u) :=
  impS (ps_if hc ha hb) fun Dn σ H h => by
    obtain ⟨W, hn, de, ht, k1, k2, k3, k4⟩ := h
    refine ⟨W, by omega, _, ht, fun r H' st hr => ?_⟩
    have l := Later.next st
    cases r with
    | true =>
      refine ⟨W.next st, by show W.m + ca ≤ W.n - cc; omega, de, hr, fun σ2 H2 W2 l2 q => k1 σ2 H2 W2 ((l.trans l2).more (by omega)) q, fun v σ2 H2 W2 d' l2 hd hr => k2 v σ2 H2 W2 d' ((l.trans l2).more (by omega)) hd hr,
        fun σ2 H2 W2 l2 q => k3 σ2 H2 W2 ((l.trans l2).more (by omega)) q, fun σ2 H2 W2 l2 q => k4 σ2 H2 W2 ((l.trans l2).more (by omega)) q⟩
    | false =>
      refine ⟨W.next st, by show W.m + cb ≤ W.n - cc; omega, de, hr, fun σ2 H2 W2 l2 q => k1 σ2 H2 W2 ((l.trans l2).more (by omega)) q, fun v σ2 H2 W2 d' l2 hd hr => k2 v σ2 H2 W2 d' ((l.trans l2).more (by omega)) hd hr,
        fun σ2 H2 W2 l2 q => k3 σ2 H2 W2 ((l.trans l2).more (by omega)) q, fun σ2 H2 W2 l2 q => k4 σ2 H2 W2 ((l.trans l2).more (by omega)) q⟩

/-! ### tests -/
theorem lift_true {c : Nat} {te : DT} {σ : List (Option V)} {H : Hp} {Q' : Bool → Hp → Prop} (h : liftB G E c (dTrue te) σ H Q') : lift G E c te σ H fun x H' => ∃ b, x = .bl b ∧ Q' b H' := by
  obtain ⟨W, hc, Q, ht, k⟩ := h
  refine ⟨W, hc, _, ht, fun v H' d st hd ⟨b, e, hq⟩ => ⟨b, by subst e; exact hd, k b H' st hq⟩⟩
/-- a test that is a comparison -/
theorem dt_cmp {a b : Expr} {op : CmpOp} {pos : Pos} {g : G2} {ca cb : Nat} {ta tb : DT} (ho : OpR X (compareOp op) (rD G g)) (ha : DE G E X ca a ta) (hb : DE G E X cb b tb) (hm : behindInMarks op b = false) :
    DPt G E X (ca + cb) (.Compare a [op] [b] pos) (dTrue (dOp g ta tb)) := impT (pt_cmpR ho ha hb hm) fun σ H Q' h => by
  have h2 := lift_true h
  exact lift_op h2
/-- a test by its value: a name, a call, an attribute, an item -/
theorem dt_val {e : Expr} {c : Nat} {te : DT} (h : DE G E X c e te) (he : ∀ whole, isTrue e X.env whole = (do let v ← whole; standAt e.pos; holding [v] (truthy v)) := by intro _; rfl) : DPt G E X c e (dTrue te) :=
  impT (pt_val h he) fun σ H Q' h => lift_true h
def bAnd (t u : DB) : DB := fun ex env Q => t ex env fun b => if b = true then u ex env Q else Q false
def bOr (t u : DB) : DB := fun ex env Q => t ex env fun b => if b = true then Q true else u ex env Q
def bNot (t : DB) : DB := fun ex env Q => t ex env fun b => Q (!b)
end
end Kn

set_option Elab.async false
set_option linter.all false
set_option maxRecDepth 100000
set_option maxHeartbeats 2100000
namespace Kn
open PySem L2
open PyProof.Rows (envOfC)
section
variable {G : Gd} {E : XK} {X : Cx}

/-! ### tests joined -/
theorem dw_and {a b : Expr} {rest : List Expr} {pos : Pos} {ca cb : Nat} {t u : DB} (ha : DPt G E X ca a t) (hb : PW X (.BoolOp .And (b :: rest) pos) (liftB G E cb u)) : PW X (.BoolOp .And (a :: b :: rest) pos) (liftB G E (ca + cb) (bAnd t u)) :=
  ⟨fun wh pins s σ H Q I h => (pw_and ha hb).run wh pins s σ H Q I (by
    obtain ⟨W, hn, Q1, ht, k⟩ := h
    refine ⟨W, by omega, _, ht, fun r H' st hr => ?_⟩
    cases r with
    | true => exact ⟨W.next st, by show W.m + cb ≤ W.n - ca; omega, Q1, hr, fun r2 H2 st2 q => k r2 H2 (st.trans st2) q⟩
    | false => exact k false H' (st.less (by omega)) hr)⟩
theorem dw_or {a b : Expr} {rest : List Expr} {pos : Pos} {ca cb : Nat} {t u : DB} (ha : DPt G E X ca a t) (hb : PW X (.BoolOp .Or (b :: rest) pos) (liftB G E cb u)) : PW X (.BoolOp .Or (a :: b :: rest) pos) (liftB G E (ca + cb) (bOr t u)) :=
  ⟨fun wh pins s σ H Q I h => (pw_or ha hb).run wh pins s σ H Q I (by
    obtain ⟨W, hn, Q1, ht, k⟩ := h
    refine ⟨W, by omega, _, ht, fun r H' st hr => ?_⟩
    cases r with
    | true => exact k true H' (st.less (by omega)) hr
    | false => exact ⟨W.next st, by show W.m + cb ≤ W.n - ca; omega, Q1, hr, fun r2 H2 st2 q => k r2 H2 (st.trans st2) q⟩)⟩
theorem dw_and1 {a : Expr} {pos : Pos} {c : Nat} {t : DB} (ha : DPt G E X c a t) : PW X (.BoolOp .And [a] pos) (liftB G E c t) := pw_and1 ha
theorem dw_or1 {a : Expr} {pos : Pos} {c : Nat} {t : DB} (ha : DPt G E X c a t) : PW X (.BoolOp .Or [a] pos) (liftB G E c t) := pw_or1 ha
theorem dt_w {e : Expr} {c : Nat} {t : DB} (h : PW X e (liftB G E c t)) : DPt G E X c e t := h.pt
theorem dt_not {a : Expr} {pos : Pos} {c : Nat} {t : DB} (ha : DPt G E X c a t) : DPt G E X c (.UnaryOp .Not a pos) (bNot t) := impT (pt_not ha) fun σ H Q' h => by
  obtain ⟨W, hn, Q1, ht, k⟩ := h
  exact ⟨W, hn, _, ht, fun r H' st hr => k _ H' st hr⟩
/-- a < b <= c -/
def dChain (g g' : G2) (ta tb tc : DT) : DT := fun ex env Q => ta ex env fun x => tb ex env fun y => g x y fun z => ∃ k, z = .bl k ∧ if k = true then tc ex env fun w' => g' y w' Q else Q (.bl false)
theorem lift_chain {g g' : G2} {ca cb cc : Nat} {ta tb tc : DT} {σ : List (Option V)} {H : Hp} {Q' : VK} (h : lift G E (ca + (cb + cc)) (dChain g g' ta tb tc) σ H Q') :
    tChain (rD G g) (rD G g') (lift G E ca ta) (lift G E cb tb) (lift G E cc tc) σ H Q' := by
  obtain ⟨W, hc, Q, ht, k⟩ := h
  refine ⟨W, by omega, _, ht, fun v H1 d st hd hq => ⟨W.next st, by show W.m + cb ≤ W.n - ca; omega, _, hq, fun v2 H2 e st2 he hg => ?_⟩⟩
  refine ⟨W.XB, d, e, _, (W.next st).den st2 hd, he, fun p hp => ((W.next st).next st2).fresh hp, hg, fun r H' rd ex hr ⟨b, e1, hq2⟩ => ?_⟩
  subst e1
  have s3 : Step W (ca + cb) H' := (st.trans st2).pure ex
  refine ⟨b, hr, ?_⟩
  cases b with
  | false => exact k _ H' (.bl false) (s3.less (by omega)) (den_bl false) hq2
  | true =>
    refine ⟨W.next s3, by show W.m + cc ≤ W.n - (ca + cb); omega, _, hq2, fun v3 H3 f st3 hf hg3 => ?_⟩
    refine ⟨W.XB, e, f, Q, ?_, hf, fun p hp => ((W.next s3).next st3).fresh hp, hg3, fun r2 H4 rd2 ex2 hr2 q => k r2 H4 rd2 (((s3.trans st3).pure ex2).less (by omega)) hr2 q⟩
    exact (W.next s3).den st3 (he.ext (u := none) ex (fun _ z => by cases z))
theorem de_chain {a b c : Expr} {op op' : CmpOp} {pos : Pos} {g g' : G2} {ca cb cc : Nat} {ta tb tc : DT} (ho : OpR X (compareOp op) (rD G g)) (ho' : OpR X (compareOp op') (rD G g')) (ha : DE G E X ca a ta) (hb : DE G E X cb b tb) (hc : DE G E X cc c tc)
    (hm : lastMarks [op, op'] [b, c] = false := by with_unfolding_all rfl) : DE G E X (ca + (cb + cc)) (.Compare a [op, op'] [b, c] pos) (dChain g g' ta tb tc) := imp (pe_chain ho ho' ha hb hc hm) fun _ _ _ h => lift_chain h
theorem dt_chain {a b c : Expr} {op op' : CmpOp} {pos : Pos} {g g' : G2} {ca cb cc : Nat} {ta tb tc : DT} (ho : OpR X (compareOp op) (rD G g)) (ho' : OpR X (compareOp op') (rD G g')) (ha : DE G E X ca a ta) (hb : DE G E X cb b tb) (hc : DE G E X cc c tc)
    (hm : lastMarks [op, op'] [b, c] = false := by with_unfolding_all rfl) : DPt G E X (ca + (cb + cc)) (.Compare a [op, op'] [b, c] pos) (dTrue (dChain g g' ta tb tc)) := impT (pt_chain ho ho' ha hb hc hm) fun _ _ _ h => by
  have h2 := lift_true h
  exact lift_chain h2
/-- a if t else b -/
def dIf (tc : DB) (ta tb : DT) : DT := fun ex env Q => tc ex env fun b => if b = true then ta ex env Q else tb ex env Q
theorem de_ife {c a b : Expr} {pos : Pos} {cc ca cb : Nat} {tc : DB} {ta tb : DT} (hc : DPt G E X cc c tc) (ha : DE G E X ca a ta) (hb : DE G E X cb b tb) : DE G E X (cc + (ca + cb)) (.IfExp c a b pos) (dIf tc ta tb) :=
  imp (pe_ifExp hc ha hb) fun σ H Q' h => by
    obtain ⟨W, hn, Q, ht, k⟩ := h
    refine ⟨W, by omega, _, ht, fun r H' st hr => ?_⟩
    cases r with
    | true => exact ⟨W.next st, by show W.m + ca ≤ W.n - cc; omega, Q, hr, fun v H2 d st2 hd q => k v H2 d ((st.trans st2).less (by omega)) hd q⟩
    | false => exact ⟨W.next st, by show W.m + cb ≤ W.n - cc; omega, Q, hr, fun v H2 d st2 hd q => k v H2 d ((st.trans st2).less (by omega)) hd q⟩

/-! ### arguments, displays -/
def aNil : DA := fun _ _ Q => Q []
def aCons (t : DT) (u : DA) : DA := fun ex env Q => t ex env fun x => u ex env fun xs => Q (x :: xs)
theorem da_nil : DEs G E X 0 [] aNil := impA pa_nil fun σ H Q' h => by
  obtain ⟨W, hn, Q, ht, k⟩ := h
  exact k [] H [] (Step.refl W) rfl ht
theorem da_cons {e : Expr} {es : List Expr} {c d : Nat} {t : DT} {u : DA} (he : DE G E X c e t) (hes : DEs G E X d es u) (hs : ∀ env : Env, starEach (e :: es) env = (false, eval e env) :: starEach es env := by intro _; rfl) : DEs G E X (c + d) (e :: es) (aCons t u) :=
  impA (pa_cons he hes (by exact hs X.env)) fun σ H Q' h => by
    obtain ⟨W, hn, Q, ht, k⟩ := h
    refine ⟨W, by omega, _, ht, fun v H1 d1 st hd hq => ⟨W.next st, by show W.m + d ≤ W.n - c; omega, _, hq, fun vs H2 ds st2 hds q => ?_⟩⟩
    exact k (v :: vs) H2 (d1 :: ds) (st.trans st2) ⟨v, vs, rfl, (W.next st).den st2 hd, hds⟩ q
def dTup (u : DA) : DT := fun ex env Q => u ex env fun ds => ds.length ≤ sizeLine ∧ Q (.tup ds)
def dLst (u : DA) : DT := fun ex env Q => u ex env fun ds => ds.length ≤ sizeLine ∧ Q (.lst ds)
theorem de_tup {es : List Expr} {x1 : Nat} {pos : Pos} {c : Nat} {u : DA} (h : DEs G E X c es u) : DE G E X c (.Tuple es x1 pos) (dTup u) := imp (pe_tup h) fun σ H Q' h => by
  obtain ⟨W, hn, Q, ht, k⟩ := h
  refine ⟨W, hn, _, ht, fun vs H1 ds st hd ⟨hl, hq⟩ => ⟨by rw [← hd.length]; exact hl, fun p hp => ?_⟩⟩
  exact k _ _ (.tup ds) (st.new hp) (den_tup hp ((W.next st).fresh hp) (by rw [← hd.length]; exact hl) hd) hq
theorem de_lst {es : List Expr} {pos : Pos} {c : Nat} {u : DA} (h : DEs G E X c es u) : DE G E X c (.List es pos) (dLst u) := imp (pe_lst h) fun σ H Q' h => by
  obtain ⟨W, hn, Q, ht, k⟩ := h
  refine ⟨W, hn, _, ht, fun vs H1 ds st hd ⟨hl, hq⟩ => ⟨by rw [← hd.length]; exact hl, fun p hp => ?_⟩⟩
  exact k _ _ (.lst ds) (st.new hp) (den_lst hp ((W.next st).fresh hp) (by rw [← hd.length]; exact hl) hd) hq

/-! ### items -/
def gIx : G2 := fun d e Q => match d, e with
  | .lst ds, .int i => ∃ x, atI ds i = some x ∧ Q x
  | .tup ds, .int i => ∃ x, atI ds i = some x ∧ Q x
  | _, _ => False
theorem denL_at {B : Addr → Prop} {H : Hp} {ds : List D} {xs : List V} {i : Int} {d : D} (h : DenL G B H ds xs) (e : atI ds i = some d) : ∃ x, atI xs i = some x ∧ Den G B H d x := by
  unfold atI at e ⊢
  rw [h.length] at e
  cases hj : ixN xs.length i with
  | none => rw [hj] at e; cases e
  | some j => rw [hj] at e; exact h.get e
theorem i_ix (hK : X.K = G.K) : IxR X (rD G gIx) := by
  intro value slice pins s σ H x y v u Q' I rx ry h hs
  obtain ⟨B, d, e, Q, hd, he, hf, hg, k⟩ := h
  cases d <;> cases e <;> try exact hg.elim
  · rename_i ds i
    obtain ⟨a, xs, rfl, na, ha, la, da⟩ := hd
    obtain ⟨z, hz, hq⟩ := hg
    obtain ⟨x, hx, dx⟩ := denL_at da hz
    exact ix_list value slice pins s σ H _ _ v u Q' I rx ry ⟨a, xs, i, x, rfl, he, SqL.of ha, hx, k _ H z (Ext.refl _ _) dx hq⟩ hs
  · rename_i ds i
    obtain ⟨a, xs, rfl, na, ha, la, da⟩ := hd
    obtain ⟨z, hz, hq⟩ := hg
    obtain ⟨x, hx, dx⟩ := denL_at da hz
    exact ix_tup value slice pins s σ H _ _ v u Q' I rx ry ⟨a, xs, i, x, rfl, he, by rw [hK]; exact ha, hx, k _ H z (Ext.refl _ _) dx hq⟩ hs
theorem de_ix {a b : Expr} {pos : Pos} {ca cb : Nat} {ta tb : DT} (hK : X.K = G.K) (ha : DE G E X ca a ta) (hb : DE G E X cb b tb) (hs : PlainIx b) : DE G E X (ca + cb) (.Subscript a b pos) (dOp gIx ta tb) :=
  imp (pe_ix (i_ix hK) ha hb hs) fun _ _ _ h => lift_op h

/-! ### calls of what is built in -/
abbrev GL := List D → (D → Prop) → Prop
def rDL (G : Gd) (g : GL) : List V → Hp → VK → Prop := fun xs H Q' => ∃ B ds Q, DenL G B H ds xs ∧ (∀ p, H p = none → ¬ B p) ∧ g ds Q ∧ ∀ r H' rd, Ext none H H' → Den G B H' rd r → Q rd → Q' r H'
def dBi (g : GL) (u : DA) : DT := fun ex env Q => u ex env fun ds => g ds Q
theorem lift_bi {g : GL} {c : Nat} {u : DA} {σ : List (Option V)} {H : Hp} {Q' : VK} (h : lift G E c (dBi g u) σ H Q') : tCB (rDL G g) (liftA G E c u) σ H Q' := by
  obtain ⟨W, hn, Q, ht, k⟩ := h
  refine ⟨W, hn, _, ht, fun vs H1 ds st hd hg => ⟨W.XB, ds, Q, hd, fun p hp => (W.next st).fresh hp, hg, fun r H' rd ex hr q => k r H' rd (st.pure ex) hr q⟩⟩
theorem de_bi {e : Expr} {es : List Expr} {x : Str} {p pos : Pos} {id : String} {g : GL} {c : Nat} {u : DA} (hc : CallR X (.builtin id) (rDL G g)) (hm : X.mg x = none) (ha : DEs G E X c (e :: es) u) (hg : Gl X x := by rfl) (hv : bootBuiltins x = some (.builtin id) := by decide +kernel)
    (hn : x ≠ "__name__" := by decide) (hdb : (x == ("__debug__" : Str)) = false := by decide) (he : starEach (e :: es) X.env = (false, eval e X.env) :: starEach es X.env := by rfl) (hpl : (backTo pos (starEach es X.env)).any (·.1) = false := by rfl) :
    DE G E X c (.Call (.Name x p) (e :: es) [] pos) (dBi g u) := imp (pe_callB hc hg hm hv ha hn hdb he hpl) fun _ _ _ h => lift_bi h
theorem de_ty {e : Expr} {es : List Expr} {x : Str} {p pos : Pos} {T : String} {g : GL} {c : Nat} {u : DA} (hc : CallR X (.type T) (rDL G g)) (hm : X.mg x = none) (ha : DEs G E X c (e :: es) u) (hg : Gl X x := by rfl) (hv : bootBuiltins x = some (.type T) := by decide +kernel)
    (hn : x ≠ "__name__" := by decide) (hdb : (x == ("__debug__" : Str)) = false := by decide) (he : starEach (e :: es) X.env = (false, eval e X.env) :: starEach es X.env := by rfl) (hpl : (backTo pos (starEach es X.env)).any (·.1) = false := by rfl) :
    DE G E X c (.Call (.Name x p) (e :: es) [] pos) (dBi g u) := imp (pe_callTy hc hg hm hv ha hn hdb he hpl) fun _ _ _ h => lift_bi h
theorem callr_imp {f : Value} {r r' : List V → Hp → VK → Prop} (h : CallR X f r) (i : ∀ xs H Q, r' xs H Q → r xs H Q) : CallR X f r' := fun pins s σ H xs us Q I r q => h pins s σ H xs us Q I r (i xs H Q q)
theorem denL1 {B : Addr → Prop} {H : Hp} {d : D} {xs : List V} (h : DenL G B H [d] xs) : ∃ x, xs = [x] ∧ Den G B H d x := by
  obtain ⟨x, r, e, h1, h2⟩ := h
  cases h2
  exact ⟨x, e, h1⟩
theorem denL2 {B : Addr → Prop} {H : Hp} {d e : D} {xs : List V} (h : DenL G B H [d, e] xs) : ∃ x y, xs = [x, y] ∧ Den G B H d x ∧ Den G B H e y := by
  obtain ⟨x, r, e, h1, h2⟩ := h
  obtain ⟨y, rfl, h3⟩ := denL1 h2
  exact ⟨x, y, e, h1, h3⟩
/-- one argument -/
def g1 (g : D → (D → Prop) → Prop) : GL := fun ds Q => match ds with
  | [d] => g d Q
  | _ => False
def g2 (g : G2) : GL := fun ds Q => match ds with
  | [d, e] => g d e Q
  | _ => False
theorem rDL1 {g : D → (D → Prop) → Prop} {xs : List V} {H : Hp} {Q' : VK} (h : rDL G (g1 g) xs H Q') : ∃ B d x Q, xs = [x] ∧ Den G B H d x ∧ (∀ p, H p = none → ¬ B p) ∧ g d Q ∧ ∀ r H' rd, Ext none H H' → Den G B H' rd r → Q rd → Q' r H' := by
  obtain ⟨B, ds, Q, hd, hf, hg, k⟩ := h
  match ds, hd, hg with
  | [d], hd, hg =>
    obtain ⟨x, rfl, hx⟩ := denL1 hd
    exact ⟨B, d, x, Q, rfl, hx, hf, hg, k⟩
theorem rDL2 {g : G2} {xs : List V} {H : Hp} {Q' : VK} (h : rDL G (g2 g) xs H Q') : ∃ B d e x y Q, xs = [x, y] ∧ Den G B H d x ∧ Den G B H e y ∧ (∀ p, H p = none → ¬ B p) ∧ g d e Q ∧ ∀ r H' rd, Ext none H H' → Den G B H' rd r → Q rd → Q' r H' := by
  obtain ⟨B, ds, Q, hd, hf, hg, k⟩ := h
  match ds, hd, hg with
  | [d, e], hd, hg =>
    obtain ⟨x, y, rfl, hx, hy⟩ := denL2 hd
    exact ⟨B, d, e, x, y, Q, rfl, hx, hy, hf, hg, k⟩
def gLen : D → (D → Prop) → Prop := fun d Q => match d with
  | .lst ds => Q (.int ds.length)
  | .tup ds => Q (.int ds.length)
  | .str x => x.length ≤ sizeLine ∧ Q (.int x.length)
  | _ => False
theorem c_len (hK : X.K = G.K) : CallR X (.builtin "len") (rDL G (g1 gLen)) := callr_imp call_len fun xs H Q' h => by
  obtain ⟨B, d, x, Q, rfl, hd, hf, hg, k⟩ := rDL1 h
  cases d <;> try exact hg.elim
  · rename_i z
    cases hd
    exact ⟨_, _, rfl, ⟨hg.1, rfl⟩, k _ H (.int z.length) (Ext.refl _ _) (den_int _) hg.2⟩
  · rename_i ds
    obtain ⟨a, ys, rfl, na, ha, la, da⟩ := hd
    exact ⟨_, _, rfl, .inl ⟨ys, SqL.of ha, rfl⟩, k _ H (.int ds.length) (Ext.refl _ _) (by rw [da.length]; exact den_int _) hg⟩
  · rename_i ds
    obtain ⟨a, ys, rfl, na, ha, la, da⟩ := hd
    exact ⟨_, _, rfl, .inr ⟨ys, by rw [hK]; exact ha, rfl⟩, k _ H (.int ds.length) (Ext.refl _ _) (by rw [da.length]; exact den_int _) hg⟩
def gList : D → (D → Prop) → Prop := fun d Q => match d with
  | .lst ds => Q (.lst ds)
  | .tup ds => Q (.lst ds)
  | _ => False
theorem c_list (hK : X.K = G.K) : CallR X (.type "list") (rDL G (g1 gList)) := callr_imp call_list_of fun xs H Q' h => by
  obtain ⟨B, d, x, Q, rfl, hd, hf, hg, k⟩ := rDL1 h
  cases d <;> try exact hg.elim
  · rename_i ds
    obtain ⟨a, ys, rfl, na, ha, la, da⟩ := hd
    exact ⟨_, ys, rfl, .inl (SqL.of ha), fun p hp => k _ _ (.lst ds) (Ext.new hp) (den_lst hp (hf p hp) la da) hg⟩
  · rename_i ds
    obtain ⟨a, ys, rfl, na, ha, la, da⟩ := hd
    exact ⟨_, ys, rfl, .inr (by rw [hK]; exact ha), fun p hp => k _ _ (.lst ds) (Ext.new hp) (den_lst hp (hf p hp) la da) hg⟩
def gTuple : D → (D → Prop) → Prop := fun d Q => match d with
  | .lst ds => Q (.tup ds)
  | .tup ds => Q (.tup ds)
  | _ => False
theorem c_tuple (hK : X.K = G.K) : CallR X (.type "tuple") (rDL G (g1 gTuple)) := callr_imp call_tuple_of fun xs H Q' h => by
  obtain ⟨B, d, x, Q, rfl, hd, hf, hg, k⟩ := rDL1 h
  cases d <;> try exact hg.elim
  · rename_i ds
    obtain ⟨a, ys, rfl, na, ha, la, da⟩ := hd
    exact ⟨_, ys, rfl, .inl ⟨SqL.of ha, fun p hp => k _ _ (.tup ds) (Ext.new hp) (den_tup hp (hf p hp) la da) hg⟩⟩
  · rename_i ds
    obtain ⟨a, ys, rfl, na, ha, la, da⟩ := hd
    exact ⟨_, ys, rfl, .inr ⟨by rw [hK]; exact ha, k _ H (.tup ds) (Ext.refl _ _) ⟨a, ys, rfl, na, ha, la, da⟩ hg⟩⟩
theorem DenL.bls {B : Addr → Prop} {H : Hp} : ∀ {bs : List Bool} {xs : List V}, DenL G B H (bs.map D.bl) xs → xs = bs.map V.bl
  | [], _, h => h
  | b :: bs, _, ⟨x, r, e, h1, h2⟩ => by subst e; rw [show x = V.bl b from h1, DenL.bls h2]; rfl
/-- all | any of a list of truths -/
def gAll : D → (D → Prop) → Prop := fun d Q => ∃ bs : List Bool, d = .lst (bs.map D.bl) ∧ Q (.bl (bs.all id))
def gAny : D → (D → Prop) → Prop := fun d Q => ∃ bs : List Bool, d = .lst (bs.map D.bl) ∧ Q (.bl (bs.any id))
theorem c_all (hc : X.calm = true) : CallR X (.builtin "all") (rDL G (g1 gAll)) := callr_imp (cr_all hc) fun xs H Q' h => by
  obtain ⟨B, d, x, Q, rfl, hd, hf, ⟨bs, rfl, hq⟩, k⟩ := rDL1 h
  obtain ⟨a, ys, rfl, na, ha, la, da⟩ := hd
  have := da.bls
  subst this
  exact ⟨a, bs, rfl, SqL.of ha, k _ H (.bl _) (Ext.refl _ _) (den_bl _) hq⟩
theorem c_any (hc : X.calm = true) : CallR X (.builtin "any") (rDL G (g1 gAny)) := callr_imp (cr_any hc) fun xs H Q' h => by
  obtain ⟨B, d, x, Q, rfl, hd, hf, ⟨bs, rfl, hq⟩, k⟩ := rDL1 h
  obtain ⟨a, ys, rfl, na, ha, la, da⟩ := hd
  have := da.bls
  subst this
  exact ⟨a, bs, rfl, SqL.of ha, k _ H (.bl _) (Ext.refl _ _) (den_bl _) hq⟩
def gInt : D → (D → Prop) → Prop := fun d Q => match d with
  | .int i => Q (.int i)
  | .bl b => Q (.int (if b then 1 else 0))
  | _ => False
theorem c_int : CallR X (.type "int") (rDL G (g1 gInt)) := callr_imp call_int1 fun xs H Q' h => by
  obtain ⟨B, d, x, Q, rfl, hd, hf, hg, k⟩ := rDL1 h
  cases d <;> try exact hg.elim
  · rename_i b
    cases hd
    exact .inr ⟨b, rfl, k _ H (.int _) (Ext.refl _ _) (den_int _) hg⟩
  · rename_i i
    cases hd
    exact .inl ⟨i, rfl, k _ H (.int i) (Ext.refl _ _) (den_int _) hg⟩
def gStrI : D → (D → Prop) → Prop := fun d Q => match d with
  | .int i => i.natAbs.log2 < 1920 ∧ Q (.str (toString i))
  | _ => False
theorem c_str : CallR X (.type "str") (rDL G (g1 gStrI)) := callr_imp call_str_int fun xs H Q' h => by
  obtain ⟨B, d, x, Q, rfl, hd, hf, hg, k⟩ := rDL1 h
  cases d <;> try exact hg.elim
  rename_i i
  cases hd
  exact ⟨i, rfl, hg.1, k _ H (.str _) (Ext.refl _ _) (den_str _) hg.2⟩
def gMax2 : G2 := gI (fun _ _ => True) fun i j => .int (if j > i then j else i)
theorem c_max2 (hc : X.calm = true) : CallR X (.builtin "max") (rDL G (g2 gMax2)) := callr_imp (call_max2 hc) fun xs H Q' h => by
  obtain ⟨B, d, e, x, y, Q, rfl, hd, he, hf, hg, k⟩ := rDL2 h
  cases d <;> cases e <;> try exact hg.elim
  rename_i i j
  cases hd; cases he
  exact ⟨i, j, rfl, k _ H (.int _) (Ext.refl _ _) (den_int _) hg.2⟩
def gMin2 : G2 := gI (fun _ _ => True) fun i j => .int (if j < i then j else i)
theorem c_min2 (hc : X.calm = true) : CallR X (.builtin "min") (rDL G (g2 gMin2)) := callr_imp (call_min2 hc) fun xs H Q' h => by
  obtain ⟨B, d, e, x, y, Q, rfl, hd, he, hf, hg, k⟩ := rDL2 h
  cases d <;> cases e <;> try exact hg.elim
  rename_i i j
  cases hd; cases he
  exact ⟨i, j, rfl, k _ H (.int _) (Ext.refl _ _) (den_int _) hg.2⟩
/-- sorted of a list of ints -/
def gSort : D → (D → Prop) → Prop := fun d Q => ∃ ns : List Int, (d = .lst (ns.map D.int)) ∧ ∀ ns' : List Int, ns'.Perm ns → ns'.Pairwise (· ≤ ·) → Q (.lst (ns'.map D.int))
theorem c_sorted : CallR X (.builtin "sorted") (rDL G (g1 gSort)) := callr_imp cr_sortedI fun xs H Q' h => by
  obtain ⟨B, d, x, Q, rfl, hd, hf, ⟨ns, rfl, hq⟩, k⟩ := rDL1 h
  obtain ⟨a, ys, rfl, na, ha, la, da⟩ := hd
  have := da.ints
  subst this
  refine ⟨a, ns, rfl, SqL.of ha, fun ns' p h1 h2 hp => ?_⟩
  have hl : (ns'.map V.int).length ≤ sizeLine := by
    rw [List.length_map, h1.length_eq]
    simpa using la
  exact k _ _ (.lst (ns'.map D.int)) (Ext.new hp) (den_lst hp (hf p hp) hl DenL.of_ints) (hq ns' h1 h2)
end
end Kn

set_option Elab.async false
set_option linter.all false
set_option maxRecDepth 100000
set_option maxHeartbeats 2100000
namespace Kn
open PySem L2
open PyProof.Rows (envOfC)
section
variable {G : Gd} {E : XK} {X : Cx} {σ : List (Option V)} {H H' : Hp}

theorem getD_set {α : Type} {l : List (Option α)} {i j : Nat} {v : Option α} : (l.set i v)[j]?.join = if i = j ∧ i < l.length then v else l[j]?.join := by
  by_cases h : i = j
  · subst h
    by_cases hi : i < l.length
    · rw [List.getElem?_set_self hi, if_pos ⟨rfl, hi⟩]; rfl
    · rw [List.getElem?_eq_none (by simpa using hi), if_neg (fun z => hi z.2), List.getElem?_eq_none (by simpa using hi)]
  · rw [List.getElem?_set_ne h, if_neg (fun z => h z.1)]
theorem xb_val {B : Addr → Prop} {env : List Sl} {i : Nat} {d : D} {v : Option V} {a : Addr} (hl : env.length = σ.length) (h : XBof B (env.set i (.val d)) (σ.set i v) a) : XBof B env σ a := by
  rcases h with h | ⟨j, s, h1, hm, h2⟩
  · exact .inl h
  · by_cases hj : i = j
    · subst hj
      by_cases hi : i < env.length
      · rw [List.getElem?_set_self hi] at h1; cases h1; cases hm
      · rw [List.getElem?_eq_none (by simpa using hi)] at h1; cases h1
    · rw [List.getElem?_set_ne hj] at h1 h2
      exact .inr ⟨j, s, h1, hm, h2⟩
theorem xb_emp {B : Addr → Prop} {env : List Sl} {i : Nat} {v : Option V} {a : Addr} (h : XBof B (env.set i .emp) (σ.set i v) a) : XBof B env σ a := by
  rcases h with h | ⟨j, s, h1, hm, h2⟩
  · exact .inl h
  · by_cases hj : i = j
    · subst hj
      by_cases hi : i < env.length
      · rw [List.getElem?_set_self hi] at h1; cases h1; cases hm
      · rw [List.getElem?_eq_none (by simpa using hi)] at h1; cases h1
    · rw [List.getElem?_set_ne hj] at h1 h2
      exact .inr ⟨j, s, h1, hm, h2⟩
theorem Den.fewer {B B' : Addr → Prop} {H : Hp} (s : ∀ b, B' b → B b) {d : D} {v : V} (h : Den G B H d v) : Den G B' H d v := Den.keep (fun _ _ _ h => h) (fun b hb => .inl (s b hb)) d v h
theorem DenL.fewer {B B' : Addr → Prop} {H : Hp} (s : ∀ b, B' b → B b) {ds : List D} {xs : List V} (h : DenL G B H ds xs) : DenL G B' H ds xs := DenL.keep (fun _ _ _ h => h) (fun b hb => .inl (s b hb)) ds xs h
theorem SlOk.fewer {H0 : Hp} {B B' : Addr → Prop} {H : Hp} (k : ∀ b, B' b → B b) {s : Sl} {v : Option V} (h : SlOk G H0 B H s v) : SlOk G H0 B' H s v := by
  cases s with
  | emp => trivial
  | val d => obtain ⟨x, e, h⟩ := h; exact ⟨x, e, h.fewer k⟩
  | own a ds => obtain ⟨xs, e, h0, h1, hl, h2⟩ := h; exact ⟨xs, e, h0, h1, hl, h2.fewer k⟩
  | slf a dx c ds => obtain ⟨xs, e, h0, h1, hl, h2⟩ := h; exact ⟨xs, e, h0, h1, hl, h2.fewer k⟩
/-- slot i holds a value from now on -/
def Wd.put (W : Wd G E σ H) (i : Nat) {d : D} {v : V} (hd : Den G W.XB H d v) : Wd G E (σ.set i (some v)) H where
  u := W.u
  n := W.n
  m := W.m
  B := W.B
  H0 := W.H0
  env := W.env.set i (.val d)
  ex := W.ex
  ug := W.ug
  hu := W.hu
  hB := W.hB
  fr := W.fr
  good := W.good
  len := by rw [List.length_set, List.length_set]; exact W.len
  sl := fun j s e => by
    have sub : ∀ b, XBof W.B (W.env.set i (.val d)) (σ.set i (some v)) b → W.XB b := fun b => xb_val W.len
    by_cases hj : i = j
    · subst hj
      by_cases hi : i < W.env.length
      · rw [List.getElem?_set_self hi] at e
        cases e
        rw [getD_set, if_pos ⟨rfl, by rw [← W.len]; exact hi⟩]
        exact ⟨v, rfl, hd.fewer sub⟩
      · rw [List.getElem?_eq_none (by simpa using hi)] at e; cases e
    · rw [List.getElem?_set_ne hj] at e
      rw [getD_set, if_neg (fun z => hj z.1)]
      exact (W.sl j s e).fewer sub
  nd := fun j k a s t h1 h2 m1 m2 h3 h4 => by
    have nj : i ≠ j := fun z => by
      subst z
      by_cases hi : i < W.env.length
      · rw [List.getElem?_set_self hi] at h1; cases h1; cases m1
      · rw [List.getElem?_eq_none (by simpa using hi)] at h1; cases h1
    have nk : i ≠ k := fun z => by
      subst z
      by_cases hi : i < W.env.length
      · rw [List.getElem?_set_self hi] at h2; cases h2; cases m2
      · rw [List.getElem?_eq_none (by simpa using hi)] at h2; cases h2
    rw [List.getElem?_set_ne nj] at h1 h3
    rw [List.getElem?_set_ne nk] at h2 h4
    exact W.nd j k a s t h1 h2 m1 m2 h3 h4
  exc := W.exc
/-- slot i is forgotten -/
def Wd.drop (W : Wd G E σ H) (i : Nat) (v : Option V) : Wd G E (σ.set i v) H where
  u := W.u
  n := W.n
  m := W.m
  B := W.B
  H0 := W.H0
  env := W.env.set i .emp
  ex := W.ex
  ug := W.ug
  hu := W.hu
  hB := W.hB
  fr := W.fr
  good := W.good
  len := by rw [List.length_set, List.length_set]; exact W.len
  sl := fun j s e => by
    have sub : ∀ b, XBof W.B (W.env.set i .emp) (σ.set i v) b → W.XB b := fun b => xb_emp
    by_cases hj : i = j
    · subst hj
      by_cases hi : i < W.env.length
      · rw [List.getElem?_set_self hi] at e
        cases e
        trivial
      · rw [List.getElem?_eq_none (by simpa using hi)] at e; cases e
    · rw [List.getElem?_set_ne hj] at e
      rw [getD_set, if_neg (fun z => hj z.1)]
      exact (W.sl j s e).fewer sub
  nd := fun j k a s t h1 h2 m1 m2 h3 h4 => by
    have nj : i ≠ j := fun z => by
      subst z
      by_cases hi : i < W.env.length
      · rw [List.getElem?_set_self hi] at h1; cases h1; cases m1
      · rw [List.getElem?_eq_none (by simpa using hi)] at h1; cases h1
    have nk : i ≠ k := fun z => by
      subst z
      by_cases hi : i < W.env.length
      · rw [List.getElem?_set_self hi] at h2; cases h2; cases m2
      · rw [List.getElem?_eq_none (by simpa using hi)] at h2; cases h2
    rw [List.getElem?_set_ne nj] at h1 h3
    rw [List.getElem?_set_ne nk] at h2 h4
    exact W.nd j k a s t h1 h2 m1 m2 h3 h4
  exc := W.exc
theorem Later.put (W : Wd G E σ H) (i : Nat) {d : D} {v : V} (hd : Den G W.XB H d v) : Later W 0 (W.put i hd) := ⟨rfl, rfl, rfl, rfl, rfl, by show W.n ≤ W.n + 0; omega, fun _ _ _ h => h, fun b h => .inl (xb_val W.len h)⟩
theorem Later.drop (W : Wd G E σ H) (i : Nat) (v : Option V) : Later W 0 (W.drop i v) := ⟨rfl, rfl, rfl, rfl, rfl, by show W.n ≤ W.n + 0; omega, fun _ _ _ h => h, fun b h => .inl (xb_emp h)⟩

/-! ### x = e -/
def sSet (i : Nat) (te : DT) : DS := fun ex de env => te ex env fun d => de.nx (env.set i (.val d))
theorem ds_set {i : Nat} {x : Str} {e : Expr} {pos pos' : Pos} {c : Nat} {te : DT} (hN : X.N.Nodup) (hi : X.N[i]? = some x) (hx : Loc X.env.scope x) (he : DE G E X c e te) (hs : swapsWith e (some (.Name x pos')) pos.line X.env = pure false := by rfl)
    (hf : X.fn x = true ∨ X.env.scope.names.lookup x = some .local := by first | exact .inl rfl | exact .inr rfl) : DSt G E X c (.Assign [.Name x pos'] e pos) (sSet i te) :=
  impS (ps_set hN hi hx he hs hf) fun Dn σ H h => by
    obtain ⟨W, hn, de, ht, k1, k2, k3, k4⟩ := h
    refine ⟨W, hn, _, ht, fun v H' d st hd hq => ?_⟩
    have hd' : Den G (W.next st).XB H' d v := hd
    exact k1 _ H' ((W.next st).put i hd') (((Later.next st).trans (Later.put _ i hd')).more (by omega)) hq
/-- x op= e (of ints; texts) -/
def sAug (i : Nat) (g : G2) (te : DT) : DS := fun ex de env => ∃ x, env[i]? = some (.val x) ∧ te ex env fun d => g x d fun z => de.nx (env.set i (.val z))
theorem ds_aug {i : Nat} {x : Str} {e : Expr} {op : Operator} {pos pos' : Pos} {c : Nat} {te : DT} {g : G2} {ti : TIp} (hN : X.N.Nodup) (hi : X.N[i]? = some x) (hx : Loc X.env.scope x) (he : DE G E X c e te) (ho : PIp X op ti)
    (hg : ∀ x y H Q', rD G g x y H Q' → ti x y H Q') (hf : X.fn x = true ∨ X.env.scope.names.lookup x = some .local := by first | exact .inl rfl | exact .inr rfl) : DSt G E X c (.AugAssign (.Name x pos') op e pos) (sAug i g te) :=
  impS (ps_aug hN hi hx he ho hf) fun Dn σ H h => by
    obtain ⟨W, hn, de, ⟨z, hz, ht⟩, k1, k2, k3, k4⟩ := h
    obtain ⟨xv, hxv, hdx⟩ := W.sl i _ hz
    refine ⟨xv, ?_, W, hn, _, ht, fun v H' d st hd hq => ?_⟩
    · cases hs : σ[i]? with
      | none => rw [hs] at hxv; cases hxv
      | some o => rw [hs] at hxv; rw [show o = some xv from hxv]
    refine hg _ _ _ _ ⟨W.XB, z, d, _, W.den st hdx, hd, fun p hp => (W.next st).fresh hp, hq, fun r H2 rd ex hr q => ?_⟩
    have st2 : Step W c H2 := st.pure ex
    have hd' : Den G (W.next st2).XB H2 rd r := hr
    exact k1 _ H2 ((W.next st2).put i hd') (((Later.next st2).trans (Later.put _ i hd')).more (by omega)) q
/-- a value dropped -/
def sExpr (te : DT) : DS := fun ex de env => te ex env fun _ => de.nx env
theorem ds_expr {e : Expr} {pos : Pos} {c : Nat} {te : DT} (he : DE G E X c e te) (hs : swapsWith e none pos.line X.env = pure false := by rfl) : DSt G E X c (.Expr e pos) (sExpr te) :=
  impS (ps_expr he hs) fun Dn σ H h => by
    obtain ⟨W, hn, de, ht, k1, k2, k3, k4⟩ := h
    exact ⟨W, hn, _, ht, fun v H' d st hd hq => k1 _ H' (W.next st) (Later.next st) hq⟩

/-! ### the call of a def -/
/-- an exception of a callee reaches
  what this body wants of exceptions -/
theorem run_fnd {k : Nat} {f : Addr} {fd : FuncData} {ps : List Str} {cf : Nat} {S : FSpec} {pins : List (Addr × Obj)} {s : Shared} {Q' : VK} {us : List Value} {vs : List V} {hK : X.K = G.K}
    (F : FnD G X.prog X.w X.mg X.base k f fd ps cf S) (hr : Room k X.A) (hgd : X.A.guards = some []) (hx : Passes (L2.CX X.prog X.w) X E) (I : Inv X pins σ H s) (r : Vals vs us) (hl : vs.length = ps.length) (args : Args) (hb : BindsTo s fd args (ps.zip us))
    (h : liftF G cf S vs H Q' E) : codeAny (model X.prog X.w) X.A (.call (.ref f) args) (fun r s' => match r with
      | .ok (.ret v) => EP X pins σ Q' v s'
      | .ok _ => False
      | .error e => X.xe e s') s := by
  have e0 : Env0 X.prog X.w G.K X.mg X.base X.A X.stack s H := by rw [← hK]; exact I.env0
  refine codeAny_mono (F.run X.A X.stack s H args us vs Q' E hr hgd e0 hb r hl h) fun r s' hq => ?_
  cases r with
  | error e =>
    exact hx pins σ H s e s' I hq
  | ok fl =>
    cases fl with
    | ret u => exact I.after hq
    | next => exact hq.elim
    | brk => exact hq.elim
    | cont => exact hq.elim
end
end Kn

set_option Elab.async false
set_option linter.all false
set_option maxRecDepth 100000
set_option maxHeartbeats 2100000
namespace Kn
open PySem L2
open PyProof.Rows (envOfC)
section
variable {G : Gd} {E : XK} {X : Cx} {σ : List (Option V)} {H H' : Hp}

/-- from a body's state: what a callee of the promise S is handed -/
theorem lift_callee {W : Wd G E σ H} {c cf : Nat} {H1 : Hp} (st : Step W c H1) (hn : W.m + (c + cf) ≤ W.n) {S : FSpec} {ds : List D} {vs : List V} {Q : D → Prop} {Q' : VK} (hd : DenL G W.XB H1 ds vs) (hs : S ds Q W.ex)
    (k : ∀ v H' d, Step W (c + cf) H' → Den G W.XB H' d v → Q d → Q' v H') : liftF G cf S vs H1 Q' E := by
  refine ⟨W.u, W.n - c, W.XB, ds, Q, W.ex, W.ug, by omega, fun p e => ⟨.inl (W.hu p e).1, .inl (W.hu p e).2⟩, fun a ha z => (W.next st).fresh z ha, st.good, hd, hs, fun v H' d e g hd' q => ?_, fun x C d H' e g hx q => ?_⟩
  · exact k v H' d ⟨st.ext.trans e, by rw [Nat.sub_add_eq]; exact g⟩ hd' q
  · refine W.exc x C d H' ((W.fr.trans st.ext).trans e) (g.less (by omega)) ?_ q
    obtain ⟨e1, dd, xs, e2, e3, e4, e5⟩ := hx
    exact ⟨e1, dd, xs, e2, e3, e4, e5.fewer fun b z => .inl z⟩

/-- what a def's body knows of where it stands -/
structure Xk (G : Gd) (E : XK) (k : Nat) (X : Cx) : Prop where
  K : X.K = G.K
  room : Room k X.A
  gd : X.A.guards = some []
  pass : Passes (L2.CX X.prog X.w) X E
  calm : X.calm = true
theorem Xk.u (x : Xk G E k X) {n : Nat} (h : n ≤ 100 := by decide) : X.A.units + n < cLine := by have := x.room.un; omega
theorem Xk.u64 (x : Xk G E k X) : X.A.units + 64 < cLine := by have := x.room.un; omega
theorem Xk.u65 (x : Xk G E k X) : X.A.units + 65 < cLine := by have := x.room.un; omega

/-- the def x of the module, known by its promise -/
structure Fk (G : Gd) (P : Program) (w : World) (mg : Str → Option Value) (base : Heap) (k : Nat) (x : Str) (ps : List Str) (cf : Nat) (S : FSpec) : Prop where
  ex : ∃ (f : Addr) (fd : FuncData), FnD G P w mg base k f fd ps cf S ∧ mg x = some (.ref f) ∧ PySem.W.keepIn G.K (.ref f) = true ∧ Binds G.K fd ps []
def dCall (n : Nat) (S : FSpec) (u : DA) : DT := fun ex env Q => u ex env fun ds => ds.length = n ∧ S ds Q ex
theorem de_call {j k : Nat} {x : Str} {ps : List Str} {c cf : Nat} {S : FSpec} {e : Expr} {es : List Expr} {u : DA} {p pos : Pos} (F : Fk G X.prog X.w X.mg X.base j x ps cf S) (xk : Xk G E k X) (ha : DEs G E X c (e :: es) u) (hj : j ≤ k := by decide) (hg : Gl X x := by rfl) (hdb : (x == ("__debug__" : Str)) = false := by decide)
    (he : starEach (e :: es) X.env = (false, eval e X.env) :: starEach es X.env := by rfl) (hpl : (backTo pos (starEach es X.env)).any (·.1) = false := by rfl) : DE G E X (c + cf) (.Call (.Name x p) (e :: es) [] pos) (dCall ps.length S u) := by
  obtain ⟨f, fd, hF0, hm, hk, hb⟩ := F.ex
  have hF := hF0.mono hj
  rw [← xk.K] at hk hb
  refine ⟨fun pins s σ H Q' I h => ?_⟩
  obtain ⟨W, hn, Q, ht, kk⟩ := h
  have args := ha.run pos pins s σ H (fun vs H1 => vs.length = ps.length ∧ liftF G cf S vs H1 Q' E) I ⟨W, by omega, _, ht, fun vs H1 ds st hd ⟨hl, hs⟩ => ⟨by rw [← hd.length]; exact hl, lift_callee st hn hd hs kk⟩⟩
  refine wpAny_Call_Name_kw (ld_glob I hg hm ?_ hdb); refine PySem.W.callWith_K (h₀ := X.base) I.ok.mod.kin hk (thn args ?_) he hpl
  intro us s1 ⟨vs, H1, I1, r1, hl, q1⟩
  refine ⟨I1.kIn, wpAny_call ?_⟩
  have hb' : BindsTo s1 fd ⟨us, []⟩ (ps.zip us) := by
    have z := hb s1 us I1.kIn (by rw [List.append_nil, ← r1.length]; exact hl)
    rw [List.append_nil] at z
    exact z
  exact run_fnd (hK := xk.K) hF xk.room xk.gd xk.pass I1 r1 hl _ hb' q1
/-- f() -/
theorem de_call0 {j k : Nat} {x : Str} {cf : Nat} {S : FSpec} {p pos : Pos} (F : Fk G X.prog X.w X.mg X.base j x [] cf S) (xk : Xk G E k X) (hj : j ≤ k := by decide) (hg : Gl X x := by rfl) (hdb : (x == ("__debug__" : Str)) = false := by decide) :
    DE G E X cf (.Call (.Name x p) [] [] pos) (dCall 0 S aNil) := by
  obtain ⟨f, fd, hF0, hm, hk, hb⟩ := F.ex
  have hF := hF0.mono hj
  rw [← xk.K] at hk hb
  refine ⟨fun pins s σ H Q' I h => ?_⟩
  obtain ⟨W, hn, Q, ⟨_, hs⟩, kk⟩ := h
  refine wpAny_Call_Name_kw (ld_glob I hg hm ?_ hdb); refine PySem.W.callWith_K0 I.kIn hk (wpAny_call ?_)
  have q1 : liftF G cf S [] H Q' E := lift_callee (ds := []) (vs := []) (Step.refl W) (by omega) (show DenL G W.XB H [] [] from rfl) hs (by rw [Nat.zero_add]; exact kk)
  exact run_fnd (hK := xk.K) (ps := []) hF xk.room xk.gd xk.pass I .nil rfl _ (hb s [] I.kIn rfl) q1
/-- f(e, .., k = v, ..): perm puts the given values in the parameters' order -/
abbrev DK (G : Gd) (E : XK) (X : Cx) (c : Nat) (kws : List Keyword) (t : DA) : Prop := PK X kws (liftA G E c t)
theorem dk_nil : DK G E X 0 [] aNil := ⟨fun pos pins s σ H Q' I h => pk_nil.run pos pins s σ H Q' I (by
  obtain ⟨W, hn, Q, ht, k⟩ := h
  exact k [] H [] (Step.refl W) rfl ht)⟩
theorem dk_cons {e : Expr} {kws : List Keyword} {nm : Option Str} {kpos : Pos} {c d : Nat} {t : DT} {u : DA} (he : DE G E X c e t) (hr : DK G E X d kws u) : DK G E X (c + d) (⟨nm, e, kpos⟩ :: kws) (aCons t u) :=
  ⟨fun pos pins s σ H Q' I h => (pk_cons (nm := nm) he hr).run pos pins s σ H Q' I (by
    obtain ⟨W, hn, Q, ht, k⟩ := h
    refine ⟨W, by omega, _, ht, fun v H1 d1 st hd hq => ⟨W.next st, by show W.m + d ≤ W.n - c; omega, _, hq, fun vs H2 ds st2 hds q => ?_⟩⟩
    exact k (v :: vs) H2 (d1 :: ds) (st.trans st2) ⟨v, vs, rfl, (W.next st).den st2 hd, hds⟩ q)⟩
end
end Kn

set_option Elab.async false
set_option linter.all false
set_option maxRecDepth 100000
set_option maxHeartbeats 2100000
namespace Kn
open PySem L2 RZ
open PyProof.Rows (envOfC)
section
variable {G : Gd} {E : XK} {X : Cx} {σ : List (Option V)} {H H' : Hp} {tg : Expr}

/-! ### what is walked -/
/-- J walks the values ds, whatever is done beside them -/
structure Walks (G : Gd) (B : Addr → Prop) (H1 : Hp) (J : It) (ds : List D) : Prop where
  len : ds.length ≤ sizeLine
  go : ∀ (i : Nat) (H' : Hp) (B' : Addr → Prop), (∀ b o, ¬ B b → H1 b = some o → H' b = some o) → (∀ b, B' b → B b ∨ H1 b = none) → (∀ p, H' p = none → ¬ B' p) → i < ds.length →
    J.go i H' ∧ ∀ x H'', J.yld i H' x H'' → Ext none H' H'' ∧ ∃ d, ds[i]? = some d ∧ Den G B' H'' d x
  stop : ∀ (i : Nat) (H' : Hp), (∀ b o, ¬ B b → H1 b = some o → H' b = some o) → ds.length ≤ i → J.stop i H'
def liftI (G : Gd) (E : XK) (c : Nat) (ti : DA) : TI := fun σ H R => ∃ W : Wd G E σ H, W.m + c ≤ W.n ∧ ∃ Q, ti W.ex W.env Q ∧ ∀ J H1 ds, Step W c H1 → Walks G W.XB H1 J ds → Q ds → R J H1
abbrev DI (G : Gd) (E : XK) (X : Cx) (tg : Expr) (c : Nat) (it : Expr) (ti : DA) : Prop := PI X tg it (liftI G E c ti)
theorem impI {it : Expr} {t t' : TI} (h : PI X tg it t) (i : ∀ σ H R, t' σ H R → t σ H R) : PI X tg it t' := ⟨fun pins s σ H R I q => h.run pins s σ H R I (i σ H R q)⟩
/-- a list or a tuple -/
def iSeq (te : DT) : DA := fun ex env Q => te ex env fun d => match d with
  | .lst ds => Q ds
  | .tup ds => Q ds
  | _ => False
def iSq (K : PySem.W.Frag) (tl : TE) : TI := fun σ H R => tl σ H fun x H1 => ∃ a, x = .ref a ∧ (((∃ xs, SqL K H1 a xs) ∧ R (Itl K a) H1) ∨ ((∃ xs, SqT K H1 a xs) ∧ R (Itt K a) H1))
theorem pi_sq {l : Expr} {tl : TE} (hl : PE X l tl) : PI X tg l (iSq X.K tl) := by
  constructor
  intro pins s σ H R I h
  refine thn (hl.run pins s σ H _ I h) ?_
  rintro v s1 ⟨x, H1, I1, r1, a, rfl, q1⟩
  cases r1
  have fp : ∀ b ∈ [s1.heap.objs.size], FpOk X pins H1 b := by
    intro b hb
    rw [List.mem_singleton.mp hb]; exact I1.fpOk (Nat.le_refl _) (I1.hok.fresh (Nat.le_refl _))
  have kept : ∀ {ob : Obj} {tk : Nat}, L2.Inv X pins σ H1 { s1 with heap := s1.heap.push ob, toks := tk } := fun {ob tk} => I1.kept (t' := tk) fun b o e => Heap.get?_push_of_some _ e
  rcases q1 with ⟨⟨xs, hq⟩, q⟩ | ⟨⟨xs, hq⟩, q⟩
  · obtain ⟨its, rv, p, hz⟩ := I1.list hq
    exact wpAny_pyIter_list p.isList ⟨s1.heap.objs.size, [s1.heap.objs.size], _, Itl X.K a, H1, rfl, kept, turn_list a _, ⟨_, Heap.get?_push_size _ rfl, rfl, rfl⟩, fp, q⟩
  · obtain ⟨its, rv, p, hz⟩ := I1.tuple hq
    have p' : s1.heap.IsTuple a its.toArray := p
    exact wpAny_pyIter_tuple p' ⟨s1.heap.objs.size, [s1.heap.objs.size], _, Itt X.K a, H1, rfl, kept, turn_tuple a _, ⟨_, Heap.get?_push_size _ rfl, rfl, rfl⟩, fp, q⟩
theorem keep_sqT {K : PySem.W.Frag} {B : Addr → Prop} {H1 H' : Hp} {a : Addr} {xs : List V} (k : ∀ b o, ¬ B b → H1 b = some o → H' b = some o) (na : ¬ B a ∨ KTup K a xs) (h : SqT K H1 a xs) : SqT K H' a xs := by
  rcases na with na | na
  case inr => exact .inr na
  rcases h with (h
    | ⟨o, h⟩) | h
  · exact .inl (.inl (k _ _ na h))
  · exact .inl (.inr ⟨o, k _ _ na h⟩)
  · exact .inr h
theorem walks_lst {B : Addr → Prop} {H1 : Hp} {a : Addr} {xs : List V} {ds : List D} (na : ¬ B a) (ha : H1 a = some (.lst xs)) (hl : xs.length ≤ sizeLine) (hd : DenL G B H1 ds xs) : Walks G B H1 (Itl G.K a) ds := by
  have e := hd.length
  refine ⟨by omega, fun i H' B' k s hf hi => ?_, fun i H' k hi => ⟨xs, SqL.of (k _ _ na ha), by omega⟩⟩
  have ha' := k _ _ na ha
  refine ⟨⟨xs, xs[i], SqL.of ha', List.getElem?_eq_getElem (by omega)⟩, fun x H'' y => ?_⟩
  obtain ⟨rfl, y⟩ := y
  obtain ⟨d, h1, h2⟩ := hd.getV (y xs (SqL.of ha'))
  exact ⟨Ext.refl _ _, d, h1, Den.keep k s d x h2⟩
theorem walks_tup {B : Addr → Prop} {H1 : Hp} {a : Addr} {xs : List V} {ds : List D} (na : ¬ B a ∨ KTup G.K a xs) (ha : SqT G.K H1 a xs) (hl : xs.length ≤ sizeLine) (hd : DenL G B H1 ds xs) : Walks G B H1 (Itt G.K a) ds := by
  have e := hd.length
  refine ⟨by omega, fun i H' B' k s hf hi => ?_, fun i H' k hi => ⟨xs, keep_sqT k na ha, by omega⟩⟩
  have ha' := keep_sqT k na ha
  refine ⟨⟨xs, xs[i], ha', List.getElem?_eq_getElem (by omega)⟩, fun x H'' y => ?_⟩
  obtain ⟨rfl, y⟩ := y
  obtain ⟨d, h1, h2⟩ := hd.getV (y xs ha')
  exact ⟨Ext.refl _ _, d, h1, Den.keep k s d x h2⟩
theorem di_seq {l : Expr} {c : Nat} {te : DT} (hK : X.K = G.K) (hl : DE G E X c l te) : DI G E X tg c l (iSeq te) := impI (pi_sq hl) fun σ H R h => by
  obtain ⟨W, hn, Q, ht, k⟩ := h
  refine ⟨W, hn, _, ht, fun v H1 d st hd hq => ?_⟩
  cases d <;> try exact hq.elim
  · rename_i ds
    obtain ⟨a, xs, rfl, na, ha, la, da⟩ := hd
    exact ⟨a, rfl, .inl ⟨⟨xs, SqL.of ha⟩, by rw [hK]; exact k _ H1 ds st (walks_lst na ha la da) hq⟩⟩
  · rename_i ds
    obtain ⟨a, xs, rfl, na, ha, la, da⟩ := hd
    exact ⟨a, rfl, .inr ⟨⟨xs, by rw [hK]; exact ha⟩, by rw [hK]; exact k _ H1 ds st (walks_tup na ha la da) hq⟩⟩
/-- range(n), range(a, b) -/
def rangeD (lo : Int) (n : Nat) : List D := (List.range n).map fun (i : Nat) => D.int (lo + (i : Int))
theorem walks_rng {B : Addr → Prop} {H1 : Hp} {lo : Int} {n : Nat} (hl : n ≤ sizeLine) : Walks G B H1 (Itr lo n) (rangeD lo n) := by
  have e : (rangeD lo n).length = n := by simp [rangeD]
  refine ⟨by omega, fun i H' B' k s hf hi => ⟨by show i < n; omega, fun x H'' y => ?_⟩, fun i H' k hi => by show n ≤ i; omega⟩
  obtain ⟨rfl, rfl⟩ := y
  refine ⟨Ext.refl _ _, .int (lo + i), ?_, den_int _⟩
  rw [e] at hi
  simp [rangeD, hi]
def iRange1 (u : DA) : DA := fun ex env Q => u ex env fun ds => ∃ j : Int, ds = [.int j] ∧ j ≤ 16777216 ∧ -(2 ^ 62) ≤ j ∧ Q (rangeD 0 j.toNat)
def iRange2 (u : DA) : DA := fun ex env Q => u ex env fun ds => ∃ i j : Int, ds = [.int i, .int j] ∧ j - i ≤ 16777216 ∧ -(2 ^ 62) ≤ i ∧ i < 2 ^ 62 ∧ -(2 ^ 62) ≤ j ∧ j < 2 ^ 62 ∧ Q (rangeD i (j - i).toNat)
theorem di_range1 {a : Expr} {c : Nat} {u : DA} {p pos : Pos} (hm : X.mg "range" = none) (ha : DEs G E X c [a] u) (hg : Gl X "range" := by rfl) (hs : starEach [a] X.env = [(false, eval a X.env)] := by rfl) : DI G E X tg c (.Call (.Name "range" p) [a] [] pos) (iRange1 u) :=
  impI (pi_range1 hg hm ha hs) fun σ H R h => by
    obtain ⟨W, hn, Q, ht, k⟩ := h
    refine ⟨W, hn, _, ht, fun vs H1 ds st hd ⟨j, e, h1, h2, hq⟩ => ?_⟩
    subst e
    obtain ⟨x, rfl, hx⟩ := denL1 hd
    cases hx
    have hs := sizeLine_eq
    exact ⟨j, rfl, h2, by omega, k _ H1 _ st (walks_rng (by omega)) hq⟩
theorem di_range2 {a b : Expr} {c : Nat} {u : DA} {p pos : Pos} (hm : X.mg "range" = none) (ha : DEs G E X c [a, b] u) (hg : Gl X "range" := by rfl) (hs : starEach [a, b] X.env = [(false, eval a X.env), (false, eval b X.env)] := by rfl)
    (hs2 : starEach [b] X.env = [(false, eval b X.env)] := by rfl) : DI G E X tg c (.Call (.Name "range" p) [a, b] [] pos) (iRange2 u) :=
  impI (pi_range2 hg hm ha hs hs2) fun σ H R h => by
    obtain ⟨W, hn, Q, ht, k⟩ := h
    refine ⟨W, hn, _, ht, fun vs H1 ds st hd ⟨i, j, e, h0, h1, h2, h3, h4, hq⟩ => ?_⟩
    subst e
    obtain ⟨x, y, rfl, hx, hy⟩ := denL2 hd
    cases hx; cases hy
    have hs := sizeLine_eq
    exact ⟨i, j, rfl, ⟨h1, h2, h3, h4⟩, k _ H1 _ st (walks_rng (by omega)) hq⟩
/-- zip of two lists, of two tuples -/
def zipD : List D → List D → List D
  | a :: as, b :: bs => .tup [a, b] :: zipD as bs
  | _, _ => []
theorem zipD_len : ∀ as bs : List D, (zipD as bs).length = min as.length bs.length
  | [], _ => by simp [zipD]
  | _ :: _, [] => by simp [zipD]
  | a :: as, b :: bs => by simp only [zipD, List.length_cons, zipD_len as bs]; omega
theorem zipD_get : ∀ (as bs : List D) (i : Nat) (a b : D), as[i]? = some a → bs[i]? = some b → (zipD as bs)[i]? = some (.tup [a, b])
  | [], _, _, _, _, h, _ =>
    by simp at h
  | _ :: _, [], _, _, _, _, h =>
    by simp at h
  | a :: as, b :: bs, 0, _, _, h1, h2 => by simp at h1 h2; subst h1; subst h2; rfl
  | a :: as, b :: bs, i + 1, x, y, h1, h2 => zipD_get as bs i x y (by simpa using h1) (by simpa using h2)
theorem two_size : ([] : List V).length + 2 ≤ sizeLine := by rw [sizeLine_eq]; decide
theorem den_pair {B : Addr → Prop} {H : Hp} {T : Addr} {a b : D} {x y : V} (hT : H T = none) (nb : ¬ B T) (hx : Den G B H a x) (hy : Den G B H b y) : Den G B (upd H T (.tup [x, y])) (.tup [a, b]) (.ref T) :=
  den_tup hT nb two_size ⟨x, [y], rfl, hx, y, [], rfl, hy, rfl⟩
def zipG (ds : List D) (Q : List D → Prop) : Prop := match ds with
  | [.lst as, .lst bs] => Q (zipD as bs)
  | [.tup as, .tup bs] => Q (zipD as bs)
  | _ => False
theorem zip_cases {ds : List D} {Q : List D → Prop} (h : zipG ds Q) : (∃ as bs, ds = [.lst as, .lst bs] ∧ Q (zipD as bs)) ∨ ∃ as bs, ds = [.tup as, .tup bs] ∧ Q (zipD as bs) := by
  unfold zipG at h
  split at h
  · exact .inl ⟨_, _, rfl, h⟩
  · exact .inr ⟨_, _, rfl, h⟩
  · exact h.elim
theorem walks_zipL {B : Addr → Prop} {H1 : Hp} {a b : Addr} {xs ys : List V} {as bs : List D} (na : ¬ B a) (nb : ¬ B b) (ha : H1 a = some (.lst xs)) (hb : H1 b = some (.lst ys)) (la : xs.length ≤ sizeLine) (da : DenL G B H1 as xs) (db : DenL G B H1 bs ys) :
    Walks G B H1 (Itz G.K a b) (zipD as bs) := by
  have e1 := da.length
  have e2 := db.length
  have e3 := zipD_len as bs
  refine ⟨by omega, fun i H' B' k s hf hi => ?_, fun i H' k hi => ⟨xs, ys, SqL.of (k _ _ na ha), SqL.of (k _ _ nb hb), by omega⟩⟩
  have ha' := k _ _ na ha
  have hb' := k _ _ nb hb
  refine ⟨⟨xs, ys, xs[i], ys[i], SqL.of ha', SqL.of hb', List.getElem?_eq_getElem (by omega), List.getElem?_eq_getElem (by omega)⟩, fun x H'' yl => ?_⟩
  obtain ⟨T, x1, y1, rfl, hT, rfl, f1, f2⟩ := yl
  obtain ⟨d, g1, g2⟩ := da.getV (f1 xs (SqL.of ha'))
  obtain ⟨d2, g3, g4⟩ := db.getV (f2 ys (SqL.of hb'))
  exact ⟨Ext.new hT, _, zipD_get as bs i d d2 g1 g3, den_pair hT (hf T hT) (Den.keep k s d x1 g2) (Den.keep k s d2 y1 g4)⟩
theorem walks_zipT {B : Addr → Prop} {H1 : Hp} {a b : Addr} {xs ys : List V} {as bs : List D} (na : ¬ B a ∨ KTup G.K a xs) (nb : ¬ B b ∨ KTup G.K b ys) (ha : SqT G.K H1 a xs) (hb : SqT G.K H1 b ys) (la : xs.length ≤ sizeLine) (da : DenL G B H1 as xs) (db : DenL G B H1 bs ys) :
    Walks G B H1 (ItzT G.K a b) (zipD as bs) := by
  have e1 := da.length
  have e2 := db.length
  have e3 := zipD_len as bs
  refine ⟨by omega, fun i H' B' k s hf hi => ?_, fun i H' k hi => ⟨xs, ys, keep_sqT k na ha, keep_sqT k nb hb, by omega⟩⟩
  have ha' := keep_sqT k na ha
  have hb' := keep_sqT k nb hb
  refine ⟨⟨xs, ys, xs[i], ys[i], ha', hb', List.getElem?_eq_getElem (by omega), List.getElem?_eq_getElem (by omega)⟩, fun x H'' yl => ?_⟩
  obtain ⟨T, x1, y1, rfl, hT, rfl, f1, f2⟩ := yl
  obtain ⟨d, g1, g2⟩ := da.getV (f1 xs ha')
  obtain ⟨d2, g3, g4⟩ := db.getV (f2 ys hb')
  exact ⟨Ext.new hT, _, zipD_get as bs i d d2 g1 g3, den_pair hT (hf T hT) (Den.keep k s d x1 g2) (Den.keep k s d2 y1 g4)⟩
def iZip (u : DA) : DA := fun ex env Q => u ex env fun ds => zipG ds Q
theorem di_zip {e e2 : Expr} {c : Nat} {u : DA} {p pos tpos : Pos} {elts : List Expr} {kk : Nat} (hK : X.K = G.K) (hm : X.mg "zip" = none) (ha : DEs G E X c [e, e2] u) (hg : Gl X "zip" := by rfl)
    (hs : starEach [e, e2] X.env = (false, eval e X.env) :: starEach [e2] X.env := by rfl) (hpl : (backTo pos (starEach [e2] X.env)).any (·.1) = false := by rfl) : DI G E X (.Tuple elts kk tpos) c (.Call (.Name "zip" p) [e, e2] [] pos) (iZip u) :=
  impI (pi_zipA hg hm ha hs hpl) fun σ H R h => by
    obtain ⟨W, hn, Q, ht, k⟩ := h
    refine ⟨W, hn, _, ht, fun vs H1 ds st hd hq => ?_⟩
    rcases zip_cases hq with ⟨as, bs, rfl, hq⟩ | ⟨as, bs, rfl, hq⟩
    ·
      obtain ⟨x, y, rfl, hx, hy⟩ := denL2 hd
      obtain ⟨a, xs, rfl, na, ha, la, da⟩ := hx
      obtain ⟨b, ys, rfl, nb, hb, lb, db⟩ := hy
      exact ⟨a, b, xs, ys, rfl, .inl ⟨SqL.of ha, SqL.of hb, by rw [hK]; exact k _ H1 _ st (walks_zipL na nb ha hb la da db) hq⟩⟩
    ·
      obtain ⟨x, y, rfl, hx, hy⟩ := denL2 hd
      obtain ⟨a, xs, rfl, na, ha, la, da⟩ := hx
      obtain ⟨b, ys, rfl, nb, hb, lb, db⟩ := hy
      exact ⟨a, b, xs, ys, rfl, .inr ⟨by rw [hK]; exact ha, by rw [hK]; exact hb, by rw [hK]; exact k _ H1 _ st (walks_zipT na nb ha hb la da db) hq⟩⟩
end
end Kn

set_option Elab.async false
set_option linter.all false
set_option maxRecDepth 100000
set_option maxHeartbeats 2100000
namespace Kn
open PySem L2 RZ
open PyProof.Rows (envOfC)
section
variable {G : Gd} {E : XK} {X : Cx} {σ : List (Option V)} {H H' : Hp} {tg : Expr}

/-! ### targets -/
abbrev DG := D → List Sl → (List Sl → Prop) → Prop
/-- nothing but slots changes; the state's other parts stay -/
structure Alike {σ σ' : List (Option V)} {H H' : Hp} (W : Wd G E σ H) (W' : Wd G E σ' H') : Prop where
  later : Later W 0 W'
  n : W'.n = W.n
def liftG (G : Gd) (E : XK) (sl : List Nat) (t : DG) : TG := fun v σ H Q' => ∃ (W : Wd G E σ H) (d : D) (Q : List Sl → Prop), Den G W.XB H d v ∧ t d W.env Q ∧ ∀ σ' (W' : Wd G E σ' H), Alike W W' → (∀ i, i ∉ sl → σ'[i]? = σ[i]?) ∧ σ'.length = σ.length → Q W'.env → Q' σ' H
abbrev DTg (G : Gd) (E : XK) (X : Cx) (tg : Expr) (sl : List Nat) (t : DG) : Prop := PG X tg (liftG G E sl t)
theorem impG {t t' : TG} (h : PG X tg t) (i : ∀ v σ H Q, t' v σ H Q → t v σ H Q) : PG X tg t' := ⟨fun pins s σ H v u Q I r q => h.run pins s σ H v u Q I r (i v σ H Q q)⟩
def tgName (i : Nat) : DG := fun d env Q => Q (env.set i (.val d))
theorem dg_name {i : Nat} {x : Str} {pos : Pos} (hN : X.N.Nodup) (hi : X.N[i]? = some x) (hx : Loc X.env.scope x) (hf : X.fn x = true ∨ X.env.scope.names.lookup x = some .local := by first | exact .inl rfl | exact .inr rfl | assumption) : DTg G E X (.Name x pos) [i] (tgName i) :=
  impG (pg_name hN hi hx hf) fun v σ H Q' h => by
    obtain ⟨W, d, Q, hd, ht, k⟩ := h
    exact k _ (W.put i hd) ⟨Later.put W i hd, rfl⟩ ⟨(fun j hj => List.getElem?_set_ne (fun z => hj (by rw [z]; exact List.mem_singleton_self _))), List.length_set⟩ ht
/-- a, b (names) of a pair -/
def tgTwo (i j : Nat) : DG := fun d env Q => match d with
  | .tup [a, b] => Q ((env.set i (.val a)).set j (.val b))
  | _ => False
theorem two_cases {i j : Nat} {d : D} {env : List Sl} {Q : List Sl → Prop} (h : tgTwo i j d env Q) : ∃ a b, d = .tup [a, b] ∧ Q ((env.set i (.val a)).set j (.val b)) := by
  unfold tgTwo at h
  split at h
  · exact ⟨_, _, rfl, h⟩
  · exact h.elim
theorem dg_two {i j : Nat} {x y : Str} {pos p1 p2 : Pos} {k : Nat} (hK : X.K = G.K) (hc : X.calm = true) (hN : X.N.Nodup) (hi : X.N[i]? = some x) (hx : Loc X.env.scope x) (hj : X.N[j]? = some y) (hy : Loc X.env.scope y)
    (h1 : PG X (.Name x p1) (gName i)) (h2 : PG X (.Name y p2) (gName j)) : DTg G E X (.Tuple [.Name x p1, .Name y p2] k pos) [i, j] (tgTwo i j) :=
  impG (pg_tup (n := 2) hc (pgs_cons h1 (pgs_cons h2 pgs_nil))) fun v σ H Q' h => by
    obtain ⟨W, d, Q, hd, ht, kk⟩ := h
    obtain ⟨a, b, rfl, ht⟩ := two_cases ht
    obtain ⟨p, xs, rfl, np, hp, lp, dl⟩ := hd
    obtain ⟨u, w, rfl, hu, hw⟩ := denL2 dl
    refine ⟨p, [u, w], rfl, by rw [hK]; exact hp, rfl, u, [w], rfl, w, [], rfl, rfl, ?_⟩
    have hu' : Den G W.XB H a u := hu
    have hw' : Den G (W.put i hu').XB H b w := hw.fewer fun b hb => xb_val W.len hb
    exact kk _ ((W.put i hu').put j hw') ⟨((Later.put W i hu').trans (Later.put _ j hw')).more (by omega), rfl⟩ ⟨(fun l hl => by
      rw [List.getElem?_set_ne (fun z => hl (by rw [← z]; simp)), List.getElem?_set_ne (fun z => hl (by rw [← z]; simp))]), by rw [List.length_set, List.length_set]⟩ ht

/-! ### for -/
def sForL (ex : Exc → Prop) (tg : DG) (tb : DS) (de : DEnds) : List D → List Sl → Prop
  | [], env => de.nx env
  | d :: ds, env => tg d env fun env2 => tb ex { de with nx := sForL ex tg tb de ds, ct := sForL ex tg tb de ds, bk := de.nx } env2
def sFor (ti : DA) (tg : DG) (tb : DS) : DS := fun ex de env => ti ex env fun ds => sForL ex tg tb de ds env
theorem drop_cons {α : Type} {l : List α} {i : Nat} {d : α} (h : l[i]? = some d) : l.drop i = d :: l.drop (i + 1) := by
  obtain ⟨hi, e⟩ := List.getElem?_eq_some_iff.mp h; rw [List.drop_eq_getElem_cons hi, e]
theorem ds_for {it : Expr} {body : List Stmt} {ci cb : Nat} {ti : DA} {t : DG} {tb : DS} {pos : Pos} (xk : Xk G E k X) (hp : PassesOwn (model X.prog X.w) X.A X.env X.xe) (hi : DI G E X tg ci it ti) {sl : List Nat} (hg : DTg G E X tg sl t) (hb : DSs G E X cb body tb)
    (hs : ∀ x, foldedSetIterable it X.env x = pure x := by intro _; rfl) : DSt G E X (ci + 16777216 * cb) (.For tg it body [] pos) (sFor ti t tb) :=
  impS (ps_for hp xk.calm hi hg hb hs) fun Dn σ H h => by
    obtain ⟨W, hn, de, ht, k1, k2, k3, k4⟩ := h
    refine ⟨W, by omega, _, ht, fun J H1 ds st wk hq => ?_⟩
    have hlen : ds.length ≤ 16777216 := by have := wk.len; rw [sizeLine_eq] at this; exact this
    let W1 := W.next st
    refine ⟨fun i m σ' H' => ∃ W' : Wd G E σ' H', Later W1 (i * cb) W' ∧ i ≤ ds.length ∧ m = ds.length - i ∧ sForL W.ex t tb de (ds.drop i) W'.env, ⟨ds.length, W1, (Later.refl W1).more (by omega), Nat.zero_le _, rfl, hq⟩, ?_⟩
    rintro i m σ' H' ⟨W', lt, hi', rfl, hq'⟩
    have lt0 : Later W (ci + i * cb) W' := (Later.next st).trans lt
    by_cases hlt : i < ds.length
    · obtain ⟨go, yl⟩ := wk.go i H' W'.XB lt.keep lt.xb (fun p hp => W'.fresh hp) hlt
      have hmul : (i + 1) * cb ≤ 16777216 * cb := Nat.mul_le_mul_right cb (by omega)
      have hmul2 : (i + 1) * cb = i * cb + cb := by rw [Nat.add_mul, Nat.one_mul]
      refine .inr ⟨go, fun σ2 H2 => ∃ W2 : Wd G E σ2 H2, Later W1 ((i + 1) * cb) W2 ∧ sForL W.ex t tb de (ds.drop (i + 1)) W2.env, fun σ2 H2 ⟨W2, l2, q2⟩ => ⟨ds.length - (i + 1), by omega, W2, l2, hlt, rfl, q2⟩, fun x H2 hy => ?_⟩
      obtain ⟨ex2, d, hd, hden⟩ := yl x H2 hy
      rw [drop_cons hd] at hq'
      have st2 : Step W' 0 H2 := (Step.refl W').pure ex2
      let W2 := W'.next st2
      refine ⟨W2, d, _, hden, hq', fun σ3 W3 al _ hq3 => ?_⟩
      have l3 : Later W1 (i * cb) W3 := ((lt.trans (Later.next st2)).trans al.later).more (by omega)
      have l03 : Later W (ci + i * cb) W3 := (Later.next st).trans l3
      refine ⟨W3, ?_, { de with nx := sForL W.ex t tb de (ds.drop (i + 1)), ct := sForL W.ex t tb de (ds.drop (i + 1)), bk := de.nx }, ?_, fun σ4 H4 W4 l4 q4 => ?_, fun v σ4 H4 W4 d4 l4 hd4 hr4 => ?_, fun σ4 H4 W4 l4 q4 => ?_, fun σ4 H4 W4 l4 q4 => ?_⟩
      · have := l03.n
        rw [l03.m]
        omega
      · rw [l03.ex]; exact hq3
      · exact ⟨W4, (l3.trans l4).more (by omega), q4⟩
      · refine k2 v σ4 H4 W4 d4 ((l03.trans l4).more (by omega)) (by rw [l03.B] at hd4; exact hd4) hr4
      · exact k1 σ4 H4 W4 ((l03.trans l4).more (by omega)) q4
      · exact ⟨W4, (l3.trans l4).more (by omega), q4⟩
    · have e : i = ds.length := by omega
      have hmul : i * cb ≤ 16777216 * cb := Nat.mul_le_mul_right cb (by omega)
      refine .inl ⟨wk.stop i H' lt.keep (by omega), ?_⟩
      rw [e, List.drop_length] at hq'
      exact k1 σ' H' W' (lt0.more (by omega)) hq'
end
end Kn

set_option Elab.async false
set_option linter.all false
set_option maxRecDepth 100000
set_option maxHeartbeats 2100000
namespace Kn
open PySem L2 RZ
open PyProof.Rows (envOfC)
section
variable {G : Gd} {E : XK} {X : Cx} {σ : List (Option V)} {H H' : Hp} {tg : Expr}

theorem wipe_get : ∀ (vs : List Nat) (i : Nat), (wipe σ vs)[i]? = if i ∈ vs ∧ i < σ.length then some none else σ[i]?
  | [], i => by simp [wipe]
  | v :: vs, i => by
    unfold wipe
    by_cases h : v = i
    · subst h
      by_cases hl : v < σ.length
      · rw [List.getElem?_set_self (by rw [wipe_length]; exact hl), if_pos ⟨List.mem_cons_self, hl⟩]
      · rw [List.getElem?_eq_none (by rw [List.length_set, wipe_length]; omega), if_neg (fun z => hl z.2), List.getElem?_eq_none (by omega)]
    · rw [List.getElem?_set_ne h, wipe_get vs i]
      have e : (i ∈ v :: vs) ↔ i ∈ vs := by simp [Ne.symm h]
      simp only [e]
theorem wipe_same {σ' : List (Option V)} {vs sl : List Nat} (hs : ∀ i ∈ sl, i ∈ vs) (h : ∀ i, i ∉ sl → σ'[i]? = (wipe σ vs)[i]?) (hl : σ'.length = σ.length) : wipe σ' vs = wipe σ vs := by
  apply List.ext_getElem?
  intro i
  rw [wipe_get, wipe_get]
  by_cases hi : i ∈ vs
  · by_cases h2 : i < σ.length
    · rw [if_pos ⟨hi, by omega⟩, if_pos ⟨hi, h2⟩]
    · rw [if_neg (fun z => h2 (by omega)), if_neg (fun z => h2 z.2), List.getElem?_eq_none (by omega), List.getElem?_eq_none (by omega)]
  · rw [if_neg (fun z => hi z.1), if_neg (fun z => hi z.1), h i (fun z => hi (hs i z)), wipe_get, if_neg (fun z => hi z.1)]

/-! ### comprehensions -/
def noOwn : Sl → Sl
  | .own _ _ => .emp
  | .slf _ _ _ _ => .emp
  | s => s
def wipeE (env : List Sl) : List Nat → List Sl
  | [] => env
  | v :: vs => (wipeE env vs).set v .emp
def inEnv (env : List Sl) (vs : List Nat) : List Sl := wipeE (env.map noOwn) vs
theorem wipeE_len (env : List Sl) : ∀ vs, (wipeE env vs).length = env.length
  | [] => rfl
  | v :: vs => by unfold wipeE; rw [List.length_set, wipeE_len env vs]
theorem inEnv_get {env : List Sl} {i : Nat} {s : Sl} : ∀ {vs : List Nat}, (wipeE (env.map noOwn) vs)[i]? = some s → s = .emp ∨ (i ∉ vs ∧ ∃ s', env[i]? = some s' ∧ s = noOwn s')
  | [], h => by
    unfold wipeE at h
    rw [List.getElem?_map] at h
    cases e : env[i]? with
    | none =>
      rw [e] at h; cases h
    | some s' => rw [e] at h; exact .inr ⟨by simp, s', rfl, (Option.some.inj h).symm⟩
  | v :: vs, h => by
    unfold wipeE at h
    by_cases hv : v = i
    · subst hv
      by_cases hl : v < (wipeE (env.map noOwn) vs).length
      · rw [List.getElem?_set_self hl] at h; exact .inl (Option.some.inj h).symm
      · rw [List.getElem?_eq_none (by rw [List.length_set]; omega)] at h; cases h
    · rw [List.getElem?_set_ne hv] at h
      rcases inEnv_get h with z | ⟨z, y⟩
      · exact .inl z
      · exact .inr ⟨by simp only [List.mem_cons, not_or]; exact ⟨fun q => hv q.symm, z⟩, y⟩
theorem inEnv_noown {env : List Sl} {vs : List Nat} {i : Nat} {s : Sl} (h : (inEnv env vs)[i]? = some s) (hm : s.mine = true) : False := by
  rcases inEnv_get h with z | ⟨_, s', _, z⟩
  · subst z; cases hm
  · subst z; cases s' <;> cases hm
theorem xb_in {B : Addr → Prop} {env : List Sl} {vs : List Nat} {τ : List (Option V)} {a : Addr} (h : XBof B (inEnv env vs) τ a) : B a := by
  rcases h with h | ⟨i, s, h1, hm, _⟩
  · exact h
  · exact (inEnv_noown h1 hm).elim
/-- the state in which one item of a comprehension's new list at D is made -/
def Wd.inner (W : Wd G E σ H) {c : Nat} {H1 : Hp} (st : Step W c H1) (vs : List Nat) (Dn : Addr) (H2 : Hp) (n2 : Nat) (hD : H1 Dn = none) (hD2 : H2 Dn ≠ none) (k : ∀ b o, H1 b = some o → W.u.map (·.1) ≠ some b → H2 b = some o) (hg : Good W.u H2 n2) :
    Wd G E0 (wipe σ vs) H2 where
  u := W.u
  n := n2
  m := W.m
  B := fun a => W.XB a ∨ a = Dn
  H0 := H2
  env := inEnv W.env vs
  ex := fun _ => False
  ug := W.ug
  hu := fun p e => ⟨.inl (.inl (W.hu p e).1), .inl (.inl (W.hu p e).2)⟩
  hB := fun a ha z => by
    rcases ha with ha | rfl
    · cases q : H1 a with
      | none => exact (W.next st).fresh q ha
      | some o =>
        by_cases hu : W.u.map (·.1) = some a
        · cases hu' : W.u with
          | none => rw [hu'] at hu; cases hu
          | some r =>
            rw [hu'] at hu
            cases hu
            have g := hg
            obtain ⟨p1, p2⟩ := r
            rw [hu'] at g
            obtain ⟨_, _, _, h1, _⟩ := g
            rw [h1] at z; cases z
        · rw [k a o q hu] at z; cases z
    · exact hD2 z
  fr := Ext.refl _ _
  good := hg
  len := by unfold inEnv; rw [wipeE_len, List.length_map, wipe_length]; exact W.len
  sl := fun i s e => by
    rcases inEnv_get e with z | ⟨hi, s', h1, z⟩
    · subst z; trivial
    · subst z
      have so := (W.next st).sl i s' h1
      have ew : (wipe σ vs)[i]? = σ[i]? := by rw [wipe_get, if_neg (fun z => hi z.1)]
      rw [ew]
      cases s' with
      | emp => trivial
      | own a ds => trivial
      | slf a dx c ds => trivial
      | val d =>
        obtain ⟨x, e1, e2⟩ := so
        refine ⟨x, e1, ?_⟩
        have e2' : Den G W.XB H1 d x := e2
        refine Den.keep (fun b o nb hb => k b o hb (fun z => ?_)) (fun b hb => ?_) d x e2'
        · cases hu' : W.u with
          | none => rw [hu'] at z; cases z
          | some r => rw [hu'] at z; cases z; exact nb (W.huX r hu')
        · rcases xb_in hb with q | rfl
          · exact .inl q
          · exact .inr hD
  nd := fun i j a s t h1 _ hm => (inEnv_noown h1 hm).elim
  exc := fun _ _ _ _ _ _ _ z => z.elim
end
end Kn

set_option Elab.async false
set_option linter.all false
set_option maxRecDepth 100000
set_option maxHeartbeats 2100000
namespace Kn
open PySem L2 RZ
open PyProof.Rows (envOfC)
section
variable {G : Gd} {E : XK} {X : Cx} {σ : List (Option V)} {H H' : Hp} {tg : Expr}

def noX : Exc → Prop := fun _ => False
def compL (tg : DG) (tt : DB) (te : DT) (Q : List D → Prop) (env : List Sl) : List D → List D → Prop
  | [], acc => Q acc
  | d :: ds, acc => tg d env fun env2 => tt noX env2 fun b => if b = true then te noX env2 fun y => compL tg tt te Q env ds (acc ++ [y]) else compL tg tt te Q env ds acc
def dComp (vs : List Nat) (ti : DA) (tg : DG) (tt : DB) (te : DT) : DT := fun ex env Q => ti ex env fun ds => compL tg tt te (fun rs => Q (.lst rs)) (inEnv env vs) ds []
def bYes : DB := fun _ _ Q => Q true
abbrev DTs (G : Gd) (X : Cx) (c : Nat) (ifs : List Expr) (t : DB) : Prop := PTs X ifs (liftB G E0 c t)
theorem dts_nil : DTs G X 0 [] bYes := ⟨fun pins s σ H Q I h => pts_nil.run pins s σ H Q I (by
  obtain ⟨W, hn, Q1, ht, k⟩ := h
  exact k true H (Step.refl W) ht)⟩
theorem dts_one {c : Expr} {n : Nat} {t : DB} (h : DPt G E0 X n c t) : DTs G X n [c] t := pts_one h

/-- what stands at D between two turns -/
structure AccAt (G : Gd) {E : XK} {σ : List (Option V)} {H : Hp} (W : Wd G E σ H) (H1 : Hp) (D0 : Addr) (b : Nat) (H2 : Hp) (acc : List D) : Prop where
  at_ : ∃ xs, H2 D0 = some (.lst xs) ∧ xs.length ≤ sizeLine ∧ DenL G (fun a => W.XB a ∨ a = D0) H2 acc xs
  keep : ∀ b o, H1 b = some o → W.u.map (·.1) ≠ some b → H2 b = some o
  good : Good W.u H2 b
theorem Good.upd {u : Option (Addr × Addr)} {H : Hp} {n : Nat} {p : Addr} {o : HO} (h : Good u H n) (hp : ∀ r, u = some r → p ≠ r.1 ∧ p ≠ r.2) : Good u (L2.upd H p o) n := by
  cases u with
  | none => trivial
  | some r =>
    obtain ⟨a, b⟩ := r
    obtain ⟨cells, k, r, h1, h2, h3⟩ := h
    obtain ⟨n1, n2⟩ := hp _ rfl
    exact ⟨cells, k, r, by rw [upd_ne (Ne.symm n1)]; exact h1, by rw [upd_ne (Ne.symm n2)]; exact h2, h3⟩
theorem lift_comp {ci ce ct : Nat} {ti : DA} {t : DG} {tt : DB} {te : DT} {vs sl : List Nat} (hsl : ∀ i ∈ sl, i ∈ vs) {Q' : VK} (h : lift G E (ci + 16777216 * (ct + ce)) (dComp vs ti t tt te) σ H Q') :
    tLc (liftI G E ci ti) (liftG G E0 sl t) (liftB G E0 ct tt) (lift G E0 ce te) vs σ H Q' := by
  obtain ⟨W, hn, Q, ht, k⟩ := h
  refine ⟨W, by omega, _, ht, fun J H1 ds st wk hq => ?_⟩
  intro D0 hD
  have hlen : ds.length ≤ 16777216 := by have := wk.len; rw [sizeLine_eq] at this; exact this
  have fr0 : ¬ W.XB D0 := (W.next st).fresh hD
  refine ⟨fun i m H2 => ∃ acc, AccAt G W H1 D0 (W.n - ci - i * (ct + ce)) H2 acc ∧ acc.length ≤ i ∧ i ≤ ds.length ∧ m = ds.length - i ∧ compL t tt te (fun rs => Q (.lst rs)) (inEnv W.env vs) (ds.drop i) acc, ⟨ds.length, [], ⟨⟨[], upd_same, by simp, rfl⟩, fun b o hb _ => by rw [upd_ne (ne_of_none hb hD)]; exact hb, ?_⟩, Nat.le_refl _, Nat.zero_le _, rfl, hq⟩, ?_⟩
  · have g := st.good
    rw [Nat.zero_mul, Nat.sub_zero]
    exact g.ext (Ext.new hD)
  rintro i m H2 ⟨acc, A, hacc, hi, rfl, hq2⟩
  obtain ⟨xs, hxs, hxl, hxd⟩ := A.at_
  have keepX : ∀ b o, ¬ W.XB b → H1 b = some o → H2 b = some o := fun b o nb hb => A.keep b o hb fun z => by
    cases hu' : W.u with
    | none => rw [hu'] at z; cases z
    | some r => rw [hu'] at z; cases z; exact nb (W.huX r hu')
  by_cases hlt : i < ds.length
  · have hmul : (i + 1) * (ct + ce) ≤ 16777216 * (ct + ce) := Nat.mul_le_mul_right _ (by omega)
    have hmul2 : (i + 1) * (ct + ce) = i * (ct + ce) + (ct + ce) := by rw [Nat.add_mul, Nat.one_mul]
    obtain ⟨go, yl⟩ := wk.go i H2 (fun a => W.XB a ∨ a = D0) keepX (fun b hb => by
      rcases hb with hb | rfl
      · exact .inl hb
      · exact .inr hD) (fun p hp hb => by
      rcases hb with hb | rfl
      · cases q : H1 p with
        | none => exact (W.next st).fresh q hb
        | some o =>
          by_cases hu : W.u.map (·.1) = some p
          · have g := A.good
            cases hu' : W.u with
            | none => rw [hu'] at hu; cases hu
            | some r =>
              rw [hu'] at hu
              cases hu
              obtain ⟨p1, p2⟩ := r
              rw [hu'] at g
              obtain ⟨_, _, _, h1, _⟩ := g
              rw [h1] at hp; cases hp
          · rw [A.keep p o q hu] at hp; cases hp
      · rw [hxs] at hp; cases hp) hlt
    refine .inr ⟨go, fun H5 => ∃ acc2, AccAt G W H1 D0 (W.n - ci - (i + 1) * (ct + ce)) H5 acc2 ∧ acc2.length ≤ i + 1 ∧ compL t tt te (fun rs => Q (.lst rs)) (inEnv W.env vs) (ds.drop (i + 1)) acc2,
      fun H5 ⟨acc2, a2, l2, q2⟩ => ⟨ds.length - (i + 1), by omega, acc2, a2, l2, hlt, rfl, q2⟩, fun x H3 hy => ?_⟩
    obtain ⟨ex2, d, hd, hden⟩ := yl x H3 hy
    rw [drop_cons hd] at hq2
    have hD3 : H3 D0 = some (.lst xs) := ex2 _ _ hxs (by simp)
    let W3 : Wd G E0 (wipe σ vs) H3 := W.inner st vs D0 H3 (W.n - ci - i * (ct + ce)) hD (by rw [hD3]; simp) (fun b o hb nu => ex2 _ _ (A.keep b o hb nu) (by simp)) (A.good.ext ex2)
    have hden3 : Den G W3.XB H3 d x := hden.fewer fun b hb => xb_in hb
    refine ⟨W3, d, _, hden3, hq2, fun σ4 W4 al hsl4 hq4 => ⟨wipe_same hsl hsl4.1 (by rw [hsl4.2, wipe_length]), ?_⟩⟩
    have l4 := al.later
    have n4 : W4.n = W.n - ci - i * (ct + ce) := al.n
    have m4 : W4.m = W.m := l4.m
    have u4 : W4.u = W.u := l4.u
    have b4 : ∀ a, (W.XB a ∨ a = D0) → W4.XB a := fun a ha => .inl (by rw [l4.B]; exact ha)
    have nu0 : W.u.map (·.1) ≠ some D0 := fun z => by
      cases hu' : W.u with
      | none => rw [hu'] at z; cases z
      | some r => rw [hu'] at z; cases z; exact fr0 (W.huX r hu')
    have k3 : ∀ b o, H1 b = some o → W.u.map (·.1) ≠ some b → H3 b = some o := fun b o hb nu => ex2 _ _ (A.keep b o hb nu) (by simp)
    refine ⟨W4, by rw [n4, m4]; omega, _, by rw [l4.ex]; exact hq4, fun b H5 st5 hb => ?_⟩
    have e5 : Ext W.u H3 H5 := by have z := st5.ext; rw [u4] at z; exact z
    have g5 : Good W.u H5 (W.n - ci - i * (ct + ce) - ct) := by have z := st5.good; rw [u4, n4] at z; exact z
    cases b with
    | false =>
      refine ⟨acc, ⟨⟨xs, e5 _ _ hD3 nu0, hxl, ?_⟩, fun b o hb nu => e5 _ _ (k3 b o hb nu) nu, g5.less (by omega)⟩, by omega, hb⟩
      refine (hxd.ext (u := none) ex2 (fun _ z => by cases z)).ext e5 (fun p e => .inl (W.huX p e))
    | true =>
      refine ⟨W4.next st5, by show W4.m + ce ≤ W4.n - ct; rw [n4, m4]; omega, _, by rw [show (W4.next st5).ex = noX from l4.ex]; exact hb, fun y H6 e6 st6 hy6 hq6 => ?_⟩
      have x6 : Ext W.u H5 H6 := by have z := st6.ext; rw [show (W4.next st5).u = W.u from u4] at z; exact z
      have g6 : Good W.u H6 (W.n - ci - i * (ct + ce) - ct - ce) := by have z := st6.good; rw [show (W4.next st5).u = W.u from u4, show (W4.next st5).n = W4.n - ct from rfl, n4] at z; exact z
      have hD6 : H6 D0 = some (.lst xs) := x6 _ _ (e5 _ _ hD3 nu0) nu0
      have hxl2 : xs.length < sizeLine := by have := hxd.length; rw [sizeLine_eq]; omega
      have dacc : DenL G (fun a => W.XB a ∨ a = D0) H6 acc xs := ((hxd.ext (u := none) ex2 (fun _ z => by cases z)).ext e5 (fun p e => .inl (W.huX p e))).ext x6 (fun p e => .inl (W.huX p e))
      have dy : Den G (fun a => W.XB a ∨ a = D0) H6 e6 y := hy6.fewer b4
      have kk : ∀ b o, ¬ (W.XB b ∨ b = D0) → H6 b = some o → upd H6 D0 (.lst (xs ++ [y])) b = some o := fun b o nb hb => by rw [upd_ne (fun z => nb (.inr z))]; exact hb
      refine ⟨xs, hD6, hxl2, acc ++ [e6], ⟨⟨xs ++ [y], upd_same, by rw [List.length_append]; exact hxl2, ?_⟩, fun b o hb nu => ?_, ?_⟩, by rw [List.length_append]; simp; omega, hq6⟩
      · exact (DenL.keep kk (fun b hb => .inl hb) _ _ dacc).append ⟨y, [], rfl, Den.keep kk (fun b hb => .inl hb) _ _ dy, rfl⟩
      · rw [upd_ne (ne_of_none hb hD)]
        exact x6 _ _ (e5 _ _ (k3 b o hb nu) nu) nu
      · refine (g6.upd (fun p e => ⟨fun z => fr0 (by rw [show D0 = p.1 from z]; exact W.huX p e), fun z => fr0 (by rw [show D0 = p.2 from z]; exact .inl (W.hu p e).2)⟩)).less (by omega)
  · have e : i = ds.length := by omega
    have hmul : i * (ct + ce) ≤ 16777216 * (ct + ce) := Nat.mul_le_mul_right _ (by omega)
    rw [e, List.drop_length] at hq2
    refine .inl ⟨wk.stop i H2 keepX (by omega), k _ H2 (.lst acc) ⟨fun b o hb nu => A.keep b o (st.ext b o hb nu) nu, A.good.less (by omega)⟩ ⟨D0, xs, rfl, fr0, hxs, hxl, hxd.fewer fun b z => .inl z⟩ hq2⟩

theorem de_comp {elt iter : Expr} {ifs : List Expr} {scope : Scope} {own : List (Str × Nat)} {pos : Pos} {ci ce ct : Nat} {ti : DA} {t : DG} {tt : DB} {te : DT} {sl : List Nat} {k : Nat} (xk : Xk G E k X) (hN : X.N.Nodup) (hi : DI G E X tg ci iter ti) (ok : BlkOk X.N X.env.scope scope own)
    (hg : ∀ (s : Shared) (H : Hp) (C : Addr) (cl : List (Str × Addr)) (fp : List Addr), DTg G E0 (X.blk s H scope (compEnvC scope cl C X.env) fp) tg sl t) (ht : ∀ (s : Shared) (H : Hp) (C : Addr) (cl : List (Str × Addr)) (fp : List Addr), DTs G (X.blk s H scope (compEnvC scope cl C X.env) fp) ct ifs tt)
    (he : ∀ (s : Shared) (H : Hp) (C : Addr) (cl : List (Str × Addr)) (fp : List Addr), DE G E0 (X.blk s H scope (compEnvC scope cl C X.env) fp) ce elt te) (hsl : ∀ i ∈ sl, i ∈ own.map (·.2)) (hs : ∀ x, foldedSetIterable iter X.env x = pure x := by intro _; rfl) :
    DE G E X (ci + 16777216 * (ct + ce)) (.ListComp elt [⟨tg, iter, ifs, 0⟩] scope pos) (dComp (own.map (·.2)) ti t tt te) :=
  imp (pe_lc xk.calm hN hi ok hg ht he hs) fun _ _ _ h => lift_comp hsl h
/-- x = [..] -/
theorem ds_setComp {i : Nat} {y : Str} {py : Pos} {elt iter : Expr} {ifs : List Expr} {scope : Scope} {own : List (Str × Nat)} {pos spos : Pos} {ci ce ct : Nat} {ti : DA} {t : DG} {tt : DB} {te : DT} {sl : List Nat} {k : Nat} (xk : Xk G E k X) (hN : X.N.Nodup) (hy : X.N[i]? = some y) (hyl : X.env.scope.names.lookup y = some .local)
    (hsw : swapsWith (.ListComp elt [⟨tg, iter, ifs, 0⟩] scope pos) (some (.Name y py)) spos.line X.env = pure true) (hi : DI G E X tg ci iter ti) (ok : BlkOk X.N X.env.scope scope own)
    (hg : ∀ (s : Shared) (H : Hp) (C : Addr) (cl : List (Str × Addr)) (fp : List Addr), DTg G E0 (X.blk s H scope (compEnvC scope cl C X.env) fp) tg sl t) (ht : ∀ (s : Shared) (H : Hp) (C : Addr) (cl : List (Str × Addr)) (fp : List Addr), DTs G (X.blk s H scope (compEnvC scope cl C X.env) fp) ct ifs tt)
    (he : ∀ (s : Shared) (H : Hp) (C : Addr) (cl : List (Str × Addr)) (fp : List Addr), DE G E0 (X.blk s H scope (compEnvC scope cl C X.env) fp) ce elt te) (hsl : ∀ i ∈ sl, i ∈ own.map (·.2)) (hs : ∀ x, foldedSetIterable iter X.env x = pure x := by intro _; rfl) :
    DSt G E X (ci + 16777216 * (ct + ce)) (.Assign [.Name y py] (.ListComp elt [⟨tg, iter, ifs, 0⟩] scope pos) spos) (sSet i (dComp (own.map (·.2)) ti t tt te)) :=
  impS (ps_setLc xk.calm hN hy hyl hsw hi ok hg ht he hs) fun Dn σ H h => by
    obtain ⟨W, hn, de, hq, k1, k2, k3, k4⟩ := h
    refine lift_comp (Q' := fun v H' => gName i v σ H' Dn.nx) hsl ⟨W, hn, _, hq, fun v H' d st hd hr => ?_⟩
    have hd' : Den G (W.next st).XB H' d v := hd
    exact k1 _ H' ((W.next st).put i hd') (((Later.next st).trans (Later.put _ i hd')).more (by omega)) hr
end
end Kn

set_option Elab.async false
set_option linter.all false
set_option maxRecDepth 100000
set_option maxHeartbeats 2100000
namespace Kn
open PySem L2 RZ
open PyProof.Rows (envOfC)
section
variable {G : Gd} {E : XK} {X : Cx} {σ : List (Option V)} {H H' : Hp} {k : Nat}

/-- the field f is that of some class's things alone -/
structure FldOk (G : Gd) (f : Str) : Prop where
  ok : ∀ c, f ∈ G.fl c → Cls G.K (G.cl c) ∧ NoAttr G.K (G.cl c) f
theorem zip_lookup {f : Str} {v : V} : ∀ {ns : List Str} {xs : List V}, xs[ns.idxOf f]? = some v → f ∈ ns → (ns.zip xs).lookup f = some v
  | [], _, _, h => by simp at h
  | n :: ns, [], h, _ => by simp at h
  | n :: ns, x :: xs, h, hf => by
    by_cases e : n = f
    · subst e
      rw [List.idxOf_cons_self] at h
      have : x = v := by simpa using h
      subst this
      simp [List.lookup]
    · have e3 : (n == f) = false := beq_eq_false_iff_ne.mpr e
      rw [List.idxOf_cons, e3] at h
      have hf' : f ∈ ns := by
        rcases List.mem_cons.mp hf with z | z
        · exact absurd z.symm e
        · exact z
      have ih := zip_lookup (ns := ns) (xs := xs) (by simpa using h) hf'
      have e2 : (f == n) = false := beq_eq_false_iff_ne.mpr (Ne.symm e)
      simp only [List.zip_cons_cons, List.lookup, e2]
      exact ih
/-- o.f -/
def dFld (G : Gd) (f : Str) (te : DT) : DT := fun ex env Q => te ex env fun d => ∃ c ds x, d = .ins c ds ∧ f ∈ G.fl c ∧ ds[(G.fl c).idxOf f]? = some x ∧ Q x
theorem de_fld {e : Expr} {f : Str} {pos : Pos} {c : Nat} {te : DT} (hK : X.K = G.K) (fo : FldOk G f) (he : DE G E X c e te) (hb : attributeBase e f X.env (eval e X.env) = eval e X.env := by rfl) : DE G E X c (.Attribute e f pos) (dFld G f te) :=
  imp (pe_fld he hb) fun σ H Q' h => by
    obtain ⟨W, hn, Q, ht, kk⟩ := h
    refine ⟨W, hn, _, ht, fun v H1 d st hd ⟨c, ds, x, e, hf, hx, hq⟩ => ?_⟩
    subst e
    obtain ⟨a, dx, xs, rfl, na, ha, hl, hds⟩ := hd
    obtain ⟨y, hy, hdy⟩ := hds.get hx
    obtain ⟨h1, h2⟩ := fo.ok c hf
    exact ⟨a, G.cl c, dx, _, y, rfl, ha, by rw [hK]; exact h1, by rw [hK]; exact h2, zip_lookup hy hf, kk y H1 x st hdy hq⟩

/-! ### methods -/
structure Fm (G : Gd) (P : Program) (w : World) (mg : Str → Option Value) (base : Heap) (k : Nat) (c : Nat) (m : Str) (ps : List Str) (cf : Nat) (S : FSpec) : Prop where
  ex : ∃ (f : Addr) (fd : FuncData), FnD G P w mg base k f fd ps cf S ∧ Meth G.K (G.cl c) m f ∧ Cls G.K (G.cl c) ∧ Binds G.K fd ps [] ∧ m ∉ G.fl c
theorem zip_none {f : Str} : ∀ {ns : List Str} {xs : List V}, f ∉ ns → (ns.zip xs).lookup f = none
  | [], _, _ => rfl
  | n :: ns, [], _ => rfl
  | n :: ns, x :: xs, h => by
    have e2 : (f == n) = false := beq_eq_false_iff_ne.mpr (fun z => h (by rw [z]; exact List.mem_cons_self))
    simp only [List.zip_cons_cons, List.lookup, e2]
    exact zip_none fun z => h (List.mem_cons_of_mem _ z)
def dMeth (c n : Nat) (S : FSpec) (te : DT) (u : DA) : DT := fun ex env Q => te ex env fun d => ∃ ds, d = .ins c ds ∧ u ex env fun as => as.length + 1 = n ∧ S (.ins c ds :: as) Q ex
theorem lift_callee1 {W : Wd G E σ H} {c c2 cf : Nat} {H1 H2 : Hp} (st : Step W c H1) (st2 : Step (W.next st) c2 H2) (hn : W.m + (c + c2 + cf) ≤ W.n) {S : FSpec} {d : D} {v : V} {ds : List D} {vs : List V} {Q : D → Prop} {Q' : VK} (hd1 : Den G W.XB H1 d v) (hd : DenL G W.XB H2 ds vs) (hs : S (d :: ds) Q W.ex)
    (kk : ∀ v H' d, Step W (c + c2 + cf) H' → Den G W.XB H' d v → Q d → Q' v H') : liftF G cf S (v :: vs) H2 Q' E :=
  lift_callee (st.trans st2) hn (ds := d :: ds) ⟨v, vs, rfl, (W.next st).den st2 hd1, hd⟩ hs kk
theorem de_meth {j c ce ca cf : Nat} {m : Str} {ps : List Str} {S : FSpec} {o e : Expr} {es : List Expr} {te : DT} {u : DA} {pos apos : Pos} {pl : Sem Bool} (F : Fm G X.prog X.w X.mg X.base j c m ps cf S) (xk : Xk G E k X) (ho : DE G E X ce o te) (ha : DEs G E X ca (e :: es) u) (hj : j ≤ k := by decide)
    (hst : starEach (e :: es) X.env = (false, eval e X.env) :: starEach es X.env :=
      by rfl) (hpl : (backTo pos (starEach es X.env)).any (·.1) = false := by rfl)
    (ht : eval (.Call (.Attribute o m
      apos) (e :: es) [] pos) X.env = (do
        let ov ← eval o X.env
        standAt apos.atName
        let (f, first) ← holding
          [ov] (getMethod ov m pl)
        callWith pos f first (backTo pos (starEach (e :: es) X.env)) (backToKw pos (keywordEach [] X.env))) := by rfl) : DE G E X (ce + ca + cf) (.Call (.Attribute o m apos) (e :: es) [] pos) (dMeth c ps.length S te u) := by
  obtain ⟨f, fd, hF0, hM, hC, hb, hmf⟩ := F.ex
  have hF := hF0.mono hj
  rw [← xk.K] at hM hC hb
  constructor
  intro pins s σ H Q' I h
  obtain ⟨W, hn, Q, hte, kk⟩ := h
  have recv := ho.run pins s σ H (fun x H1 => ∃ a ds, x = .ref a ∧ ∃ dx fs, H1 a = some (.ins (G.cl c) dx fs) ∧ fs.lookup m = none ∧ liftA G E ca u σ H1 fun vs H2 => vs.length + 1 = ps.length ∧ liftF G cf S (.ref a :: vs) H2 Q' E ∧ ds = ds) I
    ⟨W, by omega, _, hte, fun v H1 d st hd ⟨ds, e1, hu⟩ => by
      subst e1
      have hd0 := hd
      obtain ⟨a, dx, xs, rfl, na, hat, hl, hds⟩ := hd
      refine ⟨a, ds, rfl, dx, _, hat, zip_none hmf, W.next st, by show W.m + ca ≤ W.n - ce; omega, _, hu, fun vs H2 as st2 has ⟨hlen, hs⟩ => ⟨by rw [← has.length]; exact hlen, ?_, rfl⟩⟩
      exact lift_callee1 st st2 hn hd0 has hs kk⟩
  refine PySem.W.methodCall_KW (pl := pl) (thn recv ?_) ht
  rintro uv s1 ⟨x, H1, I1, rx, a, ds, rfl, dx, fs, hat, hlk, q⟩
  cases rx
  refine getmeth_ok I1 hat hC hM hlk ?_
  refine PySem.W.callWith_K (first := [.ref a]) (h₀ := X.base) I.ok.mod.kin hM.kp (thn (ha.run pos pins s1 σ H1 _ I1 q) ?_) hst hpl
  rintro us s2 ⟨vs, H2, I2, r2, hl, q2, _⟩
  refine ⟨I2.kIn, wpAny_call ?_⟩
  have hb' : BindsTo s2 fd ⟨.ref a :: us, []⟩ (ps.zip (.ref a :: us)) := by
    have z := hb s2 (.ref a :: us) I2.kIn (by rw [List.append_nil, List.length_cons, ← r2.length]; exact hl)
    rw [List.append_nil] at z
    exact z
  exact run_fnd (hK := xk.K) (vs := .ref a :: vs) hF xk.room xk.gd xk.pass I2 (.cons rfl r2) hl _ hb' q2

/-! ### a new thing of an own class -/
/-- what its __init__ does: S says what comes of the arguments behind self -/
def liftN (G : Gd) (c cid : Nat) (S : FSpec) : Sp := fun vs H Q E => ∃ (u : Option (Addr × Addr)) (n : Nat) (B : Addr → Prop) (ds : List D) (R : D → Prop) (ex : Exc → Prop) (x dx : Addr) (vs' : List V),
  u = G.u ∧ vs = .ref x :: vs' ∧ H x = some (.ins (G.cl cid) dx []) ∧ x ≠ dx ∧ ¬ B x ∧ ¬ B dx ∧ (∀ p, u = some p → x ≠ p.1 ∧ x ≠ p.2 ∧ dx ≠ p.1 ∧ dx ≠ p.2) ∧ c ≤ n ∧ (∀ p, u = some p → B p.1 ∧ B p.2) ∧ (∀ a, B a → H a ≠ none) ∧ Good u H n ∧ DenL G (fun a => B a ∨ a = x ∨ a = dx) H ds vs' ∧ S ds R ex ∧
  (∀ H' xs ds', (∀ b o, H b = some o → b ≠ x → b ≠ dx → u.map (·.1) ≠ some b → H' b = some o) → Good u H' (n - c) → H' x = some (.ins (G.cl cid) dx ((G.fl cid).zip xs)) → xs.length = (G.fl cid).length → DenL G B H' ds' xs → R (.ins cid ds') → Q .non H') ∧
  (∀ y C d H', (∀ b o, H b = some o → b ≠ x → b ≠ dx → u.map (·.1) ≠ some b → H' b = some o) → Good u H' (n - c) → ExcIs G B H' y C d → ex y → E C d H')
structure InitD (G : Gd) (P : Program) (w : World) (mg : Str → Option Value) (base : Heap) (k : Nat) (f : Addr) (fd : FuncData) (ps : List Str) (c cid : Nat) (S : FSpec) : Prop where
  run : ∀ (A : Around) (outer : List Env) (s : Shared) (H : Hp) (args : Args) (us : List Value) (vs : List V) (Q : VK) (E : XK), Room k A → A.guards = some [] → Env0 P w G.K mg base A outer s H →
    BindsTo s fd args (ps.zip us) → Vals vs us → vs.length = ps.length → liftN G c cid S vs H Q E → codeAny (model P w) A (.call (.ref f) args) (CR (L2.CX P w) outer P w H s Q E) s
/-- the class x of the module, number cid -/
structure Fc (G : Gd) (P : Program) (w : World) (mg : Str → Option Value) (base : Heap) (k : Nat) (x : Str) (cid : Nat) (ps : List Str) (cf : Nat) (S : FSpec) : Prop where
  ex : ∃ (f : Addr) (fd : FuncData), InitD G P w mg base k f fd ps cf cid S ∧ mg x = some (.ref (G.cl cid)) ∧ Mk G.K (G.cl cid) f ∧ Binds G.K fd ps [] ∧ 0 < ps.length
theorem InitD.mono {P : Program} {w : World} {mg : Str → Option Value} {base : Heap} {j k : Nat} {f : Addr} {fd : FuncData} {ps : List Str} {c cid : Nat} {S : FSpec} (F : InitD G P w mg base j f fd ps c cid S) (h : j ≤ k) : InitD G P w mg base k f fd ps c cid S :=
  ⟨fun A outer s H args us vs Q E hr => F.run A outer s H args us vs Q E (hr.mono h)⟩
theorem guards_make {A : Around} {C : Addr} {us : List Value} {kw : List (Str × Value)} : (A.under (.builtin "type.__call__" ⟨.ref C :: us, kw⟩)).guards = A.guards := by
  first | rfl | simp [Around.under, Code.isGuard, guardIds]
theorem de_make {j : Nat} {x : Str} {cid : Nat} {ps : List Str} {c cf : Nat} {S : FSpec} {e : Expr} {es : List Expr} {u : DA} {p pos : Pos} (F : Fc G X.prog X.w X.mg X.base j x cid ps cf S) (xk : Xk G E k X) (ha : DEs G E X c (e :: es) u) (hj : j + 1 ≤ k := by decide) (hg : Gl X x := by rfl) (hdb : (x == ("__debug__" : Str)) = false := by decide)
    (he : starEach (e :: es) X.env = (false, eval e X.env) :: starEach es X.env := by rfl) (hpl : (backTo pos (starEach es X.env)).any (·.1) = false := by rfl) : DE G E X (c + cf) (.Call (.Name x p) (e :: es) [] pos) (dCall (ps.length - 1) S u) := by
  obtain ⟨f, fd, hF, hm, M, hb, hps⟩ := F.ex
  rw [← xk.K] at M hb
  have room1 : Room (j + 1) X.A := xk.room.mono hj
  constructor
  intro pins s σ H Q' I h
  obtain ⟨W, hn, Q, ht, kk⟩ := h
  have args := ha.run pos pins s σ H (fun vs H1 => vs.length = ps.length - 1 ∧ ∃ (st : Step W c H1) (ds : List D), DenL G W.XB H1 ds vs ∧ S ds Q W.ex) I ⟨W, by omega, _, ht, fun vs H1 ds st hd ⟨hl, hs⟩ => ⟨by rw [← hd.length]; exact hl, st, ds, hd, hs⟩⟩
  refine wpAny_Call_Name_kw (ld_glob I hg hm ?_ hdb); refine PySem.W.callWith_K (h₀ := X.base) I.ok.mod.kin M.kp (thn args ?_) he hpl
  rintro us s1 ⟨vs, H1, I1, r1, hl, st, ds, hd, hs⟩
  refine ⟨I1.kIn, ?_⟩
  have f0 : H1 s1.heap.objs.size = none := I1.hok.fresh (Nat.le_refl _)
  have f1 : H1 (s1.heap.objs.size + 1) = none := I1.hok.fresh (Nat.le_succ _)
  have I2 := Inv.made (C := G.cl cid) I1
  have nx : s1.heap.objs.size ≠ s1.heap.objs.size + 1 := Nat.ne_of_lt (Nat.lt_succ_self _)
  have W1 := W.next st
  have bnd : ∀ b o, H1 b = some o → upd (upd H1 s1.heap.objs.size (.own (s1.heap.objs.size + 1))) (s1.heap.objs.size + 1) (.ins (G.cl cid) s1.heap.objs.size []) b = some o := fun b o e => by
    rw [upd_ne (ne_of_none e f1), upd_ne (ne_of_none e f0)]; exact e
  have hs' : liftN G cf cid S (.ref (s1.heap.objs.size + 1) :: vs) (upd (upd H1 s1.heap.objs.size (.own (s1.heap.objs.size + 1))) (s1.heap.objs.size + 1) (.ins (G.cl cid) s1.heap.objs.size [])) (fun v H2 => v = .non ∧ Q' (.ref (s1.heap.objs.size + 1)) H2) E := by
    refine ⟨W.u, W.n - c, W.XB, ds, Q, W.ex, _, s1.heap.objs.size, vs, W.ug, rfl, upd_same, Ne.symm nx, (W.next st).fresh f1, (W.next st).fresh f0, fun p e => ?_, by omega, fun p e => ⟨.inl (W.hu p e).1, .inl (W.hu p e).2⟩, fun a ha z => ?_, ?_, ?_, hs, fun H' xs ds' kp g hx hl2 hd2 hr => ⟨rfl, ?_⟩, fun y C d H' kp g hx hy => ?_⟩
    · have n1 : ¬ W.XB (s1.heap.objs.size + 1) := (W.next st).fresh f1
      have n0 : ¬ W.XB s1.heap.objs.size := (W.next st).fresh f0
      exact ⟨fun z => n1 (by rw [z]; exact .inl (W.hu p e).1), fun z => n1 (by rw [z]; exact .inl (W.hu p e).2), fun z => n0 (by rw [z]; exact .inl (W.hu p e).1), fun z => n0 (by rw [z]; exact .inl (W.hu p e).2)⟩
    · cases q : H1 a with
      | none => exact (W.next st).fresh q ha
      | some o => rw [bnd a o q] at z; cases z
    · refine Good.ext st.good fun b o e _ => bnd b o e
    · refine DenL.keep (fun b o nb e => bnd b o e) (fun b hb => ?_) ds vs hd
      rcases hb with hb | rfl | rfl
      · exact .inl hb
      · exact .inr f1
      · exact .inr f0
    · refine kk _ H' (.ins cid ds') ⟨fun b o e nu => ?_, by rw [Nat.sub_add_eq]; exact g⟩ ⟨_, _, xs, rfl, (W.next st).fresh f1, hx, hl2, hd2⟩ hr
      have e1 := st.ext b o e nu
      exact kp b o (bnd b o e1) (ne_of_none e1 f1) (ne_of_none e1 f0) nu
    · refine W.exc y C d H' (fun b o e nu => ?_) (g.less (by omega)) ?_ hy
      · have e1 := (W.fr.trans st.ext) b o e nu
        exact kp b o (bnd b o e1) (ne_of_none e1 f1) (ne_of_none e1 f0) nu
      · obtain ⟨e1, dd, xs, e2, e3, e4, e5⟩ := hx
        exact ⟨e1, dd, xs, e2, e3, e4, e5.fewer fun b z => .inl z⟩
  have hlen2 : (V.ref (s1.heap.objs.size + 1) :: vs).length = ps.length := by rw [List.length_cons, hl]; omega
  refine wpAny_call (make_map (f := f) I1.kIn M.makes M.init (beq_iff_eq.mp M.fn) (codeAny_mono (hF.run _ X.stack _ _ ⟨.ref (s1.heap.objs.size + 1) :: us, []⟩ (.ref (s1.heap.objs.size + 1) :: us) (.ref (s1.heap.objs.size + 1) :: vs) _ E (room1.make (G.cl cid) us []) (guards_make.trans xk.gd) (by rw [← xk.K]; exact I2.env0.make (G.cl cid) us []) ?_ (.cons rfl r1) hlen2 hs') ?_))
  · have z := hb { s1 with heap := (s1.heap.push PySem.W.emptyDict).push (PySem.W.instObj (G.cl cid) s1.heap.objs.size) } (.ref (s1.heap.objs.size + 1) :: us) I2.kIn (by rw [List.append_nil, List.length_cons, ← r1.length, hl]; omega)
    rw [List.append_nil] at z
    exact z
  · intro r s' hq
    cases r with
    | error e => exact xk.pass pins σ _ _ e s' I2 hq
    | ok fl =>
      cases fl with
      | ret u =>
        obtain ⟨v, H', I3, rv, ev, q3⟩ := I2.after hq
        subst ev
        exact ⟨rv, ⟨V.ref (s1.heap.objs.size + 1), H', I3, rfl, q3⟩⟩
      | next => exact hq.elim
      | brk => exact hq.elim
      | cont => exact hq.elim
end
end Kn

set_option Elab.async false
set_option linter.all false
set_option maxRecDepth 100000
set_option maxHeartbeats 2100000
namespace Kn
open PySem L2 RZ
open PyProof.Rows (envOfC)
section
variable {G : Gd} {E : XK} {X : Cx} {σ : List (Option V)} {H H' : Hp} {k : Nat}

/-- the slots at the entry of an __init__ -/
def envI (N : List Str) (x dx : Addr) (cid : Nat) (ds : List D) : List Sl := Sl.slf x dx cid [] :: (ds.map Sl.val ++ List.replicate (N.length - 1 - ds.length) Sl.emp)
theorem envI_get {N : List Str} {x dx : Addr} {cid : Nat} {ds : List D} {i : Nat} {s : Sl} (h : (envI N x dx cid ds)[i]? = some s) : (i = 0 ∧ s = .slf x dx cid []) ∨ (∃ j d, i = j + 1 ∧ ds[j]? = some d ∧ s = .val d) ∨ s = .emp := by
  unfold envI at h
  cases i with
  | zero => exact .inl ⟨rfl, (Option.some.inj h).symm⟩
  | succ j =>
    rw [List.getElem?_cons_succ] at h
    by_cases hi : j < ds.length
    · rw [List.getElem?_append_left (by simpa using hi), List.getElem?_map, List.getElem?_eq_getElem hi] at h
      exact .inr (.inl ⟨j, ds[j], rfl, List.getElem?_eq_getElem hi, (Option.some.inj h).symm⟩)
    · rw [List.getElem?_append_right (by simpa using hi), List.getElem?_replicate] at h
      split at h
      · exact .inr (.inr (Option.some.inj h).symm)
      · cases h
theorem wd_init {N : List Str} {vs : List V} {E : XK} {u : Option (Addr × Addr)} {n c cid : Nat} {B : Addr → Prop} {ds : List D} {ex : Exc → Prop} {x dx : Addr} (hN : vs.length + 1 ≤ N.length) (hug : u = G.u) (hx : H x = some (.ins (G.cl cid) dx [])) (nx : x ≠ dx) (bx : ¬ B x) (bdx : ¬ B dx)
    (hux : ∀ p, u = some p → x ≠ p.1 ∧ x ≠ p.2 ∧ dx ≠ p.1 ∧ dx ≠ p.2) (hu : ∀ p, u = some p → B p.1 ∧ B p.2) (hB : ∀ a, B a → H a ≠ none) (hg : Good u H n) (hd : DenL G (fun a => B a ∨ a = x ∨ a = dx) H ds vs)
    (hex : ∀ y C d H', (∀ b o, H b = some o → b ≠ x → b ≠ dx → u.map (·.1) ≠ some b → H' b = some o) → Good u H' (n - c) → ExcIs G B H' y C d → ex y → E C d H') :
    ∃ W : Wd G E (L2.start N (.ref x :: vs)) H, W.u = u ∧ W.n = n ∧ W.m = n - c ∧ W.B = B ∧ W.H0 = (fun b => if b = x ∨ b = dx then none else H b) ∧ W.env = envI N x dx cid ds ∧ W.ex = ex := by
  have hl := hd.length
  have h0 : ∀ b o, (if b = x ∨ b = dx then (none : Option HO) else H b) = some o → H b = some o ∧ b ≠ x ∧ b ≠ dx := fun b o e => by
    by_cases hb : b = x ∨ b = dx
    · rw [if_pos hb] at e; cases e
    · rw [if_neg hb] at e; exact ⟨e, fun z => hb (.inl z), fun z => hb (.inr z)⟩
  have hmine : ∀ {i : Nat} {s : Sl}, (envI N x dx cid ds)[i]? = some s → s.mine = true → i = 0 := fun {i s} e hm => by
    rcases envI_get e with ⟨z, _⟩ | ⟨_, _, _, _, rfl⟩ | rfl
    · exact z
    · cases hm
    · cases hm
  refine ⟨{ u := u, n := n, m := n - c, B := B, H0 := fun b => if b = x ∨ b = dx then none else H b, env := envI N x dx cid ds, ex := ex, ug := hug, hu := hu, hB := fun a ha z => ?_, fr := fun b o e _ => (h0 b o e).1, good := hg, len := ?_, sl := ?_, nd := ?_, exc := fun y C d H' e g hy hq => ?_ }, rfl, rfl, rfl, rfl, rfl, rfl, rfl⟩
  · rw [if_neg (fun q => q.elim (fun q => bx (q ▸ ha)) fun q => bdx (q ▸ ha))] at z
    exact hB a ha z
  · unfold envI L2.start
    simp only [List.length_append, List.length_map, List.length_replicate, List.length_cons]
    omega
  · intro i s e
    have sub : ∀ b, XBof B (envI N x dx cid ds) (L2.start N (.ref x :: vs)) b → B b ∨ b = x ∨ b = dx := fun b hb => by
      rcases hb with hb | ⟨j, t, e1, hm, e2⟩
      · exact .inl hb
      · have := hmine e1 hm
        subst this
        rw [start_get (i := 0) (v := .ref x) rfl] at e2
        cases e2
        exact .inr (.inl rfl)
    rcases envI_get e with ⟨rfl, rfl⟩ | ⟨j, d, rfl, hdj, rfl⟩ | rfl
    · refine ⟨[], by rw [start_get (i := 0) (v := .ref x) rfl]; rfl, if_pos (.inl rfl), by rw [List.zip_nil_right]; exact hx, Nat.zero_le _, rfl⟩
    · obtain ⟨y, hy, hdy⟩ := hd.get hdj
      exact ⟨y, by rw [start_get (i := j + 1) (v := y) (by simpa using hy)]; rfl, hdy.fewer sub⟩
    · trivial
  · intro i j a s t e1 e2 m1 m2 _ _
    rw [hmine e1 m1, hmine e2 m2]
  · exact hex y C d H' (fun b o hb n1 n2 nu => e b o (by show (if b = x ∨ b = dx then none else H b) = some o; rw [if_neg (fun q => q.elim n1 n2)]; exact hb) nu) g hy hq

/-- THE RULE for an __init__ that stores each field once, in order -/
theorem initd_of {P : Program} {w : World} {mg : Str → Option Value} {base : Heap} {f : Addr} {x qual : Str} {st : Stmt} {fd : FuncData} {N ps : List Str} {c cid : Nat} {S : FSpec} {ts : DS} (F : Fun G.K x qual st f fd) (Sc : FnScope N ps (defScope st))
    (hder : ∀ (cdv : Value) (A : Around) (outer : List Env) (s : Shared) (H : Hp) (E : XK), Room k (A.deeper (envOfC qual (defScope st) s.heap.objs.size f cdv)) → A.guards = some [] →
      DSs G E (cxOf (L2.CX P w) P w G.K mg base N qual (defScope st) f cdv A outer s H E) c (defBody st) ts)
    (hS : ∀ a dx ds R ex, ds.length + 1 = ps.length → S ds R ex → ts ex { nx := fun env => ∃ ds', env[0]? = some (.slf a dx cid ds') ∧ ds'.length = (G.fl cid).length ∧ R (.ins cid ds'), rt := fun _ _ => False } (envI N a dx cid ds)) : InitD G P w mg base (k + 1) f fd ps c cid S := by
  constructor
  intro A outer s H args us vs Q E hr hgd e0 hb rv hlen hsp
  obtain ⟨u, n, B, ds, R, ex, a, dx, vs', hug, rfl, hx, nx, bx, bdx, hux, hc, hu, hB, hg, hd, hs, hq, hex⟩ := hsp
  have hNl : vs'.length + 1 ≤ N.length := by
    have h1 := congrArg List.length Sc.pre
    rw [List.length_take] at h1
    rw [List.length_cons] at hlen
    omega
  obtain ⟨oc, od, kV, doc, pm, an, cdv, ct, osl, rfl, lk, hcd⟩ := F.ex; have KX : G.K.In s.heap := PySem.W.Frag.In.keeps e0.mod.kin (fun b o e => (e0.bs b o e).1)
  have nolim : s.heap.NoLimit := Heap.NoLimit.keeps e0.mod.nolimit (fun b o e => (e0.bs b o e).1)
  have kinds : ∀ y ∈ ps.zip us, (defScope st).names.lookup y.1 = some .local ∨
      ((defScope st).names.lookup y.1 = some .cell ∧ ((cellsFrom (s.heap.objs.size + 1) (defScope st).names []).lookup y.1).isSome = true) := by
    intro y hy
    obtain ⟨n1, v1⟩ := y
    rcases Sc.par n1 (List.of_mem_zip hy).1 with z | z
    · exact .inl z
    · exact .inr ⟨z, PySem.W.cellsFrom_some _ _ _ (.inl z)⟩
  refine codeAny_call_function hr.depth (KX _ _ lk) rfl Sc.co Sc.gen rfl (PySem.W.codeRec_of KX hcd) ?_
  refine hb _ _ _ _ (wpAny_newFunctionEnv_cells Sc.kind kinds ?_)
  intro env he s1 ic
  subst he
  refine ⟨nolim.keeps ic.toInCall.keep, codeAny_func ?_⟩
  have I : Inv (cxOf (L2.CX P w) P w G.K mg base N qual (defScope st) f cdv A outer s H E) [] (L2.start N (.ref a :: vs')) H s1 := inv_start Sc hr.hd e0 hlen rv ic
  have hds : ds.length + 1 = ps.length := by rw [hd.length]; simpa using hlen
  obtain ⟨W, w1, w2, w3, w4, w5, w6, w7⟩ := wd_init (N := N) (E := E) (c := c) hNl hug hx nx bx bdx hux hu hB hg hd hex
  have body := (hder cdv A outer s H E (hr.deeper _) hgd).run [] s1 (L2.start N (.ref a :: vs')) H { nx := fun _ H' => Q .non H', rt := Q } I (by
    refine ⟨W, by rw [w2, w3]; omega, _, by rw [w6, w7]; exact hS a dx ds R ex hds hs, ?_, ?_, ?_, ?_⟩
    · intro σ' H' W' lt ⟨ds', h1, h2, h3⟩
      obtain ⟨xs, ea, h0, ha, hlx, hdx⟩ := W'.sl 0 _ h1
      have hG : Good u H' (n - c) := by have z := W'.good; rw [lt.u, w1] at z; exact z.less (by have := lt.n; rw [w2] at this; omega)
      refine hq H' xs ds' (fun b o e n1 n2 nu => ?_) hG ha (by rw [← hdx.length]; exact h2) ?_ h3
      · have z := W'.fr b o (by rw [lt.H0, w5]; show (if b = a ∨ b = dx then none else H b) = some o; rw [if_neg (fun q => q.elim n1 n2)]; exact e)
        rw [lt.u, w1] at z
        exact z nu
      · refine hdx.fewer fun b hb => ?_
        exact .inl (by rw [lt.B, w4]; exact hb)
    · intro v σ' H' W' d lt hd' hr'; exact hr'.elim
    · intro σ' H' W' lt z; exact z.elim
    · intro σ' H' W' lt z; exact z.elim)
  refine wpAny_mono body ?_ (fun e s' hs => hs)
  intro fl s' hfl
  cases fl with
  | next => obtain ⟨σ', H', J, q⟩ := hfl; exact ⟨.non, H', J.os, J.bare, J.base, J.hok, rfl, q⟩
  | ret v' => obtain ⟨v, σ', H', J, r1, q⟩ := hfl; exact ⟨v, H', J.os, J.bare, J.base, J.hok, r1, q⟩
  | brk => obtain ⟨σ', H', J, q⟩ := hfl; exact q.elim
  | cont => obtain ⟨σ', H', J, q⟩ := hfl; exact q.elim

/-! ### self.f = e, the next field in order -/
theorem put_zip {f : Str} {v : V} : ∀ {ns : List Str} {xs : List V}, ns.Nodup → ns[xs.length]? = some f → putF f v (ns.zip xs) = ns.zip (xs ++ [v])
  | [], xs, _, h => by simp at h
  | n :: ns, [], _, h => by
    have e : n = f := by simpa using h
    subst e
    cases ns <;> rfl
  | n :: ns, x :: xs, nd, h => by
    have h' : ns[xs.length]? = some f := by simpa using h
    have hne : n ≠ f := fun z => (List.nodup_cons.mp nd).1 (by rw [z]; exact List.mem_of_getElem? h')
    show (if n = f then (n, v) :: ns.zip xs else (n, x) :: putF f v (ns.zip xs)) = _
    rw [if_neg hne, put_zip (List.nodup_cons.mp nd).2 h']
    rfl
def sFld (G : Gd) (i : Nat) (f : Str) (te : DT) : DS := fun ex de env => te ex env fun d => ∃ a dx c ds, env[i]? = some (.slf a dx c ds) ∧ (G.fl c)[ds.length]? = some f ∧ de.nx (env.set i (.slf a dx c (ds ++ [d])))
theorem join_some {α : Type} {l : List (Option α)} {i : Nat} {a : α} (h : l[i]?.join = some a) : l[i]? = some (some a) := by
  cases q : l[i]? with
  | none => rw [q] at h; cases h
  | some o => rw [q] at h; rw [show o = some a from h]
/-- the frame's own thing in slot i, at a, changes -/
theorem wd_mut (W : Wd G E σ H) {i : Nat} {a : Addr} {s0 s1 : Sl} {o1 : HO} (he : W.env[i]? = some s0) (hm : s0.mine = true) (hsi : σ[i]? = some (some (.ref a))) (hm1 : s1.mine = true) (ok : SlOk G W.H0 W.XB (L2.upd H a o1) s1 (some (.ref a))) :
    ∃ W' : Wd G E σ (L2.upd H a o1), Later W 0 W' ∧ W'.env = W.env.set i s1 ∧ W'.n = W.n := by
  have hil : i < W.env.length := (List.getElem?_eq_some_iff.mp he).1
  have xa : W.XB a := .inr ⟨i, _, he, hm, hsi⟩
  obtain ⟨h0, oa, hoa⟩ := W.mine_at he hm hsi
  have nB : ¬ W.B a := W.own_ne h0
  have xb : ∀ b, XBof W.B (W.env.set i s1) σ b → W.XB b := fun b hb => by
    rcases hb with hb | ⟨j, s, e1, m1, e2⟩
    · exact .inl hb
    · by_cases hj : i = j
      · subst hj
        exact .inr ⟨i, _, he, hm, e2⟩
      · rw [List.getElem?_set_ne hj] at e1
        exact .inr ⟨j, s, e1, m1, e2⟩
  have kd : ∀ b o, ¬ W.XB b → H b = some o → L2.upd H a o1 b = some o := fun b o nb e => by rw [upd_ne (show b ≠ a from fun z => nb (by rw [z]; exact xa))]; exact e
  have dk : ∀ {d : D} {v : V}, Den G W.XB H d v → Den G (XBof W.B (W.env.set i s1) σ) (L2.upd H a o1) d v := fun {d v} h => (Den.keep kd (fun b hb => .inl hb) d v h).fewer xb
  have dkl : ∀ {ds : List D} {xs : List V}, DenL G W.XB H ds xs → DenL G (XBof W.B (W.env.set i s1) σ) (L2.upd H a o1) ds xs := fun {ds xs} h => (DenL.keep kd (fun b hb => .inl hb) ds xs h).fewer xb
  refine ⟨{ u := W.u, n := W.n, m := W.m, B := W.B, H0 := W.H0, env := W.env.set i s1, ex := W.ex, ug := W.ug, hu := W.hu, hB := W.hB, fr := fun b o e nu => ?_, good := ?_, len := by rw [List.length_set]; exact W.len, sl := fun j s e => ?_, nd := fun j l b s t e1 e2 m1 m2 e3 e4 => ?_, exc := W.exc }, ⟨rfl, rfl, rfl, rfl, rfl, by show W.n ≤ W.n + 0; omega, kd, fun b hb => .inl (xb b hb)⟩, rfl, rfl⟩
  · rw [upd_ne (fun z => by rw [z, h0] at e; cases e)]
    exact W.fr b o e nu
  · exact W.good.upd fun r e => ⟨fun z => nB (by rw [z]; exact (W.hu r e).1), fun z => nB (by rw [z]; exact (W.hu r e).2)⟩
  · by_cases hj : i = j
    · subst hj
      rw [List.getElem?_set_self hil] at e
      cases e
      rw [hsi]
      exact ok.fewer xb
    · rw [List.getElem?_set_ne hj] at e
      have z := W.sl j s e
      have ne : ∀ b, s.mine = true → σ[j]? = some (some (.ref b)) → b ≠ a := fun b ms hb q => by
        subst q
        exact hj (W.nd i j b s0 s he e hm ms hsi hb)
      cases s with
      | emp => trivial
      | val d => obtain ⟨x, e1, e2⟩ := z; exact ⟨x, e1, dk e2⟩
      | own b ds => obtain ⟨xs, e1, e2, e3, e4, e5⟩ := z; exact ⟨xs, e1, e2, by rw [upd_ne (ne b rfl (join_some e1))]; exact e3, e4, dkl e5⟩
      | slf b dx c ds => obtain ⟨xs, e1, e2, e3, e4, e5⟩ := z; exact ⟨xs, e1, e2, by rw [upd_ne (ne b rfl (join_some e1))]; exact e3, e4, dkl e5⟩
  · have old : ∀ {j : Nat} {s : Sl}, (W.env.set i s1)[j]? = some s → s.mine = true → ∃ s', W.env[j]? = some s' ∧ s'.mine = true := fun {j s} e ms => by
      by_cases hj : i = j
      · subst hj; exact ⟨s0, he, hm⟩
      · rw [List.getElem?_set_ne hj] at e; exact ⟨s, e, ms⟩
    obtain ⟨s', f1, f2⟩ := old e1 m1
    obtain ⟨t', f3, f4⟩ := old e2 m2
    exact W.nd j l b s' t' f1 f3 f2 f4 e3 e4
/-- what is not the frame's own stays when the frame's own thing at a changes -/
theorem mut_keep (W : Wd G E σ H) {i : Nat} {a : Addr} {s0 : Sl} {o1 : HO} (he : W.env[i]? = some s0) (hm : s0.mine = true) (hsi : σ[i]? = some (some (.ref a))) : ∀ b o, ¬ W.XB b → H b = some o → L2.upd H a o1 b = some o :=
  fun b o nb e => by rw [upd_ne (show b ≠ a from fun z => nb (by rw [z]; exact .inr ⟨i, _, he, hm, hsi⟩))]; exact e
theorem lift_slf {i : Nat} {W : Wd G E σ H} {a dx : Addr} {c : Nat} {ds : List D} (he : W.env[i]? = some (.slf a dx c ds)) : ∃ xs, σ[i]? = some (some (.ref a)) ∧ H a = some (.ins (G.cl c) dx ((G.fl c).zip xs)) ∧ xs.length ≤ (G.fl c).length ∧ DenL G W.XB H ds xs := by
  obtain ⟨xs, e1, e2, e3, e4, e5⟩ := W.sl i _ he
  exact ⟨xs, join_some e1, e3, e4, e5⟩
theorem ds_fld {i : Nat} {x f : Str} {e : Expr} {pos pos' p : Pos} {c : Nat} {te : DT} (hK : X.K = G.K) (fo : FldOk G f) (nd : ∀ c, (G.fl c).Nodup) (sm : ∀ c, (G.fl c).length ≤ 100) (hN : X.N[i]? = some x) (he : DE G E X c e te) (hv : Vis X.env.scope x := by first | exact Or.inl rfl | exact Or.inr (Or.inl rfl) | exact Or.inr (Or.inr rfl))
    (hs : swapsWith e (some (.Attribute (.Name x p) f pos')) pos.line X.env = pure false := by rfl) (hd : (x == ("__debug__" : Str)) = false := by decide) (hcd : (x == ("__classdict__" : Str)) = false := by decide) : DSt G E X c (.Assign [.Attribute (.Name x p) f pos'] e pos) (sFld G i f te) :=
  impS (ps_fld (pe_var (i := i) hN hv hd hcd) he hs) fun Dn σ H h => by
    obtain ⟨W, hn, de, ht, k1, k2, k3, k4⟩ := h
    refine ⟨W, hn, _, ht, fun v H' d st hd' ⟨a, dx, cc, ds, hei, hf, hq⟩ => ?_⟩
    obtain ⟨xs, hsi, ha, hl, hxs⟩ := lift_slf (W := W.next st) hei
    have hfm : f ∈ G.fl cc := List.mem_of_getElem? hf
    obtain ⟨o1, o2⟩ := fo.ok cc hfm
    have el := hxs.length
    have hlt : xs.length < (G.fl cc).length := by rw [← el]; exact (List.getElem?_eq_some_iff.mp hf).1
    refine ⟨.ref a, hsi, a, G.cl cc, dx, _, rfl, ha, by rw [hK]; exact o1, by rw [hK]; exact o2, by rw [List.length_zip]; have := sm cc; omega, ?_⟩
    have hpz : putF f v ((G.fl cc).zip xs) = (G.fl cc).zip (xs ++ [v]) := put_zip (nd cc) (by rw [← el]; exact hf)
    rw [hpz]
    have kp := mut_keep (o1 := .ins (G.cl cc) dx ((G.fl cc).zip (xs ++ [v]))) (W.next st) hei rfl hsi
    obtain ⟨W', l1, l2, l3⟩ := wd_mut (o1 := .ins (G.cl cc) dx ((G.fl cc).zip (xs ++ [v]))) (s1 := .slf a dx cc (ds ++ [d])) (W.next st) hei rfl hsi rfl
      ⟨xs ++ [v], rfl, ((W.next st).mine_at hei rfl hsi).1, upd_same, by rw [List.length_append]; exact hlt, (DenL.keep kp (fun b hb => .inl hb) _ _ hxs).append ⟨v, [], rfl, Den.keep kp (fun b hb => .inl hb) _ _ hd', rfl⟩⟩
    exact k1 σ _ W' (((Later.next st).trans l1).more (by omega)) (by rw [l2]; exact hq)
end
end Kn

set_option Elab.async false
set_option linter.all false
set_option maxRecDepth 100000
set_option maxHeartbeats 2100000
namespace Kn
open PySem L2 RZ
open PyProof.Rows (envOfC)
section
variable {G : Gd} {E : XK} {X : Cx} {σ : List (Option V)} {H H' : Hp} {k : Nat}

/-- slot i holds a new list that nothing else holds -/
theorem wd_own (W : Wd G E σ H) {c : Nat} {H2 : Hp} (st : Step W c H2) {i : Nat} {p : Addr} {xs : List V} {ds : List D} (hp : H p = none) (h2 : H2 p = some (.lst xs)) (hl : xs.length ≤ sizeLine) (hd : DenL G (fun a => W.XB a ∨ a = p) H2 ds xs) :
    ∃ W' : Wd G E (σ.set i (some (.ref p))) H2, Later W c W' ∧ W'.env = W.env.set i (.own p ds) := by
  have fr0 : ¬ W.XB p := W.fresh hp
  have h0 : W.H0 p = none := by
    cases q : W.H0 p with
    | none => rfl
    | some o =>
      exfalso
      by_cases hu : W.u.map (·.1) = some p
      · cases hu' : W.u with
        | none => rw [hu'] at hu; cases hu
        | some r => rw [hu'] at hu; cases hu; exact fr0 (W.huX r hu')
      · rw [W.fr p o q hu] at hp; cases hp
  let W1 := W.next st
  have npo : ∀ {j : Nat} {s : Sl} {b : Addr}, W.env[j]? = some s → s.mine = true → σ[j]? = some (some (.ref b)) → b ≠ p := fun {j s b} e hm es z => by
    obtain ⟨_, o, ho⟩ := W.mine_at e hm es
    rw [z, hp] at ho; cases ho
  have xb : ∀ b, XBof W.B (W.env.set i (.own p ds)) (σ.set i (some (.ref p))) b → W.XB b ∨ b = p := fun b hb => by
    rcases hb with hb | ⟨j, s, e1, m1, e2⟩
    · exact .inl (.inl hb)
    · by_cases hj : i = j
      · subst hj
        by_cases hi : i < σ.length
        · rw [List.getElem?_set_self hi] at e2; cases e2; exact .inr rfl
        · rw [List.getElem?_eq_none (by rw [List.length_set]; omega)] at e2; cases e2
      · rw [List.getElem?_set_ne hj] at e1 e2
        exact .inl (.inr ⟨j, s, e1, m1, e2⟩)
  have dk : ∀ {d : D} {v : V}, Den G W.XB H d v → Den G (XBof W.B (W.env.set i (.own p ds)) (σ.set i (some (.ref p)))) H2 d v := fun {d v} h =>
    Den.keep (fun b o nb e => st.keep nb e) (fun b hb => (xb b hb).imp id fun z => by rw [z]; exact hp) d v h
  have dkl : ∀ {es : List D} {ys : List V}, DenL G W.XB H es ys → DenL G (XBof W.B (W.env.set i (.own p ds)) (σ.set i (some (.ref p)))) H2 es ys := fun {es ys} h =>
    DenL.keep (fun b o nb e => st.keep nb e) (fun b hb => (xb b hb).imp id fun z => by rw [z]; exact hp) es ys h
  have own_st : ∀ {j : Nat} {s : Sl} {b : Addr} {o : HO}, W.env[j]? = some s → s.mine = true → σ[j]? = some (some (.ref b)) → H b = some o → H2 b = some o := fun {j s b o} e hm es ho => st.ext b o ho fun z => by
    cases hu' : W.u with
    | none => rw [hu'] at z; cases z
    | some r => rw [hu'] at z; cases z; exact W.own_ne (W.mine_at e hm es).1 (W.hu r hu').1
  refine ⟨{ u := W.u, n := W.n - c, m := W.m, B := W.B, H0 := W.H0, env := W.env.set i (.own p ds), ex := W.ex, ug := W.ug, hu := W.hu, hB := W.hB, fr := W.fr.trans st.ext, good := st.good, len := by rw [List.length_set, List.length_set]; exact W.len, sl := fun j s e => ?_, nd := fun j l b s t e1 e2 m1 m2 e3 e4 => ?_, exc := W.exc },
    ⟨rfl, rfl, rfl, rfl, rfl, by show W.n ≤ W.n - c + c; omega, fun b o nb e => st.keep nb e, fun b hb => (xb b hb).imp id fun z => by rw [z]; exact hp⟩, rfl⟩
  · by_cases hj : i = j
    · subst hj
      by_cases hi : i < W.env.length
      · rw [List.getElem?_set_self hi] at e
        cases e
        rw [getD_set, if_pos ⟨rfl, by rw [← W.len]; exact hi⟩]
        exact ⟨xs, rfl, h0, h2, hl, hd.fewer xb⟩
      · rw [List.getElem?_eq_none (by simpa using hi)] at e; cases e
    · rw [List.getElem?_set_ne hj] at e
      rw [getD_set, if_neg (fun z => hj z.1)]
      have z := W.sl j s e
      cases s with
      | emp => trivial
      | val d => obtain ⟨x, e1, e2⟩ := z; exact ⟨x, e1, dk e2⟩
      | own b es => obtain ⟨ys, e1, e2, e3, e4, e5⟩ := z; exact ⟨ys, e1, e2, own_st e rfl (join_some e1) e3, e4, dkl e5⟩
      | slf b dx cc es => obtain ⟨ys, e1, e2, e3, e4, e5⟩ := z; exact ⟨ys, e1, e2, own_st e rfl (join_some e1) e3, e4, dkl e5⟩
  · by_cases hj : i = j
    · by_cases hlk : i = l
      · exact hj.symm.trans hlk
      · subst hj
        exfalso
        rw [List.getElem?_set_ne hlk] at e2 e4
        have hi : i < σ.length := by
          by_cases q : i < σ.length
          · exact q
          · rw [List.getElem?_eq_none (by rw [List.length_set]; omega)] at e3; cases e3
        rw [List.getElem?_set_self hi] at e3
        cases e3
        exact npo e2 m2 e4 rfl
    · rw [List.getElem?_set_ne hj] at e1 e3
      by_cases hlk : i = l
      · subst hlk
        exfalso
        have hi : i < σ.length := by
          by_cases q : i < σ.length
          · exact q
          · rw [List.getElem?_eq_none (by rw [List.length_set]; omega)] at e4; cases e4
        rw [List.getElem?_set_self hi] at e4
        cases e4
        exact npo e1 m1 e3 rfl
      · rw [List.getElem?_set_ne hlk] at e2 e4
        exact W.nd j l b s t e1 e2 m1 m2 e3 e4

/-- an expression that makes a new list -/
def liftFr (G : Gd) (E : XK) (c : Nat) (t : DA) : TE := fun σ H Q' => ∃ W : Wd G E σ H, W.m + c ≤ W.n ∧ ∃ Q, t W.ex W.env Q ∧
  ∀ p H' ds xs, Step W c H' → H p = none → H' p = some (.lst xs) → xs.length ≤ sizeLine → DenL G (fun a => W.XB a ∨ a = p) H' ds xs → Q ds → Q' (.ref p) H'
abbrev DF (G : Gd) (E : XK) (X : Cx) (c : Nat) (e : Expr) (t : DA) : Prop := PE X e (liftFr G E c t)
def fLst (u : DA) : DA := fun ex env Q => u ex env fun ds => ds.length ≤ sizeLine ∧ Q ds
theorem df_lst {es : List Expr} {pos : Pos} {c : Nat} {u : DA} (h : DEs G E X c es u) : DF G E X c (.List es pos) (fLst u) := imp (pe_lst h) fun σ H Q' h => by
  obtain ⟨W, hn, Q, ht, kk⟩ := h
  refine ⟨W, hn, _, ht, fun vs H1 ds st hd ⟨hl, hq⟩ => ⟨by rw [← hd.length]; exact hl, fun p hp => ?_⟩⟩
  have hp0 : H p = none := by
    cases q : H p with
    | none => rfl
    | some o =>
      exfalso
      by_cases hu : W.u.map (·.1) = some p
      · have nf := (W.next st).fresh hp
        cases hu' : W.u with
        | none => rw [hu'] at hu; cases hu
        | some r => rw [hu'] at hu; cases hu; exact nf (W.huX r hu')
      · rw [st.ext p o q hu] at hp; cases hp
  refine kk p _ ds vs (st.new hp) hp0 upd_same (by rw [← hd.length]; exact hl) ?_ hq
  exact DenL.keep (fun b o nb e => by rw [upd_ne (ne_of_none e hp)]; exact e) (fun b hb => hb.imp id fun z => by rw [z]; exact hp) ds vs hd
def fList (te : DT) : DA := fun ex env Q => te ex env fun d => match d with
  | .lst ds => Q ds
  | .tup ds => Q ds
  | _ => False
def sOwn (i : Nat) (t : DA) : DS := fun ex de env => t ex env fun ds => ∀ a, de.nx (env.set i (.own a ds))
theorem ds_own {i : Nat} {x : Str} {e : Expr} {pos pos' : Pos} {c : Nat} {t : DA} (hN : X.N.Nodup) (hi : X.N[i]? = some x) (hx : Loc X.env.scope x) (he : DF G E X c e t) (hs : swapsWith e (some (.Name x pos')) pos.line X.env = pure false := by rfl)
    (hf : X.fn x = true ∨ X.env.scope.names.lookup x = some .local := by first | exact .inl rfl | exact .inr rfl) : DSt G E X c (.Assign [.Name x pos'] e pos) (sOwn i t) :=
  impS (ps_set hN hi hx he hs hf) fun Dn σ H h => by
    obtain ⟨W, hn, de, ht, k1, k2, k3, k4⟩ := h
    refine ⟨W, hn, _, ht, fun p H' ds xs st hp h2 hl hd hq => ?_⟩
    obtain ⟨W', l1, l2⟩ := wd_own W st (i := i) hp h2 hl hd
    exact k1 _ H' W' l1 (by rw [l2]; exact hq p)
/-- from here on the list in slot i stays as it is -/
def sFreeze (i : Nat) (t : DS) : DS := fun ex de env => ∃ a ds, env[i]? = some (.own a ds) ∧ t ex de (env.set i (.val (.lst ds)))
theorem ds_freeze {i : Nat} {sts : List Stmt} {c : Nat} {t : DS} (h : DSs G E X c sts t) : DSs G E X c sts (sFreeze i t) := impSs h fun Dn σ H h => by
  obtain ⟨W, hn, de, ⟨a, ds, he, ht⟩, k1, k2, k3, k4⟩ := h
  obtain ⟨xs, e1, h0, ha, hl, hd⟩ := W.sl i _ he
  have hsi := join_some e1
  have hil : i < W.env.length := (List.getElem?_eq_some_iff.mp he).1
  have xb : ∀ b, XBof W.B (W.env.set i (.val (.lst ds))) σ b → W.XB b ∧ b ≠ a := fun b hb => by
    rcases hb with hb | ⟨j, s, f1, m1, f2⟩
    · exact ⟨.inl hb, fun z => W.own_ne h0 (by rw [← z]; exact hb)⟩
    · by_cases hj : i = j
      · subst hj
        rw [List.getElem?_set_self hil] at f1; cases f1; cases m1
      · rw [List.getElem?_set_ne hj] at f1
        exact ⟨.inr ⟨j, s, f1, m1, f2⟩, fun z => hj (W.nd i j a _ s he f1 rfl m1 hsi (by rw [← z]; exact f2))⟩
  have key : ∃ W' : Wd G E σ H, Later W 0 W' ∧ W'.env = W.env.set i (.val (.lst ds)) ∧ W'.n = W.n := by
    refine ⟨{ u := W.u, n := W.n, m := W.m, B := W.B, H0 := W.H0, env := W.env.set i (.val (.lst ds)), ex := W.ex, ug := W.ug, hu := W.hu, hB := W.hB, fr := W.fr, good := W.good, len := by rw [List.length_set]; exact W.len, sl := fun j s e => ?_, nd := fun j l b s t f1 f2 m1 m2 f3 f4 => ?_, exc := W.exc },
      ⟨rfl, rfl, rfl, rfl, rfl, by show W.n ≤ W.n + 0; omega, fun _ _ _ h => h, fun b hb => .inl (xb b hb).1⟩, rfl, rfl⟩
    · by_cases hj : i = j
      · subst hj
        rw [List.getElem?_set_self hil] at e
        cases e
        exact ⟨.ref a, e1, a, xs, rfl, fun z => (xb a z).2 rfl, ha, hl, hd.fewer fun b hb => (xb b hb).1⟩
      · rw [List.getElem?_set_ne hj] at e
        exact (W.sl j s e).fewer fun b hb => (xb b hb).1
    · have old : ∀ {j : Nat} {s : Sl}, (W.env.set i (.val (.lst ds)))[j]? = some s → s.mine = true → W.env[j]? = some s := fun {j s} f m => by
        by_cases hj : i = j
        · subst hj; rw [List.getElem?_set_self hil] at f; cases f; cases m
        · rw [List.getElem?_set_ne hj] at f; exact f
      exact W.nd j l b s t (old f1 m1) (old f2 m2) m1 m2 f3 f4
  obtain ⟨W', lt, we, wn⟩ := key
  refine ⟨W', by rw [lt.m, wn]; exact hn, de, by rw [lt.ex, we]; exact ht, fun σ' H' W2 l2 q => k1 σ' H' W2 ((lt.trans l2).more (by omega)) q, fun v σ2 H' W2 d l2 hd hr => k2 v σ2 H' W2 d ((lt.trans l2).more (by omega)) (by rw [lt.B] at hd; exact hd) hr, fun σ' H' W2 l2 q => k3 σ' H' W2 ((lt.trans l2).more (by omega)) q, fun σ' H' W2 l2 q => k4 σ' H' W2 ((lt.trans l2).more (by omega)) q⟩

/-! ### the frame's own list changes -/
theorem lift_own {i : Nat} {W : Wd G E σ H} {ds : List D} {a : Addr} (he : W.env[i]? = some (.own a ds)) : ∃ xs, σ[i]? = some (some (.ref a)) ∧ W.H0 a = none ∧ H a = some (.lst xs) ∧ xs.length ≤ sizeLine ∧ DenL G W.XB H ds xs := by
  obtain ⟨xs, e1, e2, e3, e4, e5⟩ := W.sl i _ he
  exact ⟨xs, join_some e1, e2, e3, e4, e5⟩
theorem own_step {W : Wd G E σ H} {c : Nat} {H1 : Hp} (st : Step W c H1) {i : Nat} {a : Addr} {xs ys : List V} {ds es : List D} (he : W.env[i]? = some (.own a ds)) (hsi : σ[i]? = some (some (.ref a))) (h0 : W.H0 a = none) (hl : ys.length ≤ sizeLine) (hd : DenL G W.XB H1 es ys) :
    ∃ W' : Wd G E σ (L2.upd H1 a (.lst ys)), Later W c W' ∧ W'.env = W.env.set i (.own a es) := by
  have he' : (W.next st).env[i]? = some (.own a ds) := he
  have kp := mut_keep (o1 := .lst ys) (W.next st) he' rfl hsi
  obtain ⟨W', l1, l2, l3⟩ := wd_mut (o1 := .lst ys) (s1 := .own a es) (W.next st) he' rfl hsi rfl ⟨ys, rfl, h0, upd_same, hl, DenL.keep kp (fun b hb => .inl hb) es ys hd⟩
  exact ⟨W', ((Later.next st).trans l1).more (by omega), l2⟩
/-- x.append(e) -/
def sApp (i : Nat) (te : DT) : DS := fun ex de env => ∃ a ds, env[i]? = some (.own a ds) ∧ te ex env fun d => ds.length < sizeLine ∧ de.nx (env.set i (.own a (ds ++ [d])))
theorem ds_app {i : Nat} {x : Str} {e : Expr} {pos p apos cpos : Pos} {c : Nat} {te : DT} (hN : X.N[i]? = some x) (he : DE G E X c e te) (hv : Vis X.env.scope x := by first | exact Or.inl rfl | exact Or.inr (Or.inl rfl) | exact Or.inr (Or.inr rfl)) (hd : (x == ("__debug__" : Str)) = false := by decide) (hcd : (x == ("__classdict__" : Str)) = false := by decide)
    (hbase : attributeBase (.Name x p) "append" X.env (eval (.Name x p) X.env) = eval (.Name x p) X.env := by rfl)
    (hfew : ((backTo cpos (starEach [e] X.env)).all (fun x => !x.1) && (backToKw cpos (keywordEach [] X.env)).all (fun x => x.1.isSome) && decide (([e] : List Expr).length + ([] : List Keyword).length + (if ([] : List Keyword).isEmpty then 0 else 1) < 30)) = true := by rfl)
    (hline : (apos.endLine == cpos.line) = true := by rfl) (hs : starEach [e] X.env = (false, eval e X.env) :: starEach [] X.env := by rfl) (hplain : (backTo cpos (starEach [] X.env)).any (·.1) = false := by rfl)
    (hsw : swapsWith (.Call (.Attribute (.Name x p) "append" apos) [e] [] cpos) none pos.line X.env = pure false := by rfl) : DSt G E X c (.Expr (.Call (.Attribute (.Name x p) "append" apos) [e] [] cpos) pos) (sApp i te) :=
  impS (ps_expr (pe_bm PySem.F.plainAttrs_list PySem.F.slot_list_append PySem.F.type_list_append mt_append (pe_var (i := i) hN hv hd hcd) (pa_cons he pa_nil hs) hbase hfew hline hs hplain) hsw) fun Dn σ H h => by
    obtain ⟨W, hn, de, ⟨a, ds, hei, ht⟩, k1, k2, k3, k4⟩ := h
    obtain ⟨xs, hsi, h0, ha, hl, hds⟩ := lift_own hei
    refine ⟨.ref a, hsi, .inl ⟨rfl, xs, SqL.of ha⟩, W, hn, _, ht, fun v H1 d st hdv ⟨hlt, hq⟩ => ?_⟩
    have el := hds.length
    have ha1 : H1 a = some (.lst xs) := st.ext a _ ha fun z => by
      cases hu' : W.u with
      | none => rw [hu'] at z; cases z
      | some r => rw [hu'] at z; cases z; exact W.own_ne h0 (W.hu r hu').1
    have hds1 : DenL G W.XB H1 ds xs := hds.ext st.ext W.huX
    obtain ⟨W', l1, l2⟩ := own_step (xs := xs) (ys := xs ++ [v]) (es := ds ++ [d]) st hei hsi h0 (by rw [List.length_append]; show xs.length + 1 ≤ _; omega) (hds1.append ⟨v, [], rfl, hdv, rfl⟩)
    exact ⟨a, xs, v, rfl, rfl, ha1, by omega, k1 σ _ W' l1 (by rw [l2]; exact hq)⟩
end
end Kn

set_option Elab.async false
set_option linter.all false
set_option maxRecDepth 100000
set_option maxHeartbeats 2100000
namespace Kn
open PySem PySem.Spec L2 RZ
open PyProof.Rows (envOfC AllBare IntsAre)

/-- the law's def answers True from the entry on: what is left to show of it, over the heap of which the script alone may be known -/
def LawOk (P : Program) (w : World) (K : PySem.W.Frag) (mg : Str → Option Value) (fa a : Addr) (ns : List Int) (s₁ : Shared) : Prop :=
  ∀ (base : Heap) (H : Hp), K.In base → base.Ns mainGlobals mg → Only H → SqL K H a (ns.map V.int) → Env0 P w K mg base callerA [] s₁ H →
    codeAny (model P w) callerA (.call (.ref fa) ⟨[.ref a], []⟩) (CR (L2.CX P w) [] P w H s₁ (fun v _ => v = .bl true) (fun _ _ _ => False)) s₁
section
variable {P : Program} {w : World} {K : PySem.W.Frag} {mg mb : Str → Option Value} {fa a : Addr} {s₁ : Shared} {vs : List Value} {ns : List Int}
theorem ns_hid {H : Hp} (hdict : ∀ {b : Addr} {o : Obj} {es : Array DictEntry} {ep : Nat}, s₁.heap.get? b = some o → o.data = .dict es ep → H b = none) {b : Addr} {m : Str → Option Value} (h : s₁.heap.Ns b m) : (hidT s₁.heap H).Ns b m := by
  obtain ⟨o, es, ep, e, d, r⟩ := h
  exact ⟨o, es, ep, hidT_get e (hdict e d), d, r⟩
theorem law_core (KX : K.In s₁.heap) (hns : s₁.heap.Ns mainGlobals mg) (hb : s₁.heap.Ns builtinsNs mb) (hbb : ∀ x : Str, x ≠ "__name__" → mb x = bootBuiltins x) (hlim : s₁.heap.NoLimit) (hg : s₁.gens = #[])
    (ha : s₁.heap.get? a = some { cls := .type "list", data := .seq vs.toArray }) (F : LawOk P w K mg fa a ns s₁) (H : Hp) (hO : Only H) (hS : SqL K H a (ns.map V.int)) (ok : HOk P w H s₁.heap) (hA : ∀ b, H b ≠ none → b = a) (hK : H a ≠ none → K.lookup a = none) :
    codeAny (model P w) callerA (.call (.ref fa) ⟨[.ref a], []⟩) (fun r s' => r = .ok
      (.ret (.bool true)) ∧ OldK s₁.heap s'.heap ∧ s'.os = s₁.os ∧ AllBare s'.gens) s₁ := by
  have hdict : ∀ {b : Addr} {o : Obj} {es : Array DictEntry} {ep : Nat}, s₁.heap.get? b = some o → o.data = .dict es ep → H b = none := by
    intro b o es ep e d
    by_cases hn : H b = none
    · exact hn
    · have eb := hA b hn
      rw [eb, ha] at e
      cases e
      cases d
  have kb : K.In (hidT s₁.heap H) := by
    intro b o e
    refine hidT_get (KX b o e) ?_
    by_cases hn : H b = none
    · exact hn
    · exfalso
      have eb := hA b hn
      rw [eb] at e hn
      rw [hK hn] at e
      cases e
  have gl := ns_hid hdict hns
  obtain ⟨mc, l1, l2⟩ := hlim
  have hM : Mod K mg (hidT s₁.heap H) := ⟨kb, gl, ⟨mb, ns_hid hdict hb, hbb⟩, ⟨mc, ns_hid hdict l1, l2⟩⟩
  have e0 : Env0 P w K mg (hidT s₁.heap H) callerA [] s₁ H := {
    frames := rfl, mod := hM, bs := fun b o e => of_hidT e, bsz := Nat.le_of_eq (hidT_size _ _), funs := trivial, frf := fun b hb => (List.not_mem_nil hb).elim, hok := ok, bare := .of_eq hg }
  refine codeAny_mono (F _ H kb gl hO hS e0) ?_
  intro r s' h
  cases r with
  | error e =>
    exfalso
    obtain ⟨_, _, _, _, _, _, _, _, _, _, _, _, z⟩ := h; exact z.elim
  | ok fl =>
    cases fl with
    | next => exact h.elim
    | brk => exact h.elim
    | cont => exact h.elim
    | ret u =>
      obtain ⟨v, H', os, bare, un, hok', r', q⟩ := h; rw [show v = .bl true from q] at r'
      cases r'
      refine ⟨rfl, OldK.of_keep ?_, os, bare⟩
      intro b o e
      cases hq : H b with
      | none => exact un.keep b o e hq (by intro z; cases z) (by intro z; cases z)
      | some x =>
        rcases hO b with
          z | ⟨ob, xs, z⟩
        · rw [hq] at z; cases z
        · have g1 := (ok b _ z).1
          have g2 := (hok' b _ (un.frzs b ob _ z)).1
          rw [e] at g1
          cases g1
          exact g2
theorem law_top (KX : K.In s₁.heap) (hns : s₁.heap.Ns mainGlobals mg) (hb : s₁.heap.Ns builtinsNs mb) (hbb : ∀ x : Str, x ≠ "__name__" → mb x = bootBuiltins x) (hlim : s₁.heap.NoLimit) (hg : s₁.gens = #[])
    (ha : s₁.heap.get? a = some { cls := .type "list", data := .seq vs.toArray }) (hi : IntsAre vs ns) (hl : ns.length ≤ sizeLine) (F : LawOk P w K mg fa a ns s₁) :
    codeAny (model P w) callerA (.call (.ref fa) ⟨[.ref a], []⟩) (fun r s' => r = .ok
      (.ret (.bool true)) ∧ OldK s₁.heap s'.heap ∧ s'.os = s₁.os ∧ AllBare s'.gens) s₁ := by
  have rv := vals_ints hi
  cases hk : K.lookup a with
  | some o =>
    have e := KX a o hk
    rw [ha] at e
    cases e
    refine law_core KX hns hb hbb hlim hg ha F (fun _ => none) (fun _ => .inl rfl) (.inr ?_) (fun b u z => by cases z) (fun b z => (z rfl).elim) (fun z => (z rfl).elim)
    exact ⟨_, vs.toArray, _, hk, rfl, rfl, rfl, by rw [List.size_toArray, hi.length]; exact hl, by simpa using rv⟩
  | none =>
    let H : Hp := fun b => if b = a then some (.frz { cls := .type "list", data := .seq vs.toArray } (.lst (ns.map V.int))) else none
    have Ha : H a = some (.frz { cls := .type "list", data := .seq vs.toArray } (.lst (ns.map V.int))) := if_pos rfl
    have Hn : ∀ {b}, b ≠ a → H b = none := fun {b} hb => if_neg hb
    refine law_core KX hns hb hbb hlim hg ha F H (fun b => ?_) (.inl (.inr ⟨_, Ha⟩)) (fun b u z => ?_) (fun b z => ?_) (fun _ => hk)
    · by_cases h : b = a
      · exact .inr ⟨_, _, by rw [h]; exact Ha⟩
      · exact .inl (Hn h)
    · by_cases h : b = a
      · rw [h, Ha] at z
        cases z
        rw [h]; exact ⟨ha, by rw [List.length_map]; exact hl, vs, _, rv, ha⟩
      · rw [Hn h] at z; cases z
    · by_cases h : b = a
      · exact h
      · exact (z (Hn h)).elim
end
/-- the end of a law's row -/
theorem law_row {l : PySem.W.OpenLaw} {n : Nat} {q : Program} {loose : List Str} {XP : (Str → Option Value) → Heap → Prop} {YP : World → Heap → Prop} {d : DefRec} {K : Params → PySem.W.Frag}
    (hn : l.most = some n) (hn2 : n ≤ sizeLine) (hdf : d.params.defaults = []) (hY : ∀ (w : World) (h : Heap), YP w h → (K w.params).In h)
    (F : ∀ (w : World) (mg : Str → Option Value) (fa a : Addr) (h : Heap) (s : Shared) (ns : List Int), (K w.params).In h → h.Ns mainGlobals mg → mg d.name = some (.ref fa) → ns.length ≤ n → LawOk l.prog w (K w.params) mg fa a ns s) :
    PySem.W.WalkO q loose XP YP l.row.toRowW
      d [] (fun f vs => PySem.call f vs) := by
  refine Att.attach_call hn hdf ?_
  intro w s₀ s₁ mg mb fa o pm cd doc a vs ns Gx Y ho hd hcd hmg hobj hints hlen hg
  exact law_top (hY w _ Y) Gx.T.g Gx.T.b Gx.T.builtins Gx.T.nolimit hg hobj hints (Nat.le_trans hlen hn2) (F w mg fa a _ s₁ ns (hY w _ Y) Gx.T.g hmg hlen)
end Kn

set_option Elab.async false
set_option linter.all false
set_option maxRecDepth 100000
set_option maxHeartbeats 2100000
namespace Kn
open PySem L2 RZ
open PyProof.Rows (envOfC)
section
variable {G : Gd} {E : XK} {X : Cx} {σ : List (Option V)} {H H' : Hp} {k : Nat}

/-! ### great numbers -/
def gMulW : G2 := gI CMulW fun i j => .int (i * j)
theorem o_mulW : OpR X (binaryOp .Mult) (rD G gMulW) := opr_imp op_mulW fun _ _ _ _ h => rD_I (fun _ _ _ _ => den_int _) h
def PowOk (i j : Int) : Prop := 0 ≤ j ∧ (Builtin.Int.intBits i : Int) * j ≤ 2 ^ 27
theorem op_powW : OpR X (binaryOp .Pow) (rI PowOk fun i j => .int (i ^ j.toNat)) := by
  intro pins s σ H x y v u Q I rx ry h; obtain ⟨i, j, rfl, rfl, hc, q⟩ := h
  obtain ⟨t, rfl⟩ := rx
  obtain ⟨t', rfl⟩ := ry
  exact PyProof.Rows.pow_int hc.1 hc.2 ⟨.int (i ^ j.toNat), H, I.tok _, ⟨_, rfl⟩, q⟩
def gPow : G2 := gI PowOk fun i j => .int (i ^ j.toNat)
theorem o_pow : OpR X (binaryOp .Pow) (rD G gPow) := opr_imp op_powW fun _ _ _ _ h => rD_I (fun _ _ _ _ => den_int _) h
theorem powOk_of {i : Int} {a : Nat} {j : Int} (h : i.natAbs < 2 ^ a) (hj : 0 ≤ j) (hz : (a : Int) * j ≤ 2 ^ 27) : PowOk i j := by
  refine ⟨hj, ?_⟩
  have h1 : Builtin.Int.intBits i ≤ a := PyProof.Rows.intBits_le h
  have h2 : (Builtin.Int.intBits i : Int) ≤ (a : Int) := by exact_mod_cast h1
  exact Int.le_trans (Int.mul_le_mul_of_nonneg_right h2 hj) hz
def gAbs : D → (D → Prop) → Prop := fun d Q => match d with
  | .int i => Q (.int (if i < 0 then -i else i))
  | _ => False
theorem c_abs : CallR X (.builtin "abs") (rDL G (g1 gAbs)) := callr_imp call_abs fun xs H Q' h => by
  obtain ⟨B, d, x, Q, rfl, hd, hf, hg, k⟩ := rDL1 h
  cases d <;> try exact hg.elim
  rename_i i
  cases hd
  exact ⟨i, rfl, k _ H (.int _) (Ext.refl _ _) (den_int _) hg⟩

/-! ### the frame's own list, read and stored -/
/-- an item as it is read -/
def D.plain : D → D
  | .at_ _ ds => .lst ds
  | d => d
theorem Den.plain {B : Addr → Prop} {H : Hp} {d : D} {v : V} (h : Den G B H d v) : Den G B H d.plain v := by
  cases d <;> try exact h
  obtain ⟨xs, e, h⟩ := h
  exact ⟨_, xs, e, h⟩
def dOix (i : Nat) (te : DT) : DT := fun ex env Q => ∃ a ds, env[i]? = some (.own a ds) ∧ te ex env fun e => ∃ j d, e = .int j ∧ atI ds j = some d ∧ Q d.plain
theorem de_oix {i : Nat} {x : Str} {b : Expr} {pos p : Pos} {c : Nat} {te : DT} (hN : X.N[i]? = some x) (hb : DE G E X c b te) (hs : PlainIx b) (hv : Vis X.env.scope x := by first | exact Or.inl rfl | exact Or.inr (Or.inl rfl) | exact Or.inr (Or.inr rfl))
    (hd : (x == ("__debug__" : Str)) = false := by decide) (hcd : (x == ("__classdict__" : Str)) = false := by decide) : DE G E X c (.Subscript (.Name x p) b pos) (dOix i te) :=
  imp (pe_ix ix_list (pe_var (i := i) hN hv hd hcd) hb hs) fun σ H Q' h => by
    obtain ⟨W, hn, Q, ⟨a, ds, he, ht⟩, kk⟩ := h
    obtain ⟨xs, hsi, h0, ha, hl, hds⟩ := lift_own he
    refine ⟨.ref a, hsi, W, hn, _, ht, fun v H1 e st hv1 ⟨j, d, e1, hat, hq⟩ => ?_⟩
    subst e1
    have ha1 : H1 a = some (.lst xs) := st.ext a _ ha fun z => by
      cases hu' : W.u with
      | none => rw [hu'] at z; cases z
      | some r => rw [hu'] at z; cases z; exact W.own_ne h0 (W.hu r hu').1
    obtain ⟨y, hy, hdy⟩ := denL_at (hds.ext st.ext W.huX) hat
    exact ⟨a, xs, j, y, rfl, hv1, SqL.of ha1, hy, kk y H1 d.plain st hdy.plain hq⟩
/-- x[e] = v -/
def sSetIx (i : Nat) (ti te : DT) : DS := fun ex de env => te ex env fun d => ∃ a ds, env[i]? = some (.own a ds) ∧ ti ex env fun e => ∃ j n, e = .int j ∧ ixN ds.length j = some n ∧ de.nx (env.set i (.own a (ds.set n d)))
theorem ds_setIx {i : Nat} {x : Str} {e b : Expr} {pos p p2 : Pos} {c c2 : Nat} {te ti : DT} (hN : X.N[i]? = some x) (he : DE G E X c e te) (hi : DE G E X c2 b ti) (hv : Vis X.env.scope x := by first | exact Or.inl rfl | exact Or.inr (Or.inl rfl) | exact Or.inr (Or.inr rfl))
    (hd : (x == ("__debug__" : Str)) = false := by decide) (hcd
      : (x == ("__classdict__" : Str)) = false := by decide)
    (ha : ∀ v, assign (.Subscript (.Name x p) b p2) X.env v = (do
      let ov ← holding [v] (eval (.Name x p) X.env)
      let iv ← holding [v, ov] (eval b X.env)
      standAt p2
      holding [v, ov, iv]
        (setItem ov iv v)
      release [v, ov, iv] []) := by intro _; rfl)
    (hs : swapsWithSole [.Subscript (.Name x p) b p2] e pos.line X.env = pure false := by rfl) (hw : swappedStores [.Subscript (.Name x p) b p2] e X.env = pure none := by rfl)
    (h1 : (assignEach [.Subscript (.Name x p) b p2] X.env).map (·.2) = [assign (.Subscript (.Name x p) b p2) X.env] := by rfl) : DSt G E X (c + c2) (.Assign [.Subscript (.Name x p) b p2] e pos) (sSetIx i ti te) :=
  impS (ps_asg he (pg_sub (pe_var (i := i) hN hv hd hcd) hi set_list ha) hs hw h1) fun Dn σ H h => by
    obtain ⟨W, hn, de, ht, k1, k2, k3, k4⟩ := h
    refine ⟨W, by omega, _, ht, fun v H1 d st hdv ⟨a, ds, hei, hq⟩ => ?_⟩
    obtain ⟨xs, hsi, h0, ha, hl, hds⟩ := lift_own (W := W.next st) hei
    refine ⟨.ref a, hsi, W.next st, by show W.m + c2 ≤ W.n - c; omega, _, hq, fun v2 H2 e2 st2 hv2 ⟨j, n, e1, hj, hnx⟩ => ?_⟩
    subst e1
    have ha2 : H2 a = some (.lst xs) := st2.ext a _ ha fun z => by
      cases hu' : W.u with
      | none => rw [show (W.next st).u = W.u from rfl, hu'] at z; cases z
      | some r => rw [show (W.next st).u = W.u from rfl, hu'] at z; cases z; exact W.own_ne h0 (W.hu r hu').1
    have el := hds.length
    obtain ⟨W', l1, l2⟩ := own_step (xs := xs) (ys := xs.set n v) (es := ds.set n d) (st.trans st2) (W := W) hei hsi h0 (by rw [List.length_set]; exact hl) ((hds.ext st2.ext (W.next st).huX).set n ((W.next st).den st2 hdv))
    exact ⟨a, xs, j, n, rfl, hv2, ha2, by rw [← el]; exact hj, k1 σ _ W' l1 (by rw [l2]; exact hnx)⟩

/-! ### the def that draws -/
/-- what every law's def that draws promises: a number from 0 below many -/
def sDraw : FSpec := fun ds R _ => ∃ many : Int, ds = [.urn, .int many] ∧ 1 ≤ many ∧ many < 1073741824 ∧ ∀ r : Int, 0 ≤ r → r < many → R (.int r)
/-- what the urn's list is to be behind a draw -/
def drawEnds (cells : List Int) (at_ many : Int) (a b : Addr) : DEnds := { nx := fun _ => False, rt := fun d env => ∃ i at2 r2 : Int, d = .int i ∧ 0 ≤ i ∧ i < many ∧ env[0]? = some (.own a [.at_ b (cells.map D.int), .int at2, .int r2]) ∧ 0 ≤ r2 ∧ 0 ≤ at2 ∧ at2 ≤ at_ + 1 }
/-- a def over the urn, by its body over the urn's list as a list of its own -/
theorem draw_of {P : Program} {w : World} {mg : Str → Option Value} {base : Heap} {f : Addr} {x qual : Str} {st : Stmt} {fd : FuncData} {N ps : List Str} {ts : DS} (F : Fun G.K x qual st f fd) (Sc : FnScope N ps (defScope st)) (h2 : ps.length = 2)
    (hder : ∀ (cdv : Value) (A : Around) (outer : List Env) (s : Shared) (H : Hp) (E : XK), Room k (A.deeper (envOfC qual (defScope st) s.heap.objs.size f cdv)) → A.guards = some [] →
      DSs { G with u := none } E (cxOf (L2.CX P w) P w G.K mg base N qual (defScope st) f cdv A outer s H E) 0 (defBody st) ts)
    (hS : ∀ (cells : List Int) (at_ r many : Int) (a b : Addr), cells.length ≤ 63 → 0 ≤ at_ → at_ < atLine → 0 ≤ r → 1 ≤ many → many < 1073741824 →
      ts noX (drawEnds cells at_ many a b)
        (Sl.own a [.at_ b (cells.map D.int), .int at_, .int r] :: Sl.val (.int many) :: List.replicate (N.length - 2) Sl.emp)) : FnD G P w mg base (k + 1) f fd ps 1 sDraw := by
  constructor
  intro A outer s H args us vs Q E hr hgd e0 hb rv hlen hsp
  obtain ⟨u, n, B, ds, R, ex, hug, hc, hu, hB, hg, hd, ⟨many, rfl, hm1, hm2, hR⟩, hq, hx⟩ := hsp
  obtain ⟨xv, yv, rfl, ⟨p, hp, rfl⟩, hy⟩ := denL2 hd
  cases hy
  rw [hug, hp] at hg
  rw [hp] at hug
  subst hug
  obtain ⟨a, b⟩ := p
  obtain ⟨cells, at_, r, ha, hbl, hcl, nab, hr0, hat, hatn⟩ := hg
  have hN2 : 2 ≤ N.length := by
    have h1 := congrArg List.length Sc.pre
    rw [List.length_take] at h1
    omega
  obtain ⟨oc, od, kV, doc, pm, an, cdv, ct, osl, rfl, lk, hcd⟩ := F.ex; have KX : G.K.In s.heap := PySem.W.Frag.In.keeps e0.mod.kin (fun b o e => (e0.bs b o e).1)
  have nolim : s.heap.NoLimit := Heap.NoLimit.keeps e0.mod.nolimit (fun b o e => (e0.bs b o e).1)
  have kinds : ∀ y ∈ ps.zip us, (defScope st).names.lookup y.1 = some .local ∨
      ((defScope st).names.lookup y.1 = some .cell ∧ ((cellsFrom (s.heap.objs.size + 1) (defScope st).names []).lookup y.1).isSome = true) := by
    intro y hy
    obtain ⟨n1, v1⟩ := y
    rcases Sc.par n1 (List.of_mem_zip hy).1 with z | z
    · exact .inl z
    · exact .inr ⟨z, PySem.W.cellsFrom_some _ _ _ (.inl z)⟩
  refine codeAny_call_function hr.depth (KX _ _ lk) rfl Sc.co Sc.gen rfl (PySem.W.codeRec_of KX hcd) ?_
  refine hb _ _ _ _ (wpAny_newFunctionEnv_cells Sc.kind kinds ?_)
  intro env he s1 ic
  subst he
  refine ⟨nolim.keeps ic.toInCall.keep, codeAny_func ?_⟩
  have I : Inv (cxOf (L2.CX P w) P w G.K mg base N qual (defScope st) f cdv A outer s H E) [] (L2.start N [.ref a, .int many]) H s1 := inv_start Sc hr.hd e0 hlen rv ic
  let env1 : List Sl := Sl.own a [.at_ b (cells.map D.int), .int at_, .int r] :: Sl.val (.int many) :: List.replicate (N.length - 2) Sl.emp
  have hmine : ∀ {i : Nat} {s : Sl}, env1[i]? = some s → s.mine = true → i = 0 := fun {i s} e hm => by
    match i with
    | 0 => rfl
    | 1 => have e' : some (Sl.val (.int many)) = some s := e; cases e'; cases hm
    | i + 2 =>
      have e' : (List.replicate (N.length - 2) Sl.emp)[i]? = some s := e
      rw [List.getElem?_replicate] at e'
      split at e'
      · cases e'; cases hm
      · cases e'
  have st0 : (L2.start N [.ref a, .int many])[0]? = some (some (.ref a)) := start_get (i := 0) rfl
  have xb : ∀ c, XBof (fun x => B x ∧ x ≠ a ∧ x ≠ b) env1 (L2.start N [.ref a, .int many]) c → (B c ∧ c ≠ a ∧ c ≠ b) ∨ c = a := fun c hc => by
    rcases hc with hc | ⟨j, s, e1, m1, e2⟩
    · exact .inl hc
    · have z := hmine e1 m1
      subst z
      rw [st0] at e2
      cases e2
      exact .inr rfl
  have key : ∃ W : Wd { G with u := none } E (L2.start N [.ref a, .int many]) H, W.m + 0 ≤ W.n ∧ W.u = none ∧ W.B = (fun x => B x ∧ x ≠ a ∧ x ≠ b) ∧ W.H0 = (fun x => if x = a then none else H x) ∧ W.env = env1 ∧ W.ex = noX := by
    refine ⟨{ u := none, n := 0, m := 0, B := fun x => B x ∧ x ≠ a ∧ x ≠ b, H0 := fun x => if x = a then none else H x, env := env1, ex := noX, ug := rfl, hu := fun p e => (Option.some_ne_none p e.symm).elim, hB := fun x hx => ?_, fr := fun x o e _ => ?_, good := trivial, len := ?_, sl := fun i s e => ?_, nd := fun i j c s t e1 e2 m1 m2 _ _ => ?_, exc := fun _ _ _ _ _ _ _ z => z.elim }, Nat.le_refl _, rfl, rfl, rfl, rfl, rfl⟩
    · show (if x = a then none else H x) ≠ none
      rw [if_neg hx.2.1]
      exact hB x hx.1
    · have e : (if x = a then none else H x) = some o := e
      by_cases hxa : x = a
      · rw [if_pos hxa] at e; cases e
      · rw [if_neg hxa] at e; exact e
    · show (List.replicate (N.length - 2) Sl.emp).length + 1 + 1 = _
      unfold L2.start
      simp only [List.length_append, List.length_map, List.length_replicate, List.length_cons, List.length_nil]
      omega
    · match i with
      | 0 =>
        have e' : some (Sl.own a [.at_ b (cells.map D.int), .int at_, .int r]) = some s := e
        cases e'
        refine ⟨_, by rw [st0]; rfl, if_pos rfl, ha, by rw [sizeLine_eq]; show (3 : Nat) ≤ 16777216; omega, ?_⟩
        refine ⟨_, _, rfl, ⟨_, rfl, fun z => ?_, hbl, by rw [List.length_map, sizeLine_eq]; omega, DenL.of_ints⟩, _, _, rfl, rfl, _, _, rfl, rfl, rfl⟩
        rcases xb b z with z | z
        · exact z.2.2 rfl
        · exact nab z.symm
      | 1 =>
        have e' : some (Sl.val (.int many)) = some s := e
        cases e'
        exact ⟨.int many, by rw [start_get (i := 1) (v := .int many) rfl]; rfl, rfl⟩
      | i + 2 =>
        have e' : (List.replicate (N.length - 2) Sl.emp)[i]? = some s := e
        rw [List.getElem?_replicate] at e'
        split at e'
        · cases e'; trivial
        · cases e'
    · rw [hmine e1 m1, hmine e2 m2]
  obtain ⟨W, wn, wu, wB, wH, we, wx⟩ := key
  have body := (hder cdv A outer s H E (hr.deeper _) hgd).run [] s1 (L2.start N [.ref a, .int many]) H { nx := fun _ H' => Q .non H', rt := Q } I (by
    have hts := hS cells at_ r many a b hcl hat (by omega) hr0 hm1 hm2
    refine ⟨W, wn, drawEnds cells at_ many a b, by rw [we, wx]; exact hts, fun σ' H' W' lt z => z.elim, ?_, fun σ' H' W' lt z => z.elim, fun σ' H' W' lt z => z.elim⟩
    rintro v σ' H' W' d lt hd' ⟨i, at2, r2, rfl, hi0, hi1, h0, hr2, ha2, ha3⟩
    cases hd'
    obtain ⟨xs, e1, e2, e3, e4, ⟨x1, y1, rfl, ⟨zs, rfl, nb2, hb2, _, dz⟩, x2, y2, rfl, hx2, x3, y3, rfl, hx3, hy3⟩⟩ := W'.sl 0 _ h0
    cases hx2; cases hx3; cases hy3
    have ez := dz.ints
    subst ez
    have fr : ∀ c o, H c = some o → c ≠ a → H' c = some o := fun c o e nc => by
      have z := W'.fr c o (by rw [lt.H0, wH]; show (if c = a then none else H c) = some o; rw [if_neg nc]; exact e)
      rw [lt.u, wu] at z
      exact z (by simp)
    have hb3 := fr b _ hbl (Ne.symm nab)
    refine hq (.int i) H' (.int i) (fun c o e nc => fr c o e (fun z => nc (by rw [z]; rfl))) ?_ rfl (hR i hi0 hi1)
    exact ⟨cells, at2, r2, e3, hb2, hcl, nab, hr2, ha2, by omega⟩)
  refine wpAny_mono body ?_ (fun e s' hs => hs)
  intro fl s' hfl
  cases fl with
  | next => obtain ⟨σ', H', J, q⟩ := hfl; exact ⟨.non, H', J.os, J.bare, J.base, J.hok, rfl, q⟩
  | ret v' => obtain ⟨v, σ', H', J, r1, q⟩ := hfl; exact ⟨v, H', J.os, J.bare, J.base, J.hok, r1, q⟩
  | brk => obtain ⟨σ', H', J, q⟩ := hfl; exact q.elim
  | cont => obtain ⟨σ', H', J, q⟩ := hfl; exact q.elim
end
end Kn

set_option Elab.async false
set_option linter.all false
set_option maxRecDepth 100000
set_option maxHeartbeats 2100000
namespace Kn
open PySem L2 RZ
open PyProof.Rows (envOfC)
section
variable {G : Gd} {E : XK} {X : Cx} {σ : List (Option V)} {H H' : Hp} {j k : Nat}
variable {P : Program} {w : World} {mg : Str → Option Value} {base : Heap}
/-- within a def's own body -/
theorem xk_def {N : List Str} {qual : Str} {scope : Scope} {f : Addr} {cd : Value} {A : Around} {outer : List Env} {s : Shared} {H : Hp} (hr : Room k (A.deeper (envOfC qual scope s.heap.objs.size f cd))) (hg : A.guards = some []) :
    Xk G E k (cxOf (L2.CX P w) P w G.K mg base N qual scope f cd A outer s H E) where
  K := rfl
  room := hr
  gd := hg
  pass := passes_call (W := fun cls d _ H => E cls d H) (takes_of rfl rfl rfl rfl) fun _ _ _ _ h => h
  calm := rfl
/-- within a comprehension -/
theorem Xk.blk (xk : Xk G E k X) (s : Shared) (H : Hp) (scope : Scope) (cenv : Env) (fp : List Addr) : Xk G E0 k (X.blk s H scope cenv fp) where
  K := xk.K
  room := xk.room
  gd := xk.gd
  pass := passL
  calm := xk.calm
theorem po_def {N : List Str} {qual : Str} {scope : Scope} {f : Addr} {cd : Value} {A : Around} {outer : List Env} {s : Shared} {H : Hp} :
    PassesOwn (model (cxOf (L2.CX P w) P w G.K mg base N qual scope f cd A outer s H E).prog (cxOf (L2.CX P w) P w G.K mg base N qual scope f cd A outer s H E).w) (cxOf (L2.CX P w) P w G.K mg base N qual scope f cd A outer s H E).A
      (cxOf (L2.CX P w) P w G.K mg base N qual scope f cd A outer s H E).env (cxOf (L2.CX P w) P w G.K mg base N qual scope f cd A outer s H E).xe := passes_of rfl
theorem FnD.more {f : Addr} {fd : FuncData} {ps : List Str} {c c' : Nat} {S : FSpec} (F : FnD G P w mg base k f fd ps c S) (h : c ≤ c') : FnD G P w mg base k f fd ps c' S := by
  constructor
  intro A outer s H args us vs Q E hr hg e0 hb rv hl hs
  obtain ⟨u, n, B, ds, R, ex, hug, hc, hu, hB, hgd, hd, hs, hq, hx⟩ := hs
  exact F.run A outer s H args us vs Q E hr hg e0 hb rv hl ⟨u, n, B, ds, R, ex, hug, by omega, hu, hB, hgd, hd, hs, fun v H' d e g => hq v H' d e (g.less (by omega)), fun x C d H' e g => hx x C d H' e (g.less (by omega))⟩
theorem InitD.more {f : Addr} {fd : FuncData} {ps : List Str} {c c' cid : Nat} {S : FSpec} (F : InitD G P w mg base k f fd ps c cid S) (h : c ≤ c') : InitD G P w mg base k f fd ps c' cid S := by
  constructor
  intro A outer s H args us vs Q E hr hg e0 hb rv hl hs
  obtain ⟨u, n, B, ds, R, ex, x, dx, vs', hug, h1, h2, h3, h4, h5, h6, hc, hu, hB, hgd, hd, hs, hq, hx⟩ := hs
  exact F.run A outer s H args us vs Q E hr hg e0 hb rv hl ⟨u, n, B, ds, R, ex, x, dx, vs', hug, h1, h2, h3, h4, h5, h6, by omega, hu, hB, hgd, hd, hs, fun H' xs ds' e g => hq H' xs ds' e (g.less (by omega)), fun y C d H' e g => hx y C d H' e (g.less (by omega))⟩
/-- a weaker promise -/
theorem FnD.imp {f : Addr} {fd : FuncData} {ps : List Str} {c : Nat} {S S' : FSpec} (F : FnD G P w mg base k f fd ps c S) (h : ∀ ds R ex, S' ds R ex → S ds R ex) : FnD G P w mg base k f fd ps c S' := by
  constructor
  intro A outer s H args us vs Q E hr hg e0 hb rv hl hs
  obtain ⟨u, n, B, ds, R, ex, hug, hc, hu, hB, hgd, hd, hs, hq, hx⟩ := hs
  exact F.run A outer s H args us vs Q E hr hg e0 hb rv hl ⟨u, n, B, ds, R, ex, hug, hc, hu, hB, hgd, hd, h _ _ _ hs, hq, hx⟩
/-- a def as its callers know it -/
theorem Fk.of {f : Addr} {fd : FuncData} {x : Str} {ps : List Str} {c : Nat} {S : FSpec} (F : FnD G P w mg base k f fd ps c S) (hm : mg x = some (.ref f)) (hk : PySem.W.keepIn G.K (.ref f) = true) (hb : Binds G.K fd ps []) : Fk G P w mg base k x ps c S := ⟨f, fd, F, hm, hk, hb⟩
/-- pure defs: the value is f of the arguments where they are as P says -/
def sPure (P : List D → Prop) (f : List D → D) : FSpec := fun ds R _ => P ds ∧ R (f ds)
end
end Kn

set_option Elab.async false
set_option linter.all false
set_option maxRecDepth 100000
set_option maxHeartbeats 2100000
namespace Kn
open PySem L2 RZ
open PyProof.Rows (envOfC)
section
variable {G : Gd} {E : XK} {X : Cx} {σ : List (Option V)} {H H' : Hp} {k : Nat}

theorem de_one {op : BoolOp} {a : Expr} {pos : Pos} {c : Nat} {t : DT} (h : DE G E X c a t) : DE G E X c (.BoolOp op [a] pos) t := pe_one h
def dNeg (ta : DT) : DT := fun ex env Q => ta ex env fun d => ∃ i : Int, d = .int i ∧ Q (.int (-i))
theorem de_neg {a : Expr} {pos : Pos} {c : Nat} {ta : DT} (ha : DE G E X c a ta) : DE G E X c (.UnaryOp .USub a pos) (dNeg ta) := imp (pe_un un_neg ha) fun σ H Q' h => by
  obtain ⟨W, hn, Q, ht, kk⟩ := h
  refine ⟨W, hn, _, ht, fun v H1 d st hd ⟨i, e, hq⟩ => ?_⟩
  subst e
  cases hd
  exact ⟨i, rfl, kk _ H1 (.int (-i)) st (den_int _) hq⟩
/-- a built-in type by its name -/
theorem den_opq {B : Addr → Prop} {H : Hp} (v : V) : Den G B H (.opq v) v := rfl
theorem de_tyn {x : Str} {n : String} {pos : Pos} (hm : X.mg x = none) (hg : Gl X x := by rfl) (hv : bootBuiltins x = some (.type n) := by decide +kernel) (hn : x ≠ "__name__" := by decide) (hd : (x == ("__debug__" : Str)) = false := by decide) : DE G E X 0 (.Name x pos) (dC (.opq (.ty n))) :=
  imp (pe_bltn (v := .ty n) hg hm hv rfl hn hd) fun _ _ _ h => lift_c (fun _ _ => den_opq _) h
/-- a class, a def of the module by its name -/
theorem de_ref {x : Str} {a : Addr} {pos : Pos} (hm : X.mg x = some (.ref a)) (hg : Gl X x := by rfl) (hd : (x == ("__debug__" : Str)) = false := by decide) : DE G E X 0 (.Name x pos) (dC (.opq (.ref a))) :=
  imp (pe_glob (v := .ref a) hg hm rfl hd) fun _ _ _ h => lift_c (fun _ _ => den_opq _) h
/-- an int of the module -/
theorem de_gint {x : Str} {i : Int} {pos : Pos} (hm : ∃ t, X.mg x = some (.int i t)) (hg : Gl X x := by rfl) (hd : (x == ("__debug__" : Str)) = false := by decide) : DE G E X 0 (.Name x pos) (dC (.int i)) := by
  obtain ⟨t, hm⟩ := hm
  exact imp (pe_glob (v := .int i) hg hm ⟨t, rfl⟩ hd) fun _ _ _ h => lift_c (fun _ _ => den_int i) h

/-! ### isinstance -/
def kindS : D → Option String
  | .non => some "NoneType"
  | .bl _ => some "bool"
  | .int _ => some "int"
  | .str _ => some "str"
  | .lst _ => some "list"
  | .tup _ => some "tuple"
  | _ => none
def isB (d : D) (T : String) : Option Bool := (kindS d).bind fun s => kitB s T
theorem Den.tyx {B : Addr → Prop} {d : D} {v : V} {s : String} (h : Den G B H d v) (e : kindS d = some s) : TyX G.K H v (.type s) := by
  cases d with
  | non => cases e; cases h; exact .base .non
  | bl b => cases e; cases h; exact .base (.bl b)
  | int i => cases e; cases h; exact .base (.int i)
  | str x => cases e; cases h; exact .base (.str x)
  | lst ds => cases e; obtain ⟨a, xs, rfl, _, ha, _⟩ := h; exact .base (.lst ha)
  | tup ds =>
    cases e
    obtain ⟨a, xs, rfl, _, ha, _⟩ := h
    rcases ha with (ha | ⟨o, ha⟩) | ⟨o, _, _, hk, hc, _⟩
    · exact .base (.tup ha)
    · exact .fTuple ha
    · exact .kTuple hk hc
  | ins c ds => cases e
  | opq w => cases e
  | urn => cases e
  | at_ a ds => cases e
  | dct ks ds => cases e
/-- isinstance(x, T), T a built-in type -/
def gIsi : G2 := fun d c Q => ∃ T b, c = .opq (.ty T) ∧ isB d T = some b ∧ Q (.bl b)
theorem c_isi (hK : X.K = G.K) : CallR X (.builtin "isinstance") (rDL G (g2 gIsi)) := callr_imp call_isi fun xs H Q' h => by
  obtain ⟨B, d, c, x, y, Q, rfl, hd, hc, hf, ⟨T, b, rfl, hb, hq⟩, kk⟩ := rDL2 h
  cases hc
  unfold isB at hb
  cases hk : kindS d with
  | none => rw [hk] at hb; cases hb
  | some s =>
    rw [hk] at hb
    exact ⟨x, .ty T, .type s, .type T, b, rfl, .ty T, by rw [hK]; exact hd.tyx hk, kit_ty hb, kk _ H (.bl b) (Ext.refl _ _) (den_bl b) hq⟩
/-- isinstance(x, (T1, T2, ..)) -/
def anyB (d : D) : List String → Option Bool
  | [] => some false
  | T :: Ts => match isB d T with
    | some true => some true
    | some false => anyB d Ts
    | none => none
def gIsiT : G2 := fun d c Q => ∃ Ts b, c = .tup (Ts.map fun T => .opq (.ty T)) ∧ anyB d Ts = some b ∧ Q (.bl b)
theorem tys_den {B : Addr → Prop} : ∀ {Ts : List String} {xs : List V}, DenL G B H (Ts.map fun T => D.opq (.ty T)) xs → xs = Ts.map V.ty
  | [], _, h => h
  | T :: Ts, _, ⟨x, r, e, h1, h2⟩ => by subst e; rw [show x = V.ty T from h1, tys_den h2]; rfl
theorem any_kit {d : D} {s : String} {K : PySem.W.Frag} (hs : kindS d = some s) : ∀ {Ts : List String} {b : Bool}, anyB d Ts = some b → PySem.W.kitAny K (.type s) (Ts.map Value.type) = some b
  | [], b, h => h
  | T :: Ts, b, h => by
    have e : isB d T = kitB s T := by unfold isB; rw [hs]; rfl
    unfold anyB at h
    rw [e] at h
    show (match PySem.W.kitOne K (.type s) (.type T) with | some true => some true | some false => PySem.W.kitAny K (.type s) (Ts.map Value.type) | none => none) = some b
    cases hk : kitB s T with
    | none =>
      rw [hk] at h; cases h
    | some r =>
      rw [hk] at h
      rw [kit_ty hk]
      cases r with
      | true => exact h
      | false => exact any_kit hs h
theorem any_kind {d : D} : ∀ {Ts : List String} {b : Bool}, Ts ≠ [] → anyB d Ts = some b → ∃ s, kindS d = some s
  | [], _, h, _ => absurd rfl h
  | T :: Ts, b, _, h => by
    unfold anyB isB at h
    cases hk : kindS d with
    | none =>
      rw [hk] at h; cases h
    | some s => exact ⟨s, rfl⟩
theorem paired_ty : ∀ (Ts : List String), Paired ClsV (Ts.map V.ty) (Ts.map Value.type)
  | [] => .nil
  | T :: Ts => .cons (.ty T) (paired_ty Ts)
/-- a tuple that was made in the call: tracked -/
theorem c_isiT (hK : X.K = G.K) : CallR X (.builtin "isinstance") (fun xs H Q' => ∃ (B : Addr → Prop) (d : D) (x : V) (p : Addr) (Ts : List String) (b : Bool) (Q : D → Prop), xs = [x, .ref p] ∧ Den G B H d x ∧ H p = some (.tup (Ts.map V.ty)) ∧ Ts ≠ [] ∧ anyB d Ts = some b ∧ Q (.bl b) ∧ ∀ r H' rd, Ext none H H' → Den G B H' rd r → Q rd → Q' r H') := callr_imp call_isiT fun xs H Q' h => by
  obtain ⟨B, d, x, p, Ts, b, Q, rfl, hd, hp, hne, hb, hq, kk⟩ := h
  obtain ⟨s, hs⟩ := any_kind hne hb
  exact ⟨x, p, _, .type s, _, b, rfl, hp, paired_ty Ts, by rw [hK]; exact hd.tyx hs, any_kit hs hb, kk _ H (.bl b) (Ext.refl _ _) (den_bl b) hq⟩
def dIsiT (Ts : List String) (te : DT) : DT := fun ex env Q => te ex env fun d => ∃ b, anyB d Ts = some b ∧ Q (.bl b)
/-- isinstance(e, (T, ..)): the tuple's names as es -/
theorem de_isiT {e : Expr} {es : List Expr} {p pos p2 : Pos} {x1 c : Nat} {te : DT} {Ts : List String} (hK : X.K = G.K) (hm : X.mg "isinstance" = none) (he : DE G E X c e te) (hes : PA X es (fun σ H Q => Q (Ts.map V.ty) H)) (hne : Ts ≠ []) (hl : Ts.length ≤ 1000) (hg : Gl X "isinstance" := by rfl) (hv : bootBuiltins "isinstance" = some (.builtin "isinstance") := by decide +kernel)
    (hs : starEach [e, .Tuple es x1 p2] X.env = (false, eval e X.env) :: starEach [.Tuple es x1 p2] X.env := by rfl) (hs2 : starEach [.Tuple es x1 p2] X.env = (false, eval (.Tuple es x1 p2) X.env) :: starEach [] X.env := by rfl) (hpl : (backTo pos (starEach [.Tuple es x1 p2] X.env)).any (·.1) = false := by rfl) :
    DE G E X c (.Call (.Name "isinstance" p) [e, .Tuple es x1 p2] [] pos) (dIsiT Ts te) :=
  imp (pe_callB (c_isiT (G := G) hK) hg hm hv (pa_cons he (pa_cons (pe_tup hes) pa_nil hs2) hs) (by decide) (by decide) hs hpl) fun σ H Q' h => by
    obtain ⟨W, hn, Q, ht, kk⟩ := h
    refine ⟨W, hn, _, ht, fun v H1 d st hd ⟨b, hb, hq⟩ => ⟨by rw [List.length_map, sizeLine_eq]; omega, fun q hq0 => ?_⟩⟩
    refine ⟨W.XB, d, v, q, Ts, b, Q, rfl, den_upd hq0 hd, upd_same, hne, hb, hq, fun r H' rd ex hr hq2 => kk r H' rd ((st.new hq0).pure ex) hr hq2⟩
theorem ps_tyn {x : Str} {n : String} {pos : Pos} (hm : X.mg x = none) (hg : Gl X x := by rfl) (hv : bootBuiltins x = some (.type n) := by decide +kernel) (hn : x ≠ "__name__" := by decide) (hd : (x == ("__debug__" : Str)) = false := by decide) : PE X (.Name x pos) (tC (.ty n)) := pe_bltn hg hm hv rfl hn hd

/-! ### slices -/
def cutD (xs : List D) (lo hi : Option Int) : List D := (xs.drop (HT.sIx xs.length 0 lo)).take (HT.sIx xs.length xs.length hi - HT.sIx xs.length 0 lo)
theorem denL_cut {B : Addr → Prop} {ds : List D} {xs : List V} {lo hi : Option Int} (h : DenL G B H ds xs) : DenL G B H (cutD ds lo hi) (cutV xs lo hi) := by
  unfold cutD cutV
  rw [h.length]
  exact (h.drop _).take _
def gSl (lo hi : Option Int) : D → (D → Prop) → Prop := fun d Q => match d with
  | .lst ds => Q (.lst (cutD ds lo hi))
  | .tup ds => Q (.tup (cutD ds lo hi))
  | _ => False
abbrev DO := (Exc → Prop) → List Sl → (Option Int → Prop) → Prop
def oNone : DO := fun _ _ Q => Q none
def oSome (te : DT) : DO := fun ex env Q => te ex env fun d => ∃ i : Int, d = .int i ∧ Q (some i)
def liftO (G : Gd) (E : XK) (c : Nat) (t : DO) : TO := fun σ H Q' => ∃ W : Wd G E σ H, W.m + c ≤ W.n ∧ ∃ Q, t W.ex W.env Q ∧ ∀ o H', Step W c H' → Q o → Q' o H'
theorem do_none : PO X none (liftO G E 0 oNone) := ⟨fun pins s σ H Q' I h => po_none.run pins s σ H Q' I (by
  obtain ⟨W, hn, Q, ht, kk⟩ := h
  exact kk none H (Step.refl W) ht)⟩
theorem do_some {e : Expr} {c : Nat} {te : DT} (he : DE G E X c e te) : PO X (some e) (liftO G E c (oSome te)) := ⟨fun pins s σ H Q' I h => (po_some he).run pins s σ H Q' I (by
  obtain ⟨W, hn, Q, ht, kk⟩ := h
  refine ⟨W, hn, _, ht, fun v H1 d st hd ⟨i, e, hq⟩ => ?_⟩
  subst e
  cases hd
  exact ⟨i, rfl, kk (some i) H1 st hq⟩)⟩
def dSl (te : DT) (lo hi : DO) : DT := fun ex env Q => te ex env fun d => lo ex env fun l => hi ex env fun u => gSl l u d Q
theorem sl_any : SlR X (fun x lo hi H Q => rSlL X.K x lo hi H Q ∨ rSlA X.K x lo hi H Q) := SlR.or sl_list sl_tupA
theorem cut_all {xs : List V} {lo hi : Option Int} (h1 : HT.sIx xs.length 0 lo = 0) (h2 : HT.sIx xs.length xs.length hi = xs.length) : cutV xs lo hi = xs := by
  unfold cutV
  rw [h1, h2, List.drop_zero, Nat.sub_zero, List.take_length]
theorem cutD_all {ds : List D} {n : Nat} {lo hi : Option Int} (hn : ds.length = n) (h1 : HT.sIx n 0 lo = 0) (h2 : HT.sIx n n hi = n) : cutD ds lo hi = ds := by
  unfold cutD
  rw [hn, h1, h2, List.drop_zero, Nat.sub_zero, ← hn, List.take_length]
theorem de_sl {e : Expr} {lo hi : Option Expr} {pos p2 : Pos} {c cl ch : Nat} {te : DT} {tl th : DO} (hK : X.K = G.K) (he : DE G E X c e te) (hl : PO X lo (liftO G E cl tl)) (hh : PO X hi (liftO G E ch th)) : DE G E X (c + (cl + ch)) (.Subscript e (.Slice lo hi none p2) pos) (dSl te tl th) :=
  imp (pe_slice sl_any he hl hh) fun σ H Q' h => by
    obtain ⟨W, hn, Q, ht, kk⟩ := h
    refine ⟨W, by omega, _, ht, fun v H1 d st hd hq => ⟨W.next st, by show W.m + cl ≤ W.n - c; omega, _, hq, fun l H2 st2 hq2 => ⟨(W.next st).next st2, by show W.m + ch ≤ W.n - c - cl; omega, _, hq2, fun u H3 st3 hq3 => ?_⟩⟩⟩
    have st13 : Step W (c + (cl + ch)) H3 := st.trans (st2.trans st3)
    have hd3 : Den G W.XB H3 d v := ((W.next st).next st2).den st3 ((W.next st).den st2 hd)
    cases d <;> try exact hq3.elim
    · rename_i ds
      obtain ⟨a, xs, rfl, na, ha, la, da⟩ := hd3
      refine .inl ⟨a, xs, rfl, SqL.of ha, fun p hp => kk _ _ (.lst (cutD ds l u)) (st13.new hp) (den_lst hp ((W.next st13).fresh hp) (Nat.le_trans (cutV_length xs l u) la) (denL_cut da)) hq3⟩
    · rename_i ds
      obtain ⟨a, xs, rfl, na, ha, la, da⟩ := hd3
      have hq4 : Q (.tup (cutD ds l u)) := hq3
      refine .inr ⟨a, xs, rfl, by rw [hK]; exact ha, fun ⟨h1, h2⟩ => ?_, fun _ p hp => kk _ _ (.tup (cutD ds l u)) (st13.new hp) (den_tup hp ((W.next st13).fresh hp) (Nat.le_trans (cutV_length xs l u) la) (denL_cut da)) hq4⟩
      rw [cutD_all da.length h1 h2] at hq4
      exact kk _ H3 (.tup ds) st13 ⟨a, xs, rfl, na, ha, la, da⟩ hq4
end
end Kn

set_option Elab.async false
set_option linter.all false
set_option maxRecDepth 100000
set_option maxHeartbeats 2100000
namespace Kn
open PySem L2 RZ

/-- a comprehension whose items are known, with a test that is known -/
theorem compL_filter {tg : DG} {tt : DB} {te : DT} {Q : List D → Prop} {env : List Sl} (p : D → Bool) (f : D → D) : ∀ {ds acc : List D},
    (∀ d ∈ ds, ∀ (K : D → Prop) (K' : Prop), (p d = true → K (f d)) → (p d = false → K') → tg d env fun env2 => tt noX env2 fun b => if b = true then te noX env2 K else K') →
    Q (acc ++ (ds.filter p).map f) → compL tg tt te Q env ds acc
  | [], acc, _, hq => by
    unfold compL
    simpa using hq
  | d :: ds, acc, h, hq => by
    unfold compL
    refine h d List.mem_cons_self _ _ (fun hp => ?_) fun hp => ?_
    · refine compL_filter p f (fun e he => h e (List.mem_cons_of_mem _ he)) ?_
      rw [List.filter_cons, if_pos hp] at hq
      simpa using hq
    · refine compL_filter p f (fun e he => h e (List.mem_cons_of_mem _ he)) ?_
      rw [List.filter_cons, if_neg (by rw [hp]; exact Bool.false_ne_true)] at hq
      exact hq
/-- without a test -/
theorem compL_map {tg : DG} {te : DT} {Q : List D → Prop} {env : List Sl} (f : D → D) : ∀ {ds acc : List D}, (∀ d ∈ ds, ∀ K : D → Prop, K (f d) → tg d env fun env2 => te noX env2 K) → Q (acc ++ ds.map f) → compL tg bYes te Q env ds acc
  | [], acc, _, hq => by
    unfold compL
    simpa using hq
  | d :: ds, acc, h, hq => by
    unfold compL
    refine h d List.mem_cons_self _ ?_
    exact compL_map f (fun e he => h e (List.mem_cons_of_mem _ he)) (by simpa using hq)
/-- without a test, whatever comes of each item -/
theorem compL_any {tg : DG} {te : DT} {Q : List D → Prop} {env : List Sl} (R : D → D → Prop) : ∀ {ds acc : List D}, (∀ d ∈ ds, ∀ K : D → Prop, (∀ r, R d r → K r) → tg d env fun env2 => te noX env2 K) →
    (∀ rs : List D, rs.length = ds.length → (∀ (i : Nat) (d r : D), ds[i]? = some d → rs[i]? = some r → R d r) → Q (acc ++ rs)) → compL tg bYes te Q env ds acc
  | [], acc, _, hq => by
    unfold compL
    have := hq [] rfl (fun i d r h => by simp at h)
    simpa using this
  | d :: ds, acc, h, hq => by
    unfold compL
    refine h d List.mem_cons_self _ fun r hr => ?_
    refine compL_any R (fun e he => h e (List.mem_cons_of_mem _ he)) fun rs hl hrs => ?_
    have := hq (r :: rs) (by simp [hl]) fun i d' r' h1 h2 => by
      cases i with
      | zero => simp at h1 h2; subst h1; subst h2; exact hr
      | succ i => exact hrs i d' r' (by simpa using h1) (by simpa using h2)
    simpa using this
/-- a for loop by what holds between two turns -/
theorem sForL_inv {ex : Exc → Prop} {tg : DG} {tb : DS} {de : DEnds} (I : Nat → List Sl → Prop) : ∀ {ds : List D} {env : List Sl} (n : Nat), I n env →
    (∀ (i : Nat) (d : D) (env : List Sl), ds[i]? = some d → I (n + i) env → ∀ nx : List Sl → Prop, (∀ env', I (n + i + 1) env' → nx env') → tg d env fun env2 => tb ex { de with nx := nx, ct := nx, bk := de.nx } env2) →
    (∀ env, I (n + ds.length) env → de.nx env) → sForL ex tg tb de ds env
  | [], env, n, h0, _, hd => by
    unfold sForL
    exact hd env (by simpa using h0)
  | d :: ds, env, n, h0, hs, hd => by
    unfold sForL
    refine hs 0 d env rfl h0 _ fun env' h' => ?_
    refine sForL_inv I (n + 1) h' (fun i d' env'' hi hI nx hn => ?_) (fun env'' hI => hd env'' (by rw [List.length_cons, show n + (ds.length + 1) = n + 1 + ds.length by omega]; exact hI))
    refine hs (i + 1) d' env'' (by simpa using hi) (by rw [show n + (i + 1) = n + 1 + i by omega]; exact hI) nx fun e he => hn e (by rw [show n + 1 + i + 1 = n + (i + 1) + 1 by omega]; exact he)
theorem atI_cons {α : Type} {x : α} {xs : List α} : atI (x :: xs) 0 = some x := by
  have := atI_nat (xs := x :: xs) (j := 0) (v := x) rfl
  simpa using this
end Kn

set_option Elab.async false
set_option linter.all false
set_option maxRecDepth 100000
set_option maxHeartbeats 2100000
namespace Kn
open PySem L2 RZ
def D.isI : D → Bool
  | .int _ => true
  | _ => false
theorem isB_int : ∀ {d : D}, (kindS d).isSome = true → isB d "int" = some (match d with | .int _ => true | .bl _ => true | _ => false)
  | .non, _ => by decide +kernel
  | .bl b, _ => by show kitB "bool" "int" = some true; decide +kernel
  | .int i, _ => by show kitB "int" "int" = some true; decide +kernel
  | .str x, _ => by show kitB "str" "int" = some false; decide +kernel
  | .lst ds, _ => by show kitB "list" "int" = some false; decide +kernel
  | .tup ds, _ => by show kitB "tuple" "int" = some false; decide +kernel
theorem isB_bool : ∀ {d : D}, (kindS d).isSome = true → isB d "bool" = some (match d with | .bl _ => true | _ => false)
  | .non, _ => by decide +kernel
  | .bl b, _ => by show kitB "bool" "bool" = some true; decide +kernel
  | .int i, _ => by show kitB "int" "bool" = some false; decide +kernel
  | .str x, _ => by show kitB "str" "bool" = some false; decide +kernel
  | .lst ds, _ => by show kitB "list" "bool" = some false; decide +kernel
  | .tup ds, _ => by show kitB "tuple" "bool" = some false; decide +kernel
theorem isB_list : ∀ {d : D}, (kindS d).isSome = true → isB d "list" = some (match d with | .lst _ => true | _ => false)
  | .non, _ => by decide +kernel
  | .bl b, _ => by show kitB "bool" "list" = some false; decide +kernel
  | .int i, _ => by show kitB "int" "list" = some false; decide +kernel
  | .str x, _ => by show kitB "str" "list" = some false; decide +kernel
  | .lst ds, _ => by show kitB "list" "list" = some true; decide +kernel
  | .tup ds, _ => by show kitB "tuple" "list" = some false; decide +kernel
theorem isB_tuple : ∀ {d : D}, (kindS d).isSome = true → isB d "tuple" = some (match d with | .tup _ => true | _ => false)
  | .non, _ => by decide +kernel
  | .bl b, _ => by show kitB "bool" "tuple" = some false; decide +kernel
  | .int i, _ => by show kitB "int" "tuple" = some false; decide +kernel
  | .str x, _ => by show kitB "str" "tuple" = some false; decide +kernel
  | .lst ds, _ => by show kitB "list" "tuple" = some false; decide +kernel
  | .tup ds, _ => by show kitB "tuple" "tuple" = some true; decide +kernel
/-- the items of a list or tuple -/
def D.items? : D → Option (List D)
  | .lst ds => some ds
  | .tup ds => some ds
  | _ => none
theorem any_seq : ∀ {d : D}, (kindS d).isSome = true → anyB d ["list", "tuple"] = some d.items?.isSome := fun {d} h => by
  unfold anyB anyB anyB
  rw [isB_list h, isB_tuple h]
  cases d <;> first | rfl | cases h
def seqOf (d : D) (f : List D → Prop) (n : Prop) : Prop := match d.items? with
  | some ds => f ds
  | none => n
end Kn

set_option Elab.async false
set_option linter.all false
set_option maxRecDepth 100000
set_option maxHeartbeats 2100000
namespace Kn
open PySem L2 RZ
open PyProof.Rows (envOfC)
section
variable {G : Gd} {E : XK} {X : Cx} {σ : List (Option V)} {H H' : Hp} {k : Nat}

/-! ### in, not in: a tuple of plain data -/
def rInTu (K : PySem.W.Frag) (f : Bool → Bool) : R2 := fun x y H Q => ∃ d ds, Dp K H x d ∧ Dp K H y (.tuple ds) ∧ SeqAt.shaped d = true ∧ SeqAt.shaped (.tuple ds) = true ∧ Q (.bl (f (ds.any fun z => PyData.eqv z d))) H
theorem op_inTu (hu : X.A.units + 65 < cLine) : OpR X (compareOp .In) (rInTu X.K id) := by
  intro pins s σ H x y v u Q I rx ry h; obtain ⟨d, ds, hd, he, sd, se, q⟩ := h
  obtain ⟨as, r1⟩ := Dp.reads I d x v hd rx; obtain ⟨bs, r2⟩ := Dp.reads I (.tuple ds) y u he ry
  exact SeqAt.in_tuple_reads r2 r1 (SeqAt.canLay_of_shaped se) (SeqAt.canLay_of_shaped sd) (PyProof.Rows.room_in_shaped sd hu) ⟨.bl _, H, I, rfl, q⟩
theorem op_niTu (hu : X.A.units + 65 < cLine) : OpR X (compareOp .NotIn) (rInTu X.K not) := by
  intro pins s σ H x y v u Q I rx ry h; obtain ⟨d, ds, hd, he, sd, se, q⟩ := h
  obtain ⟨as, r1⟩ := Dp.reads I d x v hd rx; obtain ⟨bs, r2⟩ := Dp.reads I (.tuple ds) y u he ry
  exact SeqAt.notIn_tuple_reads r2 r1 (SeqAt.canLay_of_shaped se) (SeqAt.canLay_of_shaped sd) (PyProof.Rows.room_in_shaped sd hu) ⟨.bl _, H, I, rfl, q⟩
def gInT : G2 := fun d e Q => ∃ p qs es, e = .tup es ∧ pd d = some p ∧ pdL es = some qs ∧ SeqAt.shaped p = true ∧ SeqAt.shaped (.tuple qs) = true ∧ Q (.bl (qs.any fun z => PyData.eqv z p))
def gNiT : G2 := fun d e Q => ∃ p qs es, e = .tup es ∧ pd d = some p ∧ pdL es = some qs ∧ SeqAt.shaped p = true ∧ SeqAt.shaped (.tuple qs) = true ∧ Q (.bl (!qs.any fun z => PyData.eqv z p))
theorem o_inT (hK : X.K = G.K) (hu : X.A.units + 65 < cLine) : OpR X (compareOp .In) (rD G gInT) := opr_imp (op_inTu hu) fun x y H Q' h => by
  obtain ⟨B, d, e, Q, hd, he, _, ⟨p, qs, es, e0, e1, e2, s1, s2, hq⟩, k⟩ := h
  subst e0
  exact ⟨p, qs, by rw [hK]; exact hd.dp _ _ _ e1, by rw [hK]; exact he.dp _ _ _ (by simp [pd, e2]), s1, s2, k _ H (.bl _) (Ext.refl _ _) (den_bl _) hq⟩
theorem o_niT (hK : X.K = G.K) (hu : X.A.units + 65 < cLine) : OpR X (compareOp .NotIn) (rD G gNiT) := opr_imp (op_niTu hu) fun x y H Q' h => by
  obtain ⟨B, d, e, Q, hd, he, _, ⟨p, qs, es, e0, e1, e2, s1, s2, hq⟩, k⟩ := h
  subst e0
  exact ⟨p, qs, by rw [hK]; exact hd.dp _ _ _ e1, by rw [hK]; exact he.dp _ _ _ (by simp [pd, e2]), s1, s2, k _ H (.bl _) (Ext.refl _ _) (den_bl _) hq⟩
/-- is True, is False: of two bools -/
def gIsB : G2 := fun d e Q => ∃ a b, d = .bl a ∧ e = .bl b ∧ Q (.bl (decide (a = b)))
def gIsnB : G2 := fun d e Q => ∃ a b, d = .bl a ∧ e = .bl b ∧ Q (.bl (!decide (a = b)))
theorem o_isB : OpR X (compareOp .Is) (rD G gIsB) := opr_imp op_is_bl fun x y H Q' h => by
  obtain ⟨B, d, e, Q, hd, he, _, ⟨a, b, rfl, rfl, hq⟩, k⟩ := h
  exact ⟨a, b, hd, he, k _ H (.bl _) (Ext.refl _ _) (den_bl _) hq⟩
theorem o_isnB : OpR X (compareOp .IsNot) (rD G gIsnB) := opr_imp op_isnot_bl fun x y H Q' h => by
  obtain ⟨B, d, e, Q, hd, he, _, ⟨a, b, rfl, rfl, hq⟩, k⟩ := h
  exact ⟨a, b, hd, he, k _ H (.bl _) (Ext.refl _ _) (den_bl _) hq⟩

/-! ### l[::-1], l.count(i) -/
def dRev (te : DT) : DT := fun ex env Q => te ex env fun d => ∃ ds, d = .lst ds ∧ Q (.lst ds.reverse)
theorem DenL.reverse {B : Addr → Prop} {H : Hp} : ∀ {ds : List D} {xs : List V}, DenL G B H ds xs → DenL G B H ds.reverse xs.reverse
  | [], _, h => by cases h; rfl
  | d :: ds, _, ⟨x, r, e, h1, h2⟩ => by
    subst e
    rw [List.reverse_cons, List.reverse_cons]; exact (DenL.reverse h2).append ⟨x, [], rfl, h1, rfl⟩
theorem de_revL {e : Expr} {c : Nat} {te : DT} {kk : Nat} {p1 p2 p3 pos : Pos} (he : DE G E X c e te) : DE G E X c (.Subscript e (.Slice none none (some (.UnaryOp .USub (.Constant (.int 1) kk p1) p2)) p3) pos) (dRev te) :=
  imp (pe_revL he) fun σ H Q' h => by
    obtain ⟨W, hn, Q, ht, kk⟩ := h
    refine ⟨W, hn, _, ht, fun v H1 d st hd ⟨ds, e, hq⟩ => ?_⟩
    subst e
    obtain ⟨a, xs, rfl, na, ha, la, da⟩ := hd
    refine ⟨a, xs, rfl, SqL.of ha, fun p hp => ?_⟩
    exact kk _ _ (.lst ds.reverse) (st.new hp) (den_lst hp ((W.next st).fresh hp) (by rw [List.length_reverse]; exact la) da.reverse) hq
def dCount (te tv : DT) : DT := fun ex env Q => te ex env fun d => ∃ is : List Int, d = .lst (is.map D.int) ∧ tv ex env fun e => ∃ i : Int, e = .int i ∧ Q (.int (is.count i : Nat))
theorem de_count {o e : Expr} {apos cpos : Pos} {c c2 : Nat} {te tv : DT} (ho : DE G E X c o te) (he : DE G E X c2 e tv)
    (hbase : attributeBase o "count" X.env (eval o X.env) = eval o X.env := by rfl)
    (hfew : ((backTo cpos (starEach [e] X.env)).all (fun x => !x.1) && (backToKw cpos (keywordEach [] X.env)).all (fun x => x.1.isSome) && decide (([e] : List Expr).length + ([] : List Keyword).length + (if ([] : List Keyword).isEmpty then 0 else 1) < 30)) = true := by rfl)
    (hline : (apos.endLine == cpos.line) = true := by rfl) (hs : starEach [e] X.env = (false, eval e X.env) ::
      starEach [] X.env := by rfl) (hplain : (backTo cpos (starEach [] X.env)).any (·.1) = false := by rfl) :
    DE G E X (c + c2) (.Call (.Attribute o "count" apos) [e] [] cpos) (dCount te tv) :=
  imp (pe_bm PySem.F.plainAttrs_list PySem.F.slot_list_count PySem.F.type_list_count mt_lcount ho (pa_cons he pa_nil hs) hbase hfew hline hs hplain) fun σ H Q' h => by
    obtain ⟨W, hn, Q, ht, kk⟩ := h
    refine ⟨W, by omega, _, ht, fun v H1 d st hd ⟨is, e, hq⟩ => ?_⟩
    subst e
    obtain ⟨a, xs, rfl, na, ha, la, da⟩ := hd
    have ex := da.ints
    subst ex
    refine ⟨.inl ⟨rfl, _, SqL.of ha⟩, W.next st, by show W.m + c2 ≤ W.n - c; omega, _, hq, fun v2 H2 e st2 he2 ⟨i, e2, hq2⟩ => ?_⟩
    subst e2
    cases he2
    have ha2 : H2 a = some (.lst (is.map V.int)) := st2.keep na ha
    exact ⟨a, is, i, rfl, rfl, SqL.of ha2, kk _ H2 (.int (is.count i : Nat)) (st.trans st2) (den_int _) hq2⟩

/-! ### a, b = x, y -/
def sPar (i j : Nat) (u : DA) : DS := fun ex de env => u ex env fun ds => ∃ x y, ds = [x, y] ∧ de.nx ((env.set i (.val x)).set j (.val y))
theorem ds_par {i j : Nat} {x y : Str} {a b : Expr} {u : DA} {c : Nat} {px py pt pos : Pos} {kt k2 pt2} (hc : X.calm = true) (hN : X.N.Nodup) (hi : X.N[i]? = some x) (hj : X.N[j]? = some y) (hij : i ≠ j)
    (hx : X.env.scope.names.lookup x = some .local) (hy : X.env.scope.names.lookup y = some .local) (ha : DEs G E X c [a, b] u)
    (hw : swappedStores [.Tuple [.Name x px, .Name y py] kt
      pt] (.Tuple [a, b] k2 pt2) X.env = pure (some [x, y]))
    (hs : swapsWithSole [.Tuple [.Name x px, .Name y py] kt pt] (.Tuple [a, b] k2 pt2) pos.line X.env = pure false := by rfl) : DSt G E X c (.Assign [.Tuple [.Name x px, .Name y py] kt pt] (.Tuple [a, b] k2 pt2) pos) (sPar i j u) :=
  impS (ps_par hc hN hi hj hij hx hy ha hw hs) fun Dn σ H h => by
    obtain ⟨W, hn, de, ht, k1, k2, k3, k4⟩ := h
    refine ⟨W, hn, _, ht, fun vs H1 ds st hd ⟨x, y, e, hq⟩ => ?_⟩
    subst e
    obtain ⟨v, w, rfl, hv, hw⟩ := denL2 hd
    refine ⟨v, w, rfl, ?_⟩
    have hv' : Den G (W.next st).XB H1 x v := hv
    have hw' : Den G ((W.next st).put i hv').XB H1 y w := hw.fewer fun b hb => xb_val (W.next st).len hb
    exact k1 _ H1 (((W.next st).put i hv').put j hw') ((((Later.next st).trans (Later.put _ i hv')).trans (Later.put _ j hw')).more (by omega)) hq
end
end Kn

set_option Elab.async false
set_option linter.all false
set_option maxRecDepth 100000
set_option maxHeartbeats 2100000
namespace Kn
open PySem L2 RZ
open PyProof.Rows (envOfC)
section
variable {G : Gd} {E : XK} {X : Cx} {σ : List (Option V)} {H H' : Hp} {tg tg1 : Expr} {k : Nat}

/-! ### comprehensions of two clauses (none of whose parts draws) -/
def compI (tg : DG) (tt : DB) (te : DT) (Q : List D → Prop) (env : List Sl) : List D → List D → Prop
  | [], acc => Q acc
  | d :: ds, acc => tg d env fun env2 => tt noX env2 fun b => if b = true then te noX env2 fun y => acc.length < sizeLine ∧ compI tg tt te Q env ds (acc ++ [y]) else compI tg tt te Q env ds acc
def compL2 (vs1 : List Nat) (tg : DG) (tt : DB) (ti1 : DA) (tg1 : DG) (tt1 : DB) (te : DT) (Q : List D → Prop) (env : List Sl) : List D → List D → Prop
  | [], acc => Q acc
  | d :: ds, acc => tg d env fun env2 => tt noX env2 fun b => if b = true then ti1 noX env2 fun es => compI tg1 tt1 te (fun acc2 => compL2 vs1 tg tt ti1 tg1 tt1 te Q env ds acc2) (inEnv env2 vs1) es acc else compL2 vs1 tg tt ti1 tg1 tt1 te Q env ds acc
def dComp2 (vs vs1 : List Nat) (ti : DA) (tg : DG) (tt : DB) (ti1 : DA) (tg1 : DG) (tt1 : DB) (te : DT) : DT := fun ex env Q => ti ex env fun ds => compL2 vs1 tg tt ti1 tg1 tt1 te (fun rs => Q (.lst rs)) (inEnv env vs) ds []
theorem ext_nb {u : Option (Addr × Addr)} {B : Addr → Prop} {b : Addr} {o : HO} (e : Ext u H H') (hu : ∀ p, u = some p → B p.1) (nb : ¬ B b) (h : H b = some o) : H' b = some o := e b o h fun z => by
  cases hu' : u with
  | none => rw [hu'] at z; cases z
  | some r => rw [hu'] at z; cases z; exact nb (hu r hu')
/-- the state in which one item of the second clause is made -/
def Wd.inner2 (W : Wd G E0 σ H) (vs : List Nat) (H2 : Hp) (k : ∀ b o, ¬ W.XB b → H b = some o → H2 b = some o) (hB : ∀ a, W.B a → H2 a ≠ none) (hg : Good W.u H2 W.n) : Wd G E0 (wipe σ vs) H2 where
  u := W.u
  n := W.n
  m := W.m
  B := W.B
  H0 := H2
  env := inEnv W.env vs
  ex := fun _ => False
  ug := W.ug
  hu := W.hu
  hB := hB
  fr := Ext.refl _ _
  good := hg
  len := by unfold inEnv; rw [wipeE_len, List.length_map, wipe_length]; exact W.len
  sl := fun i s e => by
    rcases inEnv_get e with z | ⟨hi, s', h1, z⟩
    · subst z; trivial
    · subst z
      have so := W.sl i s' h1
      have ew : (wipe σ vs)[i]? = σ[i]? := by rw [wipe_get, if_neg (fun z => hi z.1)]
      rw [ew]
      cases s' with
      | emp => trivial
      | own a ds => trivial
      | slf a dx c ds => trivial
      | val d =>
        obtain ⟨x, e1, e2⟩ := so
        exact ⟨x, e1, Den.keep k (fun b hb => .inl (.inl (xb_in hb))) d x e2⟩
  nd := fun i j a s t h1 _ hm => (inEnv_noown h1 hm).elim
  exc := fun _ _ _ _ _ _ _ z => z.elim
/-- no address that counts is free -/
theorem AccAt.free {W : Wd G E σ H} {c : Nat} {H1 H2 : Hp} {D0 : Addr} {n : Nat} {acc : List D} (st : Step W c H1) (A : AccAt G W H1 D0 n H2 acc) {p : Addr} (hp : H2 p = none) : ¬ (W.XB p ∨ p = D0) := fun hb => by
  rcases hb with hb | rfl
  · cases q : H1 p with
    | none => exact (W.next st).fresh q hb
    | some o =>
      by_cases hu : W.u.map (·.1) = some p
      · have g := A.good
        cases hu' : W.u with
        | none => rw [hu'] at hu; cases hu
        | some r =>
          rw [hu'] at hu
          cases hu
          obtain ⟨p1, p2⟩ := r
          rw [hu'] at g
          obtain ⟨_, _, _, h1, _⟩ := g
          rw [h1] at hp; cases hp
      · rw [A.keep p o q hu] at hp; cases hp
  · obtain ⟨xs, hxs, _⟩ := A.at_
    rw [hxs] at hp; cases hp
/-- more done beside the list -/
theorem AccAt.step {W : Wd G E σ H} {H1 H2 H3 : Hp} {D0 : Addr} {n : Nat} {acc : List D} (A : AccAt G W H1 D0 n H2 acc) (nu0 : W.u.map (·.1) ≠ some D0) (e : Ext W.u H2 H3) (g : Good W.u H3 n) : AccAt G W H1 D0 n H3 acc := by
  obtain ⟨⟨xs, h1, h2, h3⟩, k, _⟩ := A
  exact ⟨⟨xs, e _ _ h1 nu0, h2, h3.ext e fun p z => .inl (W.huX p z)⟩, fun b o hb nu => e _ _ (k b o hb nu) nu, g⟩
/-- one more item -/
theorem AccAt.push {W : Wd G E σ H} {H1 H2 : Hp} {D0 : Addr} {n : Nat} {acc : List D} {d : D} {y : V} {xs : List V} (A : AccAt G W H1 D0 n H2 acc) (hD : H1 D0 = none) (fr0 : ¬ W.XB D0) (hx : H2 D0 = some (.lst xs)) (hy : Den G (fun a => W.XB a ∨ a = D0) H2 d y) (hl : acc.length < sizeLine) :
    xs.length < sizeLine ∧ AccAt G W H1 D0 n (upd H2 D0 (.lst (xs ++ [y]))) (acc ++ [d]) := by
  obtain ⟨⟨xs', h1, h2, h3⟩, k, g⟩ := A
  rw [hx] at h1
  cases h1
  have el := h3.length
  have kk : ∀ b o, ¬ (W.XB b ∨ b = D0) → H2 b = some o → upd H2 D0 (.lst (xs ++ [y])) b = some o := fun b o nb hb => by rw [upd_ne (fun z => nb (.inr z))]; exact hb
  refine ⟨by omega, ⟨xs ++ [y], upd_same, by rw [List.length_append]; show xs.length + 1 ≤ _; omega, (DenL.keep kk (fun b hb => .inl hb) _ _ h3).append ⟨y, [], rfl, Den.keep kk (fun b hb => .inl hb) _ _ hy, rfl⟩⟩, fun b o hb nu => ?_, ?_⟩
  · rw [upd_ne (ne_of_none hb hD)]
    exact k b o hb nu
  · exact g.upd fun p e => ⟨fun z => fr0 (by rw [show D0 = p.1 from z]; exact W.huX p e), fun z => fr0 (by rw [show D0 = p.2 from z]; exact .inl (W.hu p e).2)⟩
theorem lift_comp2 {ci : Nat} {ti ti1 : DA} {t t1 : DG} {tt tt1 : DB} {te : DT} {vs sl vs1 sl1 : List Nat} (hsl : ∀ i ∈ sl, i ∈ vs) (hsl1 : ∀ i ∈ sl1, i ∈ vs1) {Q' : VK} (h : lift G E ci (dComp2 vs vs1 ti t tt ti1 t1 tt1 te) σ H Q') :
    tLc2 (liftI G E ci ti) (liftG G E0 sl t) (liftB G E0 0 tt) (liftI G E0 0 ti1) (liftG G E0 sl1 t1) (liftB G E0 0 tt1) (lift G E0 0 te) vs vs1 σ H Q' := by
  obtain ⟨W, hn, Q, ht, kQ⟩ := h
  refine ⟨W, hn, _, ht, fun J H1 ds st wk hq => ?_⟩
  intro D0 hD
  have fr0 : ¬ W.XB D0 := (W.next st).fresh hD
  have nu0 : W.u.map (·.1) ≠ some D0 := fun z => by
    cases hu' : W.u with
    | none => rw [hu'] at z; cases z
    | some r => rw [hu'] at z; cases z; exact fr0 (W.huX r hu')
  refine ⟨fun i m H2 => ∃ acc, AccAt G W H1 D0 (W.n - ci) H2 acc ∧ i ≤ ds.length ∧ m = ds.length - i ∧ compL2 vs1 t tt ti1 t1 tt1 te (fun rs => Q (.lst rs)) (inEnv W.env vs) (ds.drop i) acc,
    ⟨ds.length, [], ⟨⟨[], upd_same, by simp, rfl⟩, fun b o hb _ => by rw [upd_ne (ne_of_none hb hD)]; exact hb, st.good.ext (Ext.new hD)⟩, Nat.zero_le _, rfl, hq⟩, ?_⟩
  rintro i m H2 ⟨acc, A, hi, rfl, hq2⟩
  have keepX : ∀ b o, ¬ W.XB b → H1 b = some o → H2 b = some o := fun b o nb hb => A.keep b o hb fun z => by
    cases hu' : W.u with
    | none => rw [hu'] at z; cases z
    | some r => rw [hu'] at z; cases z; exact nb (W.huX r hu')
  by_cases hlt : i < ds.length
  case neg =>
    have e : i = ds.length := by omega
    rw [e, List.drop_length] at hq2
    obtain ⟨xs, hxs, hxl, hxd⟩ := A.at_
    exact .inl ⟨wk.stop i H2 keepX (by omega), kQ _ H2 (.lst acc) ⟨fun b o hb nu => A.keep b o (st.ext b o hb nu) nu, A.good⟩ ⟨D0, xs, rfl, fr0, hxs, hxl, hxd.fewer fun b z => .inl z⟩ hq2⟩
  obtain ⟨go, yl⟩ := wk.go i H2 (fun a => W.XB a ∨ a = D0) keepX (fun b hb => by
    rcases hb with hb | rfl
    · exact .inl hb
    · exact .inr hD) (fun p hp => A.free st hp) hlt
  refine .inr ⟨go, fun H5 => ∃ acc2, AccAt G W H1 D0 (W.n - ci) H5 acc2 ∧ compL2 vs1 t tt ti1 t1 tt1 te (fun rs => Q (.lst rs)) (inEnv W.env vs) (ds.drop (i + 1)) acc2,
    fun H5 ⟨acc2, a2, q2⟩ => ⟨ds.length - (i + 1), by omega, acc2, a2, hlt, rfl, q2⟩, fun x H3 hy => ?_⟩
  obtain ⟨ex2, d, hd, hden⟩ := yl x H3 hy
  rw [drop_cons hd] at hq2
  have A3 : AccAt G W H1 D0 (W.n - ci) H3 acc := A.step nu0 ex2.weak (A.good.ext ex2)
  obtain ⟨xs3, hxs3, _, _⟩ := A3.at_
  let W3 : Wd G E0 (wipe σ vs) H3 := W.inner st vs D0 H3 (W.n - ci) hD (by rw [hxs3]; simp) A3.keep A3.good
  have hden3 : Den G W3.XB H3 d x := hden.fewer fun b hb => xb_in hb
  refine ⟨W3, d, _, hden3, hq2, fun σ4 W4 al hsl4 hq4 => ⟨wipe_same hsl hsl4.1 (by rw [hsl4.2, wipe_length]), ?_⟩⟩
  have l4 := al.later
  have n4 : W4.n = W.n - ci := al.n
  have m4 : W4.m = W.m := l4.m
  have u4 : W4.u = W.u := l4.u
  have b4 : ∀ a, (W.XB a ∨ a = D0) → W4.B a := fun a ha => by rw [l4.B]; exact ha
  have b4' : ∀ a, W4.B a → (W.XB a ∨ a = D0) := fun a ha => by rw [l4.B] at ha; exact ha
  refine ⟨W4, by rw [n4, m4]; omega, _, by rw [l4.ex]; exact hq4, fun b H5 st5 hb => ?_⟩
  have e5 : Ext W.u H3 H5 := by have z := st5.ext; rw [u4] at z; exact z
  have g5 : Good W.u H5 (W.n - ci) := by have z := st5.good; rw [u4, n4] at z; exact z
  have A5 := A3.step nu0 e5 g5
  cases b with
  | false => exact ⟨acc, A5, hb⟩
  | true =>
    refine ⟨W4.next st5, by show W4.m + 0 ≤ W4.n - 0; rw [n4, m4]; omega, _, by rw [show (W4.next st5).ex = noX from l4.ex]; exact hb, fun J1 H6 es st6 wk1 hq6 => ?_⟩
    let W6 := (W4.next st5).next st6
    have e6 : Ext W.u H5 H6 := by have z := st6.ext; rw [show (W4.next st5).u = W.u from u4] at z; exact z
    have n6 : W6.n = W.n - ci := by show W4.n - 0 - 0 = _; rw [n4]; rfl
    have u6 : W6.u = W.u := u4
    have g6 : Good W.u H6 (W.n - ci) := by have z := W6.good; rw [u6, n6] at z; exact z
    have A6 := A5.step nu0 e6 g6
    refine ⟨fun j kk H7 => ∃ acc2, AccAt G W H1 D0 (W.n - ci) H7 acc2 ∧ (∀ b o, ¬ W6.XB b → H6 b = some o → H7 b = some o) ∧ j ≤ es.length ∧ kk = es.length - j ∧ compI t1 tt1 te (fun acc2 => compL2 vs1 t tt ti1 t1 tt1 te (fun rs => Q (.lst rs)) (inEnv W.env vs) (ds.drop (i + 1)) acc2) (inEnv W4.env vs1) (es.drop j) acc2,
      ⟨es.length, acc, A6, fun _ _ _ h => h, Nat.zero_le _, rfl, hq6⟩, ?_⟩
    rintro j m7 H7 ⟨acc2, A7, k7, hj, rfl, hq7⟩
    by_cases hlt2 : j < es.length
    case neg =>
      have e : j = es.length := by omega
      rw [e, List.drop_length] at hq7
      exact .inl ⟨wk1.stop j H7 k7 (by omega), acc2, A7, hq7⟩
    obtain ⟨go1, yl1⟩ := wk1.go j H7 (fun a => W.XB a ∨ a = D0) k7 (fun b hb => .inl (.inl (b4 b hb))) (fun p hp => A7.free st hp) hlt2
    refine .inr ⟨go1, fun H5 => ∃ acc3, AccAt G W H1 D0 (W.n - ci) H5 acc3 ∧ (∀ b o, ¬ W6.XB b → H6 b = some o → H5 b = some o) ∧ compI t1 tt1 te (fun acc2 => compL2 vs1 t tt ti1 t1 tt1 te (fun rs => Q (.lst rs)) (inEnv W.env vs) (ds.drop (i + 1)) acc2) (inEnv W4.env vs1) (es.drop (j + 1)) acc3,
      fun H5 ⟨acc3, a3, k3, q3⟩ => ⟨es.length - (j + 1), by omega, acc3, a3, k3, hlt2, rfl, q3⟩, fun x1 H8 hy1 => ?_⟩
    obtain ⟨ex8, d1, hd1, hden1⟩ := yl1 x1 H8 hy1
    rw [drop_cons hd1] at hq7
    have A8 : AccAt G W H1 D0 (W.n - ci) H8 acc2 := A7.step nu0 ex8.weak (A7.good.ext ex8)
    have k8 : ∀ b o, ¬ W6.XB b → H6 b = some o → H8 b = some o := fun b o nb hb => ex8 _ _ (k7 b o nb hb) (by simp)
    have W8h : ∃ W8 : Wd G E0 (wipe σ4 vs1) H8, W8.n = W.n - ci ∧ W8.m = W.m ∧ W8.u = W.u ∧ W8.B = W4.B ∧ W8.env = inEnv W4.env vs1 ∧ W8.ex = noX :=
      ⟨W6.inner2 vs1 H8 k8 (fun a ha z => A8.free st z (b4' a ha)) (by rw [u6, n6]; exact A8.good), n6, m4, u6, rfl, rfl, rfl⟩
    obtain ⟨W8, n8, m8, u8, b8, v8, x8⟩ := W8h
    have hden8 : Den G W8.XB H8 d1 x1 := hden1.fewer fun b hb => by
      have z : XBof W8.B (inEnv W4.env vs1) (wipe σ4 vs1) b := by rw [← v8]; exact hb
      exact b4' b (by rw [← b8]; exact xb_in z)
    refine ⟨W8, d1, _, hden8, by rw [v8]; exact hq7, fun σ9 W9 al9 hsl9 hq9 => ⟨wipe_same hsl1 hsl9.1 (by rw [hsl9.2, wipe_length]), ?_⟩⟩
    have l9 := al9.later
    have n9 : W9.n = W.n - ci := al9.n.trans n8
    have m9 : W9.m = W.m := l9.m.trans m8
    have u9 : W9.u = W.u := l9.u.trans u8
    have b9 : ∀ a, (W.XB a ∨ a = D0) → W9.B a := fun a ha => by rw [l9.B, b8]; exact b4 a ha
    have hu6 : ∀ p, W.u = some p → W6.XB p.1 := fun p e => .inl (b4 _ (.inl (W.huX p e)))
    refine ⟨W9, by rw [n9, m9]; omega, _, by rw [l9.ex, x8]; exact hq9, fun b1 H10 st10 hb1 => ?_⟩
    have e10 : Ext W.u H8 H10 := by have z := st10.ext; rw [u9] at z; exact z
    have g10 : Good W.u H10 (W.n - ci) := by have z := st10.good; rw [u9, n9] at z; exact z
    have A10 := A8.step nu0 e10 g10
    have k10 : ∀ b o, ¬ W6.XB b → H6 b = some o → H10 b = some o := fun b o nb hb => ext_nb e10 hu6 nb (k8 b o nb hb)
    cases b1 with
    | false => exact ⟨acc2, A10, k10, hb1⟩
    | true =>
      refine ⟨W9.next st10, by show W9.m + 0 ≤ W9.n - 0; rw [n9, m9]; omega, _, by rw [show (W9.next st10).ex = noX from l9.ex.trans x8]; exact hb1, fun y H11 dy st11 hy11 hq11 => ?_⟩
      have e11 : Ext W.u H10 H11 := by have z := st11.ext; rw [show (W9.next st10).u = W.u from u9] at z; exact z
      have g11 : Good W.u H11 (W.n - ci) := by have z := st11.good; rw [show (W9.next st10).u = W.u from u9, show (W9.next st10).n = W9.n - 0 from rfl, n9] at z; exact z
      have A11 := A10.step nu0 e11 g11
      obtain ⟨xs, hxs, _, _⟩ := A11.at_
      obtain ⟨p1, p2⟩ := A11.push hD fr0 hxs (hy11.fewer fun b hb => .inl (b9 b hb)) hq11.1
      refine ⟨xs, hxs, p1, _, p2, fun b o nb hb => ?_, hq11.2⟩
      rw [upd_ne (fun z => nb (.inl (b4 b (.inr z))))]
      exact ext_nb e11 hu6 nb (k10 b o nb hb)
theorem de_comp2 {elt iter iter1 : Expr} {ifs ifs1 : List Expr} {scope : Scope} {own : List (Str × Nat)} {vs1 : List Nat} {pos : Pos} {ci : Nat} {ti ti1 : DA} {t t1 : DG} {tt tt1 : DB} {te : DT} {sl sl1 : List Nat} (xk : Xk G E k X) (hN : X.N.Nodup) (hi : DI G E X tg ci iter ti) (ok : BlkOk X.N X.env.scope scope own) (hv : ∀ i ∈ vs1, i ∈ own.map (·.2))
    (hg : ∀ (s : Shared) (H : Hp) (C : Addr) (cl : List (Str × Addr)) (fp : List Addr), DTg G E0 (X.blk s H scope (compEnvC scope cl C X.env) fp) tg sl t) (ht : ∀ (s : Shared) (H : Hp) (C : Addr) (cl : List (Str × Addr)) (fp : List Addr), DTs G (X.blk s H scope (compEnvC scope cl C X.env) fp) 0 ifs tt)
    (hi1 : ∀ (s : Shared) (H : Hp) (C : Addr) (cl : List (Str × Addr)) (fp : List Addr), DI G E0 (X.blk s H scope (compEnvC scope cl C X.env) fp) tg1 0 iter1 ti1)
    (hg1 : ∀ (s : Shared) (H : Hp) (C : Addr) (cl : List (Str × Addr)) (fp : List Addr), DTg G E0 (X.blk s H scope (compEnvC scope cl C X.env) fp) tg1 sl1 t1) (ht1 : ∀ (s : Shared) (H : Hp) (C : Addr) (cl : List (Str × Addr)) (fp : List Addr), DTs G (X.blk s H scope (compEnvC scope cl C X.env) fp) 0 ifs1 tt1)
    (he : ∀ (s : Shared) (H : Hp) (C : Addr) (cl : List (Str × Addr)) (fp : List Addr), DE G E0 (X.blk s H scope (compEnvC scope cl C X.env) fp) 0 elt te) (hsl : ∀ i ∈ sl, i ∈ own.map (·.2)) (hsl1 : ∀ i ∈ sl1, i ∈ vs1) (hs : ∀ x, foldedSetIterable iter X.env x = pure x := by intro _; rfl) (hs1 : ∀ env x, foldedSetIterable iter1 env x = pure x := by intro _ _; rfl) :
    DE G E X ci (.ListComp elt [⟨tg, iter, ifs, 0⟩, ⟨tg1, iter1, ifs1, 0⟩] scope pos) (dComp2 (own.map (·.2)) vs1 ti t tt ti1 t1 tt1 te) :=
  imp (pe_lc2 xk.calm hN hi ok hv hg ht hi1 hg1 ht1 he hs hs1) fun _ _ _ h => lift_comp2 hsl hsl1 h
theorem ds_setComp2 {i : Nat} {y : Str} {py : Pos} {elt iter iter1 : Expr} {ifs ifs1 : List Expr} {scope : Scope} {own : List (Str × Nat)} {vs1 : List Nat} {pos spos : Pos} {ci : Nat} {ti ti1 : DA} {t t1 : DG} {tt tt1 : DB} {te : DT} {sl sl1 : List Nat} (xk : Xk G E k X) (hN : X.N.Nodup) (hy : X.N[i]? = some y) (hyl : X.env.scope.names.lookup y = some .local)
    (hsw : swapsWith (.ListComp elt [⟨tg, iter, ifs, 0⟩, ⟨tg1, iter1, ifs1, 0⟩] scope pos) (some (.Name y py)) spos.line X.env = pure true) (hi : DI G E X tg ci iter ti) (ok : BlkOk X.N X.env.scope scope own) (hv : ∀ i ∈ vs1, i ∈ own.map (·.2))
    (hg : ∀ (s : Shared) (H : Hp) (C : Addr) (cl : List (Str × Addr)) (fp : List Addr), DTg G E0 (X.blk s H scope (compEnvC scope cl C X.env) fp) tg sl t) (ht : ∀ (s : Shared) (H : Hp) (C : Addr) (cl : List (Str × Addr)) (fp : List Addr), DTs G (X.blk s H scope (compEnvC scope cl C X.env) fp) 0 ifs tt)
    (hi1 : ∀ (s : Shared) (H : Hp) (C : Addr) (cl : List (Str × Addr)) (fp : List Addr), DI G E0 (X.blk s H scope (compEnvC scope cl C X.env) fp) tg1 0 iter1 ti1)
    (hg1 : ∀ (s : Shared) (H : Hp) (C : Addr) (cl : List (Str × Addr)) (fp : List Addr), DTg G E0 (X.blk s H scope (compEnvC scope cl C X.env) fp) tg1 sl1 t1) (ht1 : ∀ (s : Shared) (H : Hp) (C : Addr) (cl : List (Str × Addr)) (fp : List Addr), DTs G (X.blk s H scope (compEnvC scope cl C X.env) fp) 0 ifs1 tt1)
    (he : ∀ (s : Shared) (H : Hp) (C : Addr) (cl : List (Str × Addr)) (fp : List Addr), DE G E0 (X.blk s H scope (compEnvC scope cl C X.env) fp) 0 elt te) (hsl : ∀ i ∈ sl, i ∈ own.map (·.2)) (hsl1 : ∀ i ∈ sl1, i ∈ vs1) (hs : ∀ x, foldedSetIterable iter X.env x = pure x := by intro _; rfl) (hs1 : ∀ env x, foldedSetIterable iter1 env x = pure x := by intro _ _; rfl) :
    DSt G E X ci (.Assign [.Name y py] (.ListComp elt [⟨tg, iter, ifs, 0⟩, ⟨tg1, iter1, ifs1, 0⟩] scope pos) spos) (sSet i (dComp2 (own.map (·.2)) vs1 ti t tt ti1 t1 tt1 te)) :=
  impS (ps_setLc2 xk.calm hN hy hyl hsw hi ok hv hg ht hi1 hg1 ht1 he hs hs1) fun Dn σ H h => by
    obtain ⟨W, hn, de, hq, k1, k2, k3, k4⟩ := h
    refine lift_comp2 (Q' := fun v H' => gName i v σ H' Dn.nx) hsl hsl1 ⟨W, hn, _, hq, fun v H' d st hd hr => ?_⟩
    have hd' : Den G (W.next st).XB H' d v := hd
    exact k1 _ H' ((W.next st).put i hd') (((Later.next st).trans (Later.put _ i hd')).more (by omega)) hr
/-- two clauses without tests: what comes of known items -/
theorem compI_map {tg : DG} {te : DT} {Q : List D → Prop} {env : List Sl} (f : D → D) : ∀ {ds acc : List D}, acc.length + ds.length ≤ sizeLine → (∀ d ∈ ds, ∀ K : D → Prop, K (f d) → tg d env fun env2 => te noX env2 K) → Q (acc ++ ds.map f) → compI tg bYes te Q env ds acc
  | [], acc, _, _, hq => by
    unfold compI
    simpa using hq
  | d :: ds, acc, hl, h, hq => by
    unfold compI
    simp only [List.length_cons] at hl
    refine h d List.mem_cons_self _ ⟨by omega, ?_⟩
    exact compI_map f (by rw [List.length_append]; show acc.length + 1 + _ ≤ _; omega) (fun e he => h e (List.mem_cons_of_mem _ he)) (by simpa using hq)
theorem compL2_map {tg tg1 : DG} {te : DT} {ti1 : DA} {vs1 : List Nat} {Q : List D → Prop} {env : List Sl} (es : D → List D) (f : D → D → D) : ∀ {ds acc : List D}, acc.length + (ds.flatMap es).length ≤ sizeLine →
    (∀ d ∈ ds, ∀ K : List D → Prop, ∀ acc2 : List D, K (acc2 ++ (es d).map (f d)) → acc2.length + (es d).length ≤ sizeLine → tg d env fun env2 => ti1 noX env2 fun es1 => compI tg1 bYes te K (inEnv env2 vs1) es1 acc2) →
    Q (acc ++ ds.flatMap fun d => (es d).map (f d)) → compL2 vs1 tg bYes ti1 tg1 bYes te Q env ds acc
  | [], acc, _, _, hq => by
    unfold compL2
    simpa using hq
  | d :: ds, acc, hl, h, hq => by
    unfold compL2
    simp only [List.flatMap_cons, List.length_append] at hl
    refine h d List.mem_cons_self _ acc ?_ (by omega)
    refine compL2_map es f ?_ (fun e he => h e (List.mem_cons_of_mem _ he)) ?_
    · rw [List.length_append, List.length_map]; omega
    · simpa [List.flatMap_cons] using hq
end
end Kn

set_option Elab.async false
set_option linter.all false
set_option maxRecDepth 100000
set_option maxHeartbeats 2100000
/-! sorted of a tuple of ints -/
namespace Kn
open PySem
open PySem.Spec PyProof.Rows L2
section
variable {P : Program} {w : World} {A : Around} {E0 : Value → Shared → Prop} {s : Shared}
theorem gather_tup {t : Addr} {us : List Value} {R : List Value → Shared → Prop} (ht : IsTup s.heap t us.toArray) (hz : us.length ≤ sizeLine)
    (h : R us { s with heap := (s.heap.push (seqObj "list" #[] 0)).update s.heap.objs.size (Obj.mapSeq (· ++ us.toArray)) }) : wpAny (model P w) A (collect (.ref t)) R E0 s := by
  obtain ⟨ob, hob, hcl, n, hdt⟩ := id ht
  unfold collect
  have hob2 : (s.heap.push (seqObj "list" #[] 0)).get? t = some ob := Heap.get?_push_of_some _ hob
  have hty : (Value.type "tuple" == Value.type "tuple") = true := by rfl
  refine wpAny_bind (wpAny_runValue (codeAny_builtin entry_proto_collect' (?_ : wpAny _ _ (do again (.builtin "list.__iadd__" ⟨[← newList [], .ref t], []⟩)) _ _ s)))
  refine wpAny_bind (wpAny_newList (wpAny_pure ⟨Code.quiet_builtin _ (by decide +kernel), codeAny_builtin entry_list_iadd' (?_ : wpAny _ _ (Builtin.List.listExtendWith (.ref s.heap.objs.size) (.ref t) (.ref s.heap.objs.size)) _ _ { s with heap := s.heap.push (seqObj "list" #[] 0) })⟩))
  unfold Builtin.List.listExtendWith; refine wpAny_bind (wpAny_typeOf (T := "tuple") ⟨ob, hob2, hcl⟩ (?_))
  rw [if_pos (by rw [hty]; simp)]
  refine wpAny_bind (listItems_at hob2 hdt (wpAny_bind (listItems_at (xs := #[]) (n := 0) (Heap.get?_push_size _ rfl) rfl (?_))))
  rw [if_neg (by simp)]
  refine wpAny_bind (listUpdate_at (xs := #[]) (n := 0) (Heap.get?_push_size _ rfl) rfl (wpAny_pure (?_)) (Nat.zero_le _) (by show (#[] ++ us.toArray).size ≤ sizeLine + 1; simp only [Array.size_append, List.size_toArray, List.length_nil]; omega))
  show wpAny (model P w) A (do
      let ob ← load s.heap.objs.size
      match ob.data with
      | .seq vs _ => pure vs.toList
      | _ => unsupported "internal:collect") R E0 { s with heap := (s.heap.push (seqObj "list" #[] 0)).update s.heap.objs.size (Obj.mapSeq (· ++ us.toArray)) }
  refine wpAny_bind (wpAny_load (get?_update_seq (Heap.get?_push_size _ rfl) _) (?_))
  show wpAny _ _ (pure ((#[] : Array Value) ++ us.toArray).toList) R E0 _
  rw [show ((#[] : Array Value) ++ us.toArray).toList = us by simp]
  exact wpAny_pure h
theorem sorted_tup {t : Addr} {us : List Value} {ltv : Value → Value → Bool} {R : Value → Shared → Prop} (O : SrtO.Swo ltv) (ht : IsTup s.heap t us.toArray) (hz : us.length ≤ sizeLine)
    (hS : 2 ≤ us.length → ∀ (h₁ : Heap) (a : Addr), h₁.get? a = some (seqObj "list" us.toArray 0) → (∀ b o, s.heap.get? b = some o → b ≠ a ∧ h₁.get? b = some o) → SrtO.SortableO P w A.in1.in1 { s with heap := h₁ } a us ltv)
    (h : ∀ out : List Value, SrtO.Srtd ltv out → SrtO.Stb ltv out us → R (.ref (s.heap.objs.size + 1)) { s with heap := sortedAll s.heap us out.toArray }) : wpAny (model P w) A (call (.builtin "sorted") [.ref t]) R E0 s := by
  refine Calls.call_function_entry kind_sorted plain_sorted entry_sorted (args_sorted1 _) (?_ : wpAny _ _ (Builtin.«sorted» _) _ _ _)
  unfold Builtin.«sorted»
  refine wpAny_bind (m := checkCount "sorted" 1 1 _) (wpAny_pure (wpAny_bind (gather_tup ht hz (wpAny_bind (wpAny_newList (?_) hz)))))
  have e1 : ((s.heap.push (seqObj "list" #[] 0)).update s.heap.objs.size (Obj.mapSeq (· ++ us.toArray))).objs.size = s.heap.objs.size + 1 := by rw [Heap.size_update, size_push']
  have e2 : (((s.heap.push (seqObj "list" #[] 0)).update s.heap.objs.size (Obj.mapSeq (· ++ us.toArray))).push (seqObj "list" us.toArray 0)).get? (s.heap.objs.size + 1) = some (seqObj "list" us.toArray 0) := by rw [← e1]; exact Heap.get?_push_size _ rfl
  have kp : ∀ b o, s.heap.get? b = some o → b ≠ s.heap.objs.size + 1 ∧ (((s.heap.push (seqObj "list" #[] 0)).update s.heap.objs.size (Obj.mapSeq (· ++ us.toArray))).push (seqObj "list" us.toArray 0)).get? b = some o := fun b o q => by
    have lt : b < s.heap.objs.size := Heap.lt_size q
    refine ⟨Nat.ne_of_lt (Nat.lt_succ_of_lt lt), Heap.get?_push_of_some _ ?_⟩
    rw [Heap.get?_update_ne _ _ _ _ (Nat.ne_of_lt lt)]; exact Heap.get?_push_of_some _ q
  show wpAny _ _ _ _ _ { s with heap := ((s.heap.push (seqObj "list" #[] 0)).update s.heap.objs.size (Obj.mapSeq (· ++ us.toArray))).push (seqObj "list" us.toArray 0) }
  rw [e1]
  refine wpAny_bind (wpAny_holding (wpAny_call_entry slot_list_sort ⟨_, e2, rfl⟩ entry_list_sort (SrtO.list_sort_ord O e2 hz (fun h2 => hS h2 _ _ e2 kp) fun out hs hb => ⟨_, rfl, wpAny_pure ⟨_, rfl, h out hs hb⟩⟩) (args_list_sort _)))
end
def rSortTI (K : PySem.W.Frag) : List V → Hp → VK → Prop := fun vs H Q => ∃ (a : Addr) (ns : List Int), vs = [V.ref a] ∧ SqT K H a (ns.map V.int) ∧ ∀ (ns' : List Int) (p : Addr), ns'.Perm ns → ns'.Pairwise (· ≤ ·) → H p = none → Q (.ref p) (upd H p (.lst (ns'.map V.int)))
variable {X : Cx} {G : Gd}
theorem cr_sortTI : CallR X (.builtin "sorted") (rSortTI X.K) := by
  intro pins s σ H vs us Q I r h; obtain ⟨a, ns, rfl, hs, q⟩ := h
  obtain ⟨its, rv, hl, hz⟩ := I.tuple hs
  rw [Vals.ref1 r]
  have hi := rv.ints
  refine sorted_tup SrtO.swo_int hl (by rw [← rv.length]; exact hz) (fun h2 h₁ a' _ _ => SrtO.ints_sortable hi h2) fun out h1 h2 => ?_
  obtain ⟨k1, k2, k3⟩ := SrtO.ints_out hi h1 h2; obtain ⟨ep, he'⟩ := sortedAll_at s.heap its out.toArray
  have hlen : ((out.map SrtO.iv).map V.int).length ≤ sizeLine := by rw [List.length_map, k2.length_eq]; rw [List.length_map] at hz; exact hz
  refine ⟨V.ref (s.heap.objs.size + 1), _, I.laid (t' := s.toks) (o := .lst ((out.map SrtO.iv).map V.int)) (fun _ _ => sortedAll_old) (Nat.le_succ _) ⟨hlen, out, ep, vals_of_ints k1, he'⟩, rfl, q _ _ k2 k3 (I.hok.fresh (Nat.le_succ _))⟩
def gSortA : D → (D → Prop) → Prop := fun d Q => ∃ ns : List Int, (d = .lst (ns.map D.int) ∨ d = .tup (ns.map D.int)) ∧ ∀ ns' : List Int, ns'.Perm ns → ns'.Pairwise (· ≤ ·) → Q (.lst (ns'.map D.int))
theorem c_sortA (hK : X.K = G.K) : CallR X (.builtin "sorted") (rDL G (g1 gSortA)) := by
  intro pins s σ H vs us Q' I r h
  obtain ⟨B, d, x, Q, rfl, hd, hf, ⟨ns, hds, hq⟩, k⟩ := rDL1 h
  have fin : ∀ (ns' : List Int) (p : Addr), ns.length ≤ sizeLine → ns'.Perm ns → ns'.Pairwise (· ≤ ·) → H p = none → Q' (.ref p) (upd H p (.lst (ns'.map V.int))) := fun ns' p hl h1 h2 hp =>
    k _ _ (.lst (ns'.map D.int)) (Ext.new hp) (den_lst hp (hf p hp) (by rw [List.length_map, h1.length_eq]; exact hl) DenL.of_ints) (hq ns' h1 h2)
  rcases hds with rfl | rfl
  · obtain ⟨a, ys, rfl, na, ha, la, da⟩ := hd
    have := da.ints
    subst this
    exact cr_sortedI pins s σ H _ us Q' I r ⟨a, ns, rfl, SqL.of ha, fun ns' p h1 h2 hp => fin ns' p (by simpa using la) h1 h2 hp⟩
  · obtain ⟨a, ys, rfl, na, ha, la, da⟩ := hd
    have := da.ints
    subst this
    exact cr_sortTI pins s σ H _ us Q' I r ⟨a, ns, rfl, by rw [hK]; exact ha, fun ns' p h1 h2 hp => fin ns' p (by simpa using la) h1 h2 hp⟩
end Kn

set_option Elab.async false
set_option linter.all false
set_option maxRecDepth 100000
set_option maxHeartbeats 2100000
/-! t[::-1] of a tuple -/
namespace Kn
open PySem
open PySem.Spec PyProof.Rows L2
section
variable {P : Program} {w : World} {A : Around} {E0 : Value → Shared → Prop} {s : Shared}
theorem places_rev (n : Nat) : Builtin.Slice.slicePlaces ((n : Int) - 1) (-1) (-1) = n := by
  unfold Builtin.Slice.slicePlaces; rw [if_neg (by decide)]; by_cases h : (n : Int) - 1 > -1
  · rw [if_pos h]
    have : ((n : Int) - 1 - -1 - 1) / (- -1) + 1 = n := by
      rw [show (- -1 : Int) = 1 by rfl, Int.ediv_one]; omega
    rw [this]; rfl
  · rw [if_neg h]
    have : n = 0 := by omega
    subst this; rfl
theorem fm_congr {α β : Type} {f g : α → Option β} : ∀ {l : List α}, (∀ x ∈ l, f x = g x) → l.filterMap f = l.filterMap g
  | [], _ => rfl
  | x :: l, h => by rw [List.filterMap_cons, List.filterMap_cons, h x List.mem_cons_self, fm_congr fun y hy => h y (List.mem_cons_of_mem _ hy)]
theorem pick_back (xs : Array Value) : ((List.range xs.size).filterMap fun (m : Nat) => xs[(((xs.size : Int) - 1) + (m : Int) * -1).toNat]?).toArray = xs.toList.reverse.toArray := by
  have h := HT.pick_gen xs.toList.reverse.toArray 0 xs.size
  rw [show ((xs.toList.reverse.toArray.toList.drop 0).take xs.size) = xs.toList.reverse by rw [List.drop_zero]; exact List.take_of_length_le (by simp)] at h
  rw [← h]
  congr 1
  refine fm_congr fun m hm => ?_
  have hm' := List.mem_range.mp hm
  rw [show (((0 : Nat) : Int) + (m : Int) * 1).toNat = m by omega, show (((xs.size : Int) - 1) + (m : Int) * -1).toNat = xs.size - 1 - m by omega]
  have e1 : xs.toList.reverse.toArray[m]? = xs.toList.reverse[m]? := by simp
  rw [e1, List.getElem?_reverse (by simpa using hm')]
  simp
theorem getItem_tup_rev {t sl : Addr} {its : Array Value} {vs : Value} {R : Value → Shared → Prop} (ht : IsTup s.heap t its) (hs : s.heap.IsSliceOf sl .none .none vs) (ps : IsPart vs (some (-1))) (hsz : its.size ≤ sizeLine)
    (h : R (.ref s.heap.objs.size) { s with heap := s.heap.push { cls := .type "tuple", data := .seq its.toList.reverse.toArray } }) : wpAny (model P w) A (getItem (.ref t) (.ref sl)) R E0 s := by
  have ok : sizeOk (.seq its.toList.reverse.toArray) := by show its.toList.reverse.toArray.size ≤ sizeLine; simpa using hsz
  obtain ⟨os, hos, hcs, hds⟩ := id hs; have isSl : s.TypeIs (.ref sl) "slice" := ⟨os, hos, hcs⟩
  unfold getItem
  try with_reducible refine wpAny_holding (?_)
  first | refine wpAny_bind (wpAny_pure (?_)) | skip
  refine wpAny_bind (wpAny_sequenceKey ht.typeIs (by decide) (?_))
  refine wpAny_bind (wpAny_callSpecial?_slot (name := Str.ofString "__getitem__") ht.typeIs slot_tuple_getitem (wpAny_call_entry slot_tuple_getitem ht.typeIs entry_tuple_getitem (?_) (args_tuple_getitem _ _)))
  refine (?_ : wpAny _ _ (Builtin.Tuple.tupleItemsOf (.ref t) >>= _) _ _ s)
  refine wpAny_bind (tupleItemsOf_ ht (?_))
  refine wpAny_bind (wpAny_typeOf isSl (?_))
  rw [if_pos (by decide)]
  have key : wpAny (model P w) A.in1 (Builtin.Slice.sliceApplied (.ref sl) (pure (its.size : Int))) (fun r s' => r = ((its.size : Int) - 1, -1, its.size) ∧ s' = s) E0 s := by
    unfold Builtin.Slice.sliceApplied Builtin.Slice.sliceFields; refine wpAny_bind (wpAny_bind (wpAny_field hos hds (x := .none) rfl (wpAny_bind (wpAny_field hos hds (x := .none) rfl (wpAny_bind (wpAny_field hos hds (x := vs) rfl (wpAny_pure (?_))))))))
    refine wpAny_bind (HT.slicePart_ ps (?_))
    refine (?_ : wpAny _ _ (if ((-1 : Int) == 0) = true then _ else _) _ _ s)
    rw [if_neg (by decide)]
    refine wpAny_bind (slicePart_none (wpAny_bind (slicePart_none (wpAny_bind (wpAny_pure (?_))))))
    refine (?_ : wpAny _ _ (match Builtin.Slice.sliceAdjust none none (-1) (its.size : Int) with | (lo, hi) => pure (lo, (-1 : Int), Builtin.Slice.slicePlaces lo hi (-1))) _ _ s)
    rw [show Builtin.Slice.sliceAdjust none none (-1) (its.size : Int) = ((its.size : Int) - 1, -1) from rfl]
    refine (?_ : wpAny _ _ (pure (((its.size : Int) - 1), (-1 : Int), Builtin.Slice.slicePlaces ((its.size : Int) - 1) (-1) (-1))) _ _ s)
    rw [places_rev]
    exact wpAny_pure ⟨rfl, rfl⟩
  refine wpAny_bind (wpAny_mono key (fun r s' e => ?_) (fun e s' z => z))
  obtain ⟨rfl, rfl⟩ := e
  refine (?_ : wpAny _ _ (if ((((its.size : Int) - 1) == 0 && (-1 : Int) == 1 && its.size == its.size) = true) then _ else _) _ _ _)
  rw [if_neg (by simp), pick_back]
  first
    | exact wpAny_bind (m := Builtin.Tuple.tupleExact _) (wpAny_newObj_type (wpAny_pure ⟨_, rfl, wpAny_pure h⟩) ok)
    | exact wpAny_bind (m := Builtin.Tuple.tupleExact _) (wpAny_newObj_type (wpAny_bind (wpAny_pure (wpAny_pure ⟨_, rfl, wpAny_pure h⟩))) ok)
    | exact wpAny_bind (wpAny_bind (m := Builtin.Tuple.tupleExact _) (wpAny_newObj_type (wpAny_pure (wpAny_pure ⟨_, rfl, wpAny_pure h⟩)) ok))
    | exact wpAny_bind (wpAny_bind (m := Builtin.Tuple.tupleExact _) (wpAny_newObj_type (wpAny_pure ⟨_, rfl, wpAny_pure h⟩) ok))
end

section
variable {G : Gd} {E : XK} {X : Cx} {σ : List (Option V)} {H H' : Hp} {k : Nat}
open RZ
def tRevT (K : PySem.W.Frag) (te : TE) : TE := fun σ H Q => te σ H fun x H1 => ∃ a xs, x = .ref a ∧ SqT K H1 a xs ∧ ∀ p, H1 p = none → Q (.ref p) (upd H1 p (.tup xs.reverse))
theorem pe_revT {e : Expr} {te : TE} {kk : Nat} {p1 p2 p3 pos : Pos} (he : PE X e te) : PE X (.Subscript e (.Slice none none (some (.UnaryOp .USub (.Constant (.int 1) kk p1) p2)) p3) pos) (tRevT X.K te) := by
  refine ⟨fun pins s σ H Q I h => Subscript_ (thn (he.run pins s σ H _ I h) fun v s1 ⟨x, H1, I1, r1, a, xs, ex, hx, q⟩ => ?_)⟩
  subst ex
  cases r1
  have hst : PO X (some (.UnaryOp .USub (.Constant (.int 1) kk p1) p2)) (tPart (tUn (rU fun i => .int (-i)) (tC (.int 1)))) := po_some (pe_un un_neg pe_int)
  refine wpAny_Slice (thn (po_none.run pins s1 σ H1 (fun o H2 => o = none ∧ H2 = H1) I1 ⟨rfl, rfl⟩) fun vl s2 ⟨l, H2, I2, pl, el, e2⟩ => ?_); subst el e2
  refine thn (po_none.run pins s2 σ H2 (fun o H3 => o = none ∧ H3 = H2) I2 ⟨rfl, rfl⟩) (fun vu s3 ⟨u, H3, I3, pu, eu, e3⟩ => ?_)
  subst eu e3
  refine thn (hst.run pins s3 σ H3 (fun o H4 => o = some (-1) ∧ H4 = H3) I3 ⟨1, rfl, -1, rfl, rfl, rfl⟩) (fun vs s4 ⟨o, H4, I4, ps, eo, e4⟩ => ?_)
  subst eo e4
  cases pl
  cases pu
  have I5 : Inv X pins σ H4 { s4 with heap := s4.heap.push { cls := .type "slice", data := .fields #[.none, .none, vs] } } := I4.kept (t' := s4.toks) (fun b ob q => Heap.get?_push_of_some _ q)
  obtain ⟨its, r, ht, hz⟩ := I5.tuple hx
  have hlen := r.length
  refine (?_ : wpAny (model X.prog X.w) X.A (subscriptTail e (.Slice none none (some (.UnaryOp .USub (.Constant (.int 1) kk p1) p2)) p3) (.ref a) (.ref s4.heap.objs.size)) (EP X pins σ Q) X.xe { s4 with heap := s4.heap.push { cls := .type "slice", data := .fields #[.none, .none, vs] } })
  refine tail_any (ops := [.ref a, .ref s4.heap.objs.size]) ht.typeIs slot_tuple_getitem.lookup (?_) (by with_unfolding_all rfl)
  refine getItem_tup_rev ht (Heap.IsSliceOf.new _ .none .none vs) ps (by rw [List.size_toArray]; omega) ⟨.ref _, _, I5.laid (t' := s4.toks) (o := .tup xs.reverse) (fun b ob q => Heap.get?_push_of_some _ q) (Nat.le_refl _) ?_, rfl, q _ (I5.hok.fresh (Nat.le_refl _))⟩
  exact ⟨by rw [List.length_reverse]; exact hz, its.reverse, r.reverse, IsTup.new _ _⟩
def dRevT (te : DT) : DT := fun ex env Q => te ex env fun d => ∃ ds, d = .tup ds ∧ Q (.tup ds.reverse)
theorem de_revT {e : Expr} {c : Nat} {te : DT} {kk : Nat} {p1 p2 p3 pos : Pos} (hK : X.K = G.K) (he : DE G E X c e te) : DE G E X c (.Subscript e (.Slice none none (some (.UnaryOp .USub (.Constant (.int 1) kk p1) p2)) p3) pos) (dRevT te) :=
  imp (pe_revT he) fun σ H Q' h => by
    obtain ⟨W, hn, Q, ht, kk⟩ := h
    refine ⟨W, hn, _, ht, fun v H1 d st hd ⟨ds, e, hq⟩ => ?_⟩
    subst e
    obtain ⟨a, xs, rfl, na, ha, la, da⟩ := hd
    refine ⟨a, xs, rfl, by rw [hK]; exact ha, fun p hp => ?_⟩
    exact kk _ _ (.tup ds.reverse) (st.new hp) (den_tup hp ((W.next st).fresh hp) (by rw [List.length_reverse]; exact la) da.reverse) hq

/-! ### type(x) is C, of a thing of an own class -/
def gType : D → (D → Prop) → Prop := fun d Q => ∃ c ds, d = .ins c ds ∧ Q (.opq (.ref (G.cl c)))
theorem c_type : CallR X (.type "type") (rDL G (g1 (gType (G := G)))) := callr_imp cr_type fun xs H Q' h => by
  obtain ⟨B, d, x, Q, rfl, hd, hf, ⟨c, ds, rfl, hq⟩, kk⟩ := rDL1 h
  obtain ⟨a, dx, ys, rfl, na, ha, la, da⟩ := hd
  exact ⟨a, _, dx, _, rfl, ha, kk _ H (.opq (.ref (G.cl c))) (Ext.refl _ _) (den_opq _) hq⟩
def gIsC : G2 := fun d e Q => ∃ a, d = .opq (.ref a) ∧ e = .opq (.ref a) ∧ Q (.bl true)
def gIsnC : G2 := fun d e Q => ∃ a, d = .opq (.ref a) ∧ e = .opq (.ref a) ∧ Q (.bl false)
theorem o_isC : OpR X (compareOp .Is) (rD G gIsC) := opr_imp op_is_cls fun x y H Q' h => by
  obtain ⟨B, d, e, Q, hd, he, _, ⟨a, rfl, rfl, hq⟩, kk⟩ := h
  exact ⟨a, a, hd, he, .inl rfl, kk _ H (.bl true) (Ext.refl _ _) (by rw [decide_eq_true rfl]; exact den_bl _) hq⟩
theorem o_isnC : OpR X (compareOp .IsNot) (rD G gIsnC) := opr_imp op_isnot_cls fun x y H Q' h => by
  obtain ⟨B, d, e, Q, hd, he, _, ⟨a, rfl, rfl, hq⟩, kk⟩ := h
  exact ⟨a, a, hd, he, .inl rfl, kk _ H (.bl false) (Ext.refl _ _) (by rw [decide_eq_true rfl]; exact den_bl _) hq⟩

/-! ### f(k = v, ..), each parameter by its name -/
/-- the values in the parameters' order: ix tells for each parameter where its value stands -/
structure Kk (K : PySem.W.Frag) (fd : FuncData) (ps ks : List Str) (ix : List Nat) : Prop where
  to : ∀ (s : Shared) (us : List Value), K.In s.heap → us.length = ks.length → BindsTo s fd ⟨[], ks.zip us⟩ (ps.zip (ix.map fun i => us.getD i .none))
  ok : ∀ i ∈ ix, i < ks.length
  len : ix.length = ps.length
theorem Kk.all {K : PySem.W.Frag} {fd : FuncData} {ps ks : List Str} {ix : List Nat} (h : ∀ us : List Value, us.length = ks.length → bindArgs fd ⟨[], ks.zip us⟩ = pure (ps.zip (ix.map fun i => us.getD i .none))) (h2 : ∀ i ∈ ix, i < ks.length) (h3 : ix.length = ps.length) : Kk K fd ps ks ix :=
  ⟨fun s us _ hl => .of_eq (h us hl), h2, h3⟩
theorem vals_perm {xs : List V} {us : List Value} (r : Vals xs us) : ∀ {ix : List Nat}, (∀ i ∈ ix, i < xs.length) → Vals (ix.map fun i => xs.getD i .non) (ix.map fun i => us.getD i .none)
  | [], _ => .nil
  | i :: ix, h => by
    have hi := h i List.mem_cons_self
    have hl := r.length
    refine .cons ?_ (vals_perm r fun j hj => h j (List.mem_cons_of_mem _ hj))
    obtain ⟨u, hu, ru⟩ := r.get (List.getElem?_eq_getElem hi)
    show RelV (xs.getD i .non) (us.getD i .none)
    rw [List.getD_eq_getElem?_getD, List.getD_eq_getElem?_getD, List.getElem?_eq_getElem hi, hu]
    exact ru
theorem denL_perm {B : Addr → Prop} {ds : List D} {xs : List V} (h : DenL G B H ds xs) : ∀ {ix : List Nat}, (∀ i ∈ ix, i < ds.length) → DenL G B H (ix.map fun i => ds.getD i .non) (ix.map fun i => xs.getD i .non)
  | [], _ => rfl
  | i :: ix, hx => by
    have hi := hx i List.mem_cons_self
    obtain ⟨x, e1, e2⟩ := h.get (List.getElem?_eq_getElem hi)
    refine ⟨xs.getD i .non, _, rfl, ?_, denL_perm h fun j hj => hx j (List.mem_cons_of_mem _ hj)⟩
    show Den G B H (ds.getD i .non) (xs.getD i .non)
    rw [List.getD_eq_getElem?_getD, List.getD_eq_getElem?_getD, List.getElem?_eq_getElem hi, e1]
    exact e2
structure FkK (G : Gd) (P : Program) (w : World) (mg : Str → Option Value) (base : Heap) (k : Nat) (x : Str) (ps ks : List Str) (ix : List Nat) (cf : Nat) (S : FSpec) : Prop where
  ex : ∃ (f : Addr) (fd : FuncData), FnD G P w mg base k f fd ps cf S ∧ mg x = some (.ref f) ∧ PySem.W.keepIn G.K (.ref f) = true ∧ Kk G.K fd ps ks ix
def dCallK (n : Nat) (ix : List Nat) (S : FSpec) (u : DA) : DT := fun ex env Q => u ex env fun ds => ds.length = n ∧ S (ix.map fun i => ds.getD i .non) Q ex
theorem de_callk {j : Nat} {x : Str} {ps ks : List Str} {ix : List Nat} {c cf : Nat} {S : FSpec} {kws : List Keyword} {u : DA} {p pos : Pos} (F : FkK G X.prog X.w X.mg X.base j x ps ks ix cf S) (xk : Xk G E k X) (ha : DK G E X c kws u) (hj : j ≤ k := by decide) (hg : Gl X x := by rfl) (hdb : (x == ("__debug__" : Str)) = false := by decide)
    (hall : (backToKw pos (keywordEach kws X.env)).all (·.1.isSome) = true := by rfl) (hks : (backToKw pos (keywordEach kws X.env)).filterMap (·.1) = ks := by rfl)
    (hpl : ((backTo pos (starEach [] X.env)).any (·.1) || (backToKw pos (keywordEach kws X.env)).any (·.1.isNone)) = false := by rfl) : DE G E X (c + cf) (.Call (.Name x p) [] kws pos) (dCallK ks.length ix S u) := by
  obtain ⟨f, fd, hF0, hm, hk, hb⟩ := F.ex
  have hF := hF0.mono hj
  rw [← xk.K] at hk hb
  refine ⟨fun pins s σ H Q' I h => ?_⟩
  obtain ⟨W, hn, Q, ht, kk⟩ := h
  have args := ha.run pos pins s σ H (fun vs H1 => vs.length = ks.length ∧ liftF G cf S (ix.map fun i => vs.getD i .non) H1 Q' E) I ⟨W, by omega, _, ht, fun vs H1 ds st hd ⟨hl, hs⟩ => ⟨by rw [← hd.length]; exact hl, lift_callee st hn (denL_perm hd fun i hi => by rw [hl]; exact hb.ok i hi) hs kk⟩⟩
  refine wpAny_Call_Name_kw (ld_glob I hg hm ?_ hdb); refine PySem.W.callWith_KW0 (h₀ := X.base) I.ok.mod.kin hk hall (thn args fun us s1 ⟨vs, H1, I1, r1, hl, q1⟩ => ⟨I1.kIn, ?_⟩) hpl
  rw [hks]
  refine wpAny_call ?_
  exact run_fnd (hK := xk.K) hF xk.room xk.gd xk.pass I1 (vals_perm r1 fun i hi => by rw [hl]; exact hb.ok i hi) (by rw [List.length_map]; exact hb.len) _ (hb.to s1 us I1.kIn (by rw [← r1.length]; exact hl)) q1
end
end Kn

set_option Elab.async false
set_option linter.all false
set_option maxRecDepth 100000
set_option maxHeartbeats 2100000
namespace Kn
open PySem L2 RZ
open PyProof.Rows (envOfC)
section
variable {G : Gd} {E : XK} {X : Cx} {σ : List (Option V)} {H H' : Hp} {k : Nat}

/-! ### repr of plain data -/
def gRepr : D → (D → Prop) → Prop := fun d Q => (∃ i : Int, d = .int i ∧ i.natAbs.log2 < 1920 ∧ Q (.str (toString i))) ∨
  ((∃ ds, d = .lst ds ∨ d = .tup ds) ∧ ∃ p, pd d = some p ∧ SeqAt.shaped p = true ∧ p.showable = true ∧ p.hasDict = false ∧ p.shown.length ≤ sizeLine ∧ Q (.str p.shown))
theorem c_repr (xk : Xk G E k X) : CallR X (.builtin "repr") (rDL G (g1 gRepr)) := by
  intro pins s σ H vs us Q' I r h
  obtain ⟨B, d, x, Q, rfl, hd, hf, hg, kk⟩ := rDL1 h
  rcases hg with ⟨i, rfl, hi, hq⟩ | ⟨⟨ds, hds⟩, p, hp, hsh, hsw, hnd, hlen, hq⟩
  · cases hd
    exact SkE.call_repr_int pins s σ H _ us Q' I r ⟨i, rfl, hi, kk _ H (.str _) (Ext.refl _ _) (den_str _) hq⟩
  · have hdp : Dp X.K H x p := by rw [xk.K]; exact hd.dp _ _ _ hp
    have hx : ∃ a, x = .ref a := by
      rcases hds with rfl | rfl
      · obtain ⟨a, xs, e, _⟩ := hd; exact ⟨a, e⟩
      · obtain ⟨a, xs, e, _⟩ := hd; exact ⟨a, e⟩
    obtain ⟨a, rfl⟩ := hx
    rw [Vals.ref1 r]
    obtain ⟨as, rr⟩ := Dp.reads I p (.ref a) (.ref a) hdp rfl
    refine PySem.repr_of_reads' (h₀ := s.heap) rr hsw (fun z => by rw [hnd] at z; cases z) xk.gd ?_ (fun _ _ e => e) (fun h' u tk hk => ?_) hlen
    · have := SeqAt.depth_of_shaped hsh
      have := xk.u (n := 70)
      omega
    · exact ⟨.str p.shown, H, I.kept (t' := tk) hk, ⟨u, rfl⟩, kk _ H (.str _) (Ext.refl _ _) (den_str _) hq⟩

/-! ### a == b, things of a class with its own == -/
structure Fq (G : Gd) (P : Program) (w : World) (mg : Str → Option Value) (base : Heap) (k : Nat) (c : Nat) (cf : Nat) (S : FSpec) : Prop where
  ex : ∃ (f : Addr) (fd : FuncData) (ps : List Str), FnD G P w mg base k f fd ps cf S ∧ PySem.W.findIn G.K (.ref (G.cl c)) "__eq__" = some (some (.ref f)) ∧ PySem.W.isFn G.K (.ref f) = true ∧ Binds G.K fd ps [] ∧ ps.length = 2
def rEqI (G : Gd) (E : XK) (c cf : Nat) (S : FSpec) : R2 := fun x y H Q' => ∃ a dx fs b dy gs, x = .ref a ∧ y = .ref b ∧ H a = some (.ins (G.cl c) dx fs) ∧ H b = some (.ins (G.cl c) dy gs) ∧ liftF G cf S [x, y] H (fun v H' => (∃ b, v = .bl b) ∧ Q' v H') E
theorem op_eqI {j c cf : Nat} {S : FSpec} (F : Fq G X.prog X.w X.mg X.base j c cf S) (xk : Xk G E k X) (hj : j ≤ k := by decide) : OpR X (compareOp .Eq) (rEqI G E c cf S) := by
  intro pins s σ H x y v u Q I rx ry h; obtain ⟨a, dx, fs, b, dy, gs, rfl, rfl, ha, hb, hl⟩ := h
  obtain ⟨f, fd, ps, hF0, hs, hf, hbd, hp2⟩ := F.ex
  rw [← xk.K] at hs hf hbd
  cases rx
  cases ry
  obtain ⟨mA, J, _⟩ := ins_get I.hok ha; obtain ⟨mB, J', _⟩ := ins_get I.hok hb
  obtain ⟨od, J, _⟩ := J.look
  obtain ⟨od', J', _⟩ := J'.look; obtain ⟨m, hFr⟩ := I.fr
  refine (?_ : wpAny (model X.prog X.w) X.A (richCompare .Eq (.ref a) (.ref b)) (EP X pins σ Q) X.xe s)
  refine PySem.W.cmp_K (op := .Eq) (tb := .ref (G.cl c)) xk.room.units0 hFr I.ok.mod.kin J J'.type (by simp [PySem.W.notFirst]) hs hf (wpAny_mono (wpAny_call (run_fnd (hK := xk.K) (us := [.ref a, .ref b]) (vs := [.ref a, .ref b]) (hF0.mono hj) xk.room xk.gd xk.pass I (.cons rfl (.cons rfl .nil)) hp2.symm _ ?_ hl)) (fun w s' z => ?_) fun _ _ x => x)
  · have z := hbd s [.ref a, .ref b] I.kIn (by rw [List.append_nil]; exact hp2.symm)
    rw [List.append_nil] at z
    exact z
  · obtain ⟨z', H', I', rz, ⟨b, eb⟩, qz⟩ := z
    subst eb
    exact SlX.cmpback rz ⟨.bl b, H', I', rz, qz⟩
def dEqI (c : Nat) (S : FSpec) (ta tb : DT) : DT := fun ex env Q => ta ex env fun d => tb ex env fun e => ∃ ds es, d = .ins c ds ∧ e = .ins c es ∧ S [d, e] (fun r => (∃ b, r = .bl b) ∧ Q r) ex
theorem lift_eqI {ca cb cf c : Nat} {S : FSpec} {ta tb : DT} {Q' : VK} (h : lift G E (ca + cb + cf) (dEqI c S ta tb) σ H Q') : tOp (rEqI G E c cf S) (lift G E ca ta) (lift G E cb tb) σ H Q' := by
  obtain ⟨W, hn, Q, ht, kk⟩ := h
  refine ⟨W, by omega, _, ht, fun v H1 d st hd hq => ⟨W.next st, by show W.m + cb ≤ W.n - ca; omega, _, hq, fun v2 H2 e st2 he ⟨ds, es, e1, e2, hs⟩ => ?_⟩⟩
  subst e1 e2
  have hd2 : Den G W.XB H2 (.ins c ds) v := (W.next st).den st2 hd
  have he2 : Den G W.XB H2 (.ins c es) v2 := he
  obtain ⟨a, dx, xs, rfl, na, ha, la, da⟩ := id hd2
  obtain ⟨b, dy, ys, rfl, nb, hb, lb, db⟩ := id he2
  refine ⟨a, dx, _, b, dy, _, rfl, rfl, ha, hb, lift_callee (st.trans st2) hn (ds := [.ins c ds, .ins c es]) ⟨_, _, rfl, hd2, _, _, rfl, he2, rfl⟩ hs fun v H' d st3 hd3 ⟨⟨bb, eb⟩, hq3⟩ => ?_⟩
  subst eb
  cases hd3
  exact ⟨⟨bb, rfl⟩, kk _ H' (.bl bb) st3 (den_bl _) hq3⟩
theorem de_eqI {a b : Expr} {pos : Pos} {j c ca cb cf : Nat} {S : FSpec} {ta tb : DT} (F : Fq G X.prog X.w X.mg X.base j c cf S) (xk : Xk G E k X) (ha : DE G E X ca a ta) (hb : DE G E X cb b tb) (hm : behindInMarks .Eq b = false) (hj : j ≤ k := by decide) : DE G E X (ca + cb + cf) (.Compare a [.Eq] [b] pos) (dEqI c S ta tb) :=
  imp (pe_cmpR (op_eqI F xk hj) ha hb hm) fun _ _ _ h => lift_eqI h

/-! ### x, y = e, [..]: a value and a new list; x, y = [..], c: a new list and an int -/
def sParVO (i j : Nat) (te : DT) (u : DA) : DS := fun ex de env => te ex env fun d => u ex env fun ds => ds.length ≤ sizeLine ∧ ∀ a, de.nx ((env.set i (.val d)).set j (.own a ds))
theorem ds_parVO {i j : Nat} {x y : Str} {a : Expr} {es : List Expr} {te : DT} {u : DA} {c c2 : Nat} {px py pt pos lpos : Pos} {kt k2 pt2} (hc : X.calm = true) (hN : X.N.Nodup) (hi : X.N[i]? = some x) (hj : X.N[j]? = some y) (hij : i ≠ j)
    (hx : X.env.scope.names.lookup x = some .local) (hy : X.env.scope.names.lookup y = some .local) (ha : DE G E X c a te) (hes : DEs G E X c2 es u) (hs1 : starEach [a, .List es lpos] X.env = (false, eval a X.env) :: starEach [.List es lpos] X.env := by rfl) (hs2 : starEach [.List es lpos] X.env = (false, eval (.List es lpos) X.env) :: starEach [] X.env := by rfl)
    (hw : swappedStores [.Tuple [.Name x px, .Name y py] kt pt] (.Tuple [a, .List es lpos] k2 pt2) X.env = pure (some [x, y]))
    (hs : swapsWithSole [.Tuple [.Name x px, .Name y py] kt pt] (.Tuple [a, .List es lpos] k2 pt2) pos.line X.env = pure false := by rfl) : DSt G E X (c + c2) (.Assign [.Tuple [.Name x px, .Name y py] kt pt] (.Tuple [a, .List es lpos] k2 pt2) pos) (sParVO i j te u) :=
  impS (ps_par hc hN hi hj hij hx hy (pa_cons ha (pa_cons (df_lst hes) pa_nil hs2) hs1) hw hs) fun Dn σ H h => by
    obtain ⟨W, hn, de, ht, k1, k2, k3, k4⟩ := h
    refine ⟨W, by omega, _, ht, fun v H1 d st hd hq => ?_⟩
    refine ⟨W.next st, by show W.m + c2 ≤ W.n - c; omega, fun ds => ∀ a, de.nx ((W.env.set i (.val d)).set j (.own a ds)), hq, fun p H2 ds xs st2 hp h2 hl hd2 hq2 => ?_⟩
    · refine ⟨v, .ref p, rfl, ?_⟩
      have hd' : Den G (W.next st).XB H1 d v := hd
      let W1 := (W.next st).put i hd'
      have st3 : Step W1 c2 H2 := ⟨st2.ext, st2.good⟩
      have hdp : DenL G (fun a => W1.XB a ∨ a = p) H2 ds xs := hd2.fewer fun b hb => hb.imp (fun z => xb_val (W.next st).len z) id
      obtain ⟨W', l1, l2⟩ := wd_own W1 st3 (i := j) hp h2 hl hdp
      exact k1 _ H2 W' ((((Later.next st).trans (Later.put _ i hd')).trans l1).more (by omega)) (by rw [l2]; exact hq2 p)
end
end Kn

set_option Elab.async false
set_option linter.all false
set_option maxRecDepth 100000
set_option maxHeartbeats 2100000
namespace Kn
open PySem L2 RZ
open PyProof.Rows (envOfC)
section
variable {G : Gd} {E : XK} {X : Cx} {σ : List (Option V)} {H H' : Hp} {k : Nat}
/-- x, y = [..], z -/
def sParOV (i j l : Nat) (u : DA) : DS := fun ex de env => ∃ d, env[l]? = some (.val d) ∧ u ex env fun ds => ds.length ≤ sizeLine ∧ ∀ a, de.nx ((env.set i (.own a ds)).set j (.val d))
theorem ds_parOV {i j l : Nat} {x y z : Str} {es : List Expr} {u : DA} {c2 : Nat} {px py pz pt pos lpos : Pos} {kt k2 pt2} (hc : X.calm = true) (hN : X.N.Nodup) (hi : X.N[i]? = some x) (hj : X.N[j]? = some y) (hij : i ≠ j)
    (hx : X.env.scope.names.lookup x = some .local) (hy : X.env.scope.names.lookup y = some .local) (hes : DEs G E X c2 es u) (hl : X.N[l]? = some z) (hv : Vis X.env.scope z := by first | exact Or.inl rfl | exact Or.inr (Or.inl rfl) | exact Or.inr (Or.inr rfl)) (hd : (z == ("__debug__" : Str)) = false := by decide) (hcd : (z == ("__classdict__" : Str)) = false := by decide)
    (hs1 : starEach [.List es lpos, .Name z pz] X.env = (false, eval (.List es lpos) X.env) :: starEach [.Name z pz] X.env := by rfl) (hs2 : starEach [.Name z pz] X.env = (false, eval (.Name z pz) X.env) :: starEach [] X.env := by rfl)
    (hw : swappedStores [.Tuple [.Name x px, .Name y py] kt pt] (.Tuple [.List es lpos, .Name z pz] k2 pt2) X.env = pure (some [x, y]))
    (hs : swapsWithSole [.Tuple [.Name x px, .Name y py] kt pt] (.Tuple [.List es lpos, .Name z pz] k2 pt2) pos.line X.env = pure false := by rfl) : DSt G E X c2 (.Assign [.Tuple [.Name x px, .Name y py] kt pt] (.Tuple [.List es lpos, .Name z pz] k2 pt2) pos) (sParOV i j l u) :=
  impS (ps_par hc hN hi hj hij hx hy (pa_cons (df_lst hes) (pa_cons (pe_var (i := l) hl hv hd hcd) pa_nil hs2) hs1) hw hs) fun Dn σ H h => by
    obtain ⟨W, hn, de, ⟨d, hed, ht⟩, k1, k2, k3, k4⟩ := h
    refine ⟨W, hn, fun ds => ∀ a, de.nx ((W.env.set i (.own a ds)).set j (.val d)), ht, fun p H2 ds xs st2 hp h2 hl hd2 hq2 => ?_⟩
    obtain ⟨v, hv, hdv⟩ := W.sl l _ hed
    refine ⟨v, join_some hv, .ref p, v, rfl, ?_⟩
    obtain ⟨W', l1, l2⟩ := wd_own W st2 (i := i) hp h2 hl hd2
    have hdv' : Den G W'.XB H2 d v := Den.keep (fun b o nb e => l1.keep b o nb e) (fun b hb => l1.xb b hb) d v hdv
    exact k1 _ H2 (W'.put j hdv') ((l1.trans (Later.put _ j hdv')).more (by omega)) (by show de.nx (W'.env.set j (.val d)); rw [l2]; exact hq2 p)
/-- a tuple of texts of the module -/
def strsD (ts : List Str) : List D := ts.map D.str
theorem denL_strs {B : Addr → Prop} {H : Hp} : ∀ (ts : List Str), DenL G B H (strsD ts) (ts.map V.str)
  | [] => rfl
  | t :: ts => ⟨_, _, rfl, rfl, denL_strs ts⟩
def GTup (G : Gd) (mg : Str → Option Value) (x : Str) (ts : List Str) : Prop := ∃ a, mg x = some (.ref a) ∧ KTup G.K a (ts.map V.str) ∧ ts.length ≤ sizeLine
theorem de_gtup {x : Str} {ts : List Str} {pos : Pos} (hm : GTup G X.mg x ts) (hg : Gl X x := by rfl) (hd : (x == ("__debug__" : Str)) = false := by decide) : DE G E X 0 (.Name x pos) (dC (.tup (strsD ts))) := by
  obtain ⟨a, h1, h2, h3⟩ := hm
  exact imp (pe_glob (v := .ref a) hg h1 rfl hd) fun _ _ _ h => lift_c (d := .tup (strsD ts)) (fun B H => (⟨a, ts.map V.str, rfl, .inr h2, .inr h2, by simpa using h3, denL_strs ts⟩ : Den G B H (.tup (strsD ts)) (.ref a))) h
end
end Kn

set_option Elab.async false
set_option linter.all false
set_option maxRecDepth 100000
set_option maxHeartbeats 2100000
namespace Kn
open PySem L2 RZ
/-! plain data compared: texts, ints, rows of ints -/
theorem shaped_str {x : Str} (h : PyData.strOk x = true) : SeqAt.shaped (.str x) = true := by
  unfold SeqAt.shaped
  rw [show PyData.canLay0 (.str x) = PyData.strOk x from rfl, h]; rfl
theorem shaped_int (i : Int) : SeqAt.shaped (.int i) = true := by rfl
theorem eq_str {a b : Str} {Q : D → Prop} (ha : PyData.strOk a = true) (hb : PyData.strOk b = true) (h : Q (.bl (a == b))) : gEq (.str a) (.str b) Q := ⟨_, _, rfl, rfl, shaped_str ha, shaped_str hb, h⟩
theorem ne_str {a b : Str} {Q : D → Prop} (ha : PyData.strOk a = true) (hb : PyData.strOk b = true) (h : Q (.bl (!(a == b)))) : gNe (.str a) (.str b) Q := ⟨_, _, rfl, rfl, shaped_str ha, shaped_str hb, h⟩
theorem eq_int {a b : Int} {Q : D → Prop} (h : Q (.bl (a == b))) : gEq (.int a) (.int b) Q := ⟨_, _, rfl, rfl, shaped_int a, shaped_int b, h⟩
theorem ne_int {a b : Int} {Q : D → Prop} (h : Q (.bl (!(a == b)))) : gNe (.int a) (.int b) Q := ⟨_, _, rfl, rfl, shaped_int a, shaped_int b, h⟩
theorem pdL_int : ∀ is : List Int, pdL (is.map D.int) = some (is.map PyData.int)
  | [] => rfl
  | i :: is => by simp [pdL, pd, pdL_int is]
theorem pdL_str : ∀ ts : List Str, pdL (strsD ts) = some (ts.map PyData.str)
  | [] => rfl
  | t :: ts => by
    have := pdL_str ts
    simp only [strsD, List.map_cons, pdL, pd] at this ⊢
    rw [this]
theorem eqvAll_int : ∀ is js : List Int, PyData.eqvAll (is.map PyData.int) (js.map PyData.int) = (is == js)
  | [], [] => rfl
  | [], _ :: _ => rfl
  | _ :: _, [] => rfl
  | i :: is, j :: js => by
    show ((i == j) && PyData.eqvAll (is.map PyData.int) (js.map PyData.int)) = _
    rw [eqvAll_int is js]
    rfl
theorem lay_int : ∀ is : List Int, PyData.canLayAll0 (is.map PyData.int) = true
  | [] => rfl
  | i :: is => by
    show (true && PyData.canLayAll0 (is.map PyData.int)) = true
    rw [lay_int is]; rfl
theorem depth_int : ∀ is : List Int, PyData.depthAll (is.map PyData.int) ≤ 1
  | [] => by decide
  | i :: is => by
    show max _ (PyData.depthAll (is.map PyData.int)) ≤ 1
    exact Nat.max_le.mpr ⟨Nat.zero_le _, depth_int is⟩
theorem eq_row {is js : List Int} {Q : D → Prop} (hr : ∀ is : List Int, SeqAt.shaped (.tuple (is.map PyData.int)) = true) (h : Q (.bl (is == js))) : gEq (.tup (is.map D.int)) (.tup (js.map D.int)) Q :=
  ⟨_, _, by simp [pd, pdL_int], by simp [pd, pdL_int], hr is, hr js, by rw [show PyData.eqv (.tuple (is.map PyData.int)) (.tuple (js.map PyData.int)) = PyData.eqvAll (is.map PyData.int) (js.map PyData.int) from rfl, eqvAll_int]; exact h⟩
theorem shaped_row (is : List Int) : SeqAt.shaped (.tuple (is.map PyData.int)) = true := by
  unfold SeqAt.shaped
  rw [show PyData.canLay0 (.tuple (is.map PyData.int)) = PyData.canLayAll0 (is.map PyData.int) from rfl, lay_int, Bool.true_and]
  have := depth_int is
  exact decide_eq_true (by show PyData.depthAll (is.map PyData.int) + 1 ≤ 64; omega)
end Kn

set_option Elab.async false
set_option linter.all false
set_option maxRecDepth 100000
set_option maxHeartbeats 2100000
namespace Kn
open PySem L2 RZ
section
variable {G : Gd} {E : XK} {X : Cx} {σ : List (Option V)} {H H' : Hp} {k : Nat}
theorem denL_rg {B : Addr → Prop} {H : Hp} (a : Int) : ∀ n : Nat, DenL G B H ((List.range n).map fun (i : Nat) => D.int (a + (i : Int))) ((List.range n).map fun i => V.int (a + (i : Nat))) := fun n => by
  have h : ∀ l : List Nat, DenL G B H (l.map fun (i : Nat) => D.int (a + (i : Int))) (l.map fun i => V.int (a + (i : Nat))) := fun l => by
    induction l with
    | nil => rfl
    | cons x l ih => exact ⟨_, _, rfl, rfl, ih⟩
  exact h _
/-- list(range(n)) -/
def dListRg (te : DT) : DT := fun ex env Q => te ex env fun d => ∃ n : Int, d = .int n ∧ n ≤ 16777216 ∧ -(2 ^ 62) ≤ n ∧ Q (.lst (rangeD 0 n.toNat))
theorem de_listRange {a : Expr} {c : Nat} {te : DT} {p p2 pos pos2 : Pos} (hc : X.calm = true) (hm : X.mg "list" = none) (hm2 : X.mg "range" = none) (ha : DE G E X c a te) (hg : Gl X "list" := by rfl) (hg2 : Gl X "range" := by rfl)
    (na : starEach [a] X.env = (false, eval a X.env) :: starEach [] X.env := by rfl) (nb : starEach [.Call (.Name "range" p2) [a] [] pos2] X.env = (false, eval (.Call (.Name "range" p2) [a] [] pos2) X.env) :: starEach [] X.env := by rfl) :
    DE G E X c (.Call (.Name "list" p) [.Call (.Name "range" p2) [a] [] pos2] [] pos) (dListRg te) :=
  imp (pe_listRg hc hg hm (prg_1 hg2 hm2 ha na) nb) fun σ H Q' h => by
    obtain ⟨W, hn, Q, ht, kk⟩ := h
    refine ⟨W, hn, _, ht, fun v H1 d st hd ⟨n, e, h1, h2, hq⟩ => ?_⟩
    subst e
    cases hd
    refine ⟨n, rfl, ⟨by omega, by omega, by omega, by omega, by omega⟩, fun q hq0 => ?_⟩
    have e2 : rgV 0 n = (List.range n.toNat).map fun i => V.int (0 + (i : Nat)) := by unfold rgV; rw [Int.sub_zero]
    refine kk _ _ (.lst (rangeD 0 n.toNat)) (st.new hq0) (den_lst hq0 ((W.next st).fresh hq0) (by rw [rgV_length, sizeLine_eq]; omega) ?_) hq
    rw [e2]
    exact denL_rg 0 n.toNat
end
end Kn

set_option Elab.async false
set_option linter.all false
set_option maxRecDepth 100000
set_option maxHeartbeats 2100000
namespace Kn
open PySem L2 RZ
section
variable {G : Gd} {E : XK} {X : Cx} {σ : List (Option V)} {H H' : Hp} {k : Nat}
/-- t == (), whatever t holds -/
def rEqE (K : PySem.W.Frag) : R2 := fun x y H Q => ∃ a b xs, x = .ref a ∧ y = .ref b ∧ SqT K H a xs ∧ SqT K H b [] ∧ Q (.bl xs.isEmpty) H
theorem op_eqE (hu : X.A.units < cLine) : OpR X (compareOp .Eq) (rEqE X.K) := by
  intro pins s σ H x y v u Q I rx ry h; obtain ⟨a, b, xs, rfl, rfl, ha, hb, q⟩ := h
  cases rx
  cases ry
  obtain ⟨its, r1, p1, _⟩ := I.tuple ha; obtain ⟨its2, r2, p2, _⟩ := I.tuple hb
  cases r2
  have hl := r1.length
  refine SeqAt.eq_tupleAt (e := fun _ => true) p1 p2 hu (fun i h1 h2 => absurd h2 (by simp)) ⟨.bl xs.isEmpty, H, I, ?_, q⟩
  cases r1 with
  | nil => rfl
  | cons r0 r1 =>
    show Value.bool _ = Value.bool false
    congr 1
def gEqE : G2 := fun d e Q => ∃ ds, d = .tup ds ∧ e = .tup [] ∧ Q (.bl ds.isEmpty)
theorem o_eqE (hK : X.K = G.K) (hu : X.A.units < cLine) : OpR X (compareOp .Eq) (rD G gEqE) := opr_imp (op_eqE hu) fun x y H Q' h => by
  obtain ⟨B, d, e, Q, hd, he, _, ⟨ds, rfl, rfl, hq⟩, kk⟩ := h
  obtain ⟨a, xs, rfl, na, ha, la, da⟩ := hd
  obtain ⟨b, ys, rfl, nb, hb, lb, db⟩ := he
  cases db
  refine ⟨a, b, xs, rfl, rfl, by rw [hK]; exact ha, by rw [hK]; exact hb, kk _ H (.bl xs.isEmpty) (Ext.refl _ _) (den_bl _) ?_⟩
  have e : xs.isEmpty = ds.isEmpty := by
    have := da.length
    cases xs <;> cases ds <;> first | rfl | (simp at this)
  rw [e]
  exact hq
end
end Kn

set_option Elab.async false
set_option linter.all false
set_option maxRecDepth 100000
set_option maxHeartbeats 2100000
/-! x in a tuple of things with an own == -/
namespace GQ
open PySem PySem.SeqAt PySem.Spec PyProof.Rows
open AutoSeq1
 (wpAny_loadPart')
open MeetsSeq
open MeetsSeq2 MeetsSeq3 SeqRoads2
section
variable {P : Program} {w : World} {A
  : Around} {R : Result → Shared → Prop}
theorem tup_hasG (l : Addr) (its : Array Value) (n : Nat) (dd : Option Addr) (sl : Array (Option Value)) (x : Value) (I : Nat → Shared → Prop)
    (turn : ∀ i (h : i < its.size) s, I i s → wpAny (model P w) A.in1 (eqBool its[i] x) (fun r s' => if r = true then R (.ok (.ret (.bool true))) s' else I (i + 1) s') (fun e s' => R (.error e) s') s)
    (fin : ∀ s, I its.size s → R (.ok (.ret (.bool false))) s) {s : Shared} (hl : s.heap.get? l = some { cls := .type "tuple", dict := dd, data := .seq its n, slots := sl }) (h : I 0 s) :
    wpAny (model P w) A.in1 (Builtin.«tuple.__contains__» ⟨[.ref l, x], []⟩) (FinOf P w A R) (fun e s' => R (.error e) s') s := by
  have h0 := h; obtain ⟨hp, g, d, tk, os⟩ := s
  wp_walk using wpAny_loadPart' hl, wpAny_forIn_array _ (fun rest b s' => b.1 = none ∧ ∃ i, rest = its.toList.drop i ∧ i ≤ its.size ∧ I i s') _
  case turn =>
    rintro y rest b s' ⟨hb', i, hz, hi, hI⟩
    have hlt : i < its.toList.length := by
      rcases Nat.lt_or_ge i its.toList.length with z | z
      · exact z
      · rw [List.drop_of_length_le z] at hz; cases hz
    have h1 : i < its.size := by simpa using hlt
    rw [List.drop_eq_getElem_cons
      hlt] at hz
    injection hz with hy hrest
    have hy' : y = its[i] := by simpa using hy
    subst hy'
    refine wpAny_bind (wpAny_mono (turn i h1 s' hI) (fun r s2 q2 => ?_) fun _ _ z => z)
    cases r with
    | true =>
      rw [if_pos rfl] at q2
      wp_walk
      simpa using q2
    | false =>
      rw [if_neg Bool.false_ne_true] at q2
      wp_walk
      exact ⟨rfl, i +
        1, hrest, h1, q2⟩
  case fin =>
    rintro ⟨b1, b2⟩ s' ⟨hb', i, hz, hi, hI⟩; simp only at hb'
    subst hb'
    have hge : its.size ≤ i := by
      rcases Nat.lt_or_ge i its.toList.length with z | z
      · rw [List.drop_eq_getElem_cons z] at hz; cases hz
      · simpa using z
    have e : i = its.size := by omega
    have hR := fin s' (e ▸ hI)
    wp_walk
    simpa using hR
  case h =>
    exact ⟨rfl, 0, rfl,
      Nat.zero_le _, h0⟩
end
section
variable {P : Program} {w : World} {A : Around}
  {E : Value → Shared → Prop} {s : Shared}
theorem in_tupG {l : Addr} {its : Array Value} {x : Value} {Q : Value → Shared → Prop} (hl : s.heap.IsTuple l its) (I : Nat → Shared → Prop)
    (turn : ∀ i (h : i < its.size) s, I i s → wpAny (model P w) A.in1 (eqBool its[i] x) (fun r s' => if r = true then Q (.bool true) s' else I (i + 1) s') E s)
    (fin : ∀ s, I its.size s → Q (.bool false) s) (h : I 0 s) : wpAny (model P w) A (compareOp .In x (.ref l)) Q E s := by
  obtain ⟨⟨cls, dd, data, sl⟩, ho, hc, n, hd⟩ := id hl; simp only at hc hd
  subst hc hd
  refine (?_ : wpAny _ A (do return .bool (← contains (.ref l) x)) Q E s)
  refine wpAny_bind (wpAny_contains_slot ⟨_, ho, rfl⟩ F.slot_tuple_contains (wpAny_mono (call_here (Q := fun v s' => ∃ b, v = .bool b ∧ Q (.bool b) s') F.slot_tuple_contains ⟨_, ho, rfl⟩ F.entry_tuple_contains (F.args_tuple_contains_2 _ _) ?_) (fun v s' hv => ?_) fun _ _ e => e))
  · exact tup_hasG (R := wants (fun v s' => ∃ b, v = .bool b ∧ Q (.bool b) s') E) l its n dd sl x I (fun i h1 s' q => wpAny_mono (turn i h1 s' q) (fun r s2 q2 => by
      cases r with
      | true => exact ⟨true, rfl, q2⟩
      | false => exact q2) fun _ _ z => z) (fun s' q => ⟨false, rfl, fin s' q⟩) ho h
  · obtain ⟨b, rfl, hq⟩ := hv
    exact wpAny_truthy_bool
      (wpAny_pure hq)
end
end GQ
namespace Kn
open PySem L2 RZ
section
variable {G : Gd} {E : XK} {X : Cx} {σ : List (Option V)} {H H' : Hp} {k : Nat}
/-- x in t: both of things of the class c with the own ==; whether each item is like x is told by its spec -/
def inI (c : Nat) (S : FSpec) (x : D) (Q : D → Prop) (ex : Exc → Prop) : List D → Prop
  | [] => Q (.bl false)
  | d :: ds => ∃ es, d = .ins c es ∧ Q (.bl true) ∧ S [d, x] (fun r => ∃ b, r = .bl b ∧ (b = false → inI c S x Q ex ds)) ex
end
end Kn

set_option Elab.async false
set_option linter.all false
set_option maxRecDepth 100000
set_option maxHeartbeats 2100000
namespace Kn
open PySem L2 RZ
section
variable {G : Gd} {E : XK} {X : Cx} {σ : List (Option V)} {H H' : Hp} {k : Nat}
def rInI (G : Gd) (E : XK) (c : Nat) (S : FSpec) : R2 := fun x y H Q' => ∃ (u : Option (Addr × Addr)) (n : Nat) (B : Addr → Prop) (es ds : List D) (Q : D → Prop) (ex : Exc → Prop), u = G.u ∧ (∀ p, u = some p → B p.1 ∧ B p.2) ∧ (∀ a, B a → H a ≠ none) ∧ Good u H n ∧
  Den G B H (.ins c es) x ∧ Den G B H (.tup ds) y ∧ inI c S (.ins c es) Q ex ds ∧ (∀ r H' rd, Ext u H H' → Good u H' n → Den G B H' rd r → Q rd → Q' r H') ∧ (∀ z C d H', Ext u H H' → Good u H' n → ExcIs G B H' z C d → ex z → E C d H')
theorem op_inI {j c : Nat} {S : FSpec} (F : Fq G X.prog X.w X.mg X.base j c 0 S) (xk : Xk G E k X) (hj : j + 1 ≤ k := by decide) : OpR X (compareOp .In) (rInI G E c S) := by
  intro pins s σ H x y v u Q' I rx ry h
  obtain ⟨uu, n, B, es, ds, Q, ex, hug, hu, hB, hg, hx, hy, hin, kQ, kE⟩ := h
  obtain ⟨f, fd, ps, hF0, hs, hf, hbd, hp2⟩ := F.ex
  rw [← xk.K] at hs hf hbd
  have huB : ∀ p, uu = some p → B p.1 := fun p e => (hu p e).1
  obtain ⟨ax, dx, fx, rfl, nax, hax, lax, dax⟩ := id hx
  obtain ⟨at', xs, rfl, nat', hat', lat', dat'⟩ := id hy
  cases rx
  cases ry
  rw [← xk.K] at hat'
  obtain ⟨its, r1, p1, hz⟩ := I.tuple hat'
  have hlen : its.toArray.size = ds.length := by rw [List.size_toArray, ← r1.length, dat'.length]
  have room1 : Room j X.A.in1 := (xk.room.mono hj).in1
  refine GQ.in_tupG p1 (fun i s' => ∃ H', Inv X pins σ H' s' ∧ Ext uu H H' ∧ Good uu H' n ∧ inI c S (.ins c es) Q ex (ds.drop i)) (fun i h1 s' hI => ?_) (fun s' hI => ?_) ⟨H, I, Ext.refl _ _, hg, hin⟩
  · obtain ⟨H1, I1, e1, g1, hin1⟩ := hI
    have hi : i < ds.length := by rw [← hlen]; exact h1
    rw [List.drop_eq_getElem_cons hi] at hin1
    obtain ⟨fs, ed, qt, hS⟩ := hin1
    have dd1 : DenL G B H1 ds xs := dat'.ext e1 huB
    obtain ⟨v1, hv1, dv1⟩ := dd1.get (List.getElem?_eq_getElem hi)
    rw [ed] at dv1
    obtain ⟨ai, di, fi, rfl, nai, hai, lai, dai⟩ := id dv1
    obtain ⟨ui, hui, rui⟩ := r1.get hv1
    have hax1 := ext_nb e1 huB nax hax
    have dx1 : Den G B H1 (.ins c es) (.ref ax) := hx.ext e1 huB
    have eit : its.toArray[i] = .ref ai := by
      have z := (List.getElem?_eq_some_iff.mp hui).2
      have rr : ui = .ref ai := rui
      rw [← rr, ← z]; simp
    rw [eit]
    by_cases hab : ai = ax
    · subst hab
      refine SeqAt.EqAt.same (A := X.A.in1) (s := s') (.ref ai) X.prog X.w X.xe _ ?_
      rw [if_pos rfl]
      exact ⟨.bl true, H1, I1, rfl, kQ _ H1 (.bl true) e1 g1 (den_bl _) qt⟩
    · refine GQ.eqBool_refG hab ?_
      obtain ⟨mA, J, _⟩ := ins_get I1.hok hai
      obtain ⟨mB, J', _⟩ := ins_get I1.hok hax1
      obtain ⟨od, J, _⟩ := J.look
      obtain ⟨od', J', _⟩ := J'.look; obtain ⟨m, hFr⟩ := I1.fr
      have hB1 : ∀ a, B a → H1 a ≠ none := fun a ha z => by
        cases q : H a with
        | none => exact hB a ha q
        | some o =>
          by_cases hua : uu.map (·.1) = some a
          · cases hu' : uu with
            | none => rw [hu'] at hua; cases hua
            | some r =>
              obtain ⟨ra, rb⟩ := r
              rw [hu'] at hua
              cases hua
              have g := g1
              rw [hu'] at g
              obtain ⟨_, _, _, z1, _⟩ := g
              rw [z1] at z; cases z
          · rw [e1 a o q hua] at z; cases z
      have hl : liftF G 0 S [.ref ai, .ref ax] H1 (fun v H2 => ∃ b, v = .bl b ∧ Ext uu H H2 ∧ Good uu H2 n ∧ (b = false → inI c S (.ins c es) Q ex (ds.drop (i + 1)))) E :=
        ⟨uu, n, B, [.ins c fs, .ins c es], fun r => ∃ b, r = .bl b ∧ (b = false → inI c S (.ins c es) Q ex (ds.drop (i + 1))), ex, hug, Nat.zero_le _, hu, hB1, g1, ⟨_, _, rfl, dv1, _, _, rfl, dx1, rfl⟩, by rw [ed] at hS; exact hS, fun v H2 d e2 g2 hd ⟨b, eb, hb⟩ => by
          subst eb
          cases hd
          exact ⟨b, rfl, e1.trans e2, g2, hb⟩, fun z C d H2 e2 g2 hz hq => kE z C d H2 (e1.trans e2) g2 hz hq⟩
      refine PySem.W.cmp_K (op := .Eq) (tb := .ref (G.cl c)) room1.units0 hFr I1.ok.mod.kin J J'.type (by simp [PySem.W.notFirst]) hs hf (wpAny_call (codeAny_mono (hF0.run X.A.in1 X.stack s' H1 ⟨[.ref ai, .ref ax], []⟩ [.ref ai, .ref ax] [.ref ai, .ref ax] _ E room1 xk.gd (by rw [← xk.K]; exact I1.env0.in1) ?_ (.cons rfl (.cons rfl .nil)) hp2.symm hl) fun r s2 hq => ?_))
      · have z := hbd s' [.ref ai, .ref ax] I1.kIn (by rw [List.append_nil]; exact hp2.symm)
        rw [List.append_nil] at z
        exact z
      · cases r with
        | error e => exact xk.pass pins σ H1 s' e s2 I1 hq
        | ok fl =>
          cases fl with
          | ret w' =>
            obtain ⟨z, H2, I2, rz, b, eb, e2, g2, hb⟩ := I1.after hq
            subst eb
            refine SlX.cmpback rz ⟨b, ?_, ?_⟩
            · exact rz
            · cases b with
              | true => rw [if_pos rfl]; exact ⟨.bl true, H2, I2, rfl, kQ _ H2 (.bl true) e2 g2 (den_bl _) qt⟩
              | false => rw [if_neg Bool.false_ne_true]; exact ⟨H2, I2, e2, g2, hb rfl⟩
          | next => exact hq.elim
          | brk => exact hq.elim
          | cont => exact hq.elim
  · obtain ⟨H1, I1, e1, g1, hin1⟩ := hI
    rw [hlen, List.drop_length] at hin1
    exact ⟨.bl false, H1, I1, rfl, kQ _ H1 (.bl false) e1 g1 (den_bl _) hin1⟩
def dInI (c : Nat) (S : FSpec) (ta tb : DT) : DT := fun ex env Q => ta ex env fun d => tb ex env fun e => ∃ es ds, d = .ins c es ∧ e = .tup ds ∧ inI c S d Q ex ds
theorem de_inI {a b : Expr} {pos : Pos} {j c ca cb : Nat} {S : FSpec} {ta tb : DT} (F : Fq G X.prog X.w X.mg X.base j c 0 S) (xk : Xk G E k X) (ha : DE G E X ca a ta) (hb : DE G E X cb b tb) (hm : behindInMarks .In b = false) (hj : j + 1 ≤ k := by decide) : DE G E X (ca + cb) (.Compare a [.In] [b] pos) (dInI c S ta tb) :=
  imp (pe_cmpR (op_inI F xk hj) ha hb hm) fun σ H Q' h => by
    obtain ⟨W, hn, Q, ht, kk⟩ := h
    refine ⟨W, by omega, _, ht, fun v H1 d st hd hq => ⟨W.next st, by show W.m + cb ≤ W.n - ca; omega, _, hq, fun v2 H2 e st2 he ⟨es, ds, e1, e2, hs⟩ => ?_⟩⟩
    subst e1 e2
    have s12 := st.trans st2
    have hd2 : Den G W.XB H2 (.ins c es) v := (W.next st).den st2 hd
    refine ⟨W.u, W.n - (ca + cb), W.XB, es, ds, Q, W.ex, W.ug, fun p e => ⟨.inl (W.hu p e).1, .inl (W.hu p e).2⟩, fun q hq0 z => (W.next s12).fresh z hq0, s12.good, hd2, he, hs, fun r H' rd e g hr hq2 => kk r H' rd ⟨s12.ext.trans e, g⟩ hr hq2, fun z C d H' e g hz hq2 => ?_⟩
    obtain ⟨z1, dd, xs, z2, z3, z4, z5⟩ := hz
    exact W.exc z C d H' ((W.fr.trans s12.ext).trans e) (g.less (by omega)) ⟨z1, dd, xs, z2, z3, z4, z5.fewer fun b z => .inl z⟩ hq2
end
end Kn

set_option Elab.async false
set_option linter.all false
set_option maxRecDepth 100000
set_option maxHeartbeats 2100000
namespace Kn
open PySem L2 RZ
/-! dicts with texts as keys: display of constants, in, lookup -/
section
variable {G : Gd} {E : XK} {X : Cx} {σ : List (Option V)} {H H' : Hp} {k : Nat}
def lookD : List Str → List D → Str → Option D
  | x :: ks, d :: ds, y => if x = y then some d else lookD ks ds y
  | _, _, _ => none
theorem look_val {B : Addr → Prop} {H : Hp} {y : Str} : ∀ {ks : List Str} {ds : List D} {kvs : List (Key × V)}, kvs.map (·.1) = ks.map Sum.inr → DenL G B H ds (kvs.map (·.2)) →
    (∀ d, lookD ks ds y = some d → ∃ v, valV kvs (Sum.inr y) = some v ∧ Den G B H d v) ∧ (valV kvs (Sum.inr y)).isSome = (lookD ks ds y).isSome
  | [], ds, kvs, hk, hd => by
    have e : kvs = [] := by simpa using hk
    subst e
    exact ⟨fun d h => by simp [lookD] at h, by simp [valV, lookD]⟩
  | x :: ks, [], kvs, hk, hd => by
    have e := hd.length
    have e2 := congrArg List.length hk
    simp at e e2
    omega
  | x :: ks, d :: ds, [], hk, hd => by simp at hk
  | x :: ks, d :: ds, p :: kvs, hk, hd => by
    obtain ⟨v, r, e, h1, h2⟩ := hd
    simp only [List.map_cons, List.cons.injEq] at hk e
    obtain ⟨e1, hk⟩ := hk
    obtain ⟨e2, e3⟩ := e
    rw [← e3] at h2
    obtain ⟨i1, i2⟩ := look_val (y := y) hk h2
    by_cases hxy : x = y
    · subst hxy
      have z : valV (p :: kvs) (Sum.inr x) = some p.2 := valV_pos e1
      refine ⟨fun d' h => ?_, ?_⟩
      · simp only [lookD, if_true] at h
        cases h
        exact ⟨p.2, z, by rw [e2]; exact h1⟩
      · rw [z]; simp [lookD]
    · have hne : ¬ p.1 = Sum.inr y := fun z => hxy (by rw [e1] at z; cases z; rfl)
      rw [valV_neg hne]
      simp only [lookD, if_neg hxy]
      exact ⟨i1, i2⟩
theorem lift_dct {d : D} {ks : List Str} {ds : List D} {B : Addr → Prop} {v : V} (h : Den G B H (.dct ks ds) v) : ∃ (a : Addr) (kvs : List (Key × V)), v = .ref a ∧ ¬ B a ∧ H a = some (.dK kvs) ∧ kvs.map (·.1) = ks.map Sum.inr ∧ DenL G B H ds (kvs.map (·.2)) := h
/-- d[x] -/
def gGet : G2 := fun d e Q => ∃ ks ds x v, d = .dct ks ds ∧ e = .str x ∧ lookD ks ds x = some v ∧ Q v
theorem de_dget {a b : Expr} {pos : Pos} {ca cb : Nat} {ta tb : DT} (hu : X.A.units + 1 < cLine) (ha : DE G E X ca a ta) (hb : DE G E X cb b tb) (hs : NoSl b := by intro _ _; rfl) : DE G E X (ca + cb) (.Subscript a b pos) (dOp gGet ta tb) :=
  imp (pe_dget hu ha hb hs) fun σ H Q' h => by
    obtain ⟨W, hn, Q, ht, kk⟩ := h
    refine ⟨W, by omega, _, ht, fun v H1 d st hd hq => ⟨W.next st, by show W.m + cb ≤ W.n - ca; omega, _, hq, fun v2 H2 e st2 he ⟨ks, ds, x, r, e1, e2, hl, hq2⟩ => ?_⟩⟩
    subst e1 e2
    cases he
    obtain ⟨a, kvs, rfl, na, hat, hk, hds⟩ := (W.next st).den st2 hd
    obtain ⟨z, hz, dz⟩ := (look_val (y := x) hk hds).1 r hl
    exact ⟨a, z, rfl, by rw [← hz]; exact DGet.k (k := Sum.inr x) hat, kk z H2 r (st.trans st2) dz hq2⟩
/-- x in d -/
def gInD : G2 := fun e d Q => ∃ ks ds x, d = .dct ks ds ∧ e = .str x ∧ Q (.bl (lookD ks ds x).isSome)
theorem lift_din {ca cb : Nat} {ta tb : DT} {Q' : VK} (h : lift G E (ca + cb) (dOp gInD ta tb) σ H Q') : tDIn (lift G E ca ta) (lift G E cb tb) σ H Q' := by
  obtain ⟨W, hn, Q, ht, kk⟩ := h
  refine ⟨W, by omega, _, ht, fun v H1 d st hd hq => ⟨W.next st, by show W.m + cb ≤ W.n - ca; omega, _, hq, fun v2 H2 e st2 he ⟨ks, ds, x, e1, e2, hq2⟩ => ?_⟩⟩
  subst e1 e2
  cases hd
  obtain ⟨a, kvs, rfl, na, hat, hk, hds⟩ := he
  exact ⟨a, valV kvs (Sum.inr x), rfl, DGet.k (k := Sum.inr x) hat, kk _ H2 (.bl _) (st.trans st2) (by rw [(look_val (y := x) hk hds).2]; exact den_bl _) hq2⟩
theorem de_din {a b : Expr} {pos : Pos} {ca cb : Nat} {ta tb : DT} (hu : X.A.units + 1 < cLine) (ha : DE G E X ca a ta) (hb : DE G E X cb b tb) (hm : behindInMarks .In b = false) : DE G E X (ca + cb) (.Compare a [.In] [b] pos) (dOp gInD ta tb) := imp (pe_cmp (pc_din hu ha hb) hm) fun _ _ _ h => lift_din h
theorem dt_din {a b : Expr} {pos : Pos} {ca cb : Nat} {ta tb : DT} (hu : X.A.units + 1 < cLine) (ha : DE G E X ca a ta) (hb : DE G E X cb b tb) (hm : behindInMarks .In b = false) : DPt G E X (ca + cb) (.Compare a [.In] [b] pos) (dTrue (dOp gInD ta tb)) := impT (pt_cmp (pc_din hu ha hb) hm) fun σ H Q' h => lift_din (lift_true h)
/-- {'a': 1, ..}: texts and ints as they stand -/
def dctI (cs : List (Str × Int)) : D := .dct (cs.map (·.1)) (cs.map fun p => .int p.2)
def kvsI (cs : List (Str × Int)) : List (Key × V) := cs.map fun p => (Sum.inr p.1, .int p.2)
theorem pairs_of : ∀ (cs : List (Str × Int)) {σ : List (Option V)} {H : Hp} {K : List (V × V) → Hp → Prop}, K (cs.map fun p => (V.str p.1, V.int p.2)) H → tPairs (cs.map fun p => (tC (.str p.1), tC (.int p.2))) σ H K
  | [], _, _, _, h => h
  | c :: cs, _, _, _, h => pairs_of cs h
theorem de_dct {cs : List (Str × Int)} {keys : List (Option Expr)} {values : List Expr} {pos : Pos} (h : PPs X pos keys values (cs.map fun p => (tC (.str p.1), tC (.int p.2)))) (hall : keys.all (·.isSome) = true) (hl : keys.length = values.length) (h0 : keys ≠ []) (h15 : keys.length ≤ 15) (hcs : cs.length ≤ 15) (hm : mergeK [] (kvsI cs) = kvsI cs) :
    DE G E X 0 (.Dict keys values pos) (dC (dctI cs)) := imp (pe_disp h hall hl h0 h15) fun σ H Q' hh => by
  obtain ⟨W, hn, Q, hq, kk⟩ := hh
  intro p hp
  refine pairs_of cs ⟨upd_same, kvsI cs, by unfold kvsI; rw [List.map_map]; rfl, by unfold kvsI; rw [List.length_map]; exact hcs, ?_⟩
  rw [hm]
  have e : L2.upd (L2.upd H p (.dK [])) p (.dK (kvsI cs)) = L2.upd H p (.dK (kvsI cs)) := by
    funext b
    by_cases hb : b = p
    · subst hb; rw [upd_same, upd_same]
    · rw [upd_ne hb, upd_ne hb, upd_ne hb]
  rw [e]
  have dl : ∀ l : List (Str × Int), DenL G W.XB (L2.upd H p (.dK (kvsI cs))) (l.map fun p => .int p.2) ((kvsI l).map (·.2)) := fun l => by
    induction l with
    | nil => rfl
    | cons c l ih => exact ⟨_, _, rfl, rfl, ih⟩
  refine kk (.ref p) _ (dctI cs) ((Step.refl W).new hp) ⟨p, kvsI cs, rfl, W.fresh hp, upd_same, ?_, dl cs⟩ hq
  unfold kvsI; rw [List.map_map, List.map_map]
  rfl
end
end Kn

set_option Elab.async false
set_option linter.all false
set_option maxRecDepth 100000
set_option maxHeartbeats 2100000
namespace Kn
open PySem L2
section
variable {G : Gd} {E : XK} {X : Cx}
/-! ### any target = a value (two cells of a pair) -/
def sAsg (te : DT) (t : DG) : DS := fun ex de env => te ex env fun d => t d env de.nx
theorem ds_asg {tg e : Expr} {c : Nat} {sl : List Nat} {te : DT} {t : DG} {pos : Pos} (he : DE G E X c e te) (hg : DTg G E X tg sl t) (hs : swapsWithSole [tg] e pos.line X.env = pure false := by rfl) (hw : swappedStores [tg] e X.env = pure none := by with_unfolding_all rfl)
    (h1 : (assignEach [tg] X.env).map (·.2) = [assign tg X.env] := by rfl) : DSt G E X c (.Assign [tg] e pos) (sAsg te t) :=
  impS (ps_asg he hg hs hw h1) fun Dn σ H h => by
    obtain ⟨W, hn, de, ht, k1, k2, k3, k4⟩ := h
    refine ⟨W, hn, _, ht, fun v H' d st hd hq => ?_⟩
    exact ⟨W.next st, d, de.nx, hd, hq, fun σ' W' al _ q => k1 σ' H' W' (((Later.next st).trans al.later).more (by omega)) q⟩
end
end Kn

set_option Elab.async false
set_option linter.all false
set_option maxRecDepth 100000
set_option maxHeartbeats 2100000
namespace Kn
open PySem L2
section
variable {G : Gd} {E : XK} {X : Cx} {σ : List (Option V)} {H H' : Hp}
/-! ### a thing of the frame's own, read: what comes of it holds no list and no thing -/
mutual
def flatD : D → Bool
  | .non => true
  | .bl _ => true
  | .int _ => true
  | .str _ => true
  | .tup ds => flatL ds
  | _ => false
def flatL : List D → Bool
  | [] => true
  | d :: ds => flatD d && flatL ds
end
/-- no tuple stands at b -/
def NoTup (H : Hp) (b : Addr) : Prop := ∃ o, H b = some o ∧ (∀ xs, o ≠ .tup xs) ∧ ∀ q xs, o ≠ .frz q (.tup xs)
mutual
theorem Den.flat {B B' : Addr → Prop} (hb : ∀ b, B' b → B b ∨ NoTup H b) : ∀ (d : D) (v : V), flatD d = true → Den G B H d v → Den G B' H d v
  | .non, _, _, h => h
  | .bl _, _, _, h => h
  | .int _, _, _, h => h
  | .str _, _, _, h => h
  | .tup ds, v, f, ⟨a, xs, e, nb, hs, hl, hd⟩ => by
    rcases nb with nb | nb
    · rcases hs with h | h
      · refine ⟨a, xs, e, .inl fun z => ?_, .inl h, hl, DenL.flat hb ds xs f hd⟩
        rcases hb a z with q | ⟨o, ho, n1, n2⟩
        · exact nb q
        · rcases h with h | ⟨q, h⟩
          · rw [h] at ho; cases ho; exact n1 xs rfl
          · rw [h] at ho; cases ho; exact n2 q xs rfl
      · exact ⟨a, xs, e, .inr h, .inr h, hl, DenL.flat hb ds xs f hd⟩
    · exact ⟨a, xs, e, .inr nb, hs, hl, DenL.flat hb ds xs f hd⟩
  | .lst _, _, f, _ => by simp [flatD] at f
  | .ins _ _, _, f, _ => by simp [flatD] at f
  | .opq _, _, f, _ => by simp [flatD] at f
  | .urn, _, f, _ => by simp [flatD] at f
  | .at_ _ _, _, f, _ => by simp [flatD] at f
  | .dct _ _, _, f, _ => by simp [flatD] at f
theorem DenL.flat {B B' : Addr → Prop} (hb : ∀ b, B' b → B b ∨ NoTup H b) : ∀ (ds : List D) (xs : List V), flatL ds = true → DenL G B H ds xs → DenL G B' H ds xs
  | [], _, _, h => h
  | d :: ds, xs, f, ⟨x, r, e, h1, h2⟩ => by
    have f' : (flatD d && flatL ds) = true := f
    rw [Bool.and_eq_true] at f'
    exact ⟨x, r, e, Den.flat hb d x f'.1 h1, DenL.flat hb ds r f'.2 h2⟩
end
/-- a slot of the frame's own, taken for a value -/
def LendOk (G : Gd) (s : Sl) (v : D) : Prop := (∃ a ds, s = .own a ds ∧ v = .lst ds) ∨ ∃ a dx c ds, s = .slf a dx c ds ∧ v = .ins c ds ∧ ds.length = (G.fl c).length
theorem LendOk.mine {s : Sl} {v : D} (h : LendOk G s v) : s.mine = true := by
  rcases h with ⟨a, ds, rfl, _⟩ | ⟨a, dx, c, ds, rfl, _⟩ <;> rfl
/-- the state in which a slot of the frame's own is taken for a value -/
theorem wd_lend (W : Wd G E σ H) {i : Nat} {s : Sl} {v : D} (he : W.env[i]? = some s) (ok : LendOk G s v) :
    ∃ (W' : Wd G E σ H) (a : Addr), W'.env = W.env.set i (.val v) ∧ W'.u = W.u ∧ W'.n = W.n ∧ W'.m = W.m ∧ W'.B = W.B ∧ W'.ex = W.ex ∧ W'.H0 = W.H0 ∧ σ[i]? = some (some (.ref a)) ∧ W.H0 a = none ∧ NoTup H a ∧ (∀ b, W.XB b → W'.XB b ∨ b = a) ∧ (∀ b, W'.XB b → W.XB b ∧ b ≠ a) := by
  have hil : i < W.env.length := (List.getElem?_eq_some_iff.mp he).1
  have hm := ok.mine
  have hsl := W.sl i _ he
  have hat : ∃ a o, σ[i]?.join = some (V.ref a) ∧ W.H0 a = none ∧ H a = some o ∧ (∀ xs, o ≠ .tup xs) ∧ (∀ q xs, o ≠ .frz q (.tup xs)) := by
    rcases ok with ⟨a, ds, rfl, _⟩ | ⟨a, dx, c, ds, rfl, _⟩
    · obtain ⟨xs, e1, h0, ha, _⟩ := hsl
      exact ⟨a, _, e1, h0, ha, fun _ z => (by cases z), fun _ _ z => (by cases z)⟩
    · obtain ⟨xs, e1, h0, ha, _⟩ := hsl
      exact ⟨a, _, e1, h0, ha, fun _ z => (by cases z), fun _ _ z => (by cases z)⟩
  obtain ⟨a, o, e1, h0, ha, n1, n2⟩ := hat
  have hsi := join_some e1
  have xb : ∀ b, XBof W.B (W.env.set i (.val v)) σ b → W.XB b ∧ b ≠ a := fun b hb => by
    rcases hb with hb | ⟨j, t, f1, m1, f2⟩
    · exact ⟨.inl hb, fun z => W.own_ne h0 (by rw [← z]; exact hb)⟩
    · by_cases hj : i = j
      · subst hj
        rw [List.getElem?_set_self hil] at f1; cases f1; cases m1
      · rw [List.getElem?_set_ne hj] at f1
        exact ⟨.inr ⟨j, t, f1, m1, f2⟩, fun z => hj (W.nd i j a _ t he f1 hm m1 hsi (by rw [← z]; exact f2))⟩
  have old : ∀ {j : Nat} {t : Sl}, (W.env.set i (.val v))[j]? = some t → t.mine = true → W.env[j]? = some t := fun {j t} f m => by
    by_cases hj : i = j
    · subst hj; rw [List.getElem?_set_self hil] at f; cases f; cases m
    · rw [List.getElem?_set_ne hj] at f; exact f
  refine ⟨{ u := W.u, n := W.n, m := W.m, B := W.B, H0 := W.H0, env := W.env.set i (.val v), ex := W.ex, ug := W.ug, hu := W.hu, hB := W.hB, fr := W.fr, good := W.good, len := by rw [List.length_set]; exact W.len, sl := fun j t e => ?_, nd := fun j l b t r f1 f2 m1 m2 f3 f4 => W.nd j l b t r (old f1 m1) (old f2 m2) m1 m2 f3 f4, exc := W.exc }, a, rfl, rfl, rfl, rfl, rfl, rfl, rfl, hsi, h0, ⟨o, ha, n1, n2⟩, fun b hb => ?_, xb⟩
  · by_cases hj : i = j
    · subst hj
      rw [List.getElem?_set_self hil] at e
      cases e
      rcases ok with ⟨a', ds, rfl, rfl⟩ | ⟨a', dx, c, ds, rfl, rfl, hcl⟩
      · obtain ⟨xs, e2, _, ha', hl, hd⟩ := hsl
        rw [e1] at e2; cases e2
        exact ⟨.ref a, e1, a, xs, rfl, fun z => (xb a z).2 rfl, ha', hl, hd.fewer fun b hb => (xb b hb).1⟩
      · obtain ⟨xs, e2, _, ha', hl, hd⟩ := hsl
        rw [e1] at e2; cases e2
        exact ⟨.ref a, e1, a, dx, xs, rfl, fun z => (xb a z).2 rfl, ha', by rw [← hd.length]; exact hcl, hd.fewer fun b hb => (xb b hb).1⟩
    · rw [List.getElem?_set_ne hj] at e
      exact (W.sl j t e).fewer fun b hb => (xb b hb).1
  · rcases hb with hb | ⟨j, t, f1, m1, f2⟩
    · exact .inl (.inl hb)
    · by_cases hj : i = j
      · subst hj
        rw [hsi] at f2; cases f2
        exact .inr rfl
      · exact .inl (.inr ⟨j, t, by show (W.env.set i (.val v))[j]? = some t; rw [List.getElem?_set_ne hj]; exact f1, m1, f2⟩)
theorem NoTup.ext {u : Option (Addr × Addr)} {b : Addr} (h : NoTup H b) (e : Ext u H H') (n : u.map (·.1) ≠ some b) : NoTup H' b := by
  obtain ⟨o, ho, h1⟩ := h
  exact ⟨o, e b o ho n, h1⟩
def dLend (G : Gd) (i : Nat) (te : DT) : DT := fun ex env Q => ∃ s v, env[i]? = some s ∧ LendOk G s v ∧ te ex (env.set i (.val v)) fun d => flatD d = true ∧ Q d
def bLend (G : Gd) (i : Nat) (t : DB) : DB := fun ex env Q => ∃ s v, env[i]? = some s ∧ LendOk G s v ∧ t ex (env.set i (.val v)) Q
theorem lend_un (W : Wd G E σ H) {a : Addr} (h0 : W.H0 a = none) : W.u.map (·.1) ≠ some a := fun z => by
  cases hu : W.u with
  | none => rw [hu] at z; cases z
  | some r => rw [hu] at z; cases z; exact W.own_ne h0 (W.hu r hu).1
theorem de_lend (i : Nat) {e : Expr} {c : Nat} {te : DT} (h : DE G E X c e te) : DE G E X c e (dLend G i te) := imp h fun σ H Q' hh => by
  obtain ⟨W, hn, Q, ⟨s, v, he, ok, ht⟩, kk⟩ := hh
  obtain ⟨W1, a, w1, w2, w3, w4, w5, w6, w7, hsi, h0, nt, x1, x2⟩ := wd_lend W he ok
  refine ⟨W1, by rw [w3, w4]; exact hn, fun d => flatD d = true ∧ Q d, by rw [w1, w6]; exact ht, fun x H' d st hd ⟨fl, hq⟩ => ?_⟩
  have st' : Step W c H' := ⟨by rw [← w2]; exact st.ext, by rw [← w2, ← w3]; exact st.good⟩
  refine kk x H' d st' (Den.flat (fun b hb => ?_) d x fl hd) hq
  rcases x1 b hb with z | rfl
  · exact .inl z
  · exact .inr (nt.ext st'.ext (lend_un W h0))
theorem dt_lend (i : Nat) {e : Expr} {c : Nat} {t : DB} (h : DPt G E X c e t) : DPt G E X c e (bLend G i t) := impT h fun σ H Q' hh => by
  obtain ⟨W, hn, Q, ⟨s, v, he, ok, ht⟩, kk⟩ := hh
  obtain ⟨W1, a, w1, w2, w3, w4, w5, w6, w7, hsi, h0, nt, x1, x2⟩ := wd_lend W he ok
  refine ⟨W1, by rw [w3, w4]; exact hn, Q, by rw [w1, w6]; exact ht, fun b H' st hq => ?_⟩
  exact kk b H' ⟨by rw [← w2]; exact st.ext, by rw [← w2, ← w3]; exact st.good⟩ hq
end
end Kn

set_option Elab.async false
set_option linter.all false
set_option maxRecDepth 100000
set_option maxHeartbeats 2100000
namespace Kn
open PySem L2 RZ
open PyProof.Rows (envOfC)
section
variable {G : Gd} {E : XK} {X : Cx} {σ : List (Option V)} {H H' : Hp} {k : Nat}

/-! ### a method that changes the fields of self -/
/-- fields, arguments; what holds of the answer and the new fields -/
abbrev MSpec := List D → List D → (D → List D → Prop) → Prop
def liftM (G : Gd) (c cid : Nat) (S : MSpec) : Sp := fun vs H Q _ => ∃ (u : Option (Addr × Addr)) (n : Nat) (B : Addr → Prop) (fs ds : List D) (R : D → List D → Prop) (x dx : Addr) (vs' xs : List V),
  u = G.u ∧ vs = .ref x :: vs' ∧ H x = some (.ins (G.cl cid) dx ((G.fl cid).zip xs)) ∧ xs.length = (G.fl cid).length ∧ ¬ B x ∧ (∀ p, u = some p → x ≠ p.1 ∧ x ≠ p.2) ∧ c ≤ n ∧ (∀ p, u = some p → B p.1 ∧ B p.2) ∧ (∀ a, B a → H a ≠ none) ∧ Good u H n ∧
  DenL G (fun a => B a ∨ a = x) H ds vs' ∧ DenL G (fun a => B a ∨ a = x) H fs xs ∧ S fs ds R ∧
  (∀ H' v xs' d fs', (∀ b o, H b = some o → b ≠ x → u.map (·.1) ≠ some b → H' b = some o) → Good u H' (n - c) → H' x = some (.ins (G.cl cid) dx ((G.fl cid).zip xs')) → xs'.length = (G.fl cid).length → DenL G (fun a => B a ∨ a = x) H' fs' xs' → Den G (fun a => B a ∨ a = x) H' d v → R d fs' → Q v H')
structure MutD (G : Gd) (P : Program) (w : World) (mg : Str → Option Value) (base : Heap) (k : Nat) (f : Addr) (fd : FuncData) (ps : List Str) (c cid : Nat) (S : MSpec) : Prop where
  run : ∀ (A : Around) (outer : List Env) (s : Shared) (H : Hp) (args : Args) (us : List Value) (vs : List V) (Q : VK) (E : XK), Room k A → A.guards = some [] → Env0 P w G.K mg base A outer s H →
    BindsTo s fd args (ps.zip us) → Vals vs us → vs.length = ps.length → liftM G c cid S vs H Q E → codeAny (model P w) A (.call (.ref f) args) (CR (L2.CX P w) outer P w H s Q E) s
theorem MutD.mono {P : Program} {w : World} {mg : Str → Option Value} {base : Heap} {j k : Nat} {f : Addr} {fd : FuncData} {ps : List Str} {c cid : Nat} {S : MSpec} (F : MutD G P w mg base j f fd ps c cid S) (h : j ≤ k) : MutD G P w mg base k f fd ps c cid S :=
  ⟨fun A outer s H args us vs Q E hr => F.run A outer s H args us vs Q E (hr.mono h)⟩
/-- the slots at the entry -/
def envM (N : List Str) (x dx : Addr) (cid : Nat) (fs ds : List D) : List Sl := Sl.slf x dx cid fs :: (ds.map Sl.val ++ List.replicate (N.length - 1 - ds.length) Sl.emp)
theorem envM_get {N : List Str} {x dx : Addr} {cid : Nat} {fs ds : List D} {i : Nat} {s : Sl} (h : (envM N x dx cid fs ds)[i]? = some s) : (i = 0 ∧ s = .slf x dx cid fs) ∨ (∃ j d, i = j + 1 ∧ ds[j]? = some d ∧ s = .val d) ∨ s = .emp := by
  unfold envM at h
  cases i with
  | zero => exact .inl ⟨rfl, (Option.some.inj h).symm⟩
  | succ j =>
    rw [List.getElem?_cons_succ] at h
    by_cases hi : j < ds.length
    · rw [List.getElem?_append_left (by simpa using hi), List.getElem?_map, List.getElem?_eq_getElem hi] at h
      exact .inr (.inl ⟨j, ds[j], rfl, List.getElem?_eq_getElem hi, (Option.some.inj h).symm⟩)
    · rw [List.getElem?_append_right (by simpa using hi), List.getElem?_replicate] at h
      split at h
      · exact .inr (.inr (Option.some.inj h).symm)
      · cases h
theorem wd_self {N : List Str} {vs : List V} {E : XK} {u : Option (Addr × Addr)} {n c cid : Nat} {B : Addr → Prop} {fs ds : List D} {x dx : Addr} {xs : List V} (hN : vs.length + 1 ≤ N.length) (hug : u = G.u) (hx : H x = some (.ins (G.cl cid) dx ((G.fl cid).zip xs))) (hxl : xs.length = (G.fl cid).length) (bx : ¬ B x)
    (hux : ∀ p, u = some p → x ≠ p.1 ∧ x ≠ p.2) (hu : ∀ p, u = some p → B p.1 ∧ B p.2) (hB : ∀ a, B a → H a ≠ none) (hg : Good u H n) (hd : DenL G (fun a => B a ∨ a = x) H ds vs) (hf : DenL G (fun a => B a ∨ a = x) H fs xs) :
    ∃ W : Wd G E (L2.start N (.ref x :: vs)) H, W.u = u ∧ W.n = n ∧ W.m = n - c ∧ W.B = B ∧ W.H0 = (fun b => if b = x then none else H b) ∧ W.env = envM N x dx cid fs ds ∧ W.ex = noX := by
  have hl := hd.length
  have h0 : ∀ b o, (if b = x then (none : Option HO) else H b) = some o → H b = some o ∧ b ≠ x := fun b o e => by
    by_cases hb : b = x
    · rw [if_pos hb] at e; cases e
    · rw [if_neg hb] at e; exact ⟨e, hb⟩
  have hmine : ∀ {i : Nat} {s : Sl}, (envM N x dx cid fs ds)[i]? = some s → s.mine = true → i = 0 := fun {i s} e hm => by
    rcases envM_get e with ⟨z, _⟩ | ⟨_, _, _, _, rfl⟩ | rfl
    · exact z
    · cases hm
    · cases hm
  refine ⟨{ u := u, n := n, m := n - c, B := B, H0 := fun b => if b = x then none else H b, env := envM N x dx cid fs ds, ex := noX, ug := hug, hu := hu, hB := fun a ha z => ?_, fr := fun b o e _ => (h0 b o e).1, good := hg, len := ?_, sl := ?_, nd := ?_, exc := fun y C d H' e g hy hq => hq.elim }, rfl, rfl, rfl, rfl, rfl, rfl, rfl⟩
  · rw [if_neg (fun q : a = x => bx (by rw [← q]; exact ha))] at z
    exact hB a ha z
  · unfold envM L2.start
    simp only [List.length_append, List.length_map, List.length_replicate, List.length_cons]
    omega
  · intro i s e
    have sub : ∀ b, XBof B (envM N x dx cid fs ds) (L2.start N (.ref x :: vs)) b → B b ∨ b = x := fun b hb => by
      rcases hb with hb | ⟨j, t, e1, hm, e2⟩
      · exact .inl hb
      · have := hmine e1 hm
        subst this
        rw [start_get (i := 0) (v := .ref x) rfl] at e2
        cases e2
        exact .inr rfl
    rcases envM_get e with ⟨rfl, rfl⟩ | ⟨j, d, rfl, hdj, rfl⟩ | rfl
    · exact ⟨xs, by rw [start_get (i := 0) (v := .ref x) rfl]; rfl, if_pos rfl, hx, Nat.le_of_eq hxl, hf.fewer sub⟩
    · obtain ⟨y, hy, hdy⟩ := hd.get hdj
      exact ⟨y, by rw [start_get (i := j + 1) (v := y) (by simpa using hy)]; rfl, hdy.fewer sub⟩
    · trivial
  · intro i j a s t e1 e2 m1 m2 _ _
    rw [hmine e1 m1, hmine e2 m2]
/-- THE RULE for a method that changes self -/
theorem mutd_of {P : Program} {w : World} {mg : Str → Option Value} {base : Heap} {f : Addr} {x qual : Str} {st : Stmt} {fd : FuncData} {N ps : List Str} {c cid : Nat} {S : MSpec} {ts : DS} (F : Fun G.K x qual st f fd) (Sc : FnScope N ps (defScope st))
    (hder : ∀ (cdv : Value) (A : Around) (outer : List Env) (s : Shared) (H : Hp) (E : XK), Room k (A.deeper (envOfC qual (defScope st) s.heap.objs.size f cdv)) → A.guards = some [] →
      DSs G E (cxOf (L2.CX P w) P w G.K mg base N qual (defScope st) f cdv A outer s H E) c (defBody st) ts)
    (hS : ∀ a dx fs ds R, ds.length + 1 = ps.length → fs.length = (G.fl cid).length → S fs ds R → ts noX { nx := fun env => ∃ fs', env[0]? = some (.slf a dx cid fs') ∧ fs'.length = (G.fl cid).length ∧ R .non fs', rt := fun d env => flatD d = true ∧ ∃ fs', env[0]? = some (.slf a dx cid fs') ∧ fs'.length = (G.fl cid).length ∧ R d fs' } (envM N a dx cid fs ds)) : MutD G P w mg base (k + 1) f fd ps c cid S := by
  constructor
  intro A outer s H args us vs Q E hr hgd e0 hb rv hlen hsp
  obtain ⟨u, n, B, fs, ds, R, a, dx, vs', xs, hug, rfl, hx, hxl, bx, hux, hc, hu, hB, hg, hd, hf, hs, hq⟩ := hsp
  have hNl : vs'.length + 1 ≤ N.length := by
    have h1 := congrArg List.length Sc.pre
    rw [List.length_take] at h1
    rw [List.length_cons] at hlen
    omega
  obtain ⟨oc, od, kV, doc, pm, an, cdv, ct, osl, rfl, lk, hcd⟩ := F.ex; have KX : G.K.In s.heap := PySem.W.Frag.In.keeps e0.mod.kin (fun b o e => (e0.bs b o e).1)
  have nolim : s.heap.NoLimit := Heap.NoLimit.keeps e0.mod.nolimit (fun b o e => (e0.bs b o e).1)
  have kinds : ∀ y ∈ ps.zip us, (defScope st).names.lookup y.1 = some .local ∨
      ((defScope st).names.lookup y.1 = some .cell ∧ ((cellsFrom (s.heap.objs.size + 1) (defScope st).names []).lookup y.1).isSome = true) := by
    intro y hy
    obtain ⟨n1, v1⟩ := y
    rcases Sc.par n1 (List.of_mem_zip hy).1 with z | z
    · exact .inl z
    · exact .inr ⟨z, PySem.W.cellsFrom_some _ _ _ (.inl z)⟩
  refine codeAny_call_function hr.depth (KX _ _ lk) rfl Sc.co Sc.gen rfl (PySem.W.codeRec_of KX hcd) ?_
  refine hb _ _ _ _ (wpAny_newFunctionEnv_cells Sc.kind kinds ?_)
  intro env he s1 ic
  subst he
  refine ⟨nolim.keeps ic.toInCall.keep, codeAny_func ?_⟩
  have I : Inv (cxOf (L2.CX P w) P w G.K mg base N qual (defScope st) f cdv A outer s H E) [] (L2.start N (.ref a :: vs')) H s1 := inv_start Sc hr.hd e0 hlen rv ic
  have hds : ds.length + 1 = ps.length := by rw [hd.length]; simpa using hlen
  have hfl : fs.length = (G.fl cid).length := by rw [hf.length]; exact hxl
  obtain ⟨W, w1, w2, w3, w4, w5, w6, w7⟩ := wd_self (N := N) (E := E) (c := c) hNl hug hx hxl bx hux hu hB hg hd hf
  have fin : ∀ {σ' : List (Option V)} {H' : Hp} (W' : Wd G E σ' H') {v : V} {d : D} {fs' : List D}, Later W c W' → W'.env[0]? = some (.slf a dx cid fs') → fs'.length = (G.fl cid).length → Den G (fun b => B b ∨ b = a) H' d v → R d fs' → Q v H' := fun {σ' H'} W' {v d fs'} lt h1 h2 hdv h3 => by
    obtain ⟨ys, ea, h0, ha, hlx, hdx⟩ := W'.sl 0 _ h1
    have hG : Good u H' (n - c) := by have z := W'.good; rw [lt.u, w1] at z; exact z.less (by have := lt.n; rw [w2] at this; omega)
    refine hq H' v ys d fs' (fun b o e n1 nu => ?_) hG ha (by rw [← hdx.length]; exact h2) (hdx.fewer fun b hb => ?_) hdv h3
    · have z := W'.fr b o (by rw [lt.H0, w5]; show (if b = a then none else H b) = some o; rw [if_neg n1]; exact e)
      rw [lt.u, w1] at z
      exact z nu
    · rcases hb with hb | rfl
      · exact .inl (by rw [lt.B, w4]; exact hb)
      · exact .inr ⟨0, _, h1, rfl, join_some ea⟩
  have body := (hder cdv A outer s H E (hr.deeper _) hgd).run [] s1 (L2.start N (.ref a :: vs')) H { nx := fun _ H' => Q .non H', rt := Q } I (by
    refine ⟨W, by rw [w2, w3]; omega, _, by rw [w6, w7]; exact hS a dx fs ds R hds hfl hs, ?_, ?_, ?_, ?_⟩
    · intro σ' H' W' lt ⟨fs', h1, h2, h3⟩
      exact fin W' lt h1 h2 (d := .non) (v := .non) rfl h3
    · intro v σ' H' W' d lt hd' ⟨fl, fs', h1, h2, h3⟩
      obtain ⟨ys, ea, h0, ha, _⟩ := W'.sl 0 _ h1
      refine fin W' lt h1 h2 (Den.flat (fun b hb => ?_) d v fl hd') h3
      rcases hb with hb | rfl
      · exact .inl (by rw [w4]; exact hb)
      · exact .inr ⟨_, ha, fun _ z => (by cases z), fun _ _ z => (by cases z)⟩
    · intro σ' H' W' lt z; exact z.elim
    · intro σ' H' W' lt z; exact z.elim)
  refine wpAny_mono body ?_ (fun e s' hs => hs)
  intro fl s' hfl
  cases fl with
  | next => obtain ⟨σ', H', J, q⟩ := hfl; exact ⟨.non, H', J.os, J.bare, J.base, J.hok, rfl, q⟩
  | ret v' => obtain ⟨v, σ', H', J, r1, q⟩ := hfl; exact ⟨v, H', J.os, J.bare, J.base, J.hok, r1, q⟩
  | brk => obtain ⟨σ', H', J, q⟩ := hfl; exact q.elim
  | cont => obtain ⟨σ', H', J, q⟩ := hfl; exact q.elim

/-! ### expressions that change a thing of the frame's own -/
abbrev DT2 := (Exc → Prop) → List Sl → (D → List Sl → Prop) → Prop
def lift2 (G : Gd) (E : XK) (c : Nat) (t : DT2) : TE := fun σ H Q' => ∃ W : Wd G E σ H, W.m + c ≤ W.n ∧ ∃ Q, t W.ex W.env Q ∧ ∀ v H' d (W' : Wd G E σ H'), Later W c W' → Den G W'.XB H' d v → Q d W'.env → Q' v H'
abbrev DE2 (G : Gd) (E : XK) (X : Cx) (c : Nat) (e : Expr) (t : DT2) : Prop := PE X e (lift2 G E c t)
def e2Pure (t : DT) : DT2 := fun ex env Q => t ex env fun d => Q d env
theorem d2_pure {e : Expr} {c : Nat} {t : DT} (h : DE G E X c e t) : DE2 G E X c e (e2Pure t) := imp h fun σ H Q' hh => by
  obtain ⟨W, hn, Q, ht, kk⟩ := hh
  exact ⟨W, hn, _, ht, fun v H' d st hd hq => kk v H' d (W.next st) (Later.next st) hd hq⟩
/-- the frame's own thing in slot i is changed, others stay -/
theorem wd_after (W : Wd G E σ H) {c : Nat} {i : Nat} {a dx : Addr} {cid : Nat} {fs fs' : List D} {xs' : List V} (he : W.env[i]? = some (.slf a dx cid fs)) (hsi : σ[i]? = some (some (.ref a))) (hc : c ≤ W.n) (kp : ∀ b o, H b = some o → b ≠ a → W.u.map (·.1) ≠ some b → H' b = some o) (hg : Good W.u H' (W.n - c))
    (ha : H' a = some (.ins (G.cl cid) dx ((G.fl cid).zip xs'))) (hl : xs'.length = (G.fl cid).length) (hd : DenL G W.XB H' fs' xs') : ∃ W' : Wd G E σ H', Later W c W' ∧ W'.env = W.env.set i (.slf a dx cid fs') ∧ ∀ b, W'.XB b → W.XB b := by
  have hil : i < W.env.length := (List.getElem?_eq_some_iff.mp he).1
  have xa : W.XB a := .inr ⟨i, _, he, rfl, hsi⟩
  obtain ⟨h0, oa, hoa⟩ := W.mine_at he rfl hsi
  have nB : ¬ W.B a := W.own_ne h0
  have xb : ∀ b, XBof W.B (W.env.set i (.slf a dx cid fs')) σ b → W.XB b := fun b hb => by
    rcases hb with hb | ⟨j, s, e1, m1, e2⟩
    · exact .inl hb
    · by_cases hj : i = j
      · subst hj
        exact .inr ⟨i, _, he, rfl, e2⟩
      · rw [List.getElem?_set_ne hj] at e1
        exact .inr ⟨j, s, e1, m1, e2⟩
  have kd : ∀ b o, ¬ W.XB b → H b = some o → H' b = some o := fun b o nb e => kp b o e (fun z => nb (by rw [z]; exact xa)) fun z => by
    cases hu : W.u with
    | none => rw [hu] at z; cases z
    | some r => rw [hu] at z; cases z; exact nb (.inl (W.hu r hu).1)
  have dk : ∀ {d : D} {v : V}, Den G W.XB H d v → Den G (XBof W.B (W.env.set i (.slf a dx cid fs')) σ) H' d v := fun {d v} h => (Den.keep kd (fun b hb => .inl hb) d v h).fewer xb
  have dkl : ∀ {ds : List D} {xs : List V}, DenL G W.XB H ds xs → DenL G (XBof W.B (W.env.set i (.slf a dx cid fs')) σ) H' ds xs := fun {ds xs} h => (DenL.keep kd (fun b hb => .inl hb) ds xs h).fewer xb
  refine ⟨{ u := W.u, n := W.n - c, m := W.m, B := W.B, H0 := W.H0, env := W.env.set i (.slf a dx cid fs'), ex := W.ex, ug := W.ug, hu := W.hu, hB := W.hB, fr := fun b o e nu => ?_, good := hg, len := by rw [List.length_set]; exact W.len, sl := fun j s e => ?_, nd := fun j l b s t e1 e2 m1 m2 e3 e4 => ?_, exc := W.exc }, ⟨rfl, rfl, rfl, rfl, rfl, by show W.n ≤ W.n - c + c; omega, kd, fun b hb => .inl (xb b hb)⟩, rfl, xb⟩
  · exact kp b o (W.fr b o e nu) (fun z => by rw [z, h0] at e; cases e) nu
  · by_cases hj : i = j
    · subst hj
      rw [List.getElem?_set_self hil] at e
      cases e
      rw [hsi]
      exact ⟨xs', rfl, h0, ha, Nat.le_of_eq hl, hd.fewer xb⟩
    · rw [List.getElem?_set_ne hj] at e
      have z := W.sl j s e
      have ow : ∀ b o, s.mine = true → σ[j]? = some (some (.ref b)) → H b = some o → H' b = some o := fun b o ms hb q => by
        refine kp b o q (fun z => ?_) (lend_un W (W.mine_at e ms hb).1)
        subst z
        exact hj (W.nd i j b _ s he e rfl ms hsi hb)
      cases s with
      | emp => trivial
      | val d => obtain ⟨x, e1, e2⟩ := z; exact ⟨x, e1, dk e2⟩
      | own b ds => obtain ⟨xs, e1, e2, e3, e4, e5⟩ := z; exact ⟨xs, e1, e2, ow b _ rfl (join_some e1) e3, e4, dkl e5⟩
      | slf b dx c ds => obtain ⟨xs, e1, e2, e3, e4, e5⟩ := z; exact ⟨xs, e1, e2, ow b _ rfl (join_some e1) e3, e4, dkl e5⟩
  · have old : ∀ {j : Nat} {s : Sl}, (W.env.set i (.slf a dx cid fs'))[j]? = some s → s.mine = true → ∃ s', W.env[j]? = some s' ∧ s'.mine = true := fun {j s} e ms => by
      by_cases hj : i = j
      · subst hj; exact ⟨_, he, rfl⟩
      · rw [List.getElem?_set_ne hj] at e; exact ⟨s, e, ms⟩
    obtain ⟨s', f1, f2⟩ := old e1 m1
    obtain ⟨t', f3, f4⟩ := old e2 m2
    exact W.nd j l b s' t' f1 f3 f2 f4 e3 e4
end
end Kn

set_option Elab.async false
set_option linter.all false
set_option maxRecDepth 100000
set_option maxHeartbeats 2100000
namespace Kn
open PySem L2 RZ
open PyProof.Rows (envOfC)
section
variable {G : Gd} {E : XK} {X : Cx} {σ : List (Option V)} {H H' : Hp} {k : Nat}
theorem run_mut {k : Nat} {f : Addr} {fd : FuncData} {ps : List Str} {cf cid : Nat} {S : MSpec} {pins : List (Addr × Obj)} {s : Shared} {Q' : VK} {us : List Value} {vs : List V} {hK : X.K = G.K}
    (F : MutD G X.prog X.w X.mg X.base k f fd ps cf cid S) (hr : Room k X.A) (hgd : X.A.guards = some []) (hx : Passes (L2.CX X.prog X.w) X E) (I : Inv X pins σ H s) (r : Vals vs us) (hl : vs.length = ps.length) (args : Args) (hb : BindsTo s fd args (ps.zip us))
    (h : liftM G cf cid S vs H Q' E) : codeAny (model X.prog X.w) X.A (.call (.ref f) args) (fun r s' => match r with
      | .ok (.ret v) => EP X pins σ Q' v s'
      | .ok _ => False
      | .error e => X.xe e s') s := by
  have e0 : Env0 X.prog X.w G.K X.mg X.base X.A X.stack s H := by rw [← hK]; exact I.env0
  refine codeAny_mono (F.run X.A X.stack s H args us vs Q' E hr hgd e0 hb r hl h) fun r s' hq => ?_
  cases r with
  | error e =>
        exact hx pins σ H s e s' I hq
  | ok fl =>
    cases fl with
    | ret u => exact I.after hq
    | next => exact hq.elim
    | brk => exact hq.elim
    | cont => exact hq.elim
/-- a method of the class c that changes self -/
structure Fmm (G : Gd) (P : Program) (w : World) (mg : Str → Option Value) (base : Heap) (k : Nat) (c : Nat) (m : Str) (ps : List Str) (cf : Nat) (S : MSpec) : Prop where
  ex : ∃ (f : Addr) (fd : FuncData), MutD G P w mg base k f fd ps cf c S ∧ Meth G.K (G.cl c) m f ∧ Cls G.K (G.cl c) ∧ Binds G.K fd ps [] ∧ m ∉ G.fl c
def d2Meth (G : Gd) (i cid n : Nat) (S : MSpec) (u : DA) : DT2 := fun ex env Q => ∃ a dx fs, env[i]? = some (.slf a dx cid fs) ∧ fs.length = (G.fl cid).length ∧ u ex env fun as => as.length + 1 = n ∧ S fs as fun d fs' => fs'.length = (G.fl cid).length → Q d (env.set i (.slf a dx cid fs'))
theorem lift_mut {W : Wd G E σ H} {c cf i cid : Nat} {H2 : Hp} {S : MSpec} {a dx : Addr} {fs as : List D} {xs vs : List V} {Q : D → List Sl → Prop} {Q' : VK} (st : Step W c H2) (hn : W.m + (c + cf) ≤ W.n) (he : W.env[i]? = some (.slf a dx cid fs)) (hsi : σ[i]? = some (some (.ref a)))
    (hat : H a = some (.ins (G.cl cid) dx ((G.fl cid).zip xs))) (hxs : DenL G W.XB H fs xs) (hfl : fs.length = (G.fl cid).length) (has : DenL G W.XB H2 as vs) (hs : S fs as fun d fs' => fs'.length = (G.fl cid).length → Q d (W.env.set i (.slf a dx cid fs')))
    (kk : ∀ v H' d (W' : Wd G E σ H'), Later W (c + cf) W' → Den G W'.XB H' d v → Q d W'.env → Q' v H') : liftM G cf cid S (.ref a :: vs) H2 Q' E := by
  obtain ⟨h0, _⟩ := W.mine_at he rfl hsi
  have nB : ¬ W.B a := W.own_ne h0
  have xa : W.XB a := .inr ⟨i, _, he, rfl, hsi⟩
  have both : ∀ b, ((W.XB b ∧ b ≠ a) ∨ b = a) → W.XB b := fun b hb => hb.elim (fun z => z.1) fun z => by rw [z]; exact xa
  have both' : ∀ b, W.XB b → ((W.XB b ∧ b ≠ a) ∨ b = a) := fun b hb => by
    by_cases q : b = a
    · exact .inr q
    · exact .inl ⟨hb, q⟩
  have hxl : xs.length = (G.fl cid).length := by rw [← hxs.length]; exact hfl
  refine ⟨W.u, W.n - c, fun b => W.XB b ∧ b ≠ a, fs, as, _, a, dx, vs, xs, W.ug, rfl, st.ext a _ hat (lend_un W h0), hxl, fun z => z.2 rfl, fun p e => ⟨fun z => nB (by rw [z]; exact (W.hu p e).1), fun z => nB (by rw [z]; exact (W.hu p e).2)⟩, by omega, fun p e => ⟨⟨.inl (W.hu p e).1, fun z => nB (by rw [← z]; exact (W.hu p e).1)⟩, ⟨.inl (W.hu p e).2, fun z => nB (by rw [← z]; exact (W.hu p e).2)⟩⟩, fun b hb z => ?_, st.good, has.fewer both, (hxs.ext st.ext W.huX).fewer both, hs, fun H' v xs' d fs' kp g hx hl2 hd2 hdv hr => ?_⟩
  · exact (W.next st).fresh z hb.1
  · have hd2' : DenL G W.XB H' fs' xs' := hd2.fewer fun b hb => both' b hb
    obtain ⟨W', l1, l2, l3⟩ := wd_after (c := cf) (W.next st) (i := i) (a := a) (dx := dx) (cid := cid) (fs := fs) (fs' := fs') he hsi (by show cf ≤ W.n - c; omega) kp g hx hl2 hd2'
    refine kk v H' d W' ((Later.next st).trans l1) (hdv.fewer fun b hb => both' b (l3 b hb)) ?_
    rw [l2]
    exact hr (by rw [hd2'.length]; exact hl2)
theorem d2_meth {j i cid ca cf : Nat} {m y : Str} {ps : List Str} {S : MSpec} {e : Expr} {es : List Expr} {u : DA} {pos apos p : Pos} {pl : Sem Bool} (F : Fmm G X.prog X.w X.mg X.base j cid m ps cf S) (xk : Xk G E k X) (hN : X.N[i]? = some y) (ha : DEs G E X ca (e :: es) u) (hj : j ≤ k := by decide)
    (hv : Vis X.env.scope y := by first | exact Or.inl rfl | exact Or.inr (Or.inl rfl) | exact Or.inr (Or.inr rfl)) (hd : (y == ("__debug__" : Str)) = false := by decide) (hcd : (y == ("__classdict__" : Str)) = false := by decide)
    (hst : starEach (e :: es) X.env = (false, eval e X.env) :: starEach es X.env :=
          by rfl) (hpl : (backTo pos (starEach es X.env)).any (·.1) = false := by rfl)
    (ht : eval (.Call (.Attribute (.Name y p) m
      apos) (e :: es) [] pos) X.env = (do
        let ov ← eval (.Name y p) X.env
        standAt apos.atName
        let (f, first) ← holding
          [ov] (getMethod ov m pl)
        callWith pos f first (backTo pos (starEach (e :: es) X.env)) (backToKw pos (keywordEach [] X.env))) := by rfl) : DE2 G E X (ca + cf) (.Call (.Attribute (.Name y p) m apos) (e :: es) [] pos) (d2Meth G i cid ps.length S u) := by
  obtain ⟨f, fd, hF0, hM, hC, hb, hmf⟩ := F.ex
  have hF := hF0.mono hj
  rw [← xk.K] at hM hC hb
  constructor
  intro pins s σ H Q' I h
  obtain ⟨W, hn, Q, ⟨a, dx, fs, he, hfl, hu⟩, kk⟩ := h
  obtain ⟨xs, hsi, hat, hl, hxs⟩ := lift_slf he
  have recv := (pe_var (X := X) (pos := p) (i := i) hN hv hd hcd).run pins s σ H (fun x H1 => x = .ref a ∧ H1 = H) I ⟨.ref a, hsi, rfl, rfl⟩
  refine PySem.W.methodCall_KW (pl := pl) (thn recv ?_) ht
  rintro uv s1 ⟨x, H1, I1, rx, rfl, rfl⟩
  cases rx
  refine getmeth_ok I1 hat hC hM (zip_none hmf) ?_
  refine PySem.W.callWith_K (first := [.ref a]) (h₀ := X.base) I.ok.mod.kin hM.kp (thn (ha.run pos pins s1 σ _ (fun vs H2 => vs.length + 1 = ps.length ∧ liftM G cf cid S (.ref a :: vs) H2 Q' E) I1 ⟨W, by omega, _, hu, fun vs H2 as st2 has ⟨hlen, hs⟩ => ⟨by rw [← has.length]; exact hlen, lift_mut st2 hn he hsi hat hxs hfl has hs kk⟩⟩) ?_) hst hpl
  rintro us s2 ⟨vs, H2, I2, r2, hl2, q2⟩
  refine ⟨I2.kIn, wpAny_call ?_⟩
  have hb' : BindsTo s2 fd ⟨.ref a :: us, []⟩ (ps.zip (.ref a :: us)) := by
    have z := hb s2 (.ref a :: us) I2.kIn (by rw [List.append_nil, List.length_cons, ← r2.length]; exact hl2)
    rw [List.append_nil] at z
    exact z
  exact run_mut (hK := xk.K) (vs := .ref a :: vs) hF xk.room xk.gd xk.pass I2 (.cons rfl r2) hl2 _ hb' q2
/-! ### statements with such expressions -/
def s2Set (i : Nat) (t : DT2) : DS := fun ex de env => t ex env fun d env' => de.nx (env'.set i (.val d))
theorem ds2_set {i : Nat} {x : Str} {e : Expr} {pos pos' : Pos} {c : Nat} {t : DT2} (hN : X.N.Nodup) (hi : X.N[i]? = some x) (hx : Loc X.env.scope x) (he : DE2 G E X c e t) (hs : swapsWith e (some (.Name x pos')) pos.line X.env = pure false := by rfl)
    (hf : X.fn x = true ∨ X.env.scope.names.lookup x = some .local := by first | exact .inl rfl | exact .inr rfl) : DSt G E X c (.Assign [.Name x pos'] e pos) (s2Set i t) :=
  impS (ps_set hN hi hx he hs hf) fun Dn σ H h => by
    obtain ⟨W, hn, de, ht, k1, k2, k3, k4⟩ := h
    exact ⟨W, hn, _, ht, fun v H' d W' lt hd hq => k1 _ H' (W'.put i hd) ((lt.trans (Later.put W' i hd)).more (by omega)) hq⟩
def s2Expr (t : DT2) : DS := fun ex de env => t ex env fun _ env' => de.nx env'
theorem ds2_expr {e : Expr} {pos : Pos} {c : Nat} {t : DT2} (he : DE2 G E X c e t) (hs : swapsWith e none pos.line X.env = pure false := by rfl) : DSt G E X c (.Expr e pos) (s2Expr t) :=
  impS (ps_expr he hs) fun Dn σ H h => by
    obtain ⟨W, hn, de, ht, k1, k2, k3, k4⟩ := h
    exact ⟨W, hn, _, ht, fun v H' d W' lt hd hq => k1 _ H' W' lt hq⟩
/-- x = [e] -/
def s2One (i : Nat) (t : DT2) : DS := fun ex de env => t ex env fun d env' => ∀ a, de.nx (env'.set i (.own a [d]))
theorem ds2_one {i : Nat} {x : Str} {e : Expr} {pos pos' lpos : Pos} {c : Nat} {t : DT2} (hN : X.N.Nodup) (hi : X.N[i]? = some x) (hx : Loc X.env.scope x) (he : DE2 G E X c e t) (hse : starEach [e] X.env = (false, eval e X.env) :: starEach [] X.env := by rfl) (hs : swapsWith (.List [e] lpos) (some (.Name x pos')) pos.line X.env = pure false := by rfl)
    (hf : X.fn x = true ∨ X.env.scope.names.lookup x = some .local := by first | exact .inl rfl | exact .inr rfl) : DSt G E X c (.Assign [.Name x pos'] (.List [e] lpos) pos) (s2One i t) :=
  impS (ps_set hN hi hx (pe_lst (pa_cons he pa_nil hse)) hs hf) fun Dn σ H h => by
    obtain ⟨W, hn, de, ht, k1, k2, k3, k4⟩ := h
    refine ⟨W, hn, _, ht, fun v H1 d W' lt hd hq => ⟨by rw [sizeLine_eq]; simp, fun p hp => ?_⟩⟩
    have hd' : DenL G (fun a => W'.XB a ∨ a = p) (upd H1 p (.lst [v])) [d] [v] := ⟨v, [], rfl, Den.keep (fun b o nb e => by rw [upd_ne (ne_of_none e hp)]; exact e) (fun b hb => hb.imp id fun z => by rw [z]; exact hp) d v hd, rfl⟩
    obtain ⟨W2, l1, l2⟩ := wd_own W' (c := 0) ((Step.refl W').new hp) (i := i) hp upd_same (by rw [sizeLine_eq]; simp) hd'
    exact k1 _ _ W2 ((lt.trans l1).more (by omega)) (by rw [l2]; exact hq p)
/-- x.append(e) -/
def s2App (i : Nat) (t : DT2) : DS := fun ex de env => ∃ a ds, env[i]? = some (.own a ds) ∧ t ex env fun d env' => ds.length < sizeLine ∧ env'[i]? = some (.own a ds) ∧ de.nx (env'.set i (.own a (ds ++ [d])))
theorem ds2_app {i : Nat} {x : Str} {e : Expr} {pos p apos cpos : Pos} {c : Nat} {t : DT2} (hN : X.N[i]? = some x) (he : DE2 G E X c e t) (hv : Vis X.env.scope x := by first | exact Or.inl rfl | exact Or.inr (Or.inl rfl) | exact Or.inr (Or.inr rfl)) (hd : (x == ("__debug__" : Str)) = false := by decide) (hcd : (x == ("__classdict__" : Str)) = false := by decide)
    (hbase : attributeBase (.Name x p) "append" X.env (eval (.Name x p) X.env) = eval (.Name x p) X.env := by rfl)
    (hfew : ((backTo cpos (starEach [e] X.env)).all (fun x => !x.1) && (backToKw cpos (keywordEach [] X.env)).all (fun x => x.1.isSome) && decide (([e] : List Expr).length + ([] : List Keyword).length + (if ([] : List Keyword).isEmpty then 0 else 1) < 30)) = true := by rfl)
    (hline : (apos.endLine == cpos.line) = true := by rfl) (hs : starEach [e] X.env = (false, eval e X.env) :: starEach [] X.env := by rfl) (hplain : (backTo cpos (starEach [] X.env)).any (·.1) = false := by rfl)
    (hsw : swapsWith (.Call (.Attribute (.Name x p) "append" apos) [e] [] cpos) none pos.line X.env = pure false := by rfl) : DSt G E X c (.Expr (.Call (.Attribute (.Name x p) "append" apos) [e] [] cpos) pos) (s2App i t) :=
  impS (ps_expr (pe_bm PySem.F.plainAttrs_list PySem.F.slot_list_append PySem.F.type_list_append mt_append (pe_var (i := i) hN hv hd hcd) (pa_cons he pa_nil hs) hbase hfew hline hs hplain) hsw) fun Dn σ H h => by
    obtain ⟨W, hn, de, ⟨a, ds, hei, ht⟩, k1, k2, k3, k4⟩ := h
    obtain ⟨xs, hsi, h0, ha, hl, hds⟩ := lift_own hei
    refine ⟨.ref a, hsi, .inl ⟨rfl, xs, SqL.of ha⟩, W, hn, _, ht, fun v H1 d W' lt hdv ⟨hlt, hei', hq⟩ => ?_⟩
    obtain ⟨ys, hsi1, h01, ha1, hl1, hds1⟩ := lift_own hei'
    have el := hds1.length
    obtain ⟨W2, l1, l2⟩ := own_step (xs := ys) (ys := ys ++ [v]) (es := ds ++ [d]) (Step.refl W') hei' hsi1 h01 (by rw [List.length_append]; show ys.length + 1 ≤ _; omega) (hds1.append ⟨v, [], rfl, hdv, rfl⟩)
    exact ⟨a, ys, v, rfl, rfl, ha1, by omega, k1 σ _ W2 ((lt.trans l1).more (by omega)) (by rw [l2]; exact hq)⟩
/-! ### self.f += e (ints) -/
theorem put_at {f : Str} {z v : V} : ∀ {ns : List Str} {xs : List V}, f ∈ ns → xs[ns.idxOf f]? = some v → putF f z (ns.zip xs) = ns.zip (xs.set (ns.idxOf f) z)
  | [], _, h, _ => by cases h
  | n :: ns, [], _, e => by simp at e
  | n :: ns, x :: xs, h, e => by
    by_cases q : n = f
    · subst q
      show (if n = n then (n, z) :: ns.zip xs else _) = _
      rw [if_pos rfl, List.idxOf_cons_self]
      rfl
    · have h' : f ∈ ns := (List.mem_cons.mp h).resolve_left fun z => q z.symm
      have ei : (n :: ns).idxOf f = ns.idxOf f + 1 := by rw [List.idxOf_cons, beq_false_of_ne q]; rfl
      rw [ei] at e ⊢
      show (if n = f then _ else (n, x) :: putF f z (ns.zip xs)) = _
      rw [if_neg q, put_at h' (by simpa using e)]
      rfl
def sFldInc (G : Gd) (i : Nat) (f : Str) (te : DT) : DS := fun ex de env => ∃ a dx c ds, env[i]? = some (.slf a dx c ds) ∧ f ∈ G.fl c ∧ ∃ n : Int, ds[(G.fl c).idxOf f]? = some (.int n) ∧ te ex env fun d => ∃ m : Int, d = .int m ∧ de.nx (env.set i (.slf a dx c (ds.set ((G.fl c).idxOf f) (.int (n + m)))))
theorem ds_fldInc {i : Nat} {x f : Str} {e : Expr} {pos pos' p : Pos} {c : Nat} {te : DT} (hK : X.K = G.K) (fo : FldOk G f) (sm : ∀ c, (G.fl c).length ≤ 100) (hN : X.N[i]? = some x) (he : DE G E X c e te) (hv : Vis X.env.scope x := by first | exact Or.inl rfl | exact Or.inr (Or.inl rfl) | exact Or.inr (Or.inr rfl))
    (hd : (x == ("__debug__" : Str)) = false := by decide) (hcd : (x == ("__classdict__" : Str)) = false := by decide) : DSt G E X c (.AugAssign (.Attribute (.Name x p) f pos') .Add e pos) (sFldInc G i f te) :=
  impS (ps_fldaug (pe_var (i := i) hN hv hd hcd) he in_add) fun Dn σ H h => by
    obtain ⟨W, hn, de, ⟨a, dx, cc, ds, hei, hfm, n, hdn, ht⟩, k1, k2, k3, k4⟩ := h
    obtain ⟨xs, hsi, ha, hl, hxs⟩ := lift_slf hei
    obtain ⟨o1, o2⟩ := fo.ok cc hfm
    obtain ⟨y, hy, hdy⟩ := hxs.get hdn
    have ey : y = .int n := hdy
    subst ey
    obtain ⟨h0, _⟩ := W.mine_at hei rfl hsi
    refine ⟨.ref a, hsi, a, G.cl cc, dx, _, _, rfl, ha, by rw [hK]; exact o1, by rw [hK]; exact o2, zip_lookup hy hfm, W, hn, _, ht, fun v H1 d st hdv ⟨m, e1, hq⟩ => ?_⟩
    subst e1
    cases hdv
    have ha1 : H1 a = some (.ins (G.cl cc) dx ((G.fl cc).zip xs)) := st.ext a _ ha (lend_un W h0)
    refine ⟨n, m, rfl, rfl, dx, _, ha1, by rw [List.length_zip]; have := sm cc; omega, ?_⟩
    rw [put_at hfm hy]
    have hei' : (W.next st).env[i]? = some (.slf a dx cc ds) := hei
    have kp := mut_keep (o1 := .ins (G.cl cc) dx ((G.fl cc).zip (xs.set ((G.fl cc).idxOf f) (.int (n + m))))) (W.next st) hei' rfl hsi
    have hxs1 : DenL G (W.next st).XB H1 ds xs := hxs.ext st.ext W.huX
    obtain ⟨W', l1, l2, l3⟩ := wd_mut (o1 := .ins (G.cl cc) dx ((G.fl cc).zip (xs.set ((G.fl cc).idxOf f) (.int (n + m))))) (s1 := .slf a dx cc (ds.set ((G.fl cc).idxOf f) (.int (n + m)))) (W.next st) hei' rfl hsi rfl
      ⟨_, rfl, h0, upd_same, by rw [List.length_set]; exact hl, (DenL.keep kp (fun b hb => .inl hb) _ _ hxs1).set _ rfl⟩
    exact k1 σ _ W' (((Later.next st).trans l1).more (by omega)) (by rw [l2]; exact hq)
end
end Kn

set_option Elab.async false
set_option linter.all false
set_option maxRecDepth 100000
set_option maxHeartbeats 2100000
namespace Kn
open PySem L2 RZ
section
variable {G : Gd} {E : XK} {X : Cx} {σ : List (Option V)} {H H' : Hp} {k : Nat}
/-- slot i holds a new thing that nothing else holds -/
theorem wd_ownI (W : Wd G E σ H) {c : Nat} {H2 : Hp} (st : Step W c H2) {i : Nat} {p : Addr} {xs : List V} {ds : List D} (hp : H p = none) {dx : Addr} {cid : Nat} (h2 : H2 p = some (.ins (G.cl cid) dx ((G.fl cid).zip xs))) (hl : xs.length ≤ (G.fl cid).length) (hd : DenL G (fun a => W.XB a ∨ a = p) H2 ds xs) :
    ∃ W' : Wd G E (σ.set i (some (.ref p))) H2, Later W c W' ∧ W'.env = W.env.set i (.slf p dx cid ds) := by
  have fr0 : ¬ W.XB p := W.fresh hp
  have h0 : W.H0 p = none := by
    cases q : W.H0 p with
    | none => rfl
    | some o =>
      exfalso
      by_cases hu : W.u.map (·.1) = some p
      · cases hu' : W.u with
        | none => rw [hu'] at hu; cases hu
        | some r => rw [hu'] at hu; cases hu; exact fr0 (W.huX r hu')
      · rw [W.fr p o q hu] at hp; cases hp
  let W1 := W.next st
  have npo : ∀ {j : Nat} {s : Sl} {b : Addr}, W.env[j]? = some s → s.mine = true → σ[j]? = some (some (.ref b)) → b ≠ p := fun {j s b} e hm es z => by
    obtain ⟨_, o, ho⟩ := W.mine_at e hm es
    rw [z, hp] at ho; cases ho
  have xb : ∀ b, XBof W.B (W.env.set i (.slf p dx cid ds)) (σ.set i (some (.ref p))) b → W.XB b ∨ b = p := fun b hb => by
    rcases hb with hb | ⟨j, s, e1, m1, e2⟩
    · exact .inl (.inl hb)
    · by_cases hj : i = j
      · subst hj
        by_cases hi : i < σ.length
        · rw [List.getElem?_set_self hi] at e2; cases e2; exact .inr rfl
        · rw [List.getElem?_eq_none (by rw [List.length_set]; omega)] at e2; cases e2
      · rw [List.getElem?_set_ne hj] at e1 e2
        exact .inl (.inr ⟨j, s, e1, m1, e2⟩)
  have dk : ∀ {d : D} {v : V}, Den G W.XB H d v → Den G (XBof W.B (W.env.set i (.slf p dx cid ds)) (σ.set i (some (.ref p)))) H2 d v := fun {d v} h =>
    Den.keep (fun b o nb e => st.keep nb e) (fun b hb => (xb b hb).imp id fun z => by rw [z]; exact hp) d v h
  have dkl : ∀ {es : List D} {ys : List V}, DenL G W.XB H es ys → DenL G (XBof W.B (W.env.set i (.slf p dx cid ds)) (σ.set i (some (.ref p)))) H2 es ys := fun {es ys} h =>
    DenL.keep (fun b o nb e => st.keep nb e) (fun b hb => (xb b hb).imp id fun z => by rw [z]; exact hp) es ys h
  have own_st : ∀ {j : Nat} {s : Sl} {b : Addr} {o : HO}, W.env[j]? = some s → s.mine = true → σ[j]? = some (some (.ref b)) → H b = some o → H2 b = some o := fun {j s b o} e hm es ho => st.ext b o ho fun z => by
    cases hu' : W.u with
    | none => rw [hu'] at z; cases z
    | some r => rw [hu'] at z; cases z; exact W.own_ne (W.mine_at e hm es).1 (W.hu r hu').1
  refine ⟨{ u := W.u, n := W.n - c, m := W.m, B := W.B, H0 := W.H0, env := W.env.set i (.slf p dx cid ds), ex := W.ex, ug := W.ug, hu := W.hu, hB := W.hB, fr := W.fr.trans st.ext, good := st.good, len := by rw [List.length_set, List.length_set]; exact W.len, sl := fun j s e => ?_, nd := fun j l b s t e1 e2 m1 m2 e3 e4 => ?_, exc := W.exc },
    ⟨rfl, rfl, rfl, rfl, rfl, by show W.n ≤ W.n - c + c; omega, fun b o nb e => st.keep nb e, fun b hb => (xb b hb).imp id fun z => by rw [z]; exact hp⟩, rfl⟩
  · by_cases hj : i = j
    · subst hj
      by_cases hi : i < W.env.length
      · rw [List.getElem?_set_self hi] at e
        cases e
        rw [getD_set, if_pos ⟨rfl, by rw [← W.len]; exact hi⟩]
        exact ⟨xs, rfl, h0, h2, hl, hd.fewer xb⟩
      · rw [List.getElem?_eq_none (by simpa using hi)] at e; cases e
    · rw [List.getElem?_set_ne hj] at e
      rw [getD_set, if_neg (fun z => hj z.1)]
      have z := W.sl j s e
      cases s with
      | emp => trivial
      | val d => obtain ⟨x, e1, e2⟩ := z; exact ⟨x, e1, dk e2⟩
      | own b es => obtain ⟨ys, e1, e2, e3, e4, e5⟩ := z; exact ⟨ys, e1, e2, own_st e rfl (join_some e1) e3, e4, dkl e5⟩
      | slf b dx cc es => obtain ⟨ys, e1, e2, e3, e4, e5⟩ := z; exact ⟨ys, e1, e2, own_st e rfl (join_some e1) e3, e4, dkl e5⟩
  · by_cases hj : i = j
    · by_cases hlk : i = l
      · exact hj.symm.trans hlk
      · subst hj
        exfalso
        rw [List.getElem?_set_ne hlk] at e2 e4
        have hi : i < σ.length := by
          by_cases q : i < σ.length
          · exact q
          · rw [List.getElem?_eq_none (by rw [List.length_set]; omega)] at e3; cases e3
        rw [List.getElem?_set_self hi] at e3
        cases e3
        exact npo e2 m2 e4 rfl
    · rw [List.getElem?_set_ne hj] at e1 e3
      by_cases hlk : i = l
      · subst hlk
        exfalso
        have hi : i < σ.length := by
          by_cases q : i < σ.length
          · exact q
          · rw [List.getElem?_eq_none (by rw [List.length_set]; omega)] at e4; cases e4
        rw [List.getElem?_set_self hi] at e4
        cases e4
        exact npo e1 m1 e3 rfl
      · rw [List.getElem?_set_ne hlk] at e2 e4
        exact W.nd j l b s t e1 e2 m1 m2 e3 e4


/-! ### plain values, where a thing of an own class stands -/
mutual
def plainD : D → Bool
  | .non => true
  | .bl _ => true
  | .int _ => true
  | .str _ => true
  | .tup ds => plainL ds
  | .lst ds => plainL ds
  | _ => false
def plainL : List D → Bool
  | [] => true
  | d :: ds => plainD d && plainL ds
end
mutual
theorem Den.beside {B B' : Addr → Prop} (hb : ∀ b, B' b → B b ∨ ∃ C dx fs, H b = some (.ins C dx fs)) : ∀ (d : D) (v : V), plainD d = true → Den G B H d v → Den G B' H d v
  | .non, _, _, h => h
  | .bl _, _, _, h => h
  | .int _, _, _, h => h
  | .str _, _, _, h => h
  | .tup ds, v, f, ⟨a, xs, e, nb, hs, hl, hd⟩ => by
    rcases nb with nb | nb
    · rcases hs with h | h
      · refine ⟨a, xs, e, .inl fun z => ?_, .inl h, hl, DenL.beside hb ds xs f hd⟩
        rcases hb a z with q | ⟨C, dx, fs, ho⟩
        · exact nb q
        · rcases h with h | ⟨q, h⟩
          · rw [h] at ho; cases ho
          · rw [h] at ho; cases ho
      · exact ⟨a, xs, e, .inr h, .inr h, hl, DenL.beside hb ds xs f hd⟩
    · exact ⟨a, xs, e, .inr nb, hs, hl, DenL.beside hb ds xs f hd⟩
  | .lst ds, v, f, ⟨a, xs, e, nb, hs, hl, hd⟩ => by
    refine ⟨a, xs, e, fun z => ?_, hs, hl, DenL.beside hb ds xs f hd⟩
    rcases hb a z with q | ⟨C, dx, fs, ho⟩
    · exact nb q
    · rw [hs] at ho; cases ho
  | .ins _ _, _, f, _ => by simp [plainD] at f
  | .opq _, _, f, _ => by simp [plainD] at f
  | .urn, _, f, _ => by simp [plainD] at f
  | .at_ _ _, _, f, _ => by simp [plainD] at f
  | .dct _ _, _, f, _ => by simp [plainD] at f
theorem DenL.beside {B B' : Addr → Prop} (hb : ∀ b, B' b → B b ∨ ∃ C dx fs, H b = some (.ins C dx fs)) : ∀ (ds : List D) (xs : List V), plainL ds = true → DenL G B H ds xs → DenL G B' H ds xs
  | [], _, _, h => h
  | d :: ds, xs, f, ⟨x, r, e, h1, h2⟩ => by
    have f' : (plainD d && plainL ds) = true := f
    rw [Bool.and_eq_true] at f'
    exact ⟨x, r, e, Den.beside hb d x f'.1 h1, DenL.beside hb ds r f'.2 h2⟩
end

/-! ### x = C(..), a thing of the frame's own -/
def liftMk (G : Gd) (E : XK) (c cid : Nat) (t : DA) : TE := fun σ H Q' => ∃ W : Wd G E σ H, W.m + c ≤ W.n ∧ ∃ Q, t W.ex W.env Q ∧
  ∀ x dx H' xs ds, Step W c H' → H x = none → H' x = some (.ins (G.cl cid) dx ((G.fl cid).zip xs)) → xs.length = (G.fl cid).length → DenL G W.XB H' ds xs → Q ds → Q' (.ref x) H'
def aMake (cid n : Nat) (S : FSpec) (u : DA) : DA := fun ex env Q => u ex env fun as => as.length = n ∧ S as (fun d => ∀ ds', d = .ins cid ds' → Q ds') ex
theorem pe_makeF {j : Nat} {x : Str} {cid : Nat} {ps : List Str} {c cf : Nat} {S : FSpec} {e : Expr} {es : List Expr} {u : DA} {p pos : Pos} (F : Fc G X.prog X.w X.mg X.base j x cid ps cf S) (xk : Xk G E k X) (ha : DEs G E X c (e :: es) u) (hj : j + 1 ≤ k := by decide) (hg : Gl X x := by rfl) (hdb : (x == ("__debug__" : Str)) = false := by decide)
    (he : starEach (e :: es) X.env = (false, eval e X.env) :: starEach es X.env := by rfl) (hpl : (backTo pos (starEach es X.env)).any (·.1) = false := by rfl) : PE X (.Call (.Name x p) (e :: es) [] pos) (liftMk G E (c + cf) cid (aMake cid (ps.length - 1) S u)) := by
  obtain ⟨f, fd, hF, hm, M, hb, hps⟩ := F.ex
  rw [← xk.K] at M hb
  have room1 : Room (j + 1) X.A := xk.room.mono hj
  constructor
  intro pins s σ H Q' I h
  obtain ⟨W, hn, Q, ht, kk⟩ := h
  have args := ha.run pos pins s σ H (fun vs H1 => vs.length = ps.length - 1 ∧ ∃ (st : Step W c H1) (ds : List D), DenL G W.XB H1 ds vs ∧ S ds (fun d => ∀ ds', d = .ins cid ds' → Q ds') W.ex) I ⟨W, by omega, _, ht, fun vs H1 ds st hd ⟨hl, hs⟩ => ⟨by rw [← hd.length]; exact hl, st, ds, hd, hs⟩⟩
  refine wpAny_Call_Name_kw (ld_glob I hg hm ?_ hdb); refine PySem.W.callWith_K (h₀ := X.base) I.ok.mod.kin M.kp (thn args ?_) he hpl
  rintro us s1 ⟨vs, H1, I1, r1, hl, st, ds, hd, hs⟩
  refine ⟨I1.kIn, ?_⟩
  have f0 : H1 s1.heap.objs.size = none := I1.hok.fresh (Nat.le_refl _)
  have f1 : H1 (s1.heap.objs.size + 1) = none := I1.hok.fresh (Nat.le_succ _)
  have I2 := Inv.made (C := G.cl cid) I1
  have nx : s1.heap.objs.size ≠ s1.heap.objs.size + 1 := Nat.ne_of_lt (Nat.lt_succ_self _)
  have W1 := W.next st
  have bnd : ∀ b o, H1 b = some o → upd (upd H1 s1.heap.objs.size (.own (s1.heap.objs.size + 1))) (s1.heap.objs.size + 1) (.ins (G.cl cid) s1.heap.objs.size []) b = some o := fun b o e => by
    rw [upd_ne (ne_of_none e f1), upd_ne (ne_of_none e f0)]; exact e
  have hs' : liftN G cf cid S (.ref (s1.heap.objs.size + 1) :: vs) (upd (upd H1 s1.heap.objs.size (.own (s1.heap.objs.size + 1))) (s1.heap.objs.size + 1) (.ins (G.cl cid) s1.heap.objs.size [])) (fun v H2 => v = .non ∧ Q' (.ref (s1.heap.objs.size + 1)) H2) E := by
    refine ⟨W.u, W.n - c, W.XB, ds, _, W.ex, _, s1.heap.objs.size, vs, W.ug, rfl, upd_same, Ne.symm nx, (W.next st).fresh f1, (W.next st).fresh f0, fun p e => ?_, by omega, fun p e => ⟨.inl (W.hu p e).1, .inl (W.hu p e).2⟩, fun a ha z => ?_, ?_, ?_, hs, fun H' xs ds' kp g hx hl2 hd2 hr => ⟨rfl, ?_⟩, fun y C d H' kp g hx hy => ?_⟩
    · have n1 : ¬ W.XB (s1.heap.objs.size + 1) := (W.next st).fresh f1
      have n0 : ¬ W.XB s1.heap.objs.size := (W.next st).fresh f0
      exact ⟨fun z => n1 (by rw [z]; exact .inl (W.hu p e).1), fun z => n1 (by rw [z]; exact .inl (W.hu p e).2), fun z => n0 (by rw [z]; exact .inl (W.hu p e).1), fun z => n0 (by rw [z]; exact .inl (W.hu p e).2)⟩
    · cases q : H1 a with
      | none => exact (W.next st).fresh q ha
      | some o => rw [bnd a o q] at z; cases z
    · refine Good.ext st.good fun b o e _ => bnd b o e
    · refine DenL.keep (fun b o nb e => bnd b o e) (fun b hb => ?_) ds vs hd
      rcases hb with hb | rfl | rfl
      · exact .inl hb
      · exact .inr f1
      · exact .inr f0
    · refine kk _ s1.heap.objs.size H' xs ds' ⟨fun b o e nu => ?_, by rw [Nat.sub_add_eq]; exact g⟩ ?_ hx hl2 hd2 (hr ds' rfl)
      · have e1 := st.ext b o e nu
        exact kp b o (bnd b o e1) (ne_of_none e1 f1) (ne_of_none e1 f0) nu
      · cases q : H (s1.heap.objs.size + 1) with
        | none => rfl
        | some o =>
          exfalso
          by_cases hu : W.u.map (·.1) = some (s1.heap.objs.size + 1)
          · have nf := (W.next st).fresh f1
            cases hu' : W.u with
            | none => rw [hu'] at hu; cases hu
            | some r =>
              rw [hu'] at hu
              exact nf (by rw [← Option.some.inj hu]; exact W.huX r hu')
          · rw [st.ext _ o q hu] at f1; cases f1
    · refine W.exc y C d H' (fun b o e nu => ?_) (g.less (by omega)) ?_ hy
      · have e1 := (W.fr.trans st.ext) b o e nu
        exact kp b o (bnd b o e1) (ne_of_none e1 f1) (ne_of_none e1 f0) nu
      · obtain ⟨e1, dd, xs, e2, e3, e4, e5⟩ := hx
        exact ⟨e1, dd, xs, e2, e3, e4, e5.fewer fun b z => .inl z⟩
  have hlen2 : (V.ref (s1.heap.objs.size + 1) :: vs).length = ps.length := by rw [List.length_cons, hl]; omega
  refine wpAny_call (make_map (f := f) I1.kIn M.makes M.init (beq_iff_eq.mp M.fn) (codeAny_mono (hF.run _ X.stack _ _ ⟨.ref (s1.heap.objs.size + 1) :: us, []⟩ (.ref (s1.heap.objs.size + 1) :: us) (.ref (s1.heap.objs.size + 1) :: vs) _ E (room1.make (G.cl cid) us []) (guards_make.trans xk.gd) (by rw [← xk.K]; exact I2.env0.make (G.cl cid) us []) ?_ (.cons rfl r1) hlen2 hs') ?_))
  · have z := hb { s1 with heap := (s1.heap.push PySem.W.emptyDict).push (PySem.W.instObj (G.cl cid) s1.heap.objs.size) } (.ref (s1.heap.objs.size + 1) :: us) I2.kIn (by rw [List.append_nil, List.length_cons, ← r1.length, hl]; omega)
    rw [List.append_nil] at z
    exact z
  · intro r s' hq
    cases r with
    | error e => exact xk.pass pins σ _ _ e s' I2 hq
    | ok fl =>
      cases fl with
      | ret u =>
        obtain ⟨v, H', I3, rv, ev, q3⟩ := I2.after hq
        subst ev
        exact ⟨rv, ⟨V.ref (s1.heap.objs.size + 1), H', I3, rfl, q3⟩⟩
      | next => exact hq.elim
      | brk => exact hq.elim
      | cont => exact hq.elim

def sMake (G : Gd) (i cid n : Nat) (S : FSpec) (u : DA) : DS := fun ex de env => u ex env fun as => as.length = n ∧ S as (fun d => ∀ ds', d = .ins cid ds' → plainL ds' = true ∧ (ds'.length = (G.fl cid).length → ∀ a dx, de.nx (env.set i (.slf a dx cid ds')))) ex
theorem ds_make {i j : Nat} {y x : Str} {cid : Nat} {ps : List Str} {c cf : Nat} {S : FSpec} {e : Expr} {es : List Expr} {u : DA} {p pos pos' spos : Pos} (hN : X.N.Nodup) (hi : X.N[i]? = some y) (hy : Loc X.env.scope y) (F : Fc G X.prog X.w X.mg X.base j x cid ps cf S) (xk : Xk G E k X) (ha : DEs G E X c (e :: es) u) (hj : j + 1 ≤ k := by decide) (hg : Gl X x := by rfl) (hdb : (x == ("__debug__" : Str)) = false := by decide)
    (he : starEach (e :: es) X.env = (false, eval e X.env) :: starEach es X.env :=
          by rfl) (hpl : (backTo pos (starEach es X.env)).any (·.1) = false := by rfl)
    (hs : swapsWith (.Call (.Name x p) (e :: es) [] pos) (some (.Name y pos')) spos.line X.env = pure false := by rfl)
    (hf : X.fn y = true ∨ X.env.scope.names.lookup y = some .local := by first | exact .inl rfl | exact .inr rfl) : DSt G E X (c + cf) (.Assign [.Name y pos'] (.Call (.Name x p) (e :: es) [] pos) spos) (sMake G i cid (ps.length - 1) S u) :=
  impS (ps_set hN hi hy (pe_makeF F xk ha hj hg hdb he hpl) hs hf) fun Dn σ H h => by
    obtain ⟨W, hn, de, ht, k1, k2, k3, k4⟩ := h
    refine ⟨W, hn, fun ds' => plainL ds' = true ∧ (ds'.length = (G.fl cid).length → ∀ a dx, de.nx (W.env.set i (.slf a dx cid ds'))), ?_, fun a dx H' xs ds st hp h2 hl hd ⟨hpl, hq⟩ => ?_⟩
    · exact ht
    · obtain ⟨W', l1, l2⟩ := wd_ownI W st (i := i) hp h2 (Nat.le_of_eq hl) (DenL.beside (fun b hb => hb.imp id fun z => by rw [z]; exact ⟨_, _, _, h2⟩) ds xs hpl hd)
      exact k1 _ H' W' l1 (by rw [l2]; exact hq (by rw [hd.length]; exact hl) a dx)
end
end Kn

set_option Elab.async false
set_option linter.all false
set_option maxRecDepth 100000
set_option maxHeartbeats 2100000
namespace Kn
open PySem L2 RZ
open PyProof.Rows (envOfC)
section
variable {G : Gd} {E : XK} {X : Cx} {σ : List (Option V)} {H H' : Hp} {k : Nat}
theorem denL_strs' {B : Addr → Prop} {H : Hp} : ∀ {ts : List Str} {xs : List V}, DenL G B H (ts.map D.str) xs → xs = ts.map V.str
  | [], _, h => h
  | t :: ts, _, ⟨x, r, e, h1, h2⟩ => by subst e; rw [show x = V.str t from h1, denL_strs' h2]; rfl
/-! ### a.join(l), a.split(b) -/
def dJoin (te tv : DT) : DT := fun ex env Q => te ex env fun d => ∃ a : Str, d = .str a ∧ tv ex env fun e => ∃ ys : List Str, (e = .lst (ys.map D.str) ∨ e = .tup (ys.map D.str)) ∧ (ys.map (·.length)).sum + ys.length * a.length ≤ 16777216 ∧ Q (.str (Txt.join a ys))
theorem de_join {o e : Expr} {apos cpos : Pos} {c c2 : Nat} {te tv : DT} (hK : X.K = G.K) (ho : DE G E X c o te) (he : DE G E X c2 e tv)
    (hbase : attributeBase o "join" X.env (eval o X.env) = eval o X.env := by rfl)
    (hfew : ((backTo cpos (starEach [e] X.env)).all (fun x => !x.1) && (backToKw cpos (keywordEach [] X.env)).all (fun x => x.1.isSome) && decide (([e] : List Expr).length + ([] : List Keyword).length + (if ([] : List Keyword).isEmpty then 0 else 1) < 30)) = true := by rfl)
    (hline : (apos.endLine == cpos.line) = true := by rfl) (hs : starEach [e] X.env = (false, eval e X.env) ::
          starEach [] X.env := by rfl) (hplain : (backTo cpos (starEach [] X.env)).any (·.1) = false := by rfl) :
    DE G E X (c + c2) (.Call (.Attribute o "join" apos) [e] [] cpos) (dJoin te tv) :=
  imp (pe_bm PySem.F.plainAttrs_str PySem.F.slot_str_join PySem.F.type_str_join mt_join ho (pa_cons he pa_nil hs) hbase hfew hline hs hplain) fun σ H Q' h => by
    obtain ⟨W, hn, Q, ht, kk⟩ := h
    refine ⟨W, by omega, _, ht, fun v H1 d st hd ⟨a, e, hq⟩ => ?_⟩
    subst e
    cases hd
    refine ⟨rfl, W.next st, by show W.m + c2 ≤ W.n - c; omega, _, hq, fun v2 H2 e2 st2 he2 ⟨ys, ey, hz, hq2⟩ => ?_⟩
    rcases ey with rfl | rfl
    · obtain ⟨p, xs, rfl, np, hp, lp, dp⟩ := he2
      rw [denL_strs' dp] at hp
      exact ⟨a, p, ys, rfl, rfl, .inl (SqL.of hp), hz, kk _ H2 (.str _) (st.trans st2) (den_str _) hq2⟩
    · obtain ⟨p, xs, rfl, np, hp, lp, dp⟩ := he2
      rw [denL_strs' dp] at hp
      exact ⟨a, p, ys, rfl, rfl, .inr (by rw [hK]; exact hp), hz, kk _ H2 (.str _) (st.trans st2) (den_str _) hq2⟩
def dSplit (te tv : DT) : DT := fun ex env Q => te ex env fun d => ∃ a : Str, d = .str a ∧ tv ex env fun e => ∃ b : Str, e = .str b ∧ (b.length == 0) = false ∧ a.length + 2 ≤ sizeLine ∧ (Txt.split a b).length ≤ sizeLine ∧ Q (.lst ((Txt.split a b).map D.str))
theorem den_strl {B : Addr → Prop} {H : Hp} : ∀ (ts : List Str), DenL G B H (ts.map D.str) (ts.map V.str)
  | [] => rfl
  | t :: ts => ⟨_, _, rfl, rfl, den_strl ts⟩
theorem de_split {o e : Expr} {apos cpos : Pos} {c c2 : Nat} {te tv : DT} (ho : DE G E X c o te) (he : DE G E X c2 e tv)
    (hbase : attributeBase o "split" X.env (eval o X.env) = eval o X.env := by rfl)
    (hfew : ((backTo cpos (starEach [e] X.env)).all (fun x => !x.1) && (backToKw cpos (keywordEach [] X.env)).all (fun x => x.1.isSome) && decide (([e] : List Expr).length + ([] : List Keyword).length + (if ([] : List Keyword).isEmpty then 0 else 1) < 30)) = true := by rfl)
    (hline : (apos.endLine == cpos.line) = true := by rfl) (hs : starEach [e] X.env = (false, eval e X.env) ::
          starEach [] X.env := by rfl) (hplain : (backTo cpos (starEach [] X.env)).any (·.1) = false := by rfl) :
    DE G E X (c + c2) (.Call (.Attribute o "split" apos) [e] [] cpos) (dSplit te tv) :=
  imp (pe_bm PySem.F.plainAttrs_str PySem.F.slot_str_split PySem.F.type_str_split mt_split ho (pa_cons he pa_nil hs) hbase hfew hline hs hplain) fun σ H Q' h => by
    obtain ⟨W, hn, Q, ht, kk⟩ := h
    refine ⟨W, by omega, _, ht, fun v H1 d st hd ⟨a, e, hq⟩ => ?_⟩
    subst e
    cases hd
    refine ⟨rfl, W.next st, by show W.m + c2 ≤ W.n - c; omega, _, hq, fun v2 H2 e2 st2 he2 ⟨b, eb, hb, hz, hl, hq2⟩ => ?_⟩
    subst eb
    cases he2
    refine ⟨a, b, rfl, rfl, hb, hz, fun p hp => ?_⟩
    exact kk _ _ (.lst ((Txt.split a b).map D.str)) ((st.trans st2).new hp) (den_lst hp (((W.next st).next st2).fresh hp) (by rw [List.length_map]; exact hl) (den_strl _)) hq2
/-! ### f'..' -/
def dFmt (te : DT) : DT := fun ex env Q => te ex env fun d => (∃ y : Str, d = .str y ∧ y.length ≤ sizeLine ∧ Q (.str y)) ∨ ∃ i : Int, d = .int i ∧ i.natAbs.log2 < 1920 ∧ Q (.str (toString i))
theorem de_fmt {e : Expr} {c : Nat} {te : DT} {pos : Pos} (he : DE G E X c e te) : DE G E X c (.FormattedValue e (-1) none pos) (dFmt te) := imp (pe_fmt he) fun σ H Q' h => by
  obtain ⟨W, hn, Q, ht, kk⟩ := h
  refine ⟨W, hn, _, ht, fun v H1 d st hd hq => ?_⟩
  rcases hq with ⟨y, rfl, hz, hq⟩ | ⟨i, rfl, hz, hq⟩
  · cases hd
    exact .inl ⟨y, rfl, hz, kk _ H1 (.str y) st (den_str _) hq⟩
  · cases hd
    exact .inr ⟨i, rfl, hz, kk _ H1 (.str _) st (den_str _) hq⟩
inductive DJ (G : Gd) (E : XK) (X : Cx) : Nat → List Expr → List DT → Prop where
  | nil : DJ G E X 0 [] []
  | cons {c d : Nat} {e : Expr} {t : DT} {es : List Expr} {ts : List DT} (h : DE G E X c e t) (r : DJ G E X d es ts) : DJ G E X (c + d) (e :: es) (t :: ts)
def dJs : List DT → Str → (Exc → Prop) → List Sl → (Str → Prop) → Prop
  | [], acc, _, _, Q => Q acc
  | t :: ts, acc, ex, env, Q => t ex env fun d => ∃ y : Str, d = .str y ∧ (acc ++ y).length ≤ sizeLine ∧ dJs ts (acc ++ y) ex env Q
theorem lift_js {c : Nat} {es : List Expr} {ts : List DT} (h : DJ G E X c es ts) : ∃ us : List TE, PJ X es us ∧ ∀ (acc : Str) (σ : List (Option V)) (H : Hp) (Q' : Str → Hp → Prop) (W : Wd G E σ H), W.m + c ≤ W.n → ∀ Q : Str → Prop, dJs ts acc W.ex W.env Q → (∀ out H', Step W c H' → Q out → Q' out H') → tJs us acc σ H Q' := by
  induction h with
  | nil => exact ⟨[], .nil, fun acc σ H Q' W hn Q hq kk => kk acc H (Step.refl W) hq⟩
  | @cons c d e t es ts he r ih =>
    obtain ⟨us, hus, go⟩ := ih
    refine ⟨_ :: us, .cons he hus, fun acc σ H Q' W hn Q hq kk => ?_⟩
    refine ⟨W, by omega, _, hq, fun v H1 dd st hd ⟨y, e1, hl, hr⟩ => ?_⟩
    subst e1
    cases hd
    exact ⟨y, rfl, hl, go (acc ++ y) σ H1 Q' (W.next st) (by show W.m + d ≤ W.n - c; omega) Q hr fun out H' st2 q => kk out H' (st.trans st2) q⟩
def dJoined (ts : List DT) : DT := fun ex env Q => dJs ts Str.empty ex env fun out => Q (.str out)
theorem de_joined {v1 v2 : Expr} {rest : List Expr} {c : Nat} {ts : List DT} {pos : Pos} (h : DJ G E X c (v1 :: v2 :: rest) ts) : DE G E X c (.JoinedStr (v1 :: v2 :: rest) pos) (dJoined ts) := by
  obtain ⟨us, hus, go⟩ := lift_js h
  refine imp (pe_joined hus) fun σ H Q' hh => ?_
  obtain ⟨W, hn, Q, ht, kk⟩ := hh
  exact go Str.empty σ H _ W hn _ ht fun out H' st q => kk _ H' (.str out) st (den_str _) q
/-! ### while -/
def sWhile (tc : DB) (tb : DS) : DS := fun ex de env => ∃ I : Nat → List Sl → Prop, (∃ m, m < 16777216 ∧ I m env) ∧ ∀ m env, I m env → tc ex env fun b => if b = true then tb ex { de with nx := fun env' => ∃ m', m' < m ∧ I m' env', ct := fun env' => ∃ m', m' < m ∧ I m' env', bk := de.nx } env else de.nx env
theorem ds_while {ce : Expr} {body : List Stmt} {cc cb : Nat} {tc : DB} {tb : DS} {pos : Pos} (hp : PassesOwn (model X.prog X.w) X.A X.env X.xe) (hc : DPt G E X cc ce tc) (hb : DSs G E X cb body tb) : DSt G E X (16777216 * (cc + cb)) (.While ce body [] pos) (sWhile tc tb) :=
  impS (ps_while hp hc hb) fun Dn σ H h => by
    obtain ⟨W, hn, de, ⟨I, ⟨m0, hm0, hI0⟩, step⟩, k1, k2, k3, k4⟩ := h
    refine ⟨fun m σ' H' => ∃ W' : Wd G E σ' H', Later W ((m0 - m) * (cc + cb)) W' ∧ m ≤ m0 ∧ I m W'.env, ⟨m0, W, (Later.refl W).more (by omega), Nat.le_refl _, hI0⟩, ?_⟩
    rintro m σ' H' ⟨W', lt, hm, hI⟩
    have c1 : (m0 - m) * (cc + cb) + (cc + cb) ≤ 16777216 * (cc + cb) := by
      have : (m0 - m + 1) * (cc + cb) ≤ 16777216 * (cc + cb) := Nat.mul_le_mul_right _ (by omega)
      rw [Nat.add_mul, Nat.one_mul] at this
      exact this
    have hw : W'.m + (cc + cb) ≤ W'.n := by have := lt.n; rw [lt.m]; omega
    refine ⟨W', by omega, _, by rw [lt.ex]; exact step m _ hI, fun b H1 st hq => ?_⟩
    cases b with
    | false => exact k1 _ H1 (W'.next st) ((lt.trans (Later.next st)).more (by omega)) hq
    | true =>
      have l1 := lt.trans (Later.next st)
      refine ⟨fun σ2 H2 => ∃ W2 : Wd G E σ2 H2, ∃ m', m' < m ∧ Later W ((m0 - m') * (cc + cb)) W2 ∧ I m' W2.env, fun σ2 H2 ⟨W2, m', h1, h2, h3⟩ => ⟨m', h1, W2, h2, by omega, h3⟩, ?_⟩
      refine ⟨W'.next st, by show W'.m + cb ≤ W'.n - cc; omega, { de with nx := fun env' => ∃ m', m' < m ∧ I m' env', ct := fun env' => ∃ m', m' < m ∧ I m' env', bk := de.nx }, by show tb W'.ex _ _; rw [lt.ex]; exact hq, fun σ2 H2 W2 l2 ⟨m', g1, g2⟩ => ?_, fun v σ2 H2 W2 d l2 hd hr => ?_, fun σ2 H2 W2 l2 q => ?_, fun σ2 H2 W2 l2 ⟨m', g1, g2⟩ => ?_⟩
      · refine ⟨W2, m', g1, (l1.trans l2).more ?_, g2⟩
        have : (m0 - m + 1) * (cc + cb) ≤ (m0 - m') * (cc + cb) := Nat.mul_le_mul_right _ (by omega)
        rw [Nat.add_mul, Nat.one_mul] at this
        omega
      · refine k2 v σ2 H2 W2 d ((l1.trans l2).more (by omega)) (by rw [show (W'.next st).B = W'.B from rfl, lt.B] at hd; exact hd) hr
      · exact k1 _ H2 W2 ((l1.trans l2).more (by omega)) q
      · refine ⟨W2, m', g1, (l1.trans l2).more ?_, g2⟩
        have : (m0 - m + 1) * (cc + cb) ≤ (m0 - m') * (cc + cb) := Nat.mul_le_mul_right _ (by omega)
        rw [Nat.add_mul, Nat.one_mul] at this
        omega
end
end Kn

set_option Elab.async false
set_option linter.all false
set_option maxRecDepth 100000
set_option maxHeartbeats 2100000
namespace Kn
open PySem L2 RZ
open PyProof.Rows (envOfC)
section
variable {G : Gd} {E : XK} {X : Cx} {σ : List (Option V)} {H H' : Hp} {k : Nat}
/-! ### str(x), x of a class with its own __str__ -/
structure Fs (G : Gd) (P : Program) (w : World) (mg : Str → Option Value) (base : Heap) (k : Nat) (c : Nat) (cf : Nat) (S : FSpec) : Prop where
  ex : ∃ (f : Addr) (fd : FuncData) (ps : List Str), FnD G P w mg base k f fd ps cf S ∧ PySem.W.findIn G.K (.ref (G.cl c)) "__str__" = some (some (.ref f)) ∧ PySem.W.isFn G.K (.ref f) = true ∧ Binds G.K fd ps [] ∧ ps.length = 1
def rStrI (G : Gd) (E : XK) (c cf : Nat) (S : FSpec) : List V → Hp → VK → Prop := fun xs H Q' => ∃ a dx fs, xs = [.ref a] ∧ H a = some (.ins (G.cl c) dx fs) ∧ liftF G cf S [.ref a] H (fun v H' => (∃ y, v = .str y) ∧ Q' v H') E
theorem cr_strI {j c cf : Nat} {S : FSpec} (F : Fs G X.prog X.w X.mg X.base j c cf S) (xk : Xk G E k X) (hj : j + 2 ≤ k := by decide) : CallR X (.type "str") (rStrI G E c cf S) := by
  intro pins s σ H xs us Q I r h; obtain ⟨a, dx, fs, rfl, ha, hl⟩ := h
  obtain ⟨f, fd, ps, hF, hs, hf, hbd, hp1⟩ := F.ex
  rw [← xk.K] at hs hf hbd
  rw [Vals.ref1 r]
  obtain ⟨mA, J, _⟩ := ins_get I.hok ha; obtain ⟨od, J, _⟩ := J.look
  have rm : Room j X.A.in1.in1 := (Room.in1 (Room.in1 (xk.room.mono hj)))
  have e0 : Env0 X.prog X.w G.K X.mg X.base X.A.in1.in1 X.stack s H := by
    have e := I.env0
    rw [← xk.K]
    exact ⟨e.frames, e.mod, e.bs, e.bsz, e.funs, e.frf, e.hok, e.bare⟩
  have hb : BindsTo s fd ⟨[.ref a], []⟩ (ps.zip [.ref a]) := by
    have z := hbd s [.ref a] I.kIn (by rw [List.append_nil]; exact hp1.symm)
    rw [List.append_nil] at z
    exact z
  refine PySem.W.kso_call (by have := xk.room.un; show X.A.units + 1 + 1 < cLine; omega) I.kIn J hs hf (wpAny_call (codeAny_mono (hF.run X.A.in1.in1 X.stack s H ⟨[.ref a], []⟩ [.ref a] [.ref a] _ E rm xk.gd e0 hb (.cons rfl .nil) hp1.symm hl) fun r s' hq => ?_))
  cases r with
  | error e => exact xk.pass pins σ H s e s' I hq
  | ok fl =>
    cases fl with
    | ret u =>
      obtain ⟨v, H', I', rv, ⟨y, ey⟩, q⟩ := I.after hq
      subst ey
      obtain ⟨t, rfl⟩ := rv
      exact ⟨.str y, H', I', ⟨t, rfl⟩, q⟩
    | next => exact hq.elim
    | brk => exact hq.elim
    | cont => exact hq.elim
def dStrI (c : Nat) (S : FSpec) (te : DT) : DT := fun ex env Q => te ex env fun d => ∃ ds, d = .ins c ds ∧ S [d] (fun r => (∃ y, r = .str y) ∧ Q r) ex
theorem de_strI {j c cf ce : Nat} {S : FSpec} {e : Expr} {te : DT} {p pos : Pos} (F : Fs G X.prog X.w X.mg X.base j c cf S) (xk : Xk G E k X) (hm : X.mg "str" = none) (he : DE G E X ce e te) (hj : j + 2 ≤ k := by decide) (hg : Gl X "str" := by rfl)
    (hst : starEach [e] X.env = (false, eval e X.env) :: starEach [] X.env := by rfl) (hpl : (backTo pos (starEach [] X.env)).any (·.1) = false := by rfl) : DE G E X (ce + cf) (.Call (.Name "str" p) [e] [] pos) (dStrI c S te) :=
  imp (pe_callTy (cr_strI F xk hj) hg hm (by decide +kernel) (pa_cons he pa_nil hst) (by decide) (by decide) hst hpl) fun σ H Q' h => by
    obtain ⟨W, hn, Q, ht, kk⟩ := h
    refine ⟨W, by omega, _, ht, fun v H1 d st hd ⟨ds, e1, hs⟩ => ?_⟩
    subst e1
    have hd0 := hd
    obtain ⟨a, dx, xs, rfl, na, ha, la, da⟩ := hd
    exact ⟨a, dx, _, rfl, ha, lift_callee st hn (ds := [.ins c ds]) ⟨_, _, rfl, hd0, rfl⟩ hs fun v H' d st3 hd3 ⟨⟨y, ey⟩, hq3⟩ => by
      subst ey
      cases hd3
      exact ⟨⟨y, rfl⟩, kk _ H' (.str y) st3 (den_str _) hq3⟩⟩
/-! ### calls by keyword -/
structure KkM (K : PySem.W.Frag) (fd : FuncData) (ps ks : List Str) (ix : List Nat) : Prop where
  to : ∀ (s : Shared) (self : Value) (us : List Value), K.In s.heap → us.length = ks.length → BindsTo s fd ⟨[self], ks.zip us⟩ (ps.zip (self :: ix.map fun i => us.getD i .none))
  ok : ∀ i ∈ ix, i < ks.length
  len : ix.length + 1 = ps.length
theorem KkM.all {K : PySem.W.Frag} {fd : FuncData} {ps ks : List Str} {ix : List Nat} (h : ∀ (self : Value) (us : List Value), us.length = ks.length → bindArgs fd ⟨[self], ks.zip us⟩ = pure (ps.zip (self :: ix.map fun i => us.getD i .none))) (h2 : ∀ i ∈ ix, i < ks.length) (h3 : ix.length + 1 = ps.length) : KkM K fd ps ks ix :=
  ⟨fun s self us _ hl => .of_eq (h self us hl), h2, h3⟩
/-- the class x, made by keyword -/
structure Fck (G : Gd) (P : Program) (w : World) (mg : Str → Option Value) (base : Heap) (k : Nat) (x : Str) (cid : Nat) (ps ks : List Str) (ix : List Nat) (cf : Nat) (S : FSpec) : Prop where
  ex : ∃ (f : Addr) (fd : FuncData), InitD G P w mg base k f fd ps cf cid S ∧ mg x = some (.ref (G.cl cid)) ∧ Mk G.K (G.cl cid) f ∧ KkM G.K fd ps ks ix
theorem de_makek {j : Nat} {x : Str} {cid : Nat} {ps : List Str} {c cf : Nat} {ks : List Str} {ix : List Nat} {S : FSpec} {kws : List Keyword} {u : DA} {p pos : Pos} (F : Fck G X.prog X.w X.mg X.base j x cid ps ks ix cf S) (xk : Xk G E k X) (ha : DK G E X c kws u) (hj : j + 1 ≤ k := by decide) (hg : Gl X x := by rfl) (hdb : (x == ("__debug__" : Str)) = false := by decide)
    (hall : (backToKw pos (keywordEach kws X.env)).all (·.1.isSome) = true := by rfl) (hks : (backToKw pos (keywordEach kws X.env)).filterMap (·.1) = ks := by rfl)
    (hpl : ((backTo pos (starEach [] X.env)).any (·.1) || (backToKw pos (keywordEach kws X.env)).any (·.1.isNone)) = false := by rfl) : DE G E X (c + cf) (.Call (.Name x p) [] kws pos) (dCallK ks.length ix S u) := by
  obtain ⟨f, fd, hF, hm, M, hb⟩ := F.ex
  rw [← xk.K] at M hb
  have room1 : Room (j + 1) X.A := xk.room.mono hj
  constructor
  intro pins s σ H Q' I h
  obtain ⟨W, hn, Q, ht, kk⟩ := h
  have args := ha.run pos pins s σ H (fun vs H1 => vs.length = ks.length ∧ ∃ (st : Step W c H1) (ds : List D), DenL G W.XB H1 ds (ix.map fun i => vs.getD i .non) ∧ S ds Q W.ex) I ⟨W, by omega, _, ht, fun vs H1 ds st hd ⟨hl, hs⟩ => ⟨by rw [← hd.length]; exact hl, st, _, denL_perm hd fun i hi => by rw [hl]; exact hb.ok i hi, hs⟩⟩
  refine wpAny_Call_Name_kw (ld_glob I hg hm ?_ hdb); refine PySem.W.callWith_KW0 (h₀ := X.base) I.ok.mod.kin M.kp hall (thn args ?_) hpl
  rintro us0 s1 ⟨vs0, H1, I1, r0, hl, st, ds, hd, hs⟩
  refine ⟨I1.kIn, ?_⟩
  rw [hks]
  have r1 := vals_perm r0 (ix := ix) fun i hi => by rw [hl]; exact hb.ok i hi
  have lus : us0.length = ks.length := by rw [← r0.length]; exact hl
  generalize evs : (ix.map fun i => vs0.getD i .non) = vs at *
  generalize eus : (ix.map fun i => us0.getD i Value.none) = us at *
  have hlv : vs.length + 1 = ps.length := by rw [← evs, List.length_map]; exact hb.len
  have f0 : H1 s1.heap.objs.size = none := I1.hok.fresh (Nat.le_refl _)
  have f1 : H1 (s1.heap.objs.size + 1) = none := I1.hok.fresh (Nat.le_succ _)
  have I2 := Inv.made (C := G.cl cid) I1
  have nx : s1.heap.objs.size ≠ s1.heap.objs.size + 1 := Nat.ne_of_lt (Nat.lt_succ_self _)
  have W1 := W.next st
  have bnd : ∀ b o, H1 b = some o → upd (upd H1 s1.heap.objs.size (.own (s1.heap.objs.size + 1))) (s1.heap.objs.size + 1) (.ins (G.cl cid) s1.heap.objs.size []) b = some o := fun b o e => by
    rw [upd_ne (ne_of_none e f1), upd_ne (ne_of_none e f0)]; exact e
  have hs' : liftN G cf cid S (.ref (s1.heap.objs.size + 1) :: vs) (upd (upd H1 s1.heap.objs.size (.own (s1.heap.objs.size + 1))) (s1.heap.objs.size + 1) (.ins (G.cl cid) s1.heap.objs.size [])) (fun v H2 => v = .non ∧ Q' (.ref (s1.heap.objs.size + 1)) H2) E := by
    refine ⟨W.u, W.n - c, W.XB, ds, Q, W.ex, _, s1.heap.objs.size, vs, W.ug, rfl, upd_same, Ne.symm nx, (W.next st).fresh f1, (W.next st).fresh f0, fun p e => ?_, by omega, fun p e => ⟨.inl (W.hu p e).1, .inl (W.hu p e).2⟩, fun a ha z => ?_, ?_, ?_, hs, fun H' xs ds' kp g hx hl2 hd2 hr => ⟨rfl, ?_⟩, fun y C d H' kp g hx hy => ?_⟩
    · have n1 : ¬ W.XB (s1.heap.objs.size + 1) := (W.next st).fresh f1
      have n0 : ¬ W.XB s1.heap.objs.size := (W.next st).fresh f0
      exact ⟨fun z => n1 (by rw [z]; exact .inl (W.hu p e).1), fun z => n1 (by rw [z]; exact .inl (W.hu p e).2), fun z => n0 (by rw [z]; exact .inl (W.hu p e).1), fun z => n0 (by rw [z]; exact .inl (W.hu p e).2)⟩
    · cases q : H1 a with
      | none => exact (W.next st).fresh q ha
      | some o => rw [bnd a o q] at z; cases z
    · refine Good.ext st.good fun b o e _ => bnd b o e
    · refine DenL.keep (fun b o nb e => bnd b o e) (fun b hb => ?_) ds vs hd
      rcases hb with hb | rfl | rfl
      · exact .inl hb
      · exact .inr f1
      · exact .inr f0
    · refine kk _ H' (.ins cid ds') ⟨fun b o e nu => ?_, by rw [Nat.sub_add_eq]; exact g⟩ ⟨_, _, xs, rfl, (W.next st).fresh f1, hx, hl2, hd2⟩ hr
      have e1 := st.ext b o e nu
      exact kp b o (bnd b o e1) (ne_of_none e1 f1) (ne_of_none e1 f0) nu
    · refine W.exc y C d H' (fun b o e nu => ?_) (g.less (by omega)) ?_ hy
      · have e1 := (W.fr.trans st.ext) b o e nu
        exact kp b o (bnd b o e1) (ne_of_none e1 f1) (ne_of_none e1 f0) nu
      · obtain ⟨e1, dd, xs, e2, e3, e4, e5⟩ := hx
        exact ⟨e1, dd, xs, e2, e3, e4, e5.fewer fun b z => .inl z⟩
  have hlen2 : (V.ref (s1.heap.objs.size + 1) :: vs).length = ps.length := by rw [List.length_cons]; exact hlv
  refine wpAny_call (make_map (f := f) I1.kIn M.makes M.init (beq_iff_eq.mp M.fn) (codeAny_mono (hF.run _ X.stack _ _ ⟨[.ref (s1.heap.objs.size + 1)], ks.zip us0⟩ (.ref (s1.heap.objs.size + 1) :: us) (.ref (s1.heap.objs.size + 1) :: vs) _ E (room1.make (G.cl cid) [] (ks.zip us0)) (guards_make.trans xk.gd) (by rw [← xk.K]; exact I2.env0.make (G.cl cid) [] (ks.zip us0)) ?_ (.cons rfl r1) hlen2 hs') ?_))
  · have z := hb.to { s1 with heap := (s1.heap.push PySem.W.emptyDict).push (PySem.W.instObj (G.cl cid) s1.heap.objs.size) } (.ref (s1.heap.objs.size + 1)) us0 I2.kIn lus
    rw [eus] at z
    exact z
  · intro r s' hq
    cases r with
    | error e => exact xk.pass pins σ _ _ e s' I2 hq
    | ok fl =>
      cases fl with
      | ret u =>
        obtain ⟨v, H', I3, rv, ev, q3⟩ := I2.after hq
        subst ev
        exact ⟨rv, ⟨V.ref (s1.heap.objs.size + 1), H', I3, rfl, q3⟩⟩
      | next => exact hq.elim
      | brk => exact hq.elim
      | cont => exact hq.elim
/-- a method, called by keyword -/
structure Fmk (G : Gd) (P : Program) (w : World) (mg : Str → Option Value) (base : Heap) (k : Nat) (c : Nat) (m : Str) (ps ks : List Str) (ix : List Nat) (cf : Nat) (S : FSpec) : Prop where
  ex : ∃ (f : Addr) (fd : FuncData), FnD G P w mg base k f fd ps cf S ∧ Meth G.K (G.cl c) m f ∧ Cls G.K (G.cl c) ∧ KkM G.K fd ps ks ix ∧ m ∉ G.fl c
def dMethK (c n : Nat) (ix : List Nat) (S : FSpec) (te : DT) (u : DA) : DT := fun ex env Q => te ex env fun d => ∃ ds, d = .ins c ds ∧ u ex env fun as => as.length = n ∧ S (.ins c ds :: ix.map fun i => as.getD i .non) Q ex
theorem de_methk {j c ce ca cf : Nat} {m : Str} {ps ks : List Str} {ix : List Nat} {S : FSpec} {o : Expr} {kws : List Keyword} {te : DT} {u : DA} {pos apos : Pos} {pl : Sem Bool} (F : Fmk G X.prog X.w X.mg X.base j c m ps ks ix cf S) (xk : Xk G E k X) (ho : DE G E X ce o te) (ha : DK G E X ca kws u) (hj : j ≤ k := by decide)
    (hall : (backToKw pos (keywordEach kws X.env)).all (·.1.isSome) = true := by rfl) (hks : (backToKw pos (keywordEach kws X.env)).filterMap (·.1) = ks := by rfl)
    (hpl : ((backTo pos (starEach [] X.env)).any (·.1) || (backToKw pos (keywordEach kws X.env)).any (·.1.isNone)) = false := by rfl)
    (ht : eval (.Call (.Attribute o m apos) [] kws pos) X.env = (do
        let ov ← eval o X.env
        standAt apos.atName
        let (f, first) ← holding
          [ov] (getMethod ov m pl)
        callWith pos f first (backTo pos (starEach [] X.env)) (backToKw pos (keywordEach kws X.env))) := by rfl) : DE G E X (ce + ca + cf) (.Call (.Attribute o m apos) [] kws pos) (dMethK c ks.length ix S te u) := by
  obtain ⟨f, fd, hF0, hM, hC, hb, hmf⟩ := F.ex
  have hF := hF0.mono hj
  rw [← xk.K] at hM hC hb
  constructor
  intro pins s σ H Q' I h
  obtain ⟨W, hn, Q, hte, kk⟩ := h
  have recv := ho.run pins s σ H (fun x H1 => ∃ a, x = .ref a ∧ ∃ dx fs, H1 a = some (.ins (G.cl c) dx fs) ∧ fs.lookup m = none ∧ liftA G E ca u σ H1 fun vs H2 => vs.length = ks.length ∧ liftF G cf S (.ref a :: ix.map fun i => vs.getD i .non) H2 Q' E) I
    ⟨W, by omega, _, hte, fun v H1 d st hd ⟨ds, e1, hu⟩ => by
      subst e1
      have hd0 := hd
      obtain ⟨a, dx, xs, rfl, na, hat, hl, hds⟩ := hd
      refine ⟨a, rfl, dx, _, hat, zip_none hmf, W.next st, by show W.m + ca ≤ W.n - ce; omega, _, hu, fun vs H2 as st2 has ⟨hlen, hs⟩ => ⟨by rw [← has.length]; exact hlen, ?_⟩⟩
      exact lift_callee1 st st2 hn hd0 (denL_perm has fun i hi => by rw [hlen]; exact hb.ok i hi) hs kk⟩
  refine PySem.W.methodCall_KW (pl := pl) (thn recv ?_) ht
  rintro uv s1 ⟨x, H1, I1, rx, a, rfl, dx, fs, hat, hlk, q⟩
  cases rx
  refine getmeth_ok I1 hat hC hM hlk ?_
  refine PySem.W.callWith_KW0 (first := [.ref a]) (h₀ := X.base) I.ok.mod.kin hM.kp hall (thn (ha.run pos pins s1 σ H1 _ I1 q) ?_) hpl
  rintro us s2 ⟨vs, H2, I2, r2, hl, q2⟩
  refine ⟨I2.kIn, ?_⟩
  rw [hks]
  refine wpAny_call ?_
  have rp := vals_perm r2 (ix := ix) fun i hi => by rw [hl]; exact hb.ok i hi
  exact run_fnd (hK := xk.K) (us := .ref a :: ix.map fun i => us.getD i .none) (vs := .ref a :: ix.map fun i => vs.getD i .non) hF xk.room xk.gd xk.pass I2 (.cons rfl rp) (by rw [List.length_cons, List.length_map]; exact hb.len) _ (hb.to s2 (.ref a) us I2.kIn (by rw [← r2.length]; exact hl)) q2
/-! ### C.m(k = v, ..), m a static method -/
structure Fsk (G : Gd) (P : Program) (w : World) (mg : Str → Option Value) (base : Heap) (k : Nat) (x : Str) (c : Nat) (m : Str) (ps ks : List Str) (ix : List Nat) (cf : Nat) (S : FSpec) : Prop where
  ex : ∃ (f p : Addr) (fd : FuncData) (mc : Value), FnD G P w mg base k f fd ps cf S ∧ mg x = some (.ref (G.cl c)) ∧ ClX.CRead G.K (G.cl c) mc ∧ PySem.W.findCls G.K (.ref (G.cl c)) mc m = some (.get (.builtin "staticmethod.__get__") (.ref p) .none (.ref (G.cl c))) ∧
    (∃ rest, PySem.W.recIn G.K p "staticmethod" = some (.ref f :: rest)) ∧ PySem.W.handedIn (.ref f) = true ∧ PySem.W.keepIn G.K (.ref f) = true ∧ Kk G.K fd ps ks ix
theorem getsm_ok {pins : List (Addr × Obj)} {s : Shared} {A : Around} {C p f : Addr} {m : Str} {mc : Value} {rest : List Value} {pl : Sem Bool} {Er : Value → Shared → Prop} {Q : Value × List Value → Shared → Prop} (I : Inv X pins σ H s) (r : ClX.CRead X.K C mc)
    (hat : PySem.W.findCls X.K (.ref C) mc m = some (.get (.builtin "staticmethod.__get__") (.ref p) .none (.ref C))) (hp : PySem.W.recIn X.K p "staticmethod" = some (.ref f :: rest)) (hh : PySem.W.handedIn (.ref f) = true) (h : ∀ s', Inv X pins σ H s' → Q (.ref f, []) s') :
    wpAny (model X.prog X.w) A (getMethod (.ref C) m pl) Q Er s := by
  refine PySem.W.method_cls I.kIn r.ga (PySem.W.cls_bind I.kIn r.rd hat ?_)
  exact wpAny_call (PySem.W.sm_get (s := { s with toks := s.toks + 1 }) I.kIn hp (PySem.W.handed_on hh (h _ (I.tok _))))
theorem de_statk {j c ca cf : Nat} {x m : Str} {ps ks : List Str} {ix : List Nat} {S : FSpec} {kws : List Keyword} {u : DA} {p pos apos : Pos} {pl : Sem Bool} (F : Fsk G X.prog X.w X.mg X.base j x c m ps ks ix cf S) (xk : Xk G E k X) (ha : DK G E X ca kws u) (hj : j ≤ k := by decide) (hg : Gl X x := by rfl) (hdb : (x == ("__debug__" : Str)) = false := by decide)
    (hall : (backToKw pos (keywordEach kws X.env)).all (·.1.isSome) = true := by rfl) (hks : (backToKw pos (keywordEach kws X.env)).filterMap (·.1) = ks := by rfl)
    (hpl : ((backTo pos (starEach [] X.env)).any (·.1) || (backToKw pos (keywordEach kws X.env)).any (·.1.isNone)) = false := by rfl)
    (ht : eval (.Call (.Attribute (.Name x p) m apos) [] kws pos) X.env = (do
        let ov ← eval (.Name x p) X.env
        standAt apos.atName
        let (f, first) ← holding
          [ov] (getMethod ov m pl)
        callWith pos f first (backTo pos (starEach [] X.env)) (backToKw pos (keywordEach kws X.env))) := by rfl) : DE G E X (ca + cf) (.Call (.Attribute (.Name x p) m apos) [] kws pos) (dCallK ks.length ix S u) := by
  obtain ⟨f, q, fd, mc, hF0, hm, hr, hat, ⟨rest, hp⟩, hh, hk, hb⟩ := F.ex
  have hF := hF0.mono hj
  rw [← xk.K] at hr hat hp hk hb
  constructor
  intro pins s σ H Q' I h
  obtain ⟨W, hn, Q, ht', kk⟩ := h
  refine PySem.W.methodCall_KW (pl := pl) (ld_glob I hg hm ?_ hdb) ht
  refine getsm_ok I hr hat hp hh fun s' I' => ?_
  have args := ha.run pos pins s' σ H (fun vs H1 => vs.length = ks.length ∧ liftF G cf S (ix.map fun i => vs.getD i .non) H1 Q' E) I' ⟨W, by omega, _, ht', fun vs H1 ds st hd ⟨hl, hs⟩ => ⟨by rw [← hd.length]; exact hl, lift_callee st hn (denL_perm hd fun i hi => by rw [hl]; exact hb.ok i hi) hs kk⟩⟩
  refine PySem.W.callWith_KW0 (h₀ := X.base) I.ok.mod.kin hk hall (thn args fun us s1 ⟨vs, H1, I1, r1, hl, q1⟩ => ⟨I1.kIn, ?_⟩) hpl
  rw [hks]
  refine wpAny_call ?_
  exact run_fnd (hK := xk.K) hF xk.room xk.gd xk.pass I1 (vals_perm r1 fun i hi => by rw [hl]; exact hb.ok i hi) (by rw [List.length_map]; exact hb.len) _ (hb.to s1 us I1.kIn (by rw [← r1.length]; exact hl)) q1
end
end Kn

set_option Elab.async false
set_option linter.all false
set_option maxRecDepth 100000
set_option maxHeartbeats 2100000
/-! == and != of a thing with its own ==, whatever stands on the right -/
namespace NeX
open PySem
open PySem.W PyProof.Rows
section
variable {prog : Program} {w : World} {M : Model} {A : Around} {E : Value → Shared → Prop} {s : Shared} {K : Frag} {x C f L : Addr} {ox : Obj} {od : Option Obj} {b tb : Value} {h₀ : Heap} {m : Str → Option Value}
theorem bound_b {name : Str} {id : String} {args : List Value} {Q : Option Value → Shared → Prop} (X : K.In s.heap) (I : InstAt s.heap x ox C od) (hs : findIn K (.ref C) name = some (some (.builtin id))) (hb : ∀ self, bindSpecial (.builtin id) self = pure (.builtin id, [self]))
    (h : wpAny M A (call (.builtin id) (.ref x :: args)) (fun v => Q (some v)) E s) : wpAny M A (callSpecialIfBound? (.ref x) name args) Q E s := by
  simp only [callSpecialIfBound?, bindSpecialIfBound?]; refine wpAny_holding (wpAny_bind (wpAny_bind (wpAny_bind (I.type.here ((looks_findIn X hs).here ?_)))))
  refine wpAny_bind (wpAny_askSetting (wpAny_ite ?_)); have fin : wpAny M A (call (.builtin id) ([.ref x] ++ args) >>= fun v => pure (some v)) Q E s := wpAny_bind (wpAny_mono h (fun v s' h' => wpAny_pure h') fun _ _ h' => h')
  split
  · exact wpAny_bind ((Looks.of_pure (hb _)).here (wpAny_pure (by exact fin)))
  · exact wpAny_tryCatch (wpAny_bind ((Looks.of_pure (hb _)).here (wpAny_pure (by exact fin))))
theorem obj_ne {Q : Value → Shared → Prop} (hu : A.in1.units < cLine) (X : K.In s.heap) (I : InstAt s.heap x ox C od) (hm : mroIn K C (.type "object") = some true) (hs : findIn K (.ref C) "__eq__" = some (some (.ref f))) (hf : isFn K (.ref f) = true)
    (h : wpAny (model prog w) A.in1 (call (.ref f) [.ref x, b]) (fun v s' => ∃ c, v = .bool c ∧ Q (.bool (!c)) s') E s) : wpAny (model prog w) A (call (.builtin "object.__ne__") [.ref x, b]) Q E s := by
  refine wpAny_call (codeAny_call_builtin PySem.F.cmp_object.ne.plain PySem.F.cmpEntry_ne (check_slot (i := "object.__ne__") (owner := "object") (n := "__ne__") PySem.F.cmpKind_ne PySem.F.cmpSplit_ne (I.type.andThen (looks_mroIn X hm)) (PySem.F.cmpArgs_ne _ _) ?_))
  unfold Builtin.«object.__ne__»; refine wpAny_bind (m := slotArgs "__ne__" 1 _) (wpAny_pure ?_)
  refine wpAny_bind (m := cRoomFor _ _) (wpAny_cRoomFor hu ?_); refine wpAny_bind (m := callSpecialIfBound? (.ref x) (Str.ofString "__eq__") _) (ifBound_K X I hs hf (wpAny_mono h (fun r s' hq => ?_) fun _ _ y => y))
  obtain ⟨c, rfl, hq⟩ := hq
  exact wpAny_bind (m := truthy (.bool c)) (wpAny_truthy_bool (wpAny_pure hq))
theorem ne_K {Q : Value → Shared → Prop} (hu : A.in1.units < cLine) (hu0 : A.units < cLine) (F : Fr h₀ L s.heap m) (X₀ : K.In h₀) (I : InstAt s.heap x ox C od) (hb : Looks (model prog w) s.heap (typeOf b) tb) (hn : notFirst K C tb = true)
    (hm : mroIn K C (.type "object") = some true) (hne : findIn K (.ref C) "__ne__" = some (some (.builtin "object.__ne__"))) (hs : findIn K (.ref C) "__eq__" = some (some (.ref f))) (hf : isFn K (.ref f) = true)
    (h : wpAny (model prog w) A.in1 (call (.ref f) [.ref x, b]) (fun v s' => ∃ c, v = .bool c ∧ Q (.bool (!c)) s') E s) : wpAny (model prog w) A (richCompare .NotEq (.ref x) b) Q E s := by
  have X := X₀.keeps F.keep
  have one : wpAny (model prog w) A (tryCompare (.ref x) "__ne__" b) (fun r s' => ∃ v, r = some v ∧ Q v s') E s := by
    unfold tryCompare
    refine wpAny_bind (bound_b X I hne PySem.F.cmp_object.ne.bind (obj_ne hu X I hm hs hf (wpAny_mono h (fun v s' hv => ?_) fun _ _ e => e)))
    obtain ⟨c, rfl, hq⟩ := hv
    exact ⟨c, rfl, wpAny_pure ⟨_, rfl, hq⟩⟩
  unfold richCompare
  simp only [oneThing_ref]
  refine wpAny_holding (wpAny_bind (wpAny_cRoomFor hu0 ?_)); refine wpAny_bind (I.type.here (wpAny_bind (hb.here ?_)))
  split
  · rename_i q
    have e : subIn K tb (.ref
          C) = some false := by
      rcases Bool.or_eq_true_iff.mp
            hn with e | e
      · rw [beq_iff_eq.mp
            e] at q; simp at q
      · exact beq_iff_eq.mp e
    refine wpAny_bind ((looks_subIn X e).here ?_); simp only [Bool.false_eq_true, if_false]
    refine wpAny_bind (wpAny_mono one (fun r s' z => ?_) fun _ _ e => e); obtain ⟨v, rfl, hq⟩ := z
    exact wpAny_pure hq
  · refine wpAny_bind
        (wpAny_pure ?_)
    simp only [Bool.false_eq_true, if_false]; refine wpAny_bind (wpAny_mono one (fun r s' z => ?_) fun _ _ e => e)
    obtain ⟨v, rfl, hq⟩ := z
    exact wpAny_pure hq
end
end NeX

set_option Elab.async false
set_option linter.all false
set_option maxRecDepth 100000
set_option maxHeartbeats 2100000
namespace Kn
open PySem L2 RZ
open PyProof.Rows (envOfC)
section
variable {G : Gd} {E : XK} {X : Cx} {σ : List (Option V)} {H H' : Hp} {k : Nat}
/-- what may stand on the right of == and != -/
def tyOk (c : Nat) (e : D) : Prop := (∃ es, e = .ins c es) ∨ (∃ es, e = .tup es) ∨ ∃ x, e = .str x
theorem not_first_tup {K : PySem.W.Frag} {C : Addr} : PySem.W.notFirst K C (.type "tuple") = true := by
  unfold PySem.W.notFirst
  rw [show PySem.W.subIn K (.type "tuple") (.ref C) = some false by unfold PySem.W.subIn; rfl]
  simp
theorem not_first_str {K : PySem.W.Frag} {C : Addr} : PySem.W.notFirst K C (.type "str") = true := by
  unfold PySem.W.notFirst
  rw [show PySem.W.subIn K (.type "str") (.ref C) = some false by unfold PySem.W.subIn; rfl]
  simp
theorem den_type {pins : List (Addr × Obj)} {s : Shared} {B : Addr → Prop} {c : Nat} {e : D} {v : V} {u : Value} (ok : tyOk c e) (I : Inv X pins σ H s) (hK : X.K = G.K) (he : Den G B H e v) (r : L2.RelV v u) :
    ∃ tb, PySem.W.Looks (model X.prog X.w) s.heap (typeOf u) tb ∧ PySem.W.notFirst X.K (G.cl c) tb = true := by
  rcases ok with ⟨es, rfl⟩ | ⟨es, rfl⟩ | ⟨x, rfl⟩
  · obtain ⟨a, dx, xs, rfl, na, ha, la, da⟩ := he
    cases r
    obtain ⟨mA, J, _⟩ := ins_get I.hok ha; obtain ⟨od, J, _⟩ := J.look
    exact ⟨_, J.type, by simp [PySem.W.notFirst]⟩
  · obtain ⟨a, xs, rfl, na, ha, la, da⟩ := he
    cases r
    obtain ⟨its, _, ⟨o, ho, hc, _⟩, _⟩ := I.tuple (by rw [hK]; exact ha)
    exact ⟨.type "tuple", hc ▸ (PySem.W.Looks.ld ho).andThen .now, not_first_tup⟩
  · cases he
    obtain ⟨t, rfl⟩ := r
    exact ⟨.type "str", PySem.W.Looks.of_pure rfl, not_first_str⟩
structure Fqn (G : Gd) (P : Program) (w : World) (mg : Str → Option Value) (base : Heap) (k : Nat) (c : Nat) (cf : Nat) (S : FSpec) : Prop where
  ex : ∃ (f : Addr) (fd : FuncData) (ps : List Str), FnD G P w mg base k f fd ps cf S ∧ PySem.W.findIn G.K (.ref (G.cl c)) "__eq__" = some (some (.ref f)) ∧ PySem.W.isFn G.K (.ref f) = true ∧ Binds G.K fd ps [] ∧ ps.length = 2 ∧
    PySem.W.mroIn G.K (G.cl c) (.type "object") = some true ∧ PySem.W.findIn G.K (.ref (G.cl c)) "__ne__" = some (some (.builtin "object.__ne__"))
def rCmpI (neg : Bool) (G : Gd) (E : XK) (c cf : Nat) (S : FSpec) : R2 := fun x y H Q' => ∃ a dx fs B e, x = .ref a ∧ H a = some (.ins (G.cl c) dx fs) ∧ tyOk c e ∧ Den G B H e y ∧ liftF G cf S [.ref a, y] H (fun v H' => ∃ b, v = .bl b ∧ Q' (.bl (if neg then !b else b)) H') E
theorem run_own {j cf : Nat} {S : FSpec} {pins : List (Addr × Obj)} {s : Shared} {f a : Addr} {fd : FuncData} {ps : List Str} {y : V} {u : Value} {Q : Value → Shared → Prop} {Q' : VK} {A : Around} (hF : FnD G X.prog X.w X.mg X.base j f fd ps cf S) (xk : Xk G E k X) (rm : Room j A) (hfr : A.frames = X.A.frames) (hgd : A.guards = some []) (hbd : Binds X.K fd ps []) (hp2 : ps.length = 2)
    (I : Inv X pins σ H s) (ry : L2.RelV y u) (hl : liftF G cf S [.ref a, y] H Q' E) (hq : ∀ v s', EP X pins σ Q' v s' → Q v s') : wpAny (model X.prog X.w) A (call (.ref f) [.ref a, u]) Q X.xe s := by
  have e0 : Env0 X.prog X.w G.K X.mg X.base A X.stack s H := by
    have e := I.env0
    rw [← xk.K]
    exact ⟨by rw [hfr]; exact e.frames, e.mod, e.bs, e.bsz, e.funs, e.frf, e.hok, e.bare⟩
  have hb : BindsTo s fd ⟨[.ref a, u], []⟩ (ps.zip [.ref a, u]) := by
    have z := hbd s [.ref a, u] I.kIn (by rw [List.append_nil]; exact hp2.symm)
    rw [List.append_nil] at z
    exact z
  refine wpAny_call (codeAny_mono (hF.run A X.stack s H ⟨[.ref a, u], []⟩ [.ref a, u] [.ref a, y] _ E rm hgd e0 hb (.cons rfl (.cons ry .nil)) hp2.symm hl) fun r s' h => ?_)
  cases r with
  | error e => exact xk.pass pins σ H s e s' I h
  | ok fl =>
    cases fl with
    | ret u => exact hq u s' (I.after h)
    | next => exact h.elim
    | brk => exact h.elim
    | cont => exact h.elim
theorem op_eqO {j c cf : Nat} {S : FSpec} (F : Fqn G X.prog X.w X.mg X.base j c cf S) (xk : Xk G E k X) (hj : j ≤ k := by decide) : OpR X (compareOp .Eq) (rCmpI false G E c cf S) := by
  intro pins s σ H x y v u Q I rx ry h; obtain ⟨a, dx, fs, B, e, rfl, ha, ok, he, hl⟩ := h
  obtain ⟨f, fd, ps, hF0, hs, hf, hbd, hp2, hm, hne⟩ := F.ex
  obtain ⟨tb, ht, hnf⟩ := den_type ok I xk.K he ry
  rw [← xk.K] at hs hf hbd hm hne
  cases rx
  obtain ⟨mA, J, _⟩ := ins_get I.hok ha; obtain ⟨od, J, _⟩ := J.look; obtain ⟨m, hFr⟩ := I.fr
  refine (?_ : wpAny (model X.prog X.w) X.A (richCompare .Eq (.ref a) u) (EP X pins σ Q) X.xe s)
  refine PySem.W.cmp_K (op := .Eq) (tb := tb) xk.room.units0 hFr I.ok.mod.kin J ht hnf hs hf (run_own hF0 xk (xk.room.mono hj) rfl xk.gd hbd hp2 I ry hl fun w s' z => ?_)
  obtain ⟨z', H', I', rz, b, eb, qz⟩ := z
  subst eb
  exact SlX.cmpback rz ⟨.bl b, H', I', rz, qz⟩
theorem op_neO {j c cf : Nat} {S : FSpec} (F : Fqn G X.prog X.w X.mg X.base j c cf S) (xk : Xk G E k X) (hj : j + 1 ≤ k := by decide) : OpR X (compareOp .NotEq) (rCmpI true G E c cf S) := by
  intro pins s σ H x y v u Q I rx ry h; obtain ⟨a, dx, fs, B, e, rfl, ha, ok, he, hl⟩ := h
  obtain ⟨f, fd, ps, hF0, hs, hf, hbd, hp2, hm, hne⟩ := F.ex
  obtain ⟨tb, ht, hnf⟩ := den_type ok I xk.K he ry
  rw [← xk.K] at hs hf hbd hm hne
  cases rx
  obtain ⟨mA, J, _⟩ := ins_get I.hok ha; obtain ⟨od, J, _⟩ := J.look; obtain ⟨m, hFr⟩ := I.fr
  refine (?_ : wpAny (model X.prog X.w) X.A (richCompare .NotEq (.ref a) u) (EP X pins σ Q) X.xe s)
  refine NeX.ne_K (tb := tb) (by have := xk.room.un; show X.A.units + 1 < cLine; omega) (by have := xk.room.un; omega) hFr I.ok.mod.kin J ht hnf hm hne hs hf (run_own hF0 xk (Room.in1 (xk.room.mono hj)) rfl xk.gd hbd hp2 I ry hl fun w s' z => ?_)
  obtain ⟨z', H', I', rz, b, eb, qz⟩ := z
  subst eb
  cases rz
  exact ⟨b, rfl, .bl (!b), H', I', rfl, qz⟩
def dCmpI (neg : Bool) (c : Nat) (S : FSpec) (ta tb : DT) : DT := fun ex env Q => ta ex env fun d => tb ex env fun e => ∃ ds, d = .ins c ds ∧ tyOk c e ∧ S [d, e] (fun r => ∃ b, r = .bl b ∧ Q (.bl (if neg then !b else b))) ex
theorem lift_cmpI {neg : Bool} {ca cb cf c : Nat} {S : FSpec} {ta tb : DT} {Q' : VK} (h : lift G E (ca + cb + cf) (dCmpI neg c S ta tb) σ H Q') : tOp (rCmpI neg G E c cf S) (lift G E ca ta) (lift G E cb tb) σ H Q' := by
  obtain ⟨W, hn, Q, ht, kk⟩ := h
  refine ⟨W, by omega, _, ht, fun v H1 d st hd hq => ⟨W.next st, by show W.m + cb ≤ W.n - ca; omega, _, hq, fun v2 H2 e st2 he ⟨ds, e1, ok, hs⟩ => ?_⟩⟩
  subst e1
  have hd2 : Den G W.XB H2 (.ins c ds) v := (W.next st).den st2 hd
  have he2 : Den G W.XB H2 e v2 := he
  obtain ⟨a, dx, xs, rfl, na, ha, la, da⟩ := id hd2
  refine ⟨a, dx, _, W.XB, e, rfl, ha, ok, he2, lift_callee (st.trans st2) hn (ds := [.ins c ds, e]) ⟨_, _, rfl, hd2, _, _, rfl, he2, rfl⟩ hs fun v H' d st3 hd3 ⟨bb, eb, hq3⟩ => ?_⟩
  subst eb
  cases hd3
  exact ⟨bb, rfl, kk _ H' (.bl _) st3 (den_bl _) hq3⟩
theorem de_eqO {a b : Expr} {pos : Pos} {j c ca cb cf : Nat} {S : FSpec} {ta tb : DT} (F : Fqn G X.prog X.w X.mg X.base j c cf S) (xk : Xk G E k X) (ha : DE G E X ca a ta) (hb : DE G E X cb b tb) (hm : behindInMarks .Eq b = false) (hj : j ≤ k := by decide) : DE G E X (ca + cb + cf) (.Compare a [.Eq] [b] pos) (dCmpI false c S ta tb) :=
  imp (pe_cmpR (op_eqO F xk hj) ha hb hm) fun _ _ _ h => lift_cmpI h
theorem de_neO {a b : Expr} {pos : Pos} {j c ca cb cf : Nat} {S : FSpec} {ta tb : DT} (F : Fqn G X.prog X.w X.mg X.base j c cf S) (xk : Xk G E k X) (ha : DE G E X ca a ta) (hb : DE G E X cb b tb) (hm : behindInMarks .NotEq b = false) (hj : j + 1 ≤ k := by decide) : DE G E X (ca + cb + cf) (.Compare a [.NotEq] [b] pos) (dCmpI true c S ta tb) :=
  imp (pe_cmpR (op_neO F xk hj) ha hb hm) fun _ _ _ h => lift_cmpI h
theorem dt_eqO {a b : Expr} {pos : Pos} {j c ca cb cf : Nat} {S : FSpec} {ta tb : DT} (F : Fqn G X.prog X.w X.mg X.base j c cf S) (xk : Xk G E k X) (ha : DE G E X ca a ta) (hb : DE G E X cb b tb) (hm : behindInMarks .Eq b = false) (hj : j ≤ k := by decide) : DPt G E X (ca + cb + cf) (.Compare a [.Eq] [b] pos) (dTrue (dCmpI false c S ta tb)) :=
  impT (pt_cmpR (op_eqO F xk hj) ha hb hm) fun _ _ _ h => lift_cmpI (lift_true h)
theorem dt_neO {a b : Expr} {pos : Pos} {j c ca cb cf : Nat} {S : FSpec} {ta tb : DT} (F : Fqn G X.prog X.w X.mg X.base j c cf S) (xk : Xk G E k X) (ha : DE G E X ca a ta) (hb : DE G E X cb b tb) (hm : behindInMarks .NotEq b = false) (hj : j + 1 ≤ k := by decide) : DPt G E X (ca + cb + cf) (.Compare a [.NotEq] [b] pos) (dTrue (dCmpI true c S ta tb)) :=
  impT (pt_cmpR (op_neO F xk hj) ha hb hm) fun _ _ _ h => lift_cmpI (lift_true h)
end
end Kn

set_option Elab.async false
set_option linter.all false
set_option maxRecDepth 100000
set_option maxHeartbeats 2100000
namespace Kn
open PySem L2 RZ
open PyProof.Rows (envOfC)
section
variable {G : Gd} {E : XK} {X : Cx} {σ : List (Option V)} {H H' : Hp} {k : Nat}
/-! ### type(x) is C, x whatever -/
def gTypeA : D → (D → Prop) → Prop := fun d Q => (∃ c ds, d = .ins c ds ∧ Q (.opq (.ref (G.cl c)))) ∨ (∃ ds, d = .tup ds ∧ Q (.opq (.ty "tuple"))) ∨ (∃ x, d = .str x ∧ Q (.opq (.ty "str")))
theorem c_typeA (hK : X.K = G.K) : CallR X (.type "type") (rDL G (g1 (gTypeA (G := G)))) := by
  intro pins s σ H vs us Q' I r h
  obtain ⟨B, d, x, Q, rfl, hd, hf, hg, kk⟩ := rDL1 h
  rcases hg with ⟨c, ds, rfl, hq⟩ | ⟨ds, rfl, hq⟩ | ⟨y, rfl, hq⟩
  · obtain ⟨a, dx, ys, rfl, na, ha, la, da⟩ := hd
    exact cr_type pins s σ H _ us Q' I r ⟨a, _, dx, _, rfl, ha, kk _ H (.opq (.ref (G.cl c))) (Ext.refl _ _) (den_opq _) hq⟩
  · obtain ⟨a, ys, rfl, na, ha, la, da⟩ := hd
    rw [Vals.ref1 r]
    obtain ⟨its, _, ⟨o, ho, hc, _⟩, _⟩ := I.tuple (by rw [hK]; exact ha)
    exact PySem.W.kto_cont (T := "tuple") ⟨o, ho, hc⟩ (by decide +kernel) ⟨.ty "tuple", H, I, rfl, kk _ H (.opq (.ty "tuple")) (Ext.refl _ _) (den_opq _) hq⟩
  · cases hd
    cases r with
    | cons r1 rs =>
      cases rs
      obtain ⟨t, rfl⟩ := r1
      exact call_type_of (typeIs_str _ _ _) (by decide +kernel) ⟨.ty "str", H, I, rfl, kk _ H (.opq (.ty "str")) (Ext.refl _ _) (den_opq _) hq⟩
def gIsA (f : Bool → Bool) : G2 := fun d e Q => (∃ a, d = .opq (.ref a) ∧ e = .opq (.ref a) ∧ Q (.bl (f true))) ∨ ∃ n a, d = .opq (.ty n) ∧ e = .opq (.ref a) ∧ Q (.bl (f false))
theorem o_isA : OpR X (compareOp .Is) (rD G (gIsA id)) := by
  intro pins s σ H x y v u Q' I rx ry h
  obtain ⟨B, d, e, Q, hd, he, _, hg, kk⟩ := h
  rcases hg with ⟨a, rfl, rfl, hq⟩ | ⟨n, a, rfl, rfl, hq⟩
  · cases hd; cases he
    exact op_is_cls pins s σ H _ _ v u Q' I rx ry ⟨a, a, rfl, rfl, .inl rfl, kk _ H (.bl true) (Ext.refl _ _) (by rw [decide_eq_true rfl]; exact den_bl _) hq⟩
  · cases hd; cases he
    cases rx; cases ry
    exact wpAny_is_other rfl (fun z => by cases z) ⟨.bl false, H, I, rfl, kk _ H (.bl false) (Ext.refl _ _) (den_bl _) hq⟩
theorem o_isnA : OpR X (compareOp .IsNot) (rD G (gIsA not)) := by
  intro pins s σ H x y v u Q' I rx ry h
  obtain ⟨B, d, e, Q, hd, he, _, hg, kk⟩ := h
  rcases hg with ⟨a, rfl, rfl, hq⟩ | ⟨n, a, rfl, rfl, hq⟩
  · cases hd; cases he
    exact op_isnot_cls pins s σ H _ _ v u Q' I rx ry ⟨a, a, rfl, rfl, .inl rfl, kk _ H (.bl false) (Ext.refl _ _) (by rw [decide_eq_true rfl]; exact den_bl _) hq⟩
  · cases hd; cases he
    cases rx; cases ry
    exact wpAny_isNot_other rfl (fun z => by cases z) ⟨.bl true, H, I, rfl, kk _ H (.bl true) (Ext.refl _ _) (den_bl _) hq⟩
/-! ### three names of a list of three -/
def tgThreeL (i j l : Nat) : DG := fun d env Q => ∃ a b c, d = .lst [a, b, c] ∧ Q (((env.set i (.val a)).set j (.val b)).set l (.val c))
theorem denL3 {B : Addr → Prop} {H : Hp} {d e f : D} {xs : List V} (h : DenL G B H [d, e, f] xs) : ∃ x y z, xs = [x, y, z] ∧ Den G B H d x ∧ Den G B H e y ∧ Den G B H f z := by
  obtain ⟨x, r, rfl, h1, h2⟩ := h
  obtain ⟨y, z, rfl, h3, h4⟩ := denL2 h2
  exact ⟨x, y, z, rfl, h1, h3, h4⟩
theorem dg_threeL {i j l : Nat} {x y z : Str} {pos p1 p2 p3 : Pos} {k : Nat} (hc : X.calm = true) (h1 : PG X (.Name x p1) (gName i)) (h2 : PG X (.Name y p2) (gName j)) (h3 : PG X (.Name z p3) (gName l)) : DTg G E X (.Tuple [.Name x p1, .Name y p2, .Name z p3] k pos) [i, j, l] (tgThreeL i j l) :=
  impG (pg_lst (n := 3) hc (pgs_cons h1 (pgs_cons h2 (pgs_cons h3 pgs_nil)))) fun v σ H Q' h => by
    obtain ⟨W, d, Q, hd, ⟨a, b, c, rfl, ht⟩, kk⟩ := h
    obtain ⟨p, xs, rfl, np, hp, lp, dl⟩ := hd
    obtain ⟨u, w, q, rfl, hu, hw, hq⟩ := denL3 dl
    refine ⟨p, [u, w, q], rfl, SqL.of hp, rfl, u, [w, q], rfl, w, [q], rfl, q, [], rfl, rfl, ?_⟩
    have hu' : Den G W.XB H a u := hu
    have hw' : Den G (W.put i hu').XB H b w := hw.fewer fun b hb => xb_val W.len hb
    have hq' : Den G ((W.put i hu').put j hw').XB H c q := hq.fewer fun b hb => xb_val W.len (xb_val (W.put i hu').len hb)
    exact kk _ (((W.put i hu').put j hw').put l hq') ⟨(((Later.put W i hu').trans (Later.put _ j hw')).trans (Later.put _ l hq')).more (by omega), rfl⟩ ⟨(fun m hm => by
      rw [List.getElem?_set_ne (fun z => hm (by rw [← z]; simp)), List.getElem?_set_ne (fun z => hm (by rw [← z]; simp)), List.getElem?_set_ne (fun z => hm (by rw [← z]; simp))]), by rw [List.length_set, List.length_set, List.length_set]⟩ ht
/-! ### max of a list of ints -/
def gMaxL : D → (D → Prop) → Prop := fun d Q => ∃ ns : List Int, d = .lst (ns.map D.int) ∧ 0 < ns.length ∧ ∀ m, m ∈ ns → (∀ y, y ∈ ns → y ≤ m) → Q (.int m)
theorem c_maxL (hc : X.calm = true) : CallR X (.builtin "max") (rDL G (g1 gMaxL)) := callr_imp (cr_max hc) fun xs H Q' h => by
  obtain ⟨B, d, x, Q, rfl, hd, hf, ⟨ns, rfl, hl, hq⟩, kk⟩ := rDL1 h
  obtain ⟨a, ys, rfl, na, ha, la, da⟩ := hd
  rw [da.ints] at ha
  exact ⟨a, ns, rfl, SqL.of ha, hl, fun m h1 h2 => kk _ H (.int m) (Ext.refl _ _) (den_int _) (hq m h1 h2)⟩
end
end Kn

set_option Elab.async false
set_option linter.all false
set_option maxRecDepth 100000
set_option maxHeartbeats 2100000
namespace Kn
open PySem L2 RZ
section
variable {G : Gd} {E : XK} {X : Cx} {σ : List (Option V)} {H H' : Hp} {k : Nat}
/-- list(e), a new list -/
theorem df_list {e : Expr} {p pos : Pos} {c : Nat} {te : DT} (hK : X.K = G.K) (hm : X.mg "list" = none) (he : DE G E X c e te) (hg : Gl X "list" := by rfl) (hst : starEach [e] X.env = (false, eval e X.env) :: starEach [] X.env := by rfl) (hpl : (backTo pos (starEach [] X.env)).any (·.1) = false := by rfl) :
    DF G E X c (.Call (.Name "list" p) [e] [] pos) (fList te) := imp (pe_callTy call_list_of hg hm (by decide +kernel) (pa_cons he pa_nil hst) (by decide) (by decide) hst hpl) fun σ H Q' h => by
  obtain ⟨W, hn, Q, ht, kk⟩ := h
  refine ⟨W, hn, _, ht, fun v H1 d st hd hq => ?_⟩
  have hp0 : ∀ p, H1 p = none → H p = none := fun p hp => by
    cases q : H p with
    | none => rfl
    | some o =>
      exfalso
      by_cases hu : W.u.map (·.1) = some p
      · have nf := (W.next st).fresh hp
        cases hu' : W.u with
        | none => rw [hu'] at hu; cases hu
        | some r => rw [hu'] at hu; rw [← Option.some.inj hu] at nf; exact nf (W.huX r hu')
      · rw [st.ext p o q hu] at hp; cases hp
  have fin : ∀ (p : Addr) (ds : List D) (xs : List V), H1 p = none → xs.length ≤ sizeLine → DenL G W.XB H1 ds xs → Q ds → Q' (.ref p) (L2.upd H1 p (.lst xs)) := fun p ds xs hp la da hq => by
    refine kk p _ ds xs (st.new hp) (hp0 p hp) upd_same la ?_ hq
    exact DenL.keep (fun b o nb e => by rw [upd_ne (ne_of_none e hp)]; exact e) (fun b hb => hb.imp id fun z => by rw [z]; exact hp) ds xs da
  cases d <;> try exact hq.elim
  · obtain ⟨a, ys, rfl, na, ha, la, da⟩ := hd
    exact ⟨_, ys, rfl, .inl (SqL.of ha), fun p hp => fin p _ ys hp la da hq⟩
  · obtain ⟨a, ys, rfl, na, ha, la, da⟩ := hd
    exact ⟨_, ys, rfl, .inr (by rw [hK]; exact ha), fun p hp => fin p _ ys hp la da hq⟩
/-- == and != of texts, whatever they hold -/
def gEqS : G2 := fun d e Q => ∃ a b, d = .str a ∧ e = .str b ∧ Q (.bl (decide (a = b)))
def gNeS : G2 := fun d e Q => ∃ a b, d = .str a ∧ e = .str b ∧ Q (.bl (!decide (a = b)))
theorem o_eqS : OpR X (compareOp .Eq) (rD G gEqS) := opr_imp op_eq fun x y H Q' h => by
  obtain ⟨B, d, e, Q, hd, he, _, ⟨a, b, rfl, rfl, hq⟩, kk⟩ := h
  cases hd; cases he
  refine ⟨rfl, kk _ H (.bl (decide (a = b))) (Ext.refl _ _) ?_ hq⟩
  show V.bl _ = V.bl _
  congr 1
  simp
theorem o_neS : OpR X (compareOp .NotEq) (rD G gNeS) := opr_imp op_ne fun x y H Q' h => by
  obtain ⟨B, d, e, Q, hd, he, _, ⟨a, b, rfl, rfl, hq⟩, kk⟩ := h
  cases hd; cases he
  refine ⟨rfl, kk _ H (.bl (!decide (a = b))) (Ext.refl _ _) ?_ hq⟩
  show V.bl _ = V.bl _
  congr 1
  simp
end
end Kn

set_option Elab.async false
set_option linter.all false
set_option maxRecDepth 100000
set_option maxHeartbeats 2100000
namespace Kn
open PySem L2 RZ
open PyProof.Rows (envOfC)
section
variable {G : Gd} {E : XK} {X : Cx} {σ : List (Option V)} {H H' : Hp} {k : Nat}
theorem d2_meth0 {j i cid cf : Nat} {m y : Str} {ps : List Str} {S : MSpec} {pos apos p : Pos} {pl : Sem Bool} (F : Fmm G X.prog X.w X.mg X.base j cid m ps cf S) (xk : Xk G E k X) (hN : X.N[i]? = some y) (hj : j ≤ k := by decide)
    (hv : Vis X.env.scope y := by first | exact Or.inl rfl | exact Or.inr (Or.inl rfl) | exact Or.inr (Or.inr rfl)) (hd : (y == ("__debug__" : Str)) = false := by decide) (hcd : (y == ("__classdict__" : Str)) = false := by decide)
    (ht : eval (.Call (.Attribute (.Name y p) m
      apos) [] [] pos) X.env = (do
        let ov ← eval (.Name y p) X.env
        standAt apos.atName
        let (f, first) ← holding
          [ov] (getMethod ov m pl)
        callWith pos f first (backTo pos (starEach [] X.env)) (backToKw pos (keywordEach [] X.env))) := by rfl) : DE2 G E X cf (.Call (.Attribute (.Name y p) m apos) [] [] pos) (d2Meth G i cid ps.length S aNil) := by
  obtain ⟨f, fd, hF0, hM, hC, hb, hmf⟩ := F.ex
  have hF := hF0.mono hj
  rw [← xk.K] at hM hC hb
  constructor
  intro pins s σ H Q' I h
  obtain ⟨W, hn, Q, ⟨a, dx, fs, he, hfl, hlen, hs⟩, kk⟩ := h
  obtain ⟨xs, hsi, hat, hl, hxs⟩ := lift_slf he
  have recv := (pe_var (X := X) (pos := p) (i := i) hN hv hd hcd).run pins s σ H (fun x H1 => x = .ref a ∧ H1 = H) I ⟨.ref a, hsi, rfl, rfl⟩
  refine PySem.W.methodCall_KW (pl := pl) (thn recv ?_) ht
  rintro uv s1 ⟨x, H1, I1, rx, rfl, rfl⟩
  cases rx
  refine getmeth_ok I1 hat hC hM (zip_none hmf) ?_
  have q2 : liftM G cf cid S [.ref a] H1 Q' E := lift_mut (W := W) (c := 0) (as := []) (vs := []) (Step.refl W) (by omega) he hsi hat hxs hfl rfl hs (by rw [Nat.zero_add]; exact kk)
  refine PySem.W.callWith_K0 (first := [.ref a]) I1.kIn hM.kp (wpAny_call ?_)
  have hb' : BindsTo s1 fd ⟨[.ref a], []⟩ (ps.zip [.ref a]) := by
    have z := hb s1 [.ref a] I1.kIn (by rw [List.append_nil]; exact hlen)
    rw [List.append_nil] at z
    exact z
  exact run_mut (hK := xk.K) (vs := [.ref a]) hF xk.room xk.gd xk.pass I1 (.cons rfl .nil) hlen _ hb' q2
end
end Kn

set_option Elab.async false
set_option linter.all false
set_option maxRecDepth 100000
set_option maxHeartbeats 2100000
namespace Kn
open PySem L2 RZ
section
variable {G : Gd} {E : XK} {X : Cx} {σ : List (Option V)} {H H' : Hp} {k : Nat}
/-! ### an own list lent to what answers a thing that holds no list -/
mutual
def noLst : D → Bool
  | .non => true
  | .bl _ => true
  | .int _ => true
  | .str _ => true
  | .tup ds => noLstL ds
  | .ins _ ds => noLstL ds
  | _ => false
def noLstL : List D → Bool
  | [] => true
  | d :: ds => noLst d && noLstL ds
end
mutual
theorem Den.offLst {B B' : Addr → Prop} (hb : ∀ b, B' b → B b ∨ ∃ xs, H b = some (.lst xs)) : ∀ (d : D) (v : V), noLst d = true → Den G B H d v → Den G B' H d v
  | .non, _, _, h => h
  | .bl _, _, _, h => h
  | .int _, _, _, h => h
  | .str _, _, _, h => h
  | .tup ds, v, f, ⟨a, xs, e, nb, hs, hl, hd⟩ => by
    rcases nb with nb | nb
    · rcases hs with h | h
      · refine ⟨a, xs, e, .inl fun z => ?_, .inl h, hl, DenL.offLst hb ds xs f hd⟩
        rcases hb a z with q | ⟨ys, ho⟩
        · exact nb q
        · rcases h with h | ⟨q, h⟩
          · rw [h] at ho; cases ho
          · rw [h] at ho; cases ho
      · exact ⟨a, xs, e, .inr h, .inr h, hl, DenL.offLst hb ds xs f hd⟩
    · exact ⟨a, xs, e, .inr nb, hs, hl, DenL.offLst hb ds xs f hd⟩
  | .ins c ds, v, f, ⟨a, dx, xs, e, nb, hs, hl, hd⟩ => by
    refine ⟨a, dx, xs, e, fun z => ?_, hs, hl, DenL.offLst hb ds xs f hd⟩
    rcases hb a z with q | ⟨ys, ho⟩
    · exact nb q
    · rw [hs] at ho; cases ho
  | .lst _, _, f, _ => by simp [noLst] at f
  | .opq _, _, f, _ => by simp [noLst] at f
  | .urn, _, f, _ => by simp [noLst] at f
  | .at_ _ _, _, f, _ => by simp [noLst] at f
  | .dct _ _, _, f, _ => by simp [noLst] at f
theorem DenL.offLst {B B' : Addr → Prop} (hb : ∀ b, B' b → B b ∨ ∃ xs, H b = some (.lst xs)) : ∀ (ds : List D) (xs : List V), noLstL ds = true → DenL G B H ds xs → DenL G B' H ds xs
  | [], _, _, h => h
  | d :: ds, xs, f, ⟨x, r, e, h1, h2⟩ => by
    have f' : (noLst d && noLstL ds) = true := f
    rw [Bool.and_eq_true] at f'
    exact ⟨x, r, e, Den.offLst hb d x f'.1 h1, DenL.offLst hb ds r f'.2 h2⟩
end
def dLendL (i : Nat) (te : DT) : DT := fun ex env Q => ∃ a ds, env[i]? = some (.own a ds) ∧ te ex (env.set i (.val (.lst ds))) fun d => noLst d = true ∧ Q d
theorem de_lendL (i : Nat) {e : Expr} {c : Nat} {te : DT} (h : DE G E X c e te) : DE G E X c e (dLendL i te) := imp h fun σ H Q' hh => by
  obtain ⟨W, hn, Q, ⟨a0, ds, he, ht⟩, kk⟩ := hh
  obtain ⟨W1, a, w1, w2, w3, w4, w5, w6, w7, hsi, h0, nt, x1, x2⟩ := wd_lend (v := .lst ds) W he (.inl ⟨a0, ds, rfl, rfl⟩)
  have hat : ∃ xs, H a = some (.lst xs) := by
    obtain ⟨xs, e1, _, ha, _⟩ := W.sl i _ he
    rw [hsi] at e1
    cases e1
    exact ⟨xs, ha⟩
  refine ⟨W1, by rw [w3, w4]; exact hn, fun d => noLst d = true ∧ Q d, by rw [w1, w6]; exact ht, fun x H' d st hd ⟨fl, hq⟩ => ?_⟩
  have st' : Step W c H' := ⟨by rw [← w2]; exact st.ext, by rw [← w2, ← w3]; exact st.good⟩
  refine kk x H' d st' (Den.offLst (fun b hb => ?_) d x fl hd) hq
  rcases x1 b hb with z | rfl
  · exact .inl z
  · obtain ⟨xs, ha⟩ := hat
    exact .inr ⟨xs, st'.ext b _ ha (lend_un W h0)⟩
/-! ### tuple(range(n)) -/
def dTupRg (te : DT) : DT := fun ex env Q => te ex env fun d => ∃ n : Int, d = .int n ∧ n ≤ 16777216 ∧ -(2 ^ 62) ≤ n ∧ Q (.tup (rangeD 0 n.toNat))
theorem de_tupleRange {a : Expr} {c : Nat} {te : DT} {p p2 pos pos2 : Pos} (hc : X.calm = true) (hm : X.mg "tuple" = none) (hm2 : X.mg "range" = none) (ha : DE G E X c a te) (hg : Gl X "tuple" := by rfl) (hg2 : Gl X "range" := by rfl)
    (na : starEach [a] X.env = (false, eval a X.env) :: starEach [] X.env := by rfl) (nb : starEach [.Call (.Name "range" p2) [a] [] pos2] X.env = (false, eval (.Call (.Name "range" p2) [a] [] pos2) X.env) :: starEach [] X.env := by rfl) :
    DE G E X c (.Call (.Name "tuple" p) [.Call (.Name "range" p2) [a] [] pos2] [] pos) (dTupRg te) :=
  imp (pe_tupRg hc hg hm (prg_1 hg2 hm2 ha na) nb) fun σ H Q' h => by
    obtain ⟨W, hn, Q, ht, kk⟩ := h
    refine ⟨W, hn, _, ht, fun v H1 d st hd ⟨n, e, h1, h2, hq⟩ => ?_⟩
    subst e
    cases hd
    refine ⟨n, rfl, ⟨by omega, by omega, by omega, by omega, by omega⟩, fun q hq0 => ?_⟩
    have e2 : rgV 0 n = (List.range n.toNat).map fun i => V.int (0 + (i : Nat)) := by unfold rgV; rw [Int.sub_zero]
    refine kk _ _ (.tup (rangeD 0 n.toNat)) (st.new hq0) (den_tup hq0 ((W.next st).fresh hq0) (by rw [rgV_length, sizeLine_eq]; omega) ?_) hq
    rw [e2]
    exact denL_rg 0 n.toNat
end
end Kn

set_option Elab.async false
set_option linter.all false
set_option maxRecDepth 100000
set_option maxHeartbeats 4100000
namespace Pg
open PySem L2 RZ Kn
def topS (i : Nat) : Stmt := PySem.Challenge.pw_kindtells_k04_leads_kept_and_behind_one.main.body.getD i (.Pass ⟨0, 0, 0, 0⟩)
structure Bn (mg : Str → Option Value) : Prop where
  len : mg "len" = none
  all : mg "all" = none
  any : mg "any" = none
  isinstance : mg "isinstance" = none
  int : mg "int" = none
  bool : mg "bool" = none
  list : mg "list" = none
  tuple : mg "tuple" = none
  str : mg "str" = none
  range : mg "range" = none
  zip : mg "zip" = none
  sorted : mg "sorted" = none
  type : mg "type" = none
  max : mg "max" = none
  min : mg "min" = none
  abs : mg "abs" = none
  repr : mg "repr" = none
section
variable {G : Gd} {P : Program} {w : World} {mg : Str → Option Value} {base : Heap} {f : Addr} {fd : FuncData}
def sIsInt : FSpec := fun ds R _ => ∃ d, ds = [d] ∧ (kindS d).isSome = true ∧ R (.bl (D.isI d))
abbrev s_is_integer : Stmt := topS 1
theorem sc_is_integer : FnScope ["value"] ["value"] (defScope s_is_integer) := ⟨rfl, rfl, rfl, by decide +kernel, rfl, by decide +kernel, by decide +kernel⟩
theorem ok_is_integer (F : Fun G.K "is_integer" "is_integer" s_is_integer f fd) (bn : Bn mg)  : FnD G P w mg base 1 f fd ["value"] 0 sIsInt := by
  refine FnD.more (fnd_of F sc_is_integer (fun cdv A outer s H E hr hg => have xk := xk_def (E := E) hr hg; (ds_one (ds_ret (de_and (de_bi (c_isi xk.K) bn.isinstance (da_cons (dv 0) (da_cons (de_tyn (n := "int") bn.int) da_nil))) (de_one (de_not (de_bi (c_isi xk.K) bn.isinstance (da_cons (dv 0) (da_cons (de_tyn (n := "bool") bn.bool) da_nil))))))))) ?_) (by decide)
  rintro ds R ex hl ⟨d, rfl, hk, hr⟩
  refine ⟨d, rfl, _, _, rfl, isB_int hk, ?_⟩
  cases d <;> first | cases hk | skip
  all_goals first
    | exact ⟨_, rfl, hr⟩
    | exact ⟨_, rfl, _, rfl, _, _, rfl, isB_bool rfl, _, rfl, hr⟩
def sNumbers : FSpec := fun ds R _ => ∃ d, ds = [d] ∧ (kindS d).isSome = true ∧ (∀ xs, d.items? = some xs → ∀ x ∈ xs, (kindS x).isSome = true) ∧ R (.bl (match d.items? with | some xs => xs.all D.isI | none => false))
abbrev s_are_numbers : Stmt := topS 3
theorem sc_are_numbers : FnScope ["value", "number"] ["value"] (defScope s_are_numbers) := ⟨rfl, rfl, rfl, by decide +kernel, rfl, by decide +kernel, by decide +kernel⟩
theorem ok_are_numbers (F : Fun G.K "are_numbers" "are_numbers" s_are_numbers f fd) (bn : Bn mg) (F_is_integer : Fk G P w mg base 1 "is_integer" ["value"] 0 sIsInt) : FnD G P w mg base 2 f fd ["value"] 0 sNumbers := by
  refine FnD.more (fnd_of F sc_are_numbers (fun cdv A outer s H E hr hg => have xk := xk_def (E := E) hr hg; (ds_one (ds_ret (de_and (de_isiT (Ts := ["list", "tuple"]) xk.K bn.isinstance (dv 0) (pa_cons (ps_tyn (n := "list") bn.list) (pa_cons (ps_tyn (n := "tuple") bn.tuple) pa_nil)) (by simp) (by decide)) (de_one (de_bi (c_all xk.calm) bn.all (da_cons (de_comp (own := [("number", 1)]) xk sc_are_numbers.nd (di_seq xk.K (dv 0)) (blkOk_by (N := ["value", "number"]) (sc := defScope s_are_numbers) (by decide +kernel)) (fun s H C cl fp => (dg_name (i := 1) sc_are_numbers.nd rfl (Or.inl rfl))) (fun s H C cl fp => dts_nil) (fun s H C cl fp => (de_call F_is_integer (Xk.blk xk _ _ _ _ _) (da_cons (dv 1) da_nil))) (by simp)) da_nil))))))) ?_) (by decide)
  rintro ds R ex hl ⟨d, rfl, hk, hks, hr⟩
  refine ⟨d, rfl, _, any_seq hk, _, rfl, ?_⟩
  cases hi : d.items? with
  | none => rw [hi] at hr; exact hr
  | some xs =>
    rw [hi] at hr
    have key : ∀ (Q : D → Prop), Q (.bl (xs.all D.isI)) → compL (tgName 1) bYes (dCall 1 sIsInt (aCons (dVar 1) aNil)) (fun rs => g1 gAll [.lst rs] Q) (inEnv (env0 ["value", "number"] [d]) [1]) xs [] := fun Q hq => by
      refine compL_map (fun x => .bl (D.isI x)) (fun x hx K hK => ⟨x, rfl, rfl, x, rfl, hks xs hi x hx, hK⟩) ?_
      refine ⟨xs.map D.isI, by simp [List.map_map], ?_⟩
      simpa [List.all_map] using hq
    refine ⟨d, rfl, ?_⟩
    cases d <;> cases hi
    · exact key _ hr
    · exact key _ hr
/-- a bound: None or an int -/
def bndD : Option Int → D
  | none => .non
  | some i => .int i
def inB (i : Int) (lo hi : Option Int) : Bool := (lo.all fun l => decide (l ≤ i)) && hi.all fun h => decide (i ≤ h)
def withinB (d : D) (lo hi : Option Int) : Bool := match d with
  | .int i => inB i lo hi
  | _ => false
def sWithin : FSpec := fun ds R _ => ∃ d lo hi, ds = [d, bndD lo, bndD hi] ∧ (kindS d).isSome = true ∧ R (.bl (withinB d lo hi))
theorem bnd_no (o : Option Int) : ∀ v, bndD o ≠ .opq v := by intro v h; cases o <;> cases h
theorem bnd_isN (o : Option Int) : (bndD o).isN = o.isNone := by cases o <;> rfl
theorem isI_of {d : D} (h : D.isI d = true) : ∃ i, d = .int i := by cases d <;> first | exact ⟨_, rfl⟩ | cases h
abbrev s_is_within : Stmt := topS 2
theorem sc_is_within : FnScope ["value", "least", "most"] ["value", "least", "most"] (defScope s_is_within) := ⟨rfl, rfl, rfl, by decide +kernel, rfl, by decide +kernel, by decide +kernel⟩
theorem ok_is_within (F : Fun G.K "is_within" "is_within" s_is_within f fd) (bn : Bn mg) (F_is_integer : Fk G P w mg base 1 "is_integer" ["value"] 0 sIsInt) : FnD G P w mg base 2 f fd ["value", "least", "most"] 0 sWithin := by
  refine FnD.more (fnd_of F sc_is_within (fun cdv A outer s H E hr hg => have xk := xk_def (E := E) hr hg; (ds_cons (ds_if (dt_not (dt_val (de_call F_is_integer xk (da_cons (dv 0) da_nil)))) (ds_one (ds_ret de_bl)) ds_nil) (ds_one (ds_ret (de_and (de_or (de_cmp (o_is) (dv 1) de_non (by rfl)) (de_one (de_cmp (o_ge) (dv 0) (dv 1) (by rfl)))) (de_one (de_or (de_cmp (o_is) (dv 2) de_non (by rfl)) (de_one (de_cmp (o_le) (dv 0) (dv 2) (by rfl)))))))))) ?_) (by decide)
  rintro ds R ex hl ⟨d, lo, hi, rfl, hk, hr⟩
  refine ⟨d, rfl, rfl, d, rfl, hk, D.isI d, rfl, ?_⟩
  cases hi' : D.isI d with
  | false =>
    have e : withinB d lo hi = false := by cases d <;> first | rfl | cases hi'
    rw [e] at hr
    exact hr
  | true =>
    obtain ⟨i, rfl⟩ := isI_of hi'
    have k2 : ∀ Q : D → Prop, Q (.bl (hi.all fun h => decide (i ≤ h))) → (dOr (dOp gIs (dVar 2) (dC .non)) (dOp gLe (dVar 0) (dVar 2))) ex (env0 ["value", "least", "most"] [.int i, bndD lo, bndD hi]) Q := fun Q hq => by
      refine ⟨bndD hi, rfl, rfl, bnd_no hi, (bndD hi).isN, rfl, ?_⟩
      cases hi with
      | none => exact hq
      | some h => exact ⟨_, rfl, _, rfl, trivial, hq⟩
    have k1 : ∀ Q : D → Prop, (∀ b, b = (lo.all fun l => decide (l ≤ i)) → Q (.bl b)) → (dOr (dOp gIs (dVar 1) (dC .non)) (dOp gGe (dVar 0) (dVar 1))) ex (env0 ["value", "least", "most"] [.int i, bndD lo, bndD hi]) Q := fun Q hq => by
      refine ⟨bndD lo, rfl, rfl, bnd_no lo, (bndD lo).isN, rfl, ?_⟩
      cases lo with
      | none => exact hq _ rfl
      | some l => exact ⟨_, rfl, _, rfl, trivial, hq _ rfl⟩
    refine k1 (fun x => ∃ c, x = .bl c ∧ if c = true then dOr (dOp gIs (dVar 2) (dC .non)) (dOp gLe (dVar 0) (dVar 2)) ex (env0 ["value", "least", "most"] [.int i, bndD lo, bndD hi]) R else R (.bl false)) fun b hb => ⟨b, rfl, ?_⟩
    have e : withinB (.int i) lo hi = (b && hi.all fun h => decide (i ≤ h)) := by rw [hb]; rfl
    rw [e] at hr
    cases b with
    | false => exact hr
    | true => exact k2 _ hr
/-- a number within its bounds -/
def sDemNumL : FSpec := fun ds R _ => ∃ i lo hi p, ds = [.int i, bndD lo, bndD hi, p] ∧ inB i lo hi = true ∧ R .non
abbrev s_demand_number : Stmt := topS 14
theorem sc_demand_number : FnScope ["value", "least", "most", "part"] ["value", "least", "most", "part"] (defScope s_demand_number) := ⟨rfl, rfl, rfl, by decide +kernel, rfl, by decide +kernel, by decide +kernel⟩
theorem ok_demand_number (F : Fun G.K "demand_number" "demand_number" s_demand_number f fd) (bn : Bn mg) (F_is_within : Fk G P w mg base 2 "is_within" ["value", "least", "most"] 0 sWithin) : FnD G P w mg base 3 f fd ["value", "least", "most", "part"] 0 sDemNumL := by
  refine FnD.more (fnd_of F sc_demand_number (fun cdv A outer s H E hr hg => have xk := xk_def (E := E) hr hg; (ds_one (ds_if (dt_not (dt_val (de_call F_is_within xk (da_cons (dv 0) (da_cons (dv 1) (da_cons (dv 2) da_nil)))))) (ds_one ds_never) ds_nil))) ?_) (by decide)
  rintro ds R ex hl ⟨i, lo, hi, p, rfl, hb, hr⟩
  refine ⟨.int i, rfl, bndD lo, rfl, bndD hi, rfl, rfl, .int i, lo, hi, rfl, rfl, ?_⟩
  exact ⟨inB i lo hi, rfl, by rw [hb]; exact hr⟩
def sDemWorldL : FSpec := fun ds R _ => ∃ (i : Int) (p : D), ds = [.int i, p] ∧ 1 ≤ i ∧ i ≤ 5 ∧ R .non
abbrev s_demand_world : Stmt := topS 15
theorem sc_demand_world : FnScope ["things", "part"] ["things", "part"] (defScope s_demand_world) := ⟨rfl, rfl, rfl, by decide +kernel, rfl, by decide +kernel, by decide +kernel⟩
theorem ok_demand_world (F : Fun G.K "demand_world" "demand_world" s_demand_world f fd) (bn : Bn mg) (F_demand_number : Fk G P w mg base 3 "demand_number" ["value", "least", "most", "part"] 0 sDemNumL) (g_MOST_THINGS : ∃ t, mg "MOST_THINGS" = some (.int 5 t)) : FnD G P w mg base 4 f fd ["things", "part"] 0 sDemWorldL := by
  refine FnD.more (fnd_of F sc_demand_world (fun cdv A outer s H E hr hg => have xk := xk_def (E := E) hr hg; (ds_one (ds_expr (de_call F_demand_number xk (da_cons (dv 0) (da_cons de_int (da_cons (de_gint g_MOST_THINGS) (da_cons (dv 1) da_nil)))))))) ?_) (by decide)
  rintro ds R ex hl ⟨i, p, rfl, h1, h2, hr⟩
  refine ⟨.int i, rfl, p, rfl, rfl, i, some 1, some 5, p, rfl, ?_, hr⟩
  simp [inB, h1, h2]
def sDemNumsL : FSpec := fun ds R _ => ∃ d xs p, ds = [d, p] ∧ d.items? = some xs ∧ xs.all D.isI = true ∧ R .non
theorem kind_items {d : D} {xs : List D} (h : d.items? = some xs) : (kindS d).isSome = true := by cases d <;> first | rfl | cases h
theorem kinds_isI {xs : List D} (h : xs.all D.isI = true) : ∀ x ∈ xs, (kindS x).isSome = true := fun x hx => by
  obtain ⟨i, e⟩ := isI_of (List.all_eq_true.mp h x hx)
  rw [e]; rfl
abbrev s_demand_numbers : Stmt := topS 16
theorem sc_demand_numbers : FnScope ["values", "part"] ["values", "part"] (defScope s_demand_numbers) := ⟨rfl, rfl, rfl, by decide +kernel, rfl, by decide +kernel, by decide +kernel⟩
theorem ok_demand_numbers (F : Fun G.K "demand_numbers" "demand_numbers" s_demand_numbers f fd) (bn : Bn mg) (F_are_numbers : Fk G P w mg base 2 "are_numbers" ["value"] 0 sNumbers) : FnD G P w mg base 3 f fd ["values", "part"] 0 sDemNumsL := by
  refine FnD.more (fnd_of F sc_demand_numbers (fun cdv A outer s H E hr hg => have xk := xk_def (E := E) hr hg; (ds_one (ds_if (dt_not (dt_val (de_call F_are_numbers xk (da_cons (dv 0) da_nil)))) (ds_one ds_never) ds_nil))) ?_) (by decide)
  rintro ds R ex hl ⟨d, xs, p, rfl, hx, ha, hr⟩
  refine ⟨d, rfl, rfl, d, rfl, kind_items hx, fun ys hy => ?_, true, ?_, hr⟩
  · rw [hx] at hy; cases hy; exact kinds_isI ha
  · rw [hx]; show D.bl (xs.all D.isI) = _; rw [ha]
def sDemThingsL : FSpec := fun ds R _ => ∃ (d : D) (is : List Int) (n : Int), ds = [d, .int n] ∧ d.items? = some (is.map D.int) ∧ (∀ i ∈ is, 0 ≤ i ∧ i < n) ∧ R .non
abbrev s_demand_things : Stmt := topS 17
theorem sc_demand_things : FnScope ["values", "things", "value"] ["values", "things"] (defScope s_demand_things) := ⟨rfl, rfl, rfl, by decide +kernel, rfl, by decide +kernel, by decide +kernel⟩
theorem ok_demand_things (F : Fun G.K "demand_things" "demand_things" s_demand_things f fd) (bn : Bn mg) (F_is_within : Fk G P w mg base 2 "is_within" ["value", "least", "most"] 0 sWithin) : FnD G P w mg base 3 f fd ["values", "things"] 0 sDemThingsL := by
  refine FnD.more (fnd_of F sc_demand_things (fun cdv A outer s H E hr hg => have xk := xk_def (E := E) hr hg; (ds_one (ds_for xk po_def (di_seq xk.K (dv 0)) (dg_name (i := 2) sc_demand_things.nd rfl (Or.inl rfl)) (ds_one (ds_if (dt_not (dt_val (de_call F_is_within xk (da_cons (dv 2) (da_cons de_int (da_cons (de_op (o_sub) (dv 1) de_int) da_nil)))))) (ds_one ds_never) ds_nil))))) ?_) (by decide)
  rintro ds R ex hl ⟨d, is, n, rfl, hx, hb, hr⟩
  refine ⟨d, rfl, ?_⟩
  have key : ∀ (de : DEnds) (tb : DS), de.nx = (fun _ => R .non) → (∀ (i : Int) (s : Sl) (nx : List Sl → Prop), 0 ≤ i → i < n → nx [.val d, .val (.int n), .val (.int i)] → tb ex { de with nx := nx, ct := nx, bk := de.nx } [.val d, .val (.int n), .val (.int i)]) → sForL ex (tgName 2) tb de (is.map D.int) (env0 ["values", "things", "value"] [d, .int n]) := fun de tb hde hstep => by
    refine sForL_inv (fun _ env => ∃ s, env = [.val d, .val (.int n), s]) 0 ⟨_, rfl⟩ (fun i x env hi hI nx hn => ?_) (fun env hI => by rw [hde]; exact hr)
    obtain ⟨s, rfl⟩ := hI
    rw [List.getElem?_map] at hi
    obtain ⟨j, hj, rfl⟩ := Option.map_eq_some_iff.mp hi
    obtain ⟨b1, b2⟩ := hb j (List.mem_of_getElem? hj)
    exact hstep j s nx b1 b2 (hn _ ⟨_, rfl⟩)
  cases d <;> cases hx
  all_goals
    refine key _ _ rfl fun i s nx b1 b2 hn => ?_
    refine ⟨.int i, rfl, .int n, rfl, trivial, rfl, .int i, some 0, some (n - 1), rfl, rfl, ?_⟩
    refine ⟨true, ?_, hn⟩
    rw [show withinB (.int i) (some 0) (some (n - 1)) = true by simp [withinB, inB]; omega]
/-- the class of leads: number 1 -/
structure Gk (G : Gd) : Prop where
  fl : G.fl 1 = [Str.ofString "begin", "into", "row"]
  fl2 : G.fl 2 = [Str.ofString "words", "taken"]
  begin : FldOk G "begin"
  into : FldOk G "into"
  row : FldOk G "row"
  words : FldOk G "words"
  taken : FldOk G "taken"
  nd : ∀ c, (G.fl c).Nodup
  sm : ∀ c, (G.fl c).length ≤ 100
def leadD (into : Int) (is : List Int) : D := .ins 1 [.int is.length, .int into, .tup (is.map D.int)]
def sLeadInitL : FSpec := fun ds R _ => ∃ (into : Int) (d : D) (is : List Int), ds = [.int into, d] ∧ d.items? = some (is.map D.int) ∧ 1 ≤ into ∧ into ≤ 5 ∧ 1 ≤ is.length ∧ is.length ≤ 5 ∧ (∀ i ∈ is, 0 ≤ i ∧ i < into) ∧ R (leadD into is)
theorem all_isI (is : List Int) : (is.map D.int).all D.isI = true := by simp [List.all_map, D.isI]
abbrev s_Lead___init__ : Stmt := inClass (topS 22) 0
theorem sc_Lead___init__ : FnScope ["self", "into", "row"] ["self", "into", "row"] (defScope s_Lead___init__) := ⟨rfl, rfl, rfl, by decide +kernel, rfl, by decide +kernel, by decide +kernel⟩
theorem ok_Lead___init__ (F : Fun G.K "__init__" "Lead.__init__" s_Lead___init__ f fd) (bn : Bn mg) (fo : Gk G) (F_demand_world : Fk G P w mg base 4 "demand_world" ["things", "part"] 0 sDemWorldL) (F_demand_things : Fk G P w mg base 3 "demand_things" ["values", "things"] 0 sDemThingsL) (F_are_numbers : Fk G P w mg base 2 "are_numbers" ["value"] 0 sNumbers) (g_MOST_THINGS : ∃ t, mg "MOST_THINGS" = some (.int 5 t)) : InitD G P w mg base 5 f fd ["self", "into", "row"] 0 1 sLeadInitL := by
  refine InitD.more (initd_of F sc_Lead___init__ (fun cdv A outer s H E hr hg => have xk := xk_def (E := E) hr hg; (ds_cons (ds_expr (de_call F_demand_world xk (da_cons (dv 1) (da_cons de_str da_nil)))) (ds_cons (ds_if (dt_w (dw_or (dt_not (dt_val (de_call F_are_numbers xk (da_cons (dv 2) da_nil)))) (dw_or1 (dt_not (dt_chain (o_le) (o_le) de_int (de_bi (c_len xk.K) bn.len (da_cons (dv 2) da_nil)) (de_gint g_MOST_THINGS)))))) (ds_one ds_never) ds_nil) (ds_cons (ds_expr (de_call F_demand_things xk (da_cons (dv 2) (da_cons (dv 1) da_nil)))) (ds_cons (ds_fld (i := 0) xk.K fo.begin fo.nd fo.sm rfl (de_bi (c_len xk.K) bn.len (da_cons (dv 2) da_nil))) (ds_cons (ds_fld (i := 0) xk.K fo.into fo.nd fo.sm rfl (dv 1)) (ds_one (ds_fld (i := 0) xk.K fo.row fo.nd fo.sm rfl (de_ty (c_tuple xk.K) bn.tuple (da_cons (dv 2) da_nil)))))))))) ?_) (by decide)
  rintro a dx ds R ex hl ⟨into, d, is, rfl, hx, h1, h2, h3, h4, hb, hr⟩
  refine ⟨.int into, rfl, rfl, into, _, rfl, h1, h2, ?_⟩
  have hk := kind_items hx
  refine ⟨d, rfl, rfl, d, rfl, hk, fun ys hy => by rw [hx] at hy; cases hy; exact kinds_isI (all_isI is), true, by rw [hx]; show D.bl ((is.map D.int).all D.isI) = _; rw [all_isI], ?_⟩
  have fin : ∀ xs, xs = is.map D.int → leadD into is = .ins 1 [.int (xs.length : Nat), .int into, .tup xs] := fun xs e => by rw [e, List.length_map]; rfl
  have e1 : (decide ((1 : Int) ≤ ((is.map D.int).length : Nat))) = true := by rw [List.length_map]; simp; omega
  have e2 : (decide (((is.map D.int).length : Nat) ≤ (5 : Int))) = true := by rw [List.length_map]; simp; omega
  cases d <;> cases hx
  all_goals
    refine ⟨_, rfl, trivial, true, congrArg D.bl e1, ?_⟩
    refine ⟨trivial, true, congrArg D.bl e2, ?_⟩
    refine ⟨_, rfl, .int into, rfl, rfl, _, is, into, rfl, rfl, hb, ?_⟩
    refine ⟨_, rfl, a, dx, 1, [], rfl, by rw [fo.fl]; rfl, ?_⟩
    refine ⟨.int into, rfl, a, dx, 1, _, rfl, by rw [fo.fl]; rfl, ?_⟩
    refine ⟨_, rfl, a, dx, 1, _, rfl, by rw [fo.fl]; rfl, ?_⟩
    refine ⟨_, rfl, by rw [fo.fl]; rfl, ?_⟩
    rw [fin _ rfl] at hr
    exact hr
def allRows (n : Nat) : Nat → List (List Int)
  | 0 => [[]]
  | m + 1 => (allRows n m).flatMap fun r => (List.range n).map fun (t : Nat) => r ++ [(t : Int)]
def rowD (r : List Int) : D := .tup (r.map D.int)
theorem allRows_len (n : Nat) : ∀ m, (allRows n m).length = n ^ m
  | 0 => rfl
  | m + 1 => by
    unfold allRows
    rw [List.length_flatMap]
    simp only [List.length_range, List.length_map]
    rw [List.map_const', List.sum_replicate_nat, allRows_len n m, Nat.pow_succ]
theorem allRows_row (n : Nat) : ∀ m, ∀ r ∈ allRows n m, r.length = m
  | 0, r, h => by simp [allRows] at h; rw [h]; rfl
  | m + 1, r, h => by
    unfold allRows at h
    obtain ⟨q, hq, hr⟩ := List.mem_flatMap.mp h
    obtain ⟨t, _, rfl⟩ := List.mem_map.mp hr
    rw [List.length_append, allRows_row n m q hq]; rfl
theorem allRows_val (n : Nat) : ∀ m, ∀ r ∈ allRows n m, ∀ i ∈ r, 0 ≤ i ∧ i < (n : Int)
  | 0, r, h => by simp [allRows] at h; rw [h]; simp
  | m + 1, r, h => by
    unfold allRows at h
    obtain ⟨q, hq, hr⟩ := List.mem_flatMap.mp h
    obtain ⟨t, ht, rfl⟩ := List.mem_map.mp hr
    intro i hi
    rcases List.mem_append.mp hi with hi | hi
    · exact allRows_val n m q hq i hi
    · have : i = (t : Int) := by simpa using hi
      have := List.mem_range.mp ht
      omega
def sAllRowsL : FSpec := fun ds R _ => ∃ n m : Nat, ds = [.int n, .int m] ∧ n ≤ 5 ∧ m ≤ 5 ∧ R (.lst ((allRows n m).map rowD))
theorem flat_const {α β : Type} (es : List β) : ∀ l : List α, (l.flatMap fun _ => es).length = l.length * es.length
  | [] => by simp
  | x :: l => by rw [List.flatMap_cons, List.length_append, flat_const es l, List.length_cons, Nat.add_mul]; omega
theorem small {n : Nat} (h : n ≤ 100000) : n ≤ sizeLine := by rw [sizeLine_eq]; omega
theorem pow_small {n i m : Nat} (hn : n ≤ 5) (hi : i ≤ m) (hm : m ≤ 5) : n ^ i ≤ 3125 := by
  have h1 : n ^ i ≤ 5 ^ i := Nat.pow_le_pow_left hn i
  have h2 : (5 : Nat) ^ i ≤ 5 ^ 5 := Nat.pow_le_pow_right (by omega) (by omega)
  omega
def addT (d t : D) : D := match d with
  | .tup ds => .tup (ds ++ [t])
  | _ => .non
theorem rows_next (n i : Nat) : (allRows n (i + 1)).map rowD = ((allRows n i).map rowD).flatMap fun d => (rangeD 0 n).map (addT d) := by
  rw [show allRows n (i + 1) = (allRows n i).flatMap fun r => (List.range n).map fun (t : Nat) => r ++ [(t : Int)] from rfl, List.map_flatMap, List.flatMap_map]
  congr 1
  funext r
  simp [rangeD, rowD, addT, Function.comp_def]
def pairUp (rel : Int → Int → Bool) : List Int → Bool
  | a :: b :: r => rel a b && pairUp rel (b :: r)
  | _ => true
theorem pairUp_zip (rel : Int → Int → Bool) : ∀ is : List Int, (is.zip (is.drop 1)).all (fun p => rel p.1 p.2) = pairUp rel is
  | [] => rfl
  | [_] => rfl
  | a :: b :: r => by
    have := pairUp_zip rel (b :: r)
    simp only [List.drop_succ_cons, List.drop_zero, List.zip_cons_cons, List.all_cons, pairUp] at this ⊢
    rw [← this]
theorem zipD_map : ∀ is js : List Int, zipD (is.map D.int) (js.map D.int) = (is.zip js).map fun p => D.tup [.int p.1, .int p.2]
  | [], _ => by simp [zipD]
  | _ :: _, [] => by simp [zipD]
  | a :: is, b :: js => by simp [zipD, zipD_map is js]
theorem cut_from1 {xs : List D} : cutD xs (some 1) none = xs.drop 1 := by
  unfold cutD
  have e1 : HT.sIx xs.length 0 (some 1) = min 1 xs.length := HT.sIx_nat xs.length 0 1
  rw [e1, HT.sIx_none]
  cases xs with
  | nil => rfl
  | cons x r =>
    rw [show min 1 (x :: r).length = 1 by rw [List.length_cons]; omega, List.length_cons, Nat.add_sub_cancel]
    exact List.take_length
def relD (rel : Int → Int → Bool) (d : D) : D := match d with
  | .tup [.int a, .int b] => .bl (rel a b)
  | _ => .non
theorem pairs_key {g : G2} (rel : Int → Int → Bool) (hg : ∀ a b Q, Q (.bl (rel a b)) → g (.int a) (.int b) Q) {d : D} {is : List Int} (hd : d = .tup (is.map D.int) ∨ d = .lst (is.map D.int)) {R : D → Prop} {ex : Exc → Prop} (hr : R (.bl (pairUp rel is))) :
    dBi (g1 gAll) (aCons (dComp [1, 2] (iZip (aCons (dVar 0) (aCons (dSl (dVar 0) (oSome (dC (.int 1))) oNone) aNil))) (tgTwo 1 2) bYes (dOp g (dVar 1) (dVar 2))) aNil) ex (env0 ["row", "one", "other"] [d]) R := by
  have key : compL (tgTwo 1 2) bYes (dOp g (dVar 1) (dVar 2)) (fun rs => g1 gAll [.lst rs] R) (inEnv (env0 ["row", "one", "other"] [d]) [1, 2]) (zipD (is.map D.int) (cutD (is.map D.int) (some 1) none)) [] := by
    rw [cut_from1, ← List.map_drop, zipD_map]
    refine compL_map (relD rel) (fun e he K hK => ?_) ?_
    · obtain ⟨p, hp, rfl⟩ := List.mem_map.mp he
      exact ⟨_, rfl, _, rfl, hg _ _ _ hK⟩
    · refine ⟨(is.zip (is.drop 1)).map fun p => rel p.1 p.2, by simp [List.map_map, Function.comp_def, relD], ?_⟩
      rw [List.all_map]
      have := pairUp_zip rel is
      rw [← this] at hr
      exact hr
  refine ⟨d, rfl, d, rfl, 1, rfl, ?_⟩
  rcases hd with rfl | rfl <;> exact key
/-- a test of a row of ints -/
def sRow (f : List Int → Bool) : FSpec := fun ds R _ => ∃ (d : D) (is : List Int), ds = [d] ∧ (d = .tup (is.map D.int) ∨ d = .lst (is.map D.int)) ∧ R (.bl (f is))
def leB (a b : Int) : Bool := decide (a ≤ b)
def geB (a b : Int) : Bool := decide (b ≤ a)
def ltB (a b : Int) : Bool := decide (a < b)
def manners : List Str := ["blind", "rank", "either", "least", "ends", "one", "two", "alike", "order"]
theorem man_ok : ∀ m ∈ manners, PyData.strOk m = true := by decide +kernel
def last (is : List Int) : Int := is.getLastD 0
def isOf (m : Str) (into : Int) (r : List Int) : Bool :=
  if m == ("blind" : Str) then true else if m == ("rank" : Str) then pairUp leB r else if m == ("either" : Str) then (pairUp leB r || pairUp geB r)
  else if m == ("least" : Str) then (pairUp leB r && r.headD 0 == 0) else if m == ("ends" : Str) then (pairUp leB r && (r.headD 0 == 0 && last r == into - 1))
  else if m == ("one" : Str) then r.headD 0 == 0 else if m == ("two" : Str) then r.take 2 == [0, 1] else if m == ("alike" : Str) then decide r.Nodup else pairUp ltB r
theorem eqC {x c : D} {ex : Exc → Prop} {env : List Sl} {Q : D → Prop} (h : gEq x c Q) : dC c ex env fun y => gEq x y Q := h
theorem if_str {i : Nat} {m c : Str} (hm : PyData.strOk m = true) (hc : PyData.strOk c = true) {t u : DS} {ex : Exc → Prop} {de : DEnds} {env : List Sl} (he : env[i]? = some (.val (.str m))) (h1 : (m == c) = true → t ex de env) (h2 : (m == c) = false → u ex de env) :
    sIf (dTrue (dOp gEq (dVar i) (dC (.str c)))) t u ex de env := by
  refine ⟨.str m, he, ?_⟩
  refine eqC (eq_str hm hc ?_)
  refine ⟨m == c, rfl, ?_⟩
  cases hb : (m == c) with
  | true => exact h1 hb
  | false => exact h2 hb
theorem map_at0 {a : Int} {q : List Int} : atI ((a :: q).map D.int) 0 = some (.int a) := atI_cons
theorem map_last {a : Int} {q : List Int} : atI ((a :: q).map D.int) (-1) = some (.int (last (a :: q))) := by
  have e : (a :: q) = (a :: q).dropLast ++ [last (a :: q)] := by
    rw [show last (a :: q) = (a :: q).getLast (by simp) by simp [last, List.getLastD_eq_getLast?, List.getLast?_eq_getLast]]
    exact (List.dropLast_concat_getLast (by simp)).symm
  rw [e, List.map_append]
  have h := atI_last (((a :: q).dropLast).map D.int) (D.int (last (a :: q)))
  rw [← e]
  exact h
theorem cut_to2 {xs : List D} : cutD xs none (some 2) = xs.take 2 := by
  unfold cutD
  rw [HT.sIx_none, show HT.sIx xs.length xs.length (some 2) = min 2 xs.length from HT.sIx_nat xs.length xs.length 2, List.drop_zero, Nat.sub_zero]
  by_cases h : 2 ≤ xs.length
  · rw [Nat.min_eq_left h]
  · rw [Nat.min_eq_right (by omega), List.take_length, List.take_of_length_le (by omega)]
theorem sorted_up {ns r : List Int} (p : ns.Perm r) (s : ns.Pairwise (· ≤ ·)) : pairUp ltB ns = decide r.Nodup := by
  have e : decide r.Nodup = decide ns.Nodup := by
    by_cases h : ns.Nodup
    · rw [decide_eq_true h, decide_eq_true (p.nodup_iff.mp h)]
    · rw [decide_eq_false h, decide_eq_false fun z => h (p.nodup_iff.mpr z)]
  rw [e]
  clear e p
  induction ns with
  | nil => rfl
  | cons a l ih =>
    cases l with
    | nil => rfl
    | cons b l =>
      have s2 := (List.pairwise_cons.mp s).2
      have s1 := (List.pairwise_cons.mp s).1
      have hab := s1 b List.mem_cons_self
      show (ltB a b && pairUp ltB (b :: l)) = _
      rw [ih s2]
      by_cases h : a < b
      · have hn : a ∉ b :: l := fun z => by
          rcases List.mem_cons.mp
                z with z | z
          · omega
          · have := (List.pairwise_cons.mp s2).1 a z; omega
        simp only [ltB, decide_eq_true h, Bool.true_and, List.nodup_cons (a := a), hn, not_false_eq_true, true_and]
      · have e : a = b := by omega
        subst e
        simp [ltB]
def sRowOf : FSpec := fun ds R _ => ∃ (r : List Int) (into : Int) (m : Str), ds = [rowD r, .int into, .str m] ∧ m ∈ manners ∧ r ≠ [] ∧ r.length ≤ 1000 ∧ R (.bl (isOf m into r))
theorem isB_str : isB (.str m) "str" = some true := by show kitB "str" "str" = some true; decide +kernel
theorem any_man {m : Str} (h : m ∈ manners) : ((manners.map PyData.str).any fun z => PyData.eqv z (.str m)) = true := by
  rw [List.any_map, List.any_eq_true]
  exact ⟨m, h, by show (m == m) = true; exact beq_self_eq_true m⟩
theorem shaped_man : SeqAt.shaped (.tuple (manners.map PyData.str)) = true := by decide +kernel
def sDemManL : FSpec := fun ds R _ => ∃ (m : Str) (p : D), ds = [.str m, p] ∧ m ∈ manners ∧ R .non
def sDemTwoL : FSpec := fun ds R _ => ∃ (m : Str) (b n : Int), ds = [.str m, .tup [.int b, .int n]] ∧ m ∈ manners ∧ (m = ("two" : Str) → b ≠ 1 ∧ n ≠ 1) ∧ R .non
theorem fld_lead (fo : Gk G) {n : Int} {r : List Int} : (("begin" : Str) ∈ G.fl 1 ∧ ("into" : Str) ∈ G.fl 1 ∧ ("row" : Str) ∈ G.fl 1 ∧ [D.int r.length, .int n, rowD r][(G.fl 1).idxOf ("begin" : Str)]? = some (.int r.length) ∧
    [D.int r.length, .int n, rowD r][(G.fl 1).idxOf ("into" : Str)]? = some (.int n) ∧ [D.int r.length, .int n, rowD r][(G.fl 1).idxOf ("row" : Str)]? = some (rowD r)) := by
  rw [fo.fl]
  exact ⟨by decide, by decide, by decide, rfl, rfl, rfl⟩
def sIsOfL : FSpec := fun ds R _ => ∃ (n : Int) (r : List Int) (m : Str), ds = [leadD n r, .str m] ∧ m ∈ manners ∧ r ≠ [] ∧ r.length ≤ 1000 ∧ (m = ("two" : Str) → (r.length : Int) ≠ 1 ∧ n ≠ 1) ∧ R (.bl (isOf m n r))
def leadRows (m : Str) (b n : Nat) : List (List Int) := (allRows n b).filter (isOf m n)
def unrow (d : D) : List Int := match d with
  | .tup ds => ds.map fun e => match e with | .int i => i | _ => 0
  | _ => []
theorem unrow_row (r : List Int) : unrow (rowD r) = r := by
  show (r.map D.int).map _ = r
  rw [List.map_map]
  exact List.map_id' r
def sLeadsL : FSpec := fun ds R _ => ∃ (m : Str) (b n : Nat), ds = [.str m, .int b, .int n] ∧ m ∈ manners ∧ 1 ≤ b ∧ b ≤ 5 ∧ 1 ≤ n ∧ n ≤ 5 ∧ (m = ("two" : Str) → b ≠ 1 ∧ n ≠ 1) ∧ R (.tup ((leadRows m b n).map (leadD n)))
def sIdleL : FSpec := fun ds R _ => ∃ n : Nat, ds = [.int n] ∧ 1 ≤ n ∧ n ≤ 5 ∧ R (leadD n ((List.range n).map fun (i : Nat) => (i : Int)))
theorem range_ints (n : Nat) : rangeD 0 n = ((List.range n).map fun (i : Nat) => (i : Int)).map D.int := by
  unfold rangeD
  rw [List.map_map]
  congr 1
  funext i
  simp
abbrev s_idle : Stmt := topS 23
theorem sc_idle : FnScope ["things"] ["things"] (defScope s_idle) := ⟨rfl, rfl, rfl, by decide +kernel, rfl, by decide +kernel, by decide +kernel⟩
theorem ok_idle (F : Fun G.K "idle" "idle" s_idle f fd) (bn : Bn mg) (F_demand_world : Fk G P w mg base 4 "demand_world" ["things", "part"] 0 sDemWorldL) (C_Lead : Fc G P w mg base 5 "Lead" 1 ["self", "into", "row"] 0 sLeadInitL) : FnD G P w mg base 7 f fd ["things"] 0 sIdleL := by
  refine FnD.more (fnd_of F sc_idle (fun cdv A outer s H E hr hg => have xk := xk_def (E := E) hr hg; (ds_cons (ds_expr (de_call F_demand_world xk (da_cons (dv 0) (da_cons de_str da_nil)))) (ds_one (ds_ret (de_make C_Lead xk (da_cons (dv 0) (da_cons (de_listRange xk.calm bn.list bn.range (dv 0)) da_nil))))))) ?_) (by decide)
  rintro ds R ex hl ⟨n, rfl, h1, h5, hr⟩
  refine ⟨.int n, rfl, rfl, n, _, rfl, by omega, by omega, ?_⟩
  refine ⟨.int n, rfl, .int n, rfl, n, rfl, by omega, by omega, rfl, n, _, (List.range n).map fun (i : Nat) => (i : Int), rfl, ?_, by omega, by omega, by simp; omega, by simp; omega, ?_, hr⟩
  · show some (rangeD 0 (n : Int).toNat) = _
    rw [Int.toNat_natCast, range_ints]
  · intro i hi
    obtain ⟨j, hj, rfl⟩ := List.mem_map.mp hi
    have := List.mem_range.mp hj
    omega
def atR (r : List Int) (i : Int) : Int := r.getD i.toNat 0
theorem atR_at {r : List Int} {i : Int} (h0 : 0 ≤ i) (h1 : i < r.length) : atI (r.map D.int) i = some (.int (atR r i)) := by
  obtain ⟨j, rfl⟩ := Int.eq_ofNat_of_zero_le h0; have hj : j < r.length := by omega
  refine atI_nat ?_
  rw [List.getElem?_map, List.getElem?_eq_getElem hj]
  simp [atR, List.getD_eq_getElem?_getD, List.getElem?_eq_getElem hj]
def sOfL : FSpec := fun ds R _ => ∃ (n : Int) (r : List Int) (d : D) (is : List Int), ds = [leadD n r, d] ∧ d.items? = some (is.map D.int) ∧ (∀ i ∈ is, 0 ≤ i ∧ i < r.length) ∧ R (rowD (is.map (atR r)))
abbrev s_Lead_of : Stmt := inClass (topS 22) 4
theorem sc_Lead_of : FnScope ["self", "values", "value"] ["self", "values"] (defScope s_Lead_of) := ⟨rfl, rfl, rfl, by decide +kernel, rfl, by decide +kernel, by decide +kernel⟩
theorem ok_Lead_of (F : Fun G.K "of" "Lead.of" s_Lead_of f fd) (bn : Bn mg) (fo : Gk G) (F_demand_numbers : Fk G P w mg base 3 "demand_numbers" ["values", "part"] 0 sDemNumsL) (F_demand_things : Fk G P w mg base 3 "demand_things" ["values", "things"] 0 sDemThingsL) : FnD G P w mg base 5 f fd ["self", "values"] 0 sOfL := by
  refine FnD.more (fnd_of F sc_Lead_of (fun cdv A outer s H E hr hg => have xk := xk_def (E := E) hr hg; (ds_cons (ds_expr (de_call F_demand_numbers xk (da_cons (dv 1) (da_cons de_str da_nil)))) (ds_cons (ds_expr (de_call F_demand_things xk (da_cons (dv 1) (da_cons (de_fld xk.K fo.begin (dv 0)) da_nil)))) (ds_one (ds_ret (de_ty (c_tuple xk.K) bn.tuple (da_cons (de_comp (own := [("value", 2)]) xk sc_Lead_of.nd (di_seq xk.K (dv 1)) (blkOk_by (N := ["self", "values", "value"]) (sc := defScope s_Lead_of) (by decide +kernel)) (fun s H C cl fp => (dg_name (i := 2) sc_Lead_of.nd rfl (Or.inl rfl))) (fun s H C cl fp => dts_nil) (fun s H C cl fp => (de_ix (Xk.blk xk _ _ _ _ _).K (de_fld (Xk.blk xk _ _ _ _ _).K fo.row (dv 0)) (dv 2) (fun _ _ => rfl))) (by simp)) da_nil))))))) ?_) (by decide)
  rintro ds R ex hl ⟨n, r, d, is, rfl, hx, hb, hr⟩
  obtain ⟨m1, m2, m3, i1, i2, i3⟩ := fld_lead fo (n := n) (r := r)
  refine ⟨d, rfl, rfl, d, _, _, rfl, hx, all_isI is, ?_⟩
  refine ⟨d, rfl, leadD n r, rfl, 1, _, _, rfl, m1, i1, rfl, d, is, _, rfl, hx, hb, ?_⟩
  have key : compL (tgName 2) bYes (dOp gIx (dFld G "row" (dVar 0)) (dVar 2)) (fun rs => g1 gTuple [.lst rs] R) (inEnv (env0 ["self", "values", "value"] [leadD n r, d]) [2]) (is.map D.int) [] := by
    refine compL_map (fun e => match e with | .int i => .int (atR r i) | _ => .non) (fun e he K hK => ?_) ?_
    · obtain ⟨i, hi, rfl⟩ := List.mem_map.mp he
      obtain ⟨b1, b2⟩ := hb i hi
      exact ⟨leadD n r, rfl, 1, _, _, rfl, m3, i3, .int i, rfl, _, atR_at b1 b2, hK⟩
    · show R (.tup ([] ++ _))
      rw [List.nil_append, List.map_map]
      have e : rowD (is.map (atR r)) = .tup ((is.map D.int).map fun e => match e with | .int i => .int (atR r i) | _ => .non) := by
        unfold rowD; rw [List.map_map, List.map_map]
        rfl
      rw [List.map_map] at e
      rw [← e]
      exact hr
  refine ⟨d, rfl, ?_⟩
  cases d <;> cases hx
  · exact key
  · exact key
def sThenL : FSpec := fun ds R _ => ∃ (n n2 : Int) (r r2 : List Int), ds = [leadD n r, leadD n2 r2] ∧ (r2.length : Int) = n ∧ (∀ i ∈ r, 0 ≤ i ∧ i < n) ∧ (∀ i ∈ r2, 0 ≤ i ∧ i < n2) ∧ 1 ≤ r.length ∧ r.length ≤ 5 ∧ 1 ≤ n2 ∧ n2 ≤ 5 ∧ R (leadD n2 (r.map (atR r2)))
theorem atR_mem {r : List Int} {i n : Int} (h0 : 0 ≤ i) (h1 : i < r.length) (hb : ∀ j ∈ r, 0 ≤ j ∧ j < n) : 0 ≤ atR r i ∧ atR r i < n := by
  obtain ⟨j, rfl⟩ := Int.eq_ofNat_of_zero_le h0; have hj : j < r.length := by omega
  have e : atR r (j : Int) = r[j] := by simp [atR, List.getD_eq_getElem?_getD, List.getElem?_eq_getElem hj]
  rw [e]
  exact hb _ (List.getElem_mem hj)
abbrev s_Lead_then : Stmt := inClass (topS 22) 5
theorem sc_Lead_then : FnScope ["self", "other"] ["self", "other"] (defScope s_Lead_then) := ⟨rfl, rfl, rfl, by decide +kernel, rfl, by decide +kernel, by decide +kernel⟩
theorem ok_Lead_then (F : Fun G.K "then" "Lead.then" s_Lead_then f fd) (bn : Bn mg) (fo : Gk G) (M_of : Fm G P w mg base 5 1 "of" ["self", "values"] 0 sOfL) (C_Lead : Fc G P w mg base 5 "Lead" 1 ["self", "into", "row"] 0 sLeadInitL) (r_Lead : mg "Lead" = some (.ref (G.cl 1))) : FnD G P w mg base 7 f fd ["self", "other"] 0 sThenL := by
  refine FnD.more (fnd_of F sc_Lead_then (fun cdv A outer s H E hr hg => have xk := xk_def (E := E) hr hg; (ds_cons (ds_if (dt_cmp (o_isnC) (de_ty (c_type) bn.type (da_cons (dv 1) da_nil)) (de_ref r_Lead) (by rfl)) (ds_one ds_never) ds_nil) (ds_cons (ds_if (dt_cmp (o_ne xk.K xk.u64) (de_fld xk.K fo.begin (dv 1)) (de_fld xk.K fo.into (dv 0)) (by rfl)) (ds_one ds_never) ds_nil) (ds_one (ds_ret (de_make C_Lead xk (da_cons (de_fld xk.K fo.into (dv 1)) (da_cons (de_meth M_of xk (dv 1) (da_cons (de_fld xk.K fo.row (dv 0)) da_nil)) da_nil)))))))) ?_) (by decide)
  rintro ds R ex hl ⟨n, n2, r, r2, rfl, hfit, hb, hb2, h1, h5, g1', g5, hr⟩
  obtain ⟨m1, m2, m3, i1, i2, i3⟩ := fld_lead fo (n := n) (r := r)
  obtain ⟨_, _, _, j1, j2, j3⟩ := fld_lead fo (n := n2) (r := r2)
  refine ⟨_, rfl, 1, _, rfl, G.cl 1, rfl, rfl, false, rfl, ?_⟩
  refine ⟨leadD n2 r2, rfl, 1, _, _, rfl, m1, j1, leadD n r, rfl, 1, _, _, rfl, m2, i2, ?_⟩
  refine ne_int ?_
  refine ⟨!((r2.length : Int) == n), rfl, ?_⟩
  rw [beq_iff_eq.mpr hfit]
  refine ⟨leadD n2 r2, rfl, 1, _, _, rfl, m2, j2, leadD n2 r2, rfl, _, rfl, leadD n r, rfl, 1, _, _, rfl, m3, i3, rfl, n2, r2, _, r, rfl, rfl, by rw [hfit]; exact hb, ?_⟩
  refine ⟨rfl, n2, _, r.map (atR r2), rfl, rfl, g1', g5, by simpa using h1, by simpa using h5, fun i hi => ?_, hr⟩
  obtain ⟨q, hq, rfl⟩ := List.mem_map.mp hi
  obtain ⟨b1, b2⟩ := hb q hq
  exact atR_mem b1 (by rw [hfit]; exact b2) hb2
end
end Pg

set_option Elab.async false
set_option linter.all false
set_option maxRecDepth 100000
set_option maxHeartbeats 4100000
namespace Pg
open PySem L2 RZ Kn
section
variable {G : Gd} {P : Program} {w : World} {mg : Str → Option Value} {base : Heap} {f : Addr} {fd : FuncData}
theorem ite_of {b : Bool} {X Y : Prop} (h1 : b = true → X) (h2 : b = false → Y) : if b = true then X else Y := by
  cases b with
  | true => exact h1 rfl
  | false => exact h2 rfl
theorem seq_to {t u : DS} {ex : Exc → Prop} {de : DEnds} {env : List Sl} (I : List Sl → Prop) (h1 : ∀ de' : DEnds, (∀ env', I env' → de'.nx env') → de'.rt = de.rt → t ex de' env) (h2 : ∀ env', I env' → u ex de env') : sSeq t u ex de env :=
  h1 { de with nx := fun env' => u ex de env' } (fun env' h => h2 env' h) rfl
theorem pdL_none {is : List Int} : pd (.lst (is.map D.int)) = some (.list (is.map PyData.int)) := by simp [pd, pdL_int]
theorem shaped_lst (is : List Int) : SeqAt.shaped (.list (is.map PyData.int)) = true := shaped_row is
theorem ne_nil {is : List Int} {Q : D → Prop} (h : Q (.bl (!is.isEmpty))) : gNe (.lst (is.map D.int)) (.lst []) Q := by
  refine ⟨_, .list [], pdL_none, rfl, shaped_lst is, shaped_lst [], ?_⟩
  cases is with
  | nil => exact h
  | cons a l => exact h
theorem pow18 : PowOk 10 18 := powOk_of (a := 4) (by decide) (by decide) (by decide)
theorem abs_lt_pow {x : Int} {n : Nat} (h0 : 0 ≤ x) (h : x < 2 ^ n) : x.natAbs < 2 ^ n := by
  have h1 : ((x.natAbs : Nat) : Int) = x := Int.natAbs_of_nonneg h0
  have h2 : ((x.natAbs : Nat) : Int) < ((2 ^ n : Nat) : Int) := by rw [h1]; push_cast; exact h
  exact_mod_cast h2
theorem pos_of {j : Int} (h : decide (0 < j) = true) : 0 < j := of_decide_eq_true h
theorem line_pos : (1 : Int) ≤ atLine := by
  unfold atLine
  first | exact Int.pow_pos (by decide) | exact Int.pos_pow_of_pos 4096 (by decide) | exact pow_pos (by decide) 4096
theorem pow_split (n : Nat) : (2 : Int) ^ (n + 4096) = 2 ^ n * atLine := by unfold atLine; rw [Int.pow_add]
theorem draw_pow1 {m k k2 t : Int} (hm : 0 ≤ m) (hm2 : m < 2 ^ 62) (hk : 0 ≤ k) (hk2 : k < 2 ^ 62) (hj : 0 ≤ k2) (hj2 : k2 < 2 ^ 62) (h0 : 0 ≤ t) (h1 : t < atLine) : PowOk (m + k * t + k2) 5 := by
  have hT := line_pos
  have hkt : k * t ≤ 2 ^ 62 * atLine := Int.mul_le_mul (by omega) (by omega) h0 (by decide)
  have hkt0 : 0 ≤ k * t := Int.mul_nonneg hk h0
  refine powOk_of (a := 104 + 4096) (abs_lt_pow (by omega) ?_) (by decide) (by decide)
  rw [pow_split]
  generalize k * t = u at *
  generalize atLine = T at *
  omega
theorem draw_wide {k t : Int} (hk : 0 ≤ k) (hk2 : k < 2 ^ 62) (h0 : 0 ≤ t) (h1 : t < atLine) : CMulW (k * t) t := by
  have hT := line_pos
  have hkt : k * t ≤ 2 ^ 62 * atLine := Int.mul_le_mul (by omega) (by omega) h0 (by decide)
  have hkt0 : 0 ≤ k * t := Int.mul_nonneg hk h0
  refine wide_mul (a := 104 + 4096) (b := 4096) (abs_lt_pow hkt0 ?_) (abs_lt_pow h0 h1) (by decide) (by decide) (by decide)
  rw [pow_split]
  generalize k * t = u at *
  generalize atLine = T at *
  omega
theorem draw_pow2 {m c2 c1 k k2 t : Int} (hm : 0 ≤ m) (hm2 : m < 2 ^ 62) (a0 : 0 ≤ c2) (a1 : c2 < 2 ^ 62) (b0 : 0 ≤ c1) (b1 : c1 < 2 ^ 62) (hk : 0 ≤ k) (hk2 : k < 2 ^ 62) (hj : 0 ≤ k2) (hj2 : k2 < 2 ^ 62) (h0 : 0 ≤ t) (h1 : t < atLine) : PowOk (m * (c2 * t + c1) + k * t * t + k2) 3 := by
  have hT := line_pos
  have e1 : c2 * t ≤ 2 ^ 62 * atLine := Int.mul_le_mul (by omega) (by omega) h0 (by decide)
  have e1' : 0 ≤ c2 * t := Int.mul_nonneg a0 h0
  have e2 : m * (c2 * t + c1) ≤ 2 ^ 62 * (2 ^ 62 * atLine + 2 ^ 62) := Int.mul_le_mul (by omega) (by omega) (by omega) (by decide)
  have e2' : 0 ≤ m * (c2 * t + c1) := Int.mul_nonneg hm (by omega)
  have e3 : k * t ≤ 2 ^ 62 * atLine := Int.mul_le_mul (by omega) (by omega) h0 (by decide)
  have e3' : 0 ≤ k * t := Int.mul_nonneg hk h0
  have e4 : k * t * t ≤ 2 ^ 62 * atLine * atLine := Int.mul_le_mul e3 (by omega) h0 (by omega)
  have e4' : 0 ≤ k * t * t := Int.mul_nonneg e3' h0
  have e5 : atLine ≤ atLine * atLine := by
    have := Int.mul_le_mul_of_nonneg_left hT (show (0 : Int) ≤ atLine by omega)
    rw [Int.mul_one] at this
    exact this
  refine powOk_of (a := (200 + 4096) + 4096) (abs_lt_pow (by omega) ?_) (by decide) (by decide)
  rw [pow_split, pow_split]
  have e6 : (2 : Int) ^ 200 * atLine * atLine = 2 ^ 200 * (atLine * atLine) := Int.mul_assoc _ _ _
  have e7 : (2 : Int) ^ 62 * atLine * atLine = 2 ^ 62 * (atLine * atLine) := Int.mul_assoc _ _ _
  rw [e6]
  rw [e7] at e4
  generalize m * (c2 * t + c1) = u at *
  generalize k * t * t = v at *
  generalize atLine * atLine = S at *
  generalize atLine = T at *
  omega
theorem in_strs {m : Str} {ts : List Str} {Q : D → Prop} (hm : PyData.strOk m = true) (hts : SeqAt.shaped (.tuple (ts.map PyData.str)) = true) (h : Q (.bl (ts.any (· == m)))) : gInT (.str m) (.tup (strsD ts)) Q :=
  ⟨.str m, ts.map PyData.str, strsD ts, rfl, rfl, pdL_str ts, shaped_str hm, hts, by rw [List.any_map]; exact h⟩
theorem ne_lst {is js : List Int} {Q : D → Prop} (h : Q (.bl (!(is == js)))) : gNe (.lst (is.map D.int)) (.lst (js.map D.int)) Q :=
  ⟨_, _, pdL_none, pdL_none, shaped_lst is, shaped_lst js, by rw [show PyData.eqv (.list (is.map PyData.int)) (.list (js.map PyData.int)) = PyData.eqvAll (is.map PyData.int) (js.map PyData.int) from rfl, eqvAll_int]; exact h⟩
theorem eq_lst {is js : List Int} {Q : D → Prop} (h : Q (.bl (is == js))) : gEq (.lst (is.map D.int)) (.lst (js.map D.int)) Q :=
  ⟨_, _, pdL_none, pdL_none, shaped_lst is, shaped_lst js, by rw [show PyData.eqv (.list (is.map PyData.int)) (.list (js.map PyData.int)) = PyData.eqvAll (is.map PyData.int) (js.map PyData.int) from rfl, eqvAll_int]; exact h⟩
def srt (r : List Int) : List Int := r.mergeSort fun a b => decide (a ≤ b)
theorem srt_perm (r : List Int) : (srt r).Perm r := List.mergeSort_perm r _
theorem srt_pw (r : List Int) : (srt r).Pairwise (· ≤ ·) := by
  have h := List.pairwise_mergeSort (le := fun a b : Int => decide (a ≤ b)) (fun a b c h1 h2 => by simp only [decide_eq_true_eq] at *; omega) (fun a b => by simp only [Bool.or_eq_true, decide_eq_true_eq]; omega) r
  exact h.imp fun {a b} z => of_decide_eq_true z
theorem srt_uniq {ns r : List Int} (p : ns.Perm r) (s : ns.Pairwise (· ≤ ·)) : ns = srt r :=
  List.Perm.eq_of_pairwise (le := (· ≤ ·)) (fun a b _ _ h1 h2 => Int.le_antisymm h1 h2) s (srt_pw r) (p.trans (srt_perm r).symm)
theorem neC {x c : D} {ex : Exc → Prop} {env : List Sl} {Q : D → Prop} (h : gNe x c Q) : dC c ex env fun y => gNe x y Q := h
theorem gSl_two {r : List Int} {Q : D → Prop} (h : Q (rowD (r.take 2))) : gSl none (some 2) (rowD r) Q := by
  show Q (.tup (cutD (r.map D.int) none (some 2)))
  rw [cut_to2, ← List.map_take]
  exact h
/-- a test whose answer is known -/
def Tst (t : DB) (ex : Exc → Prop) (env : List Sl) (x : Bool) : Prop := ∀ K : Bool → Prop, K x → t ex env K
section
variable {t u : DB} {ex : Exc → Prop} {env : List Sl} {x y : Bool}
theorem tst_or (h1 : Tst t ex env x) (h2 : x = false → Tst u ex env y) : Tst (bOr t u) ex env (x || y) := fun K hK => h1 _ (by
  cases x with
  | true => exact hK
  | false => exact h2 rfl K hK)
theorem tst_and (h1 : Tst t ex env x) (h2 : x = true → Tst u ex env y) : Tst (bAnd t u) ex env (x && y) := fun K hK => h1 _ (by
  cases x with
  | true => exact h2 rfl K hK
  | false => exact hK)
theorem sif_of {a b : DS} {de : DEnds} (h : Tst t ex env x) (h1 : x = true → a ex de env) (h2 : x = false → b ex de env) : sIf t a b ex de env := h _ (by
  cases x with
  | true => exact h1 rfl
  | false => exact h2 rfl)
end
def rowP (r : List Int) : PyData := .tuple (r.map PyData.int)
def Small (r : List Int) : Prop := r.length ≤ 5 ∧ ∀ i ∈ r, 0 ≤ i ∧ i < 8
theorem pd_rows : ∀ rows : List (List Int), pdL (rows.map rowD) = some (rows.map rowP)
  | [] => rfl
  | r :: rows => by
    have h := pd_rows rows
    simp only [List.map_cons, pdL, h]
    rw [show pd (rowD r) = some (rowP r) by simp [rowD, rowP, pd, pdL_int]]
theorem small_cases {i : Int} (h : 0 ≤ i ∧ i < 8) : i = 0 ∨ i = 1 ∨ i = 2 ∨ i = 3 ∨ i = 4 ∨ i = 5 ∨ i = 6 ∨ i = 7 := by omega
theorem int_facts {i : Int} (h : 0 ≤ i ∧ i < 8) : PyData.weight (.int i) ≤ 3 ∧ PyData.showable (.int i) = true ∧ PyData.intsShort 13 (.int i) = true := by
  rcases small_cases h with rfl | rfl | rfl | rfl | rfl | rfl | rfl | rfl <;> decide +kernel
theorem ints_facts : ∀ {r : List Int}, (∀ i ∈ r, 0 ≤ i ∧ i < 8) → PyData.weightAll (r.map PyData.int) ≤ 4 * r.length ∧ PyData.showableAll (r.map PyData.int) = true ∧ PyData.intsShortAll 13 (r.map PyData.int) = true ∧ PyData.hasDictAll (r.map PyData.int) = false
  | [], _ => by decide
  | i :: r, h => by
    obtain ⟨h1, h2, h3⟩ := int_facts (h i List.mem_cons_self)
    obtain ⟨k1, k2, k3, k4⟩ := ints_facts (r := r) fun j hj => h j (List.mem_cons_of_mem _ hj)
    refine ⟨?_, ?_, ?_, ?_⟩
    · show PyData.weight (.int i) + 1 + PyData.weightAll (r.map PyData.int) ≤ _
      rw [List.length_cons]; omega
    · show (PyData.showable (.int i) && PyData.showableAll (r.map PyData.int)) = true
      rw [h2, k2]; rfl
    · show (PyData.intsShort 13 (.int i) && PyData.intsShortAll 13 (r.map PyData.int)) = true
      rw [h3, k3]; rfl
    · show (PyData.hasDict (.int i) || PyData.hasDictAll (r.map PyData.int)) = false
      rw [k4]; rfl
theorem rows_facts : ∀ {rows : List (List Int)}, (∀ r ∈ rows, Small r) → PyData.weightAll (rows.map rowP) ≤ 21 * rows.length ∧ PyData.showableAll (rows.map rowP) = true ∧ PyData.intsShortAll 13 (rows.map rowP) = true ∧ PyData.hasDictAll (rows.map rowP) = false ∧ PyData.canLayAll0 (rows.map rowP) = true ∧ PyData.depthAll (rows.map rowP) ≤ 2
  | [], _ => by decide
  | r :: rows, h => by
    obtain ⟨hl, hv⟩ := h r List.mem_cons_self
    obtain ⟨h1, h2, h3, h4⟩ := ints_facts hv
    obtain ⟨k1, k2, k3, k4, k5, k6⟩ := rows_facts (rows := rows) fun j hj => h j (List.mem_cons_of_mem _ hj)
    have hd := depth_int r
    refine ⟨?_, ?_, ?_, ?_, ?_, ?_⟩
    · show PyData.weightAll (r.map PyData.int) + 1 + PyData.weightAll (rows.map rowP) ≤ _
      rw [List.length_cons]; omega
    · show (PyData.showableAll (r.map PyData.int) && PyData.showableAll (rows.map rowP)) = true
      rw [h2, k2]; rfl
    · show (PyData.intsShortAll 13 (r.map PyData.int) && PyData.intsShortAll 13 (rows.map rowP)) = true
      rw [h3, k3]; rfl
    · show (PyData.hasDictAll (r.map PyData.int) || PyData.hasDictAll (rows.map rowP)) = false
      rw [h4, k4]; rfl
    · show (PyData.canLayAll0 (r.map PyData.int) && PyData.canLayAll0 (rows.map rowP)) = true
      rw [lay_int, k5]; rfl
    · show max (PyData.depthAll (r.map PyData.int) + 1) (PyData.depthAll (rows.map rowP)) ≤ 2
      omega
/-- repr of a list of small rows is its shown text -/
theorem repr_rows {rows : List (List Int)} {Q : D → Prop} (h : ∀ r ∈ rows, Small r) (hl : rows.length ≤ 4000) (hq : Q (.str (PyData.shown (.list (rows.map rowP))))) : gRepr (.lst (rows.map rowD)) Q := by
  obtain ⟨h1, h2, h3, h4, h5, h6⟩ := rows_facts h
  have hdep : PyData.depth (.list (rows.map rowP)) ≤ 3 := by show PyData.depthAll (rows.map rowP) + 1 ≤ 3; omega
  refine .inr ⟨⟨_, .inl rfl⟩, .list (rows.map rowP), ?_, ?_, h2, h4, ?_, hq⟩
  · show (pdL (rows.map rowD)).map PyData.list = _
    rw [pd_rows]; rfl
  · unfold SeqAt.shaped
    rw [show PyData.canLay0 (.list (rows.map rowP)) = PyData.canLayAll0 (rows.map rowP) from rfl, h5, Bool.true_and]; exact decide_eq_true (by omega)
  · have hlay : PyData.layable0 (.list (rows.map rowP)) = true := by
      unfold PyData.layable0
      rw [show PyData.canLay0 (.list (rows.map rowP)) = PyData.canLayAll0 (rows.map rowP) from rfl, h5, decide_eq_true (show PyData.depth (.list (rows.map rowP)) ≤ 64 by omega), decide_eq_true (show PyData.weight (.list (rows.map rowP)) ≤ 2 ^ 20 by show PyData.weightAll (rows.map rowP) ≤ 2 ^ 20; omega)]
      rfl
    have := PyProof.Rows.shown_le13 hlay (show PyData.intsShort 13 (.list (rows.map rowP)) = true from h3)
    rw [sizeLine_eq]; omega
theorem eqvAll_str : ∀ ts us : List Str, PyData.eqvAll (ts.map PyData.str) (us.map PyData.str) = (ts == us)
  | [], [] => rfl
  | [], _ :: _ => rfl
  | _ :: _, [] => rfl
  | t :: ts, u :: us => by
    show ((t == u) && PyData.eqvAll (ts.map PyData.str) (us.map PyData.str)) = _
    rw [eqvAll_str ts us]
    rfl
theorem ne_strs {ts us : List Str} {Q : D → Prop} (h1 : SeqAt.shaped (.tuple (ts.map PyData.str)) = true) (h2 : SeqAt.shaped (.tuple (us.map PyData.str)) = true) (h : Q (.bl (!(ts == us)))) : gNe (.tup (strsD ts)) (.tup (strsD us)) Q :=
  ⟨.tuple (ts.map PyData.str), .tuple (us.map PyData.str), by show (pdL (strsD ts)).map PyData.tuple = _; rw [pdL_str]; rfl, by show (pdL (strsD us)).map PyData.tuple = _; rw [pdL_str]; rfl, h1, h2, by rw [show PyData.eqv (.tuple (ts.map PyData.str)) (.tuple (us.map PyData.str)) = PyData.eqvAll (ts.map PyData.str) (us.map PyData.str) from rfl, eqvAll_str]; exact h⟩
theorem ne_row {is js : List Int} {Q : D → Prop} (h : Q (.bl (!(is == js)))) : gNe (.tup (is.map D.int)) (.tup (js.map D.int)) Q :=
  ⟨.tuple (is.map PyData.int), .tuple (js.map PyData.int), by simp [pd, pdL_int], by simp [pd, pdL_int], shaped_row is, shaped_row js, by rw [show PyData.eqv (.tuple (is.map PyData.int)) (.tuple (js.map PyData.int)) = PyData.eqvAll (is.map PyData.int) (js.map PyData.int) from rfl, eqvAll_int]; exact h⟩
theorem nilLen {ex : Exc → Prop} {env : List Sl} {ds : List D} {Q : D → Prop} (h : Q (.int ds.length)) : aNil ex env fun xs => g1 gLen (.lst ds :: xs) Q := h
theorem nilR {ex : Exc → Prop} {env : List Sl} {d : D} {Q : D → Prop} (h : gRepr d Q) : aNil ex env fun xs => g1 gRepr (d :: xs) Q := h
theorem ints_of {P : Int → Prop} : ∀ {rs : List D}, (∀ d ∈ rs, ∃ i : Int, d = .int i ∧ P i) → ∃ is : List Int, rs = is.map D.int ∧ is.length = rs.length ∧ ∀ i ∈ is, P i
  | [], _ => ⟨[], rfl, rfl, fun _ h => by cases h⟩
  | d :: rs, h => by
    obtain ⟨i, rfl, hi⟩ := h d List.mem_cons_self
    obtain ⟨is, rfl, hl, hv⟩ := ints_of (rs := rs) fun e he => h e (List.mem_cons_of_mem _ he)
    exact ⟨i :: is, rfl, by simp, fun j hj => by
      rcases List.mem_cons.mp hj with rfl | hj
      · exact hi
      · exact hv j hj⟩
theorem all_of {R : D → D → Prop} {ds rs : List D} (hl : rs.length = ds.length) (h : ∀ (i : Nat) (d r : D), ds[i]? = some d → rs[i]? = some r → R d r) : ∀ r ∈ rs, ∃ d ∈ ds, R d r := fun r hr => by
  obtain ⟨i, hi, rfl⟩ := List.getElem_of_mem hr
  have hi2 : i < ds.length := by omega
  exact ⟨ds[i], List.getElem_mem hi2, h i _ _ (List.getElem?_eq_getElem hi2) (List.getElem?_eq_getElem hi)⟩
/-- a row of b things below n -/
def RowIn (b n : Nat) (r : List Int) : Prop := r.length = b ∧ ∀ i ∈ r, 0 ≤ i ∧ i < (n : Int)
theorem cut_from2 {xs : List D} : cutD xs (some 2) none = xs.drop 2 := by
  unfold cutD
  rw [show HT.sIx xs.length 0 (some 2) = min 2 xs.length from HT.sIx_nat xs.length 0 2, HT.sIx_none]
  by_cases h : 2 ≤ xs.length
  · rw [Nat.min_eq_left h]
    rw [List.take_of_length_le
          (by simp)]
  · rw [Nat.min_eq_right (by omega), List.drop_eq_nil_of_le (by omega), List.drop_eq_nil_of_le (by omega)]
    simp
theorem gSlN {a : Option Int} {r q : List Int} {ex : Exc → Prop} {env : List Sl} {Q : D → Prop} (h : cutD (r.map D.int) a none = q.map D.int) (hq : Q (rowD q)) : oNone ex env fun u => gSl a u (rowD r) Q := by
  show Q (.tup (cutD (r.map D.int) a none))
  rw [h]
  exact hq
end
end Pg

set_option Elab.async false
set_option linter.all false
set_option maxRecDepth 100000
set_option maxHeartbeats 4100000
namespace Pg
open PySem L2 RZ Kn
section
variable {G : Gd} {P : Program} {w : World} {mg : Str → Option Value} {base : Heap} {f : Addr} {fd : FuncData}
theorem digit_len {i : Int} (h0 : 0 ≤ i) (h1 : i < 10) : (Str.ofString (toString i)).length = 1 := by
  rcases (show i = 0 ∨ i = 1 ∨ i = 2 ∨ i = 3 ∨ i = 4 ∨ i = 5 ∨ i = 6 ∨ i = 7 ∨ i = 8 ∨ i = 9 by omega) with rfl | rfl | rfl | rfl | rfl | rfl | rfl | rfl | rfl | rfl <;> decide +kernel
def numS (i : Int) : Str := Str.ofString (toString i)
theorem numS_inj {i j : Int} (h0 : 0 ≤ i) (h1 : i < 10) (g0 : 0 ≤ j) (g1 : j < 10) : numS i = numS j ↔ i = j := by
  refine ⟨fun h => ?_, fun h => by rw [h]⟩
  have key : ((List.range 10).all fun a => (List.range 10).all fun b => !(numS (a : Nat) == numS (b : Nat)) || a == b) = true := by decide +kernel
  obtain ⟨a, rfl⟩ := Int.eq_ofNat_of_zero_le h0; obtain ⟨b, rfl⟩ := Int.eq_ofNat_of_zero_le g0
  have k2 := List.all_eq_true.mp (List.all_eq_true.mp key a (List.mem_range.mpr (by omega))) b (List.mem_range.mpr (by omega))
  rcases Bool.or_eq_true_iff.mp k2 with z | z
  · rw [beq_iff_eq.mpr h] at z; cases z
  · rw [beq_iff_eq.mp z]
def spc (is : List Int) : Str := Txt.join " " (is.map numS)
def digitsOk (is : List Int) : Prop := ∀ i ∈ is, 0 ≤ i ∧ i < 10
theorem digits_len : ∀ {is : List Int}, digitsOk is → ((is.map numS).map (·.length)).sum = is.length
  | [], _ => rfl
  | i :: is, h => by
    have h1 := h i List.mem_cons_self
    rw [List.map_cons, List.map_cons, List.sum_cons, digits_len fun j hj => h j (List.mem_cons_of_mem _ hj), show (numS i).length = 1 from digit_len h1.1 h1.2, List.length_cons]
    omega
theorem digit_log {i : Int} (h0 : 0 ≤ i) (h1 : i < 10) : i.natAbs.log2 < 1920 := by
  rcases (show i = 0 ∨ i = 1 ∨ i = 2 ∨ i = 3 ∨ i = 4 ∨ i = 5 ∨ i = 6 ∨ i = 7 ∨ i = 8 ∨ i = 9 by omega) with rfl | rfl | rfl | rfl | rfl | rfl | rfl | rfl | rfl | rfl <;> decide
def sSpaced : FSpec := fun ds R _ => ∃ (d : D) (is : List Int), ds = [d] ∧ d.items? = some (is.map D.int) ∧ digitsOk is ∧ is.length ≤ 1000 ∧ R (.str (spc is))
theorem blank_len : (Str.ofString " ").length = 1 := by decide +kernel
theorem map_num {is : List Int} : (is.map D.int).map (fun e => match e with | .int i => D.str (numS i) | _ => .non) = (is.map numS).map D.str := by
  rw [List.map_map,
        List.map_map]
  rfl
abbrev s_spaced : Stmt := topS 19
theorem sc_spaced : FnScope ["numbers", "number"] ["numbers"] (defScope s_spaced) := ⟨rfl, rfl, rfl, by decide +kernel, rfl, by decide +kernel, by decide +kernel⟩
theorem ok_spaced (F : Fun G.K "spaced" "spaced" s_spaced f fd) (bn : Bn mg)  : FnD G P w mg base 1 f fd ["numbers"] 0 sSpaced := by
  refine FnD.more (fnd_of F sc_spaced (fun cdv A outer s H E hr hg => have xk := xk_def (E := E) hr hg; (ds_one (ds_ret (de_join xk.K de_str (de_comp (own := [("number", 1)]) xk sc_spaced.nd (di_seq xk.K (dv 0)) (blkOk_by (N := ["numbers", "number"]) (sc := defScope s_spaced) (by decide +kernel)) (fun s H C cl fp => (dg_name (i := 1) sc_spaced.nd rfl (Or.inl rfl))) (fun s H C cl fp => dts_nil) (fun s H C cl fp => (de_ty (c_str) bn.str (da_cons (dv 1) da_nil))) (by simp)))))) ?_) (by decide)
  rintro ds R ex hl ⟨d, is, rfl, hx, hd, hlen, hr⟩
  have key : compL (tgName 1) bYes (dBi (g1 gStrI) (aCons (dVar 1) aNil)) (fun rs => ∃ ys : List Str, (D.lst rs = .lst (ys.map D.str) ∨ D.lst rs = .tup (ys.map D.str)) ∧ (ys.map (·.length)).sum + ys.length * (Str.ofString " ").length ≤ 16777216 ∧ R (.str (Txt.join " " ys))) (inEnv (env0 ["numbers", "number"] [d]) [1]) (is.map D.int) [] := by
    refine compL_map (fun e => match e with | .int i => .str (numS i) | _ => .non) (fun e he K hK => ?_) ?_
    · obtain ⟨i, hi, rfl⟩ := List.mem_map.mp he
      obtain ⟨h0, h1⟩ := hd i hi
      exact ⟨_, rfl, digit_log h0 h1, hK⟩
    · rw [List.nil_append, map_num]
      refine ⟨is.map numS, .inl rfl, ?_, hr⟩
      rw [digits_len hd, blank_len, List.length_map]
      omega
  refine ⟨_, rfl, d, rfl, ?_⟩
  cases d <;> cases hx
  · exact key
  · exact key
def sStrLead : FSpec := fun ds R _ => ∃ (n : Int) (r : List Int), ds = [leadD n r] ∧ 0 ≤ n ∧ n < 10 ∧ digitsOk r ∧ r.length ≤ 1000 ∧ R (.str (spc r ++ " : " ++ numS n))
theorem spc_len {is : List Int} (h : digitsOk is) : (spc is).length ≤ 2 * is.length := by
  unfold spc
  rw [TL.join_eq]
  have h1 := StrLaws.join_length_le " " (is.map numS)
  rw [digits_len h, blank_len, List.length_map] at h1
  omega
abbrev s_Lead___str__ : Stmt := inClass (topS 22) 2
theorem sc_Lead___str__ : FnScope ["self"] ["self"] (defScope s_Lead___str__) := ⟨rfl, rfl, rfl, by decide +kernel, rfl, by decide +kernel, by decide +kernel⟩
theorem ok_Lead___str__ (F : Fun G.K "__str__" "Lead.__str__" s_Lead___str__ f fd) (bn : Bn mg) (fo : Gk G) (F_spaced : Fk G P w mg base 1 "spaced" ["numbers"] 0 sSpaced) : FnD G P w mg base 2 f fd ["self"] 0 sStrLead := by
  refine FnD.more (fnd_of F sc_Lead___str__ (fun cdv A outer s H E hr hg => have xk := xk_def (E := E) hr hg; (ds_one (ds_ret (de_joined (DJ.cons (de_fmt (de_call F_spaced xk (da_cons (de_fld xk.K fo.row (dv 0)) da_nil))) (DJ.cons de_str (DJ.cons (de_fmt (de_fld xk.K fo.into (dv 0))) DJ.nil))))))) ?_) (by decide)
  rintro ds R ex hl ⟨n, r, rfl, n0, n1, hd, hlen, hr⟩
  obtain ⟨m1, m2, m3, i1, i2, i3⟩ := fld_lead fo (n := n) (r := r)
  have hs := spc_len hd
  refine ⟨_, rfl, 1, _, _, rfl, m3, i3, rfl, rowD r, r, rfl, rfl, hd, hlen, ?_⟩
  have hn : (numS n).length = 1 := digit_len n0 n1
  have hc : (Str.ofString " : ").length = 3 := by decide +kernel
  refine .inl ⟨_, rfl, small (by omega), _, rfl, by rw [Str.empty_append]; exact small (by omega), ?_⟩
  rw [Str.empty_append]
  refine ⟨_, rfl, by rw [Str.length_append]; exact small (by omega), ?_⟩
  refine ⟨_, rfl, 1, _, _, rfl, m2, i2, .inr ⟨n, rfl, digit_log n0 n1, _, rfl, ?_, hr⟩⟩
  show (spc r ++ " : " ++ numS n).length ≤ _
  rw [Str.length_append, Str.length_append]; exact small (by omega)
/-- the reader of a text that is made of the words ws, p of them taken -/
def itemsD (ws : List Str) (p : Nat) : D := .ins 2 [.lst (ws.map D.str), .int p]
def sItemsInit : FSpec := fun ds R _ => ∃ ws : List Str, ds = [.str (Txt.join " " ws)] ∧ ws ≠ [] ∧ (∀ v ∈ ws, 32 ∉ TL.tl v) ∧ (Txt.join " " ws).length ≤ 90000 ∧ ws.length ≤ 90000 ∧ R (itemsD ws 0)
theorem split_words {ws : List Str} (h : ws ≠ []) (hb : ∀ v ∈ ws, 32 ∉ TL.tl v) : Txt.split (Txt.join " " ws) " " = ws :=
  TL.split_join (y := Str.ofString " ") (s := 32) (S := []) (by decide +kernel) (by decide +kernel) h hb
theorem fld_items (fo : Gk G) {a b : D} : (("words" : Str) ∈ G.fl 2 ∧ ("taken" : Str) ∈ G.fl 2 ∧ [a, b][(G.fl 2).idxOf ("words" : Str)]? = some a ∧ [a, b][(G.fl 2).idxOf ("taken" : Str)]? = some b) := by
  rw [fo.fl2]
  exact ⟨by decide, by decide, rfl, rfl⟩
abbrev s_Items___init__ : Stmt := inClass (topS 20) 0
theorem sc_Items___init__ : FnScope ["self", "text"] ["self", "text"] (defScope s_Items___init__) := ⟨rfl, rfl, rfl, by decide +kernel, rfl, by decide +kernel, by decide +kernel⟩
theorem ok_Items___init__ (F : Fun G.K "__init__" "Items.__init__" s_Items___init__ f fd) (bn : Bn mg) (fo : Gk G) : InitD G P w mg base 1 f fd ["self", "text"] 0 2 sItemsInit := by
  refine InitD.more (initd_of F sc_Items___init__ (fun cdv A outer s H E hr hg => have xk := xk_def (E := E) hr hg; (ds_cons (ds_if (dt_not (dt_val (de_bi (c_isi xk.K) bn.isinstance (da_cons (dv 1) (da_cons (de_tyn (n := "str") bn.str) da_nil))))) (ds_one ds_never) ds_nil) (ds_cons (ds_fld (i := 0) xk.K fo.words fo.nd fo.sm rfl (de_split (dv 1) de_str)) (ds_one (ds_fld (i := 0) xk.K fo.taken fo.nd fo.sm rfl de_int))))) ?_) (by decide)
  rintro a dx ds R ex hl ⟨ws, rfl, hne, hb, hlx, hlw, hr⟩
  have hsp := split_words hne hb
  refine ⟨_, rfl, _, _, rfl, isB_str, true, rfl, ?_⟩
  refine ⟨_, rfl, _, rfl, _, rfl, by decide +kernel, small (by omega), by rw [hsp]; exact small (by omega), ?_⟩
  rw [hsp]
  refine ⟨a, dx, 2, [], rfl, by rw [fo.fl2]; rfl, ?_⟩
  refine ⟨a, dx, 2, _, rfl, by rw [fo.fl2]; rfl, ?_⟩
  exact ⟨_, rfl, by rw [fo.fl2]; rfl, hr⟩
def sStands : FSpec := fun ds R _ => ∃ (ws : List Str) (p : Nat) (v : Str), ds = [itemsD ws p, .str v] ∧ R (.bl (decide (ws[p]? = some v)))
abbrev s_Items_stands : Stmt := inClass (topS 20) 1
theorem sc_Items_stands : FnScope ["self", "word"] ["self", "word"] (defScope s_Items_stands) := ⟨rfl, rfl, rfl, by decide +kernel, rfl, by decide +kernel, by decide +kernel⟩
theorem ok_Items_stands (F : Fun G.K "stands" "Items.stands" s_Items_stands f fd) (bn : Bn mg) (fo : Gk G) : FnD G P w mg base 1 f fd ["self", "word"] 0 sStands := by
  refine FnD.more (fnd_of F sc_Items_stands (fun cdv A outer s H E hr hg => have xk := xk_def (E := E) hr hg; (ds_one (ds_ret (de_and (de_cmp (o_lt) (de_fld xk.K fo.taken (dv 0)) (de_bi (c_len xk.K) bn.len (da_cons (de_fld xk.K fo.words (dv 0)) da_nil)) (by rfl)) (de_one (de_cmp (o_eqS) (de_ix xk.K (de_fld xk.K fo.words (dv 0)) (de_fld xk.K fo.taken (dv 0)) (fun _ _ => rfl)) (dv 1) (by rfl))))))) ?_) (by decide)
  rintro ds R ex hl ⟨ws, p, v, rfl, hr⟩
  obtain ⟨m1, m2, i1, i2⟩ := fld_items fo (a := .lst (ws.map D.str)) (b := .int p)
  refine ⟨_, rfl, 2, _, _, rfl, m2, i2, _, rfl, 2, _, _, rfl, m1, i1, trivial, _, rfl, ite_of (fun hb => ?_) fun hb => ?_⟩
  · have hp : p < ws.length := by
      have h1 : (p : Int) < ((ws.map D.str).length : Nat) := of_decide_eq_true hb
      rw [List.length_map] at h1
      omega
    refine ⟨_, rfl, 2, _, _, rfl, m1, i1, _, rfl, 2, _, _, rfl, m2, i2, .str ws[p], atI_nat (by rw [List.getElem?_map, List.getElem?_eq_getElem hp]; rfl), _, rfl, _, _, rfl, rfl, ?_⟩
    rw [List.getElem?_eq_getElem hp] at hr
    rw [show decide (some ws[p] = some v) = decide (ws[p] = v) by congr 1; simp] at hr
    exact hr
  · have hp : ¬ p < ws.length := fun z => by
      have h1 : ¬ (p : Int) < ((ws.map D.str).length : Nat) := of_decide_eq_false hb
      rw [List.length_map] at h1
      omega
    rw [List.getElem?_eq_none (by omega), decide_eq_false (by simp)] at hr
    exact hr
def mTake : MSpec := fun fs as R => ∃ (ws : List Str) (p : Nat) (v : Str), fs = [.lst (ws.map D.str), .int p] ∧ as = [.str v] ∧ ws[p]? = some v ∧ R .non [.lst (ws.map D.str), .int (p + 1 : Nat)]
theorem lend_items (fo : Gk G) {a dx : Addr} {ws : List Str} {p : Nat} : LendOk G (.slf a dx 2 [.lst (ws.map D.str), .int p]) (itemsD ws p) := .inr ⟨a, dx, 2, _, rfl, rfl, by rw [fo.fl2]; rfl⟩
abbrev s_Items_take : Stmt := inClass (topS 20) 2
theorem sc_Items_take : FnScope ["self", "word"] ["self", "word"] (defScope s_Items_take) := ⟨rfl, rfl, rfl, by decide +kernel, rfl, by decide +kernel, by decide +kernel⟩
theorem ok_Items_take (F : Fun G.K "take" "Items.take" s_Items_take f fd) (bn : Bn mg) (fo : Gk G) (M_stands : Fm G P w mg base 1 2 "stands" ["self", "word"] 0 sStands) : MutD G P w mg base 2 f fd ["self", "word"] 0 2 mTake := by
  refine id (mutd_of F sc_Items_take (fun cdv A outer s H E hr hg => have xk := xk_def (E := E) hr hg; (ds_cons (ds_if (dt_not (dt_lend 0 (dt_val (de_meth M_stands xk (dv 0) (da_cons (dv 1) da_nil))))) (ds_one ds_never) ds_nil) (ds_one (ds_fldInc (i := 0) xk.K fo.taken fo.sm rfl de_int)))) ?_)
  rintro a dx fs ds R hl hfl ⟨ws, p, v, rfl, rfl, hv, hr⟩
  obtain ⟨m1, m2, i1, i2⟩ := fld_items fo (a := .lst (ws.map D.str)) (b := .int p)
  refine ⟨_, _, rfl, lend_items fo, _, rfl, _, rfl, _, rfl, rfl, ws, p, v, rfl, _, rfl, ?_⟩
  rw [decide_eq_true hv]
  refine ⟨a, dx, 2, _, rfl, m2, p, i2, 1, rfl, ?_⟩
  refine ⟨_, rfl, by rw [fo.fl2]; rfl, ?_⟩
  have e : [D.lst (ws.map D.str), .int p].set ((G.fl 2).idxOf ("taken" : Str)) (.int (p + 1)) = [D.lst (ws.map D.str), .int (p + 1 : Nat)] := by rw [fo.fl2]; rfl
  rw [e]
  exact hr
def mTakeN : MSpec := fun fs as R => ∃ (ws : List Str) (p : Nat) (lo hi v : Int), fs = [.lst (ws.map D.str), .int p] ∧ as = [.int lo, .int hi] ∧ 0 ≤ lo ∧ lo ≤ v ∧ v ≤ hi ∧ hi < 10 ∧ ws[p]? = some (numS v) ∧ R (.int v) [.lst (ws.map D.str), .int (p + 1 : Nat)]
abbrev s_Items_take_number : Stmt := inClass (topS 20) 3
theorem sc_Items_take_number : FnScope ["self", "least", "most", "number"] ["self", "least", "most"] (defScope s_Items_take_number) := ⟨rfl, rfl, rfl, by decide +kernel, rfl, by decide +kernel, by decide +kernel⟩
theorem ok_Items_take_number (F : Fun G.K "take_number" "Items.take_number" s_Items_take_number f fd) (bn : Bn mg) (fo : Gk G) (M_stands : Fm G P w mg base 1 2 "stands" ["self", "word"] 0 sStands) : MutD G P w mg base 2 f fd ["self", "least", "most"] 0 2 mTakeN := by
  refine id (mutd_of F sc_Items_take_number (fun cdv A outer s H E hr hg => have xk := xk_def (E := E) hr hg; (ds_cons (ds_for xk po_def (di_range2 bn.range (da_cons (dv 1) (da_cons (de_op (o_add xk.K) (dv 2) de_int) da_nil))) (dg_name (i := 3) sc_Items_take_number.nd rfl (Or.inl rfl)) (ds_one (ds_if (dt_lend 0 (dt_val (de_meth M_stands xk (dv 0) (da_cons (de_ty (c_str) bn.str (da_cons (dv 3) da_nil)) da_nil)))) (ds_cons (ds_fldInc (i := 0) xk.K fo.taken fo.sm rfl de_int) (ds_one (ds_ret (dv 3)))) ds_nil))) (ds_one ds_never))) ?_)
  rintro a dx fs ds R hl hfl ⟨ws, p, lo, hi, v, rfl, rfl, h0, h1, h2, h3, hv, hr⟩
  obtain ⟨m1, m2, i1, i2⟩ := fld_items fo (a := .lst (ws.map D.str)) (b := .int p)
  refine ⟨_, rfl, _, rfl, lo, hi + 1, rfl, by omega, by omega, by omega, by omega, by omega, ?_⟩
  refine sForL_inv (fun i env => lo + i ≤ v ∧ ∃ s, env = [.slf a dx 2 [.lst (ws.map D.str), .int p], .val (.int lo), .val (.int hi), s]) 0 ⟨by omega, _, rfl⟩ (fun i x env hi' hI nx hn => ?_) (fun env hI => ?_)
  · obtain ⟨hiv, s, rfl⟩ := hI
    rw [Nat.zero_add] at hiv hn
    have hx : x = .int (lo + i) := by
      have hi2 : i < (hi + 1 - lo).toNat := by have := (List.getElem?_eq_some_iff.mp hi').1; simpa [rangeD] using this
      have : (rangeD lo (hi + 1 - lo).toNat)[i]? = some (.int (lo + (i : Int))) := by simp [rangeD, hi2]
      rw [this] at hi'; cases hi'; rfl
    subst hx
    refine ⟨_, _, rfl, lend_items fo, _, rfl, _, rfl, _, rfl, digit_log (by omega) (by omega), rfl, ws, p, numS (lo + i), rfl, _, rfl, ?_⟩
    refine ite_of (fun hb => ?_) fun hb => ?_
    · have e0 : some (numS v) = some (numS (lo + i)) := by rw [← hv]; exact of_decide_eq_true hb
      have e1 : v = lo + i := (numS_inj (by omega) (by omega) (by omega) (by omega)).mp (Option.some.inj e0)
      refine ⟨a, dx, 2, _, rfl, m2, p, i2, 1, rfl, ?_⟩
      refine ⟨_, rfl, rfl, _, rfl, by rw [fo.fl2]; rfl, ?_⟩
      have e : [D.lst (ws.map D.str), .int p].set ((G.fl 2).idxOf ("taken" : Str)) (.int (p + 1)) = [D.lst (ws.map D.str), .int (p + 1 : Nat)] := by rw [fo.fl2]; rfl
      rw [e, ← e1]
      exact hr
    · have ne : v ≠ lo + i := fun z => (of_decide_eq_false hb) (by rw [hv, z])
      exact hn _ ⟨by omega, _, rfl⟩
  · obtain ⟨hiv, _⟩ := hI
    have e : (rangeD lo (hi + 1 - lo).toNat).length = (hi + 1 - lo).toNat := by simp [rangeD]
    rw [e] at hiv
    omega
def mTakeEnd : MSpec := fun fs as R => ∃ (ws : List Str), fs = [.lst (ws.map D.str), .int ws.length] ∧ as = [] ∧ R .non [.lst (ws.map D.str), .int ws.length]
abbrev s_Items_take_end : Stmt := inClass (topS 20) 4
theorem sc_Items_take_end : FnScope ["self"] ["self"] (defScope s_Items_take_end) := ⟨rfl, rfl, rfl, by decide +kernel, rfl, by decide +kernel, by decide +kernel⟩
theorem ok_Items_take_end (F : Fun G.K "take_end" "Items.take_end" s_Items_take_end f fd) (bn : Bn mg) (fo : Gk G) : MutD G P w mg base 1 f fd ["self"] 0 2 mTakeEnd := by
  refine id (mutd_of F sc_Items_take_end (fun cdv A outer s H E hr hg => have xk := xk_def (E := E) hr hg; (ds_one (ds_if (dt_lend 0 (dt_cmp (o_lt) (de_fld xk.K fo.taken (dv 0)) (de_bi (c_len xk.K) bn.len (da_cons (de_fld xk.K fo.words (dv 0)) da_nil)) (by rfl))) (ds_one ds_never) ds_nil))) ?_)
  rintro a dx fs ds R hl hfl ⟨ws, rfl, rfl, hr⟩
  obtain ⟨m1, m2, i1, i2⟩ := fld_items fo (a := .lst (ws.map D.str)) (b := .int ws.length)
  refine ⟨_, _, rfl, lend_items fo, _, rfl, 2, _, _, rfl, m2, i2, _, rfl, 2, _, _, rfl, m1, i1, trivial, _, rfl, ite_of (fun hb => ?_) fun hb => ?_⟩
  · have h1 : (ws.length : Int) < ((ws.map D.str).length : Nat) := of_decide_eq_true hb
    rw [List.length_map] at h1
    omega
  · exact ⟨_, rfl, by rw [fo.fl2]; rfl, hr⟩
end
end Pg

set_option Elab.async false
set_option linter.all false
set_option maxRecDepth 100000
set_option maxHeartbeats 4100000
namespace Pg
open PySem L2 RZ Kn
section
variable {G : Gd} {P : Program} {w : World} {mg : Str → Option Value} {base : Heap} {f : Addr} {fd : FuncData}
/-- the text of a lead -/
def wordsL (r : List Int) (n : Int) : List Str := r.map numS ++ [(":" : Str), numS n]
def txtL (r : List Int) (n : Int) : Str := Txt.join " " (wordsL r n)
def LeadIn (r : List Int) (n : Int) : Prop := 1 ≤ r.length ∧ r.length ≤ 5 ∧ 1 ≤ n ∧ n ≤ 5 ∧ ∀ i ∈ r, 0 ≤ i ∧ i < n
theorem LeadIn.digits {r : List Int} {n : Int} (h : LeadIn r n) : digitsOk r := fun i hi => by
  have := h.2.2.2.2 i hi
  have := h.2.2.2.1
  omega
theorem digit_tl {i : Int} (h0 : 0 ≤ i) (h1 : i < 10) : 32 ∉ TL.tl (numS i) := by
  rcases (show i = 0 ∨ i = 1 ∨ i = 2 ∨ i = 3 ∨ i = 4 ∨ i = 5 ∨ i = 6 ∨ i = 7 ∨ i = 8 ∨ i = 9 by omega) with rfl | rfl | rfl | rfl | rfl | rfl | rfl | rfl | rfl | rfl <;> decide +kernel
theorem digit_colon {i : Int} (h0 : 0 ≤ i) (h1 : i < 10) : numS i ≠ (":" : Str) := by
  rcases (show i = 0 ∨ i = 1 ∨ i = 2 ∨ i = 3 ∨ i = 4 ∨ i = 5 ∨ i = 6 ∨ i = 7 ∨ i = 8 ∨ i = 9 by omega) with rfl | rfl | rfl | rfl | rfl | rfl | rfl | rfl | rfl | rfl <;> decide +kernel
theorem words_tl {r : List Int} {n : Int} (h : LeadIn r n) : ∀ v ∈ wordsL r n, 32 ∉ TL.tl v := fun v hv => by
  rcases List.mem_append.mp hv with hv | hv
  · obtain ⟨i, hi, rfl⟩ := List.mem_map.mp hv
    obtain ⟨a, b⟩ := h.digits i hi
    exact digit_tl a b
  · rcases List.mem_cons.mp hv with rfl | hv
    · decide +kernel
    · rw [List.mem_singleton.mp hv]
      have := h.2.2.1
      have := h.2.2.2.1
      exact digit_tl (by omega) (by omega)
theorem words_len {r : List Int} {n : Int} (h : LeadIn r n) : (txtL r n).length ≤ 100 := by
  unfold txtL wordsL
  rw [TL.join_eq]
  have h1 := StrLaws.join_length_le " " (r.map numS ++ [(":" : Str), numS n])
  rw [List.map_append, List.sum_append, digits_len h.digits, blank_len, List.length_append, List.length_map] at h1
  have hn : (numS n).length = 1 := digit_len (by have := h.2.2.1; omega) (by have := h.2.2.2.1; omega)
  have hc : (Str.ofString ":").length = 1 := by decide +kernel
  have hs : (([(":" : Str), numS n] : List Str).map (·.length)).sum = 2 := by
    show (Str.ofString ":").length + ((numS n).length + 0) = 2
    omega
  rw [hs] at h1
  have := h.2.1
  simp only [List.length_cons, List.length_nil] at h1; omega
def sReadLead : FSpec := fun ds R _ => ∃ (r : List Int) (n : Int), ds = [.str (txtL r n)] ∧ LeadIn r n ∧ R (leadD n r)
theorem word_at {r : List Int} {n : Int} {j : Nat} (hj : j < r.length) : (wordsL r n)[j]? = some (numS r[j]) := by
  unfold wordsL
  rw [List.getElem?_append_left (by rw [List.length_map]; exact hj), List.getElem?_map, List.getElem?_eq_getElem hj]
  rfl
theorem word_colon {r : List Int} {n : Int} : (wordsL r n)[r.length]? = some ":" := by
  unfold wordsL
  rw [List.getElem?_append_right (by rw [List.length_map]; exact Nat.le_refl _), List.length_map, Nat.sub_self]
  rfl
theorem word_last {r : List Int} {n : Int} : (wordsL r n)[r.length + 1]? = some (numS n) := by
  unfold wordsL
  rw [List.getElem?_append_right (by rw [List.length_map]; omega), List.length_map, show r.length + 1 - r.length = 1 by omega]
  rfl
theorem plain_strs : ∀ ts : List Str, plainL (ts.map D.str) = true
  | [] => rfl
  | t :: ts => by
    show (true && plainL (ts.map D.str)) = true
    rw [plain_strs ts]; rfl
theorem words_n {r : List Int} {n : Int} : (wordsL r n).length = r.length + 2 := by simp [wordsL]
abbrev s_Lead_read : Stmt := inClass (topS 22) 3
theorem sc_Lead_read : FnScope ["text", "reading", "row", "into"] ["text"] (defScope s_Lead_read) := ⟨rfl, rfl, rfl, by decide +kernel, rfl, by decide +kernel, by decide +kernel⟩
theorem ok_Lead_read (F : Fun G.K "read" "Lead.read" s_Lead_read f fd) (bn : Bn mg) (fo : Gk G) (M_stands : Fm G P w mg base 1 2 "stands" ["self", "word"] 0 sStands) (MM_take_number : Fmm G P w mg base 2 2 "take_number" ["self", "least", "most"] 0 mTakeN) (MM_take : Fmm G P w mg base 2 2 "take" ["self", "word"] 0 mTake) (MM_take_end : Fmm G P w mg base 1 2 "take_end" ["self"] 0 mTakeEnd) (C_Items : Fc G P w mg base 1 "Items" 2 ["self", "text"] 0 sItemsInit) (C_Lead : Fc G P w mg base 5 "Lead" 1 ["self", "into", "row"] 0 sLeadInitL) (g_MOST_THINGS : ∃ t, mg "MOST_THINGS" = some (.int 5 t)) : FnD G P w mg base 7 f fd ["text"] 0 sReadLead := by
  refine FnD.more (fnd_of F sc_Lead_read (fun cdv A outer s H E hr hg => have xk := xk_def (E := E) hr hg; (ds_cons (ds_make (i := 1) sc_Lead_read.nd rfl (Or.inl rfl) C_Items xk (da_cons (dv 0) da_nil)) (ds_cons (ds2_one (i := 2) sc_Lead_read.nd rfl (Or.inl rfl) (d2_meth (i := 1) MM_take_number xk rfl (da_cons de_int (da_cons (de_op (o_sub) (de_gint g_MOST_THINGS) de_int) da_nil)))) (ds_cons (ds_while po_def (dt_w (dw_and (dt_lend 2 (dt_cmp (o_lt) (de_bi (c_len xk.K) bn.len (da_cons (dv 2) da_nil)) (de_gint g_MOST_THINGS) (by rfl))) (dw_and1 (dt_not (dt_lend 1 (dt_val (de_meth M_stands xk (dv 1) (da_cons de_str da_nil)))))))) (ds_one (ds2_app (i := 2) rfl (d2_meth (i := 1) MM_take_number xk rfl (da_cons de_int (da_cons (de_op (o_sub) (de_gint g_MOST_THINGS) de_int) da_nil)))))) (ds_cons (ds2_expr (d2_meth (i := 1) MM_take xk rfl (da_cons de_str da_nil))) (ds_cons (ds2_set (i := 3) sc_Lead_read.nd rfl (Or.inl rfl) (d2_meth (i := 1) MM_take_number xk rfl (da_cons (de_op (o_add xk.K) (de_lend 2 (de_bi (c_maxL xk.calm) bn.max (da_cons (dv 2) da_nil))) de_int) (da_cons (de_gint g_MOST_THINGS) da_nil)))) (ds_cons (ds2_expr (d2_meth0 (i := 1) MM_take_end xk rfl)) (ds_freeze (i := 2) (ds_one (ds_ret (de_make C_Lead xk (da_cons (dv 3) (da_cons (dv 2) da_nil))))))))))))) ?_) (by decide)
  rintro ds R ex hl ⟨r, n, rfl, hL, hr⟩
  obtain ⟨l1, l5, n1, n5, hv⟩ := id hL
  have hdg := hL.digits
  generalize hws : wordsL r n = ws
  have hfl : ∀ d e : D, [d, e].length = (G.fl 2).length := fun d e => by rw [fo.fl2]; rfl
  have wat : ∀ j (hj : j < r.length), ws[j]? = some (numS r[j]) := fun j hj => by rw [← hws]; exact word_at hj
  refine seq_to (fun env' => ∃ a dx, env' = [.val (.str (txtL r n)), .slf a dx 2 [.lst (ws.map D.str), .int (0 : Nat)], .emp, .emp]) (fun de' hnx hrt => ?_) (fun env' e => ?_)
  · refine ⟨_, rfl, rfl, ws, by rw [← hws]; rfl, fun z => (by have := @words_n r n; rw [hws, z] at this; simp at this), by rw [← hws]; exact words_tl hL, by rw [← hws]; have := words_len hL; unfold txtL at this; omega, by rw [← hws, words_n]; omega, fun ds' e => ?_⟩
    have e' : ds' = [.lst (ws.map D.str), .int (0 : Nat)] := by cases e; rfl
    subst e'
    exact ⟨by rw [show plainL [D.lst (ws.map D.str), .int (0 : Nat)] = (plainL (ws.map D.str) && true) from rfl, plain_strs]; rfl, fun _ a dx => hnx _ ⟨a, dx, rfl⟩⟩
  obtain ⟨a, dx, rfl⟩ := e
  refine seq_to (fun env' => ∃ b, env' = [.val (.str (txtL r n)), .slf a dx 2 [.lst (ws.map D.str), .int (1 : Nat)], .own b ((r.take 1).map D.int), .emp]) (fun de' hnx hrt => ?_) (fun env' e => ?_)
  · have h0 := hv r[0] (List.getElem_mem (by omega))
    refine ⟨a, dx, _, rfl, hfl _ _, trivial, rfl, ws, 0, 0, 5 - 1, r[0], rfl, rfl, by omega, h0.1, by omega, by omega, wat 0 (by omega), fun _ b => hnx _ ⟨b, ?_⟩⟩
    have e1 : r.take 1 = [r[0]] := by
      cases r with
      | nil => simp at l1
      | cons x q => rfl
    rw [e1]
    rfl
  obtain ⟨b, rfl⟩ := e
  refine seq_to (fun env' => env' = [.val (.str (txtL r n)), .slf a dx 2 [.lst (ws.map D.str), .int r.length], .own b (r.map D.int), .emp]) (fun de' hnx hrt => ?_) (fun env' e => ?_)
  · refine ⟨fun m env => ∃ j, 1 ≤ j ∧ j ≤ r.length ∧ m = r.length - j ∧ env = [.val (.str (txtL r n)), .slf a dx 2 [.lst (ws.map D.str), .int j], .own b ((r.take j).map D.int), .emp], ⟨r.length - 1, by omega, 1, by omega, l1, rfl, rfl⟩, fun m env hI => ?_⟩
    obtain ⟨j, j1, j2, rfl, rfl⟩ := hI
    have hlen : ((r.take j).map D.int).length = j := by rw [List.length_map, List.length_take]; omega
    have out : j = r.length → de'.nx [.val (.str (txtL r n)), .slf a dx 2 [.lst (ws.map D.str), .int j], .own b ((r.take j).map D.int), .emp] := fun e => hnx _ (by rw [e, List.take_length])
    refine ⟨_, _, rfl, .inl ⟨_, _, rfl, rfl⟩, _, rfl, trivial, _, rfl, ite_of (fun hb => ?_) fun hb => ?_⟩
    · refine ⟨_, _, rfl, lend_items fo, _, rfl, _, rfl, rfl, ws, j, ":", rfl, _, rfl, ?_⟩
      by_cases hj : j < r.length
      · have hne : ws[j]? ≠ some (":" : Str) := by
          rw [wat j hj]
          have hd := hdg r[j] (List.getElem_mem hj)
          intro z
          exact digit_colon hd.1 hd.2 (Option.some.inj z)
        rw [decide_eq_false hne]
        have hvj := hv r[j] (List.getElem_mem hj)
        refine ⟨b, _, rfl, a, dx, _, rfl, hfl _ _, trivial, rfl, ws, j, 0, 5 - 1, r[j], rfl, rfl, by omega, hvj.1, by omega, by omega, wat j hj, fun _ => ⟨by rw [hlen, sizeLine_eq]; omega, rfl, r.length - (j + 1), by omega, j + 1, by omega, by omega, rfl, ?_⟩⟩
        rw [List.take_succ, List.getElem?_eq_getElem hj, List.map_append]
        rfl
      · have ej : j = r.length := by omega
        rw [decide_eq_true (show ws[j]? = some (":" : Str) by rw [ej, ← hws]; exact word_colon)]
        exact out ej
    · have h5 : ¬ ((((r.take j).map D.int).length : Nat) : Int) < 5 := of_decide_eq_false hb
      rw [hlen] at h5
      exact out (by omega)
  subst e
  refine seq_to (fun env' => env' = [.val (.str (txtL r n)), .slf a dx 2 [.lst (ws.map D.str), .int (r.length + 1 : Nat)], .own b (r.map D.int), .emp]) (fun de' hnx hrt => ?_) (fun env' e => ?_)
  · exact ⟨a, dx, _, rfl, hfl _ _, rfl, ws, r.length, ":", rfl, rfl, by rw [← hws]; exact word_colon, fun _ => hnx _ rfl⟩
  subst e
  refine seq_to (fun env' => env' = [.val (.str (txtL r n)), .slf a dx 2 [.lst (ws.map D.str), .int (r.length + 2 : Nat)], .own b (r.map D.int), .val (.int n)]) (fun de' hnx hrt => ?_) (fun env' e => ?_)
  · refine ⟨a, dx, _, rfl, hfl _ _, _, _, rfl, .inl ⟨_, _, rfl, rfl⟩, _, rfl, r, rfl, by omega, fun m hm hmax => ⟨rfl, ?_⟩⟩
    have hvm := hv m hm
    exact ⟨rfl, ws, r.length + 1, m + 1, 5, n, rfl, rfl, by omega, by omega, by omega, by omega, by rw [← hws]; exact word_last, fun _ => hnx _ rfl⟩
  subst e
  refine seq_to (fun env' => env' = [.val (.str (txtL r n)), .slf a dx 2 [.lst (ws.map D.str), .int (r.length + 2 : Nat)], .own b (r.map D.int), .val (.int n)]) (fun de' hnx hrt => ?_) (fun env' e => ?_)
  · have el : r.length + 2 = ws.length := by rw [← hws, words_n]
    rw [el] at hnx ⊢
    exact ⟨a, dx, _, rfl, hfl _ _, rfl, ws, rfl, rfl, fun _ => hnx _ rfl⟩
  subst e
  exact ⟨b, _, rfl, _, rfl, _, rfl, rfl, n, _, r, rfl, rfl, by omega, by omega, by omega, by omega, hv, hr⟩
end
end Pg

set_option Elab.async false
set_option linter.all false
set_option maxRecDepth 100000
set_option maxHeartbeats 4100000
namespace Pg
open PySem L2 RZ Kn
section
variable {P : Program} {w : World} {K : PySem.W.Frag} {mg : Str → Option Value} {base : Heap} {f : Addr} {fd : FuncData}
/-- the law's pen: a new list of the cells and two numbers -/
def spPen (K : PySem.W.Frag) : Sp := fun vs H Q _ => ∃ (a : Addr) (ns : List Int), vs = [.ref a] ∧ SqL K H a (ns.map V.int) ∧ ns.length ≤ 63 ∧
  ∀ (H' : Hp) (p b : Addr) (cells : List Int), Ext none H H' → H p = none → H b = none → p ≠ b → cells.length ≤ 63 → H' p = some (.lst [.ref b, .int 0, .int 0]) → H' b = some (.lst (cells.map V.int)) → Q (.ref p) H'
theorem Ext.sl {H H' : Hp} {a : Addr} {xs : List V} (e : Ext none H H') (h : SqL K H a xs) : SqL K H' a xs := Kn.Ext.sqL e (by simp) h
abbrev s_law_pen : Stmt := topS 25
theorem sc_law_pen : FnScope ["script", "cell"] ["script"] (defScope s_law_pen) := ⟨rfl, rfl, rfl, by decide +kernel, rfl, by decide +kernel, by decide +kernel⟩
theorem cut_ints (ns : List Int) : cutV (ns.map V.int) none (some 60) = (ns.take 60).map V.int := by
  unfold cutV
  rw [HT.sIx_none, List.drop_zero, Nat.sub_zero, show HT.sIx (ns.map V.int).length (ns.map V.int).length (some 60) = min 60 (ns.map V.int).length from HT.sIx_nat _ _ 60, List.length_map, ← List.map_take]
  congr 1
  by_cases h : 60 ≤ ns.length
  · rw [Nat.min_eq_left h]
  · rw [Nat.min_eq_right (by omega), List.take_length, List.take_of_length_le (by omega)]
theorem ok_law_pen (F : Fun K "_law_pen" "_law_pen" s_law_pen f fd) (bi : mg "int" = none) : FnOk P w K mg base (L2.CX P w) 1 f fd ["script"] (spPen K) := by
  refine F.okX sc_law_pen (fun vs H Q E h => ?_) (fun cdv A outer s H vs Q E hr h => ?_)
  · obtain ⟨a, ns, rfl, _⟩ := h
    rfl
  obtain ⟨a, ns, rfl, hS, hlen, q⟩ := h
  refine ⟨_, pss_one (ps_ret (pe_lst (pa_cons (pe_lc (own := [("cell", 1)]) rfl sc_law_pen.nd (pi_sq (pe_slice sl_list (pe_var (i := 0) rfl (by first | exact Or.inl rfl | exact Or.inr (Or.inl rfl) | exact Or.inr (Or.inr rfl)) (by decide) (by decide)) po_none (po_some pe_int))) (blkOk_by (N := ["script", "cell"]) (sc := defScope s_law_pen) (by decide +kernel))
    (fun s H C cl fp => pg_name (i := 1) sc_law_pen.nd rfl (Or.inl rfl)) (fun s H C cl fp => pts_nil) (fun s H C cl fp => pe_callTy call_int1 rfl bi (by decide +kernel) (pa_cons (pe_var (i := 1) rfl (by first | exact Or.inl rfl | exact Or.inr (Or.inl rfl) | exact Or.inr (Or.inr rfl)) (by decide) (by decide)) pa_nil) (by decide) (by decide) rfl rfl)) (pa_cons pe_int (pa_cons pe_int pa_nil))))), ?_⟩
  refine ⟨.ref a, rfl, 60, rfl, a, _, rfl, hS, fun c hc => ?_⟩
  have hn60 : (ns.take 60).length ≤ 60 := by rw [List.length_take]; omega
  have k1 : ∀ b o, H b = some o → upd H c (.lst (cutV (ns.map V.int) none (some 60))) b = some o := fun b o e => by rw [upd_ne (ne_of_none e hc)]; exact e
  have hcl : upd H c (.lst (cutV (ns.map V.int) none (some 60))) c = some (.lst ((ns.take 60).map V.int)) := by rw [upd_same, cut_ints]
  generalize upd H c (.lst (cutV (ns.map V.int) none (some 60))) = H1 at *
  generalize ns.take 60 = cs at *
  refine ⟨c, rfl, .inl ⟨⟨_, SqL.of hcl⟩, fun D hD => ?_⟩⟩
  have hDc : c ≠ D := ne_of_none hcl hD
  refine ⟨fun i m H2 => i ≤ cs.length ∧ m = cs.length - i ∧ (∀ b o, H1 b = some o → H2 b = some o) ∧ H2 D = some (.lst ((cs.take i).map V.int)), ⟨_, Nat.zero_le _, rfl, fun b o e => by rw [upd_ne (ne_of_none e hD)]; exact e, by rw [upd_same]; rfl⟩, fun i m H2 hW => ?_⟩
  obtain ⟨hi, rfl, k2, hD2⟩ := hW
  have hc2 := SqL.of (K := K) (k2 _ _ hcl)
  by_cases hlt : i < cs.length
  · refine .inr ⟨⟨_, .int (cs[i]), hc2, by rw [List.getElem?_map, List.getElem?_eq_getElem hlt]; rfl⟩, fun H3 => (∀ b o, H1 b = some o → H3 b = some o) ∧ H3 D = some (.lst ((cs.take (i + 1)).map V.int)), fun H3 ⟨e1, e2⟩ => ⟨cs.length - (i + 1), by omega, hlt, rfl, e1, e2⟩, fun x H3 hy => ?_⟩
    obtain ⟨rfl, hx⟩ := hy
    have ex : x = .int (cs[i]) := by
      have := hx _ hc2
      rw [List.getElem?_map, List.getElem?_eq_getElem hlt] at this; exact (Option.some.inj this).symm
    subst ex
    refine ⟨rfl, ?_⟩
    refine ⟨_, rfl, .inl ⟨_, rfl, _, hD2, by rw [List.length_map, List.length_take, sizeLine_eq]; omega, fun b o e => ?_, ?_⟩⟩
    · rw [upd_ne (ne_of_none e hD)]; exact k2 b o e
    · rw [upd_same, List.take_succ, List.getElem?_eq_getElem hlt, List.map_append]
      rfl
  · have e : i = cs.length := by omega
    refine .inl ⟨⟨_, hc2, by rw [List.length_map]; omega⟩, ?_⟩
    refine ⟨small (by simp), fun p hp => ?_⟩
    have hpD : D ≠ p := ne_of_none hD2 hp
    refine q _ p D cs (fun b o e _ => ?_) ?_ ?_ (Ne.symm hpD) (by omega) upd_same ?_
    · have e2 := k2 b o (k1 b o e)
      rw [upd_ne (ne_of_none e2 hp)]; exact e2
    · cases hq : H p with
      | none => rfl
      | some o => rw [k2 p o (k1 p o hq)] at hp; cases hp
    · cases hq : H D with
      | none => rfl
      | some o => rw [k1 D o hq] at hD; cases hD
    · rw [upd_ne hpD, hD2, e, List.take_length]
end
open PyProof.Rows (envOfC)
section
variable {P : Program} {w : World} {G : Gd} {mg : Str → Option Value} {fa a : Addr} {fd : FuncData} {s₁ : Shared} {ns : List Int} {k : Nat}
theorem line_4000 : ((2 ^ 4000 : Nat) : Int) ≤ atLine := by
  unfold atLine
  rw [show (4096 : Nat) = 96 + 4000 from rfl, Int.pow_add]
  have h : (0 : Int) < 2 ^ 4000 := by first | exact Int.pow_pos (by decide) | exact Int.pos_pow_of_pos 4000 (by decide)
  push_cast
  generalize (2 : Int) ^ 4000 = T at *
  omega
/-- nothing wanted of errors -/
abbrev EF : XK := fun _ _ _ => False
/-- the state behind the making of the urn at p, with its cells at b -/
theorem wd_urn {N : List Str} {x : V} {p b : Addr} {H' : Hp} {cells : List Int} (hN : 2 ≤ N.length) (hpb : p ≠ b) (hcl : cells.length ≤ 63) (hp : H' p = some (.lst [.ref b, .int 0, .int 0])) (hb : H' b = some (.lst (cells.map V.int))) (h2 : (L2.start N [x]).length = N.length) :
    ∃ W : Wd { G with u := some (p, b) } EF ((L2.start N [x]).set 1 (some (.ref p))) H', W.n = 2 ^ 4000 ∧ W.m = 0 ∧ W.env = .emp :: .val .urn :: List.replicate (N.length - 2) .emp ∧ W.ex = noX := by
  have he : ∀ {i : Nat} {s : Sl}, (Sl.emp :: Sl.val .urn :: List.replicate (N.length - 2) Sl.emp)[i]? = some s → s = .emp ∨ (i = 1 ∧ s = .val .urn) := fun {i s} e => by
    match i with
    | 0 => exact .inl (Option.some.inj e).symm
    | 1 => exact .inr ⟨rfl, (Option.some.inj e).symm⟩
    | i + 2 =>
      have e' : (List.replicate (N.length - 2) Sl.emp)[i]? = some s := e
      rw [List.getElem?_replicate] at e'
      split at e'
      · exact .inl (Option.some.inj e').symm
      · cases e'
  have hno : ∀ {i : Nat} {s : Sl}, (Sl.emp :: Sl.val .urn :: List.replicate (N.length - 2) Sl.emp)[i]? = some s → s.mine = true → False := fun {i s} e hm => by
    rcases he e with z | ⟨_, z⟩
    · subst z; cases hm
    · subst z; cases hm
  refine ⟨{ u := some (p, b), n := 2 ^ 4000, m := 0, B := fun c => c = p ∨ c = b, H0 := H', env := .emp :: .val .urn :: List.replicate (N.length - 2) .emp, ex := noX, ug := rfl, hu := fun q e => ?_, hB := fun c hc z => ?_, fr := Ext.refl _ _, good := ?_, len := ?_, sl := fun i s e => ?_, nd := fun i j c s t e1 e2 m1 => (hno e1 m1).elim, exc := fun _ _ _ _ _ _ _ z => z.elim }, rfl, rfl, rfl, rfl⟩
  · cases e; exact ⟨.inl rfl, .inr rfl⟩
  · rcases hc with rfl | rfl
    · rw [hp] at z; cases z
    · rw [hb] at z; cases z
  · refine ⟨cells, 0, 0, hp, hb, hcl, hpb, by decide, by decide, ?_⟩
    rw [Int.zero_add]
    exact line_4000
  · rw [List.length_set, h2]
    simp only [List.length_cons, List.length_replicate]
    omega
  · rcases he e with z | ⟨rfl, z⟩
    · subst z; trivial
    · subst z
      refine ⟨.ref p, ?_, (p, b), rfl, rfl⟩
      rw [List.getElem?_set_self (by omega)]
      rfl
/-- THE RULE for the law: its first statement makes the urn, the rest is read over it -/
theorem law_of {st s0 : Stmt} {rest : List Stmt} {N : List Str} {c : Nat} {ts : DS} (hGu : G.u = none) (F : Fun G.K "law" "law" st fa fd) (Sc : FnScope N ["script"] (defScope st)) (hb : ∀ (s : Shared) (v : Value), BindsTo s fd ⟨[v], []⟩ [("script", v)])
    (hr : Room (k + 1) callerA) (hN : 2 ≤ N.length) (hbody : defBody st = s0 :: rest) (hc : c ≤ 2 ^ 4000) (hlen : ns.length ≤ 63)
    (h0 : ∀ (base : Heap) (cdv : Value) (H : Hp), Room k (callerA.deeper (envOfC "law" (defScope st) s₁.heap.objs.size fa cdv)) → PS (cxOf (L2.CX P w) P w G.K mg base N "law" (defScope st) fa cdv callerA [] s₁ H EF) s0 (tAsg (tCall (spPen G.K) [] EF (tCons (tVar 0) tNil)) (gName 1)))
    (hder : ∀ (p b : Addr) (base : Heap) (cdv : Value) (H : Hp), Room k (callerA.deeper (envOfC "law" (defScope st) s₁.heap.objs.size fa cdv)) → DSs { G with u := some (p, b) } EF (cxOf (L2.CX P w) P w G.K mg base N "law" (defScope st) fa cdv callerA [] s₁ H EF) c rest ts)
    (hS : ts noX { nx := fun _ => False, rt := fun d _ => d = .bl true } (.emp :: .val .urn :: List.replicate (N.length - 2) .emp)) : LawOk P w G.K mg fa a ns s₁ := by
  intro base H KXb hmg hO hSq e0
  obtain ⟨oc, od, kV, doc, pm, an, cdv, ct, osl, rfl, lk, hcd⟩ := F.ex; have KX : G.K.In s₁.heap := PySem.W.Frag.In.keeps e0.mod.kin (fun b o e => (e0.bs b o e).1)
  have nolim : s₁.heap.NoLimit := Heap.NoLimit.keeps e0.mod.nolimit (fun b o e => (e0.bs b o e).1)
  have kinds : ∀ y ∈ (["script"] : List Str).zip [Value.ref a], (defScope st).names.lookup y.1 = some .local ∨
      ((defScope st).names.lookup y.1 = some .cell ∧ ((cellsFrom (s₁.heap.objs.size + 1) (defScope st).names []).lookup y.1).isSome = true) := by
    intro y hy
    obtain ⟨n1, v1⟩ := y
    rcases Sc.par n1 (List.of_mem_zip hy).1 with z | z
    · exact .inl z
    · exact .inr ⟨z, PySem.W.cellsFrom_some _ _ _ (.inl z)⟩
  refine codeAny_call_function hr.depth (KX _ _ lk) rfl Sc.co Sc.gen rfl (PySem.W.codeRec_of KX hcd) ?_
  refine hb _ _ _ _ _ _ (wpAny_newFunctionEnv_cells Sc.kind kinds ?_)
  intro env he s1 ic
  subst he
  refine ⟨nolim.keeps ic.toInCall.keep, codeAny_func ?_⟩
  have I : Inv (cxOf (L2.CX P w) P w G.K mg base N "law" (defScope st) fa cdv callerA [] s₁ H EF) [] (L2.start N [.ref a]) H s1 := inv_start Sc hr.hd e0 rfl (.cons rfl .nil) ic
  have rm := hr.deeper (envOfC "law" (defScope st) s₁.heap.objs.size fa cdv)
  have hl2 : (L2.start N [V.ref a]).length = N.length := by
    unfold L2.start
    simp only [List.length_append, List.length_map, List.length_replicate, List.length_cons, List.length_nil]
    omega
  have body : PSs (cxOf (L2.CX P w) P w G.K mg base N "law" (defScope st) fa cdv callerA [] s₁ H EF) (defBody st) (tSeq (tAsg (tCall (spPen G.K) [] EF (tCons (tVar 0) tNil)) (gName 1)) fun Dn σ H' => ∃ p b, liftS { G with u := some (p, b) } EF c ts Dn σ H') := by
    rw [hbody]
    exact pss_cons (h0 base cdv H rm) ⟨fun pins s σ H' D I q => by
      obtain ⟨p, b, q⟩ := q
      exact (hder p b base cdv H rm).run pins s σ H' D I q⟩
  have run := body.run [] s1 (L2.start N [.ref a]) H { nx := fun _ _ => False, rt := fun v _ => v = .bl true } I (by
    refine ⟨.ref a, rfl, a, ns, rfl, hSq, hlen, fun H' p b cells hext hp0 hb0 hpb hcl hp hb' => ?_⟩
    obtain ⟨W, w1, w2, w3, w4⟩ := wd_urn (G := G) hN hpb hcl hp hb' hl2
    refine ⟨p, b, W, by rw [w1, w2, Nat.zero_add]; exact hc, ({ nx := fun _ => False, rt := fun d _ => d = .bl true } : DEnds), by rw [w3, w4]; exact hS, fun _ _ _ _ z => z.elim, fun v σ' H' W' d lt hd hr' => ?_, fun _ _ _ _ z => z.elim, fun _ _ _ _ z => z.elim⟩
    subst hr'
    exact hd)
  refine wpAny_mono run ?_ (fun e s' hs => hs)
  intro fl s' hfl
  cases fl with
  | next => obtain ⟨σ', H', J, q⟩ := hfl; exact q.elim
  | ret v' => obtain ⟨v, σ', H', J, r1, q⟩ := hfl; exact ⟨v, H', J.os, J.bare, J.base, J.hok, r1, q⟩
  | brk => obtain ⟨σ', H', J, q⟩ := hfl; exact q.elim
  | cont => obtain ⟨σ', H', J, q⟩ := hfl; exact q.elim
end
section
variable {G : Gd} {P : Program} {w : World} {mg : Str → Option Value} {base : Heap} {f : Addr} {fd : FuncData}
abbrev s_law_draw : Stmt := topS 26
theorem sc_law_draw : FnScope ["pen", "many", "rest", "at", "cell", "mixed"] ["pen", "many"] (defScope s_law_draw) := ⟨rfl, rfl, rfl, by decide +kernel, rfl, by decide +kernel, by decide +kernel⟩
theorem ok_law_draw (F : Fun G.K "_law_draw" "_law_draw" s_law_draw f fd) (bn : Bn mg) : FnD G P w mg base 1 f fd ["pen", "many"] 1 sDraw := by
  refine draw_of F sc_law_draw rfl (fun cdv A outer s H E hr hg => have xk := xk_def (G := { G with u := none }) (E := E) hr hg; (ds_cons (ds_if (dt_cmp (o_gt) (de_oix (i := 0) rfl de_int (fun _ _ => rfl)) de_int (by rfl)) (ds_cons (ds_set (i := 2) sc_law_draw.nd rfl (Or.inl rfl) (de_ty (c_int) bn.int (da_cons (de_oix (i := 0) rfl de_int (fun _ _ => rfl)) da_nil))) (ds_cons (ds_setIx (i := 0) rfl (de_op (o_div) (dv 2) (dv 1)) de_int) (ds_one (ds_ret (de_op (o_mod) (de_ty (c_int) bn.int (da_cons (dv 2) da_nil)) (dv 1)))))) ds_nil) (ds_cons (ds_set (i := 3) sc_law_draw.nd rfl (Or.inl rfl) (de_oix (i := 0) rfl de_int (fun _ _ => rfl))) (ds_cons (ds_setIx (i := 0) rfl (de_op (o_add xk.K) (dv 3) de_int) de_int) (ds_cons (ds_set (i := 4) sc_law_draw.nd rfl (Or.inl rfl) (de_op (o_add xk.K) (de_op (o_mul) de_int (dv 3)) de_int)) (ds_cons (ds_if (dt_cmp (o_ne xk.K xk.u64) (de_oix (i := 0) rfl de_int (fun _ _ => rfl)) (de_lst da_nil) (by rfl)) (ds_one (ds_set (i := 4) sc_law_draw.nd rfl (Or.inl rfl) (de_ix xk.K (de_oix (i := 0) rfl de_int (fun _ _ => rfl)) (de_op (o_mod) (de_ty (c_int) bn.int (da_cons (dv 3) da_nil)) (de_bi (c_len xk.K) bn.len (da_cons (de_oix (i := 0) rfl de_int (fun _ _ => rfl)) da_nil))) (fun _ _ => rfl)))) ds_nil) (ds_cons (ds_if (dt_w (dw_and (dt_cmp (o_lt) (dv 3) (de_bi (c_len xk.K) bn.len (da_cons (de_oix (i := 0) rfl de_int (fun _ _ => rfl)) da_nil)) (by rfl)) (dw_and1 (dt_cmp (o_ge) (de_bi (c_abs) bn.abs (da_cons (dv 4) da_nil)) (de_op (o_pow) de_int de_int) (by rfl))))) (ds_cons (ds_set (i := 2) sc_law_draw.nd rfl (Or.inl rfl) (de_op (o_add xk.K) (de_op (o_mul) de_int (de_op (o_sub) (de_bi (c_abs) bn.abs (da_cons (dv 4) da_nil)) (de_op (o_pow) de_int de_int))) (de_ty (c_int) bn.int (da_cons (de_cmp (o_lt) (dv 4) de_int (by rfl)) da_nil)))) (ds_cons (ds_setIx (i := 0) rfl (de_op (o_div) (de_ty (c_int) bn.int (da_cons (dv 2) da_nil)) (dv 1)) de_int) (ds_one (ds_ret (de_op (o_mod) (de_ty (c_int) bn.int (da_cons (dv 2) da_nil)) (dv 1)))))) ds_nil) (ds_cons (ds_set (i := 5) sc_law_draw.nd rfl (Or.inl rfl) (de_op (o_mod) (de_ty (c_int) bn.int (da_cons (de_op (o_pow) (de_op (o_add xk.K) (de_op (o_add xk.K) (de_op (o_mod) (de_ty (c_int) bn.int (da_cons (dv 4) da_nil)) de_int) (de_op (o_mul) de_int (dv 3))) de_int) de_int) da_nil)) de_int)) (ds_cons (ds_set (i := 5) sc_law_draw.nd rfl (Or.inl rfl) (de_op (o_mod) (de_ty (c_int) bn.int (da_cons (de_op (o_pow) (de_op (o_add xk.K) (de_op (o_add xk.K) (de_op (o_mul) (dv 5) (de_op (o_add xk.K) (de_op (o_mul) de_int (dv 3)) de_int)) (de_op (o_mulW) (de_op (o_mul) de_int (dv 3)) (dv 3))) de_int) de_int) da_nil)) de_int)) (ds_one (ds_ret (de_op (o_mod) (de_ty (c_int) bn.int (da_cons (de_op (o_div) (dv 5) de_int) da_nil)) (dv 1))))))))))))) ?_
  intro cells at_ r many a b hc h0 h1 hr0 hm1 hm2
  have hpos : 0 < many := by omega
  have cdiv : CDiv r many := ⟨hpos, hm2⟩
  refine seq_to (fun env' => env' = Sl.own a [.at_ b (cells.map D.int), .int at_, .int r] :: Sl.val (.int many) :: List.replicate 4 Sl.emp) (fun de' hnx hrt => ?_) (fun env' e => ?_)
  · refine ⟨a, _, rfl, 2, .int r, rfl, rfl, trivial, _, rfl, ite_of (fun hb => ?_) fun hb => hnx _ rfl⟩
    have hr : 0 < r := of_decide_eq_true hb
    refine ⟨a, _, rfl, 2, .int r, rfl, rfl, ?_⟩
    refine ⟨.int r, rfl, .int many, rfl, ⟨hpos, hm2⟩, a, _, rfl, 2, 2, rfl, rfl, ?_⟩
    refine ⟨.int r, rfl, .int many, rfl, hpos, ?_⟩
    rw [hrt]
    exact ⟨r % many, at_, r / many, rfl, Int.emod_nonneg _ (by omega), Int.emod_lt_of_pos _ hpos, rfl, Int.ediv_nonneg hr0 (by omega), h0, by omega⟩
  subst e
  refine seq_to (fun env' => env' = [Sl.own a [.at_ b (cells.map D.int), .int at_, .int r], .val (.int many), .emp, .val (.int at_), .emp, .emp]) (fun de' hnx hrt => ?_) (fun env' e => ?_)
  · exact ⟨a, _, rfl, 1, .int at_, rfl, rfl, hnx _ rfl⟩
  subst e
  refine seq_to (fun env' => env' = [Sl.own a [.at_ b (cells.map D.int), .int (at_ + 1), .int r], .val (.int many), .emp, .val (.int at_), .emp, .emp]) (fun de' hnx hrt => ?_) (fun env' e => ?_)
  · exact ⟨.int at_, rfl, a, _, rfl, 1, 1, rfl, rfl, hnx _ rfl⟩
  subst e
  refine seq_to (fun env' => ∃ c : Int, env' = [Sl.own a [.at_ b (cells.map D.int), .int (at_ + 1), .int r], .val (.int many), .emp, .val (.int at_), .val (.int c), .emp]) (fun de' hnx hrt => ?_) (fun env' e => ?_)
  · exact ⟨.int at_, rfl, .inl ⟨by decide, by decide⟩, hnx _ ⟨_, rfl⟩⟩
  obtain ⟨c0, rfl⟩ := e
  refine seq_to (fun env' => ∃ c : Int, env' = [Sl.own a [.at_ b (cells.map D.int), .int (at_ + 1), .int r], .val (.int many), .emp, .val (.int at_), .val (.int c), .emp]) (fun de' hnx hrt => ?_) (fun env' e => ?_)
  · refine ⟨a, _, rfl, 0, _, rfl, rfl, small (by simp), ne_nil ⟨_, rfl, ite_of (fun hb => ?_) fun hb => hnx _ ⟨_, rfl⟩⟩⟩
    have hne : 0 < cells.length := by cases cells with
      | nil => cases hb
      | cons x l => simp
    have hne' : (0 : Int) < cells.length := by omega
    have e1 := atR_at (r := cells) (i := at_ % cells.length) (Int.emod_nonneg _ (by omega)) (Int.emod_lt_of_pos _ hne')
    refine ⟨a, _, rfl, 0, _, rfl, rfl, .int at_, rfl, a, _, rfl, 0, _, rfl, rfl, ?_⟩
    have hl : ((cells.map D.int).length : Int) = cells.length := by simp
    refine ⟨by rw [hl]; exact hne', .int (atR cells (at_ % cells.length)), by rw [hl]; exact e1, hnx _ ⟨_, rfl⟩⟩
  obtain ⟨c, rfl⟩ := e
  refine seq_to (fun env' => env' = [Sl.own a [.at_ b (cells.map D.int), .int (at_ + 1), .int r], .val (.int many), .emp, .val (.int at_), .val (.int c), .emp]) (fun de' hnx hrt => ?_) (fun env' e => ?_)
  · refine ⟨.int at_, rfl, a, _, rfl, 0, _, rfl, rfl, trivial, _, rfl, ite_of (fun hb => ?_) fun hb => hnx _ rfl⟩
    refine ⟨.int c, rfl, pow18, trivial, _, rfl, ite_of (fun hb2 => ?_) fun hb2 => hnx _ rfl⟩
    have hge : (10 : Int) ^ (18 : Int).toNat ≤ (if c < 0 then -c else c) := of_decide_eq_true hb2
    refine seq_to (fun env' => ∃ q : Int, 0 ≤ q ∧ env' = [Sl.own a [.at_ b (cells.map D.int), .int (at_ + 1), .int r], .val (.int many), .val (.int q), .val (.int at_), .val (.int c), .emp]) (fun de2 hnx2 hrt2 => ?_) (fun env' e => ?_)
    · refine ⟨.int c, rfl, pow18, trivial, .inl ⟨by decide, by decide⟩, .int c, rfl, trivial, hnx2 _ ⟨_, ?_, rfl⟩⟩
      by_cases hcn : c < 0
      · rw [if_pos hcn] at hge ⊢
        rw [if_pos (decide_eq_true hcn)]
        omega
      · rw [if_neg hcn] at hge ⊢
        rw [if_neg (by rw [decide_eq_false hcn]; decide)]
        omega
    obtain ⟨q, hq0, rfl⟩ := e
    refine ⟨.int q, rfl, .int many, rfl, ⟨hpos, hm2⟩, a, _, rfl, 2, 2, rfl, rfl, ?_⟩
    refine ⟨.int q, rfl, .int many, rfl, hpos, ?_⟩
    rw [hrt]
    exact ⟨q % many, at_ + 1, q / many, rfl, Int.emod_nonneg _ (by omega), Int.emod_lt_of_pos _ hpos, rfl, Int.ediv_nonneg hq0 (by omega), by omega, by omega⟩
  subst e
  refine seq_to (fun env' => ∃ x : Int, 0 ≤ x ∧ x < 2 ^ 62 ∧ env' = [Sl.own a [.at_ b (cells.map D.int), .int (at_ + 1), .int r], .val (.int many), .emp, .val (.int at_), .val (.int c), .val (.int x)]) (fun de' hnx hrt => ?_) (fun env' e => ?_)
  · refine ⟨.int c, rfl, pos_of (by decide), .int at_, rfl, .inl ⟨by decide, by decide⟩, ?_⟩
    refine ⟨draw_pow1 (Int.emod_nonneg _ (by decide)) (Int.lt_trans (Int.emod_lt_of_pos _ (by decide)) (by decide)) (by decide) (by decide) (by decide) (by decide) h0 h1, pos_of (by decide), hnx _ ⟨_, Int.emod_nonneg _ (by decide), Int.lt_trans (Int.emod_lt_of_pos _ (by decide)) (by decide), rfl⟩⟩
  obtain ⟨x, hx0, hx1, rfl⟩ := e
  refine seq_to (fun env' => ∃ y : Int, 0 ≤ y ∧ env' = [Sl.own a [.at_ b (cells.map D.int), .int (at_ + 1), .int r], .val (.int many), .emp, .val (.int at_), .val (.int c), .val (.int y)]) (fun de' hnx hrt => ?_) (fun env' e => ?_)
  · refine ⟨.int x, rfl, .int at_, rfl, .inl ⟨by decide, by decide⟩, .inl ⟨by omega, by omega⟩, .int at_, rfl, .inl ⟨by decide, by decide⟩, .int at_, rfl, draw_wide (by decide) (by decide) h0 h1, ?_⟩
    exact ⟨draw_pow2 hx0 hx1 (by decide) (by decide) (by decide) (by decide) (by decide) (by decide) (by decide) (by decide) h0 h1, pos_of (by decide), hnx _ ⟨_, Int.emod_nonneg _ (by decide), rfl⟩⟩
  obtain ⟨y, hy0, rfl⟩ := e
  refine ⟨.int y, rfl, ⟨by decide, by decide⟩, .int many, rfl, hpos, ?_⟩
  exact ⟨_, at_ + 1, r, rfl, Int.emod_nonneg _ (by omega), Int.emod_lt_of_pos _ hpos, rfl, hr0, by omega, by omega⟩
def sPick : FSpec := fun ds R _ => ∃ (d : D) (xs : List D), ds = [.urn, d] ∧ d.items? = some xs ∧ 1 ≤ xs.length ∧ xs.length ≤ 100000 ∧ ∀ (i : Nat) (x : D), xs[i]? = some x → R x
abbrev s_law_pick : Stmt := topS 27
theorem sc_law_pick : FnScope ["pen", "some"] ["pen", "some"] (defScope s_law_pick) := ⟨rfl, rfl, rfl, by decide +kernel, rfl, by decide +kernel, by decide +kernel⟩
theorem ok_law_pick (F : Fun G.K "_law_pick" "_law_pick" s_law_pick f fd) (bn : Bn mg) (F__law_draw : Fk G P w mg base 1 "_law_draw" ["pen", "many"] 1 sDraw) : FnD G P w mg base 2 f fd ["pen", "some"] 1 sPick := by
  refine FnD.more (fnd_of F sc_law_pick (fun cdv A outer s H E hr hg => have xk := xk_def (E := E) hr hg; (ds_one (ds_ret (de_ix xk.K (dv 1) (de_call F__law_draw xk (da_cons (dv 0) (da_cons (de_bi (c_len xk.K) bn.len (da_cons (dv 1) da_nil)) da_nil))) (fun _ _ => rfl))))) ?_) (by decide)
  rintro ds R ex hl ⟨d, xs, rfl, hx, h1, h2, hr⟩
  refine ⟨d, rfl, .urn, rfl, d, rfl, ?_⟩
  have key : ∀ K : D → Prop, (∀ i : Int, 0 ≤ i → i < xs.length → K (.int i)) → dCall 2 sDraw aNil ex [] K ∨ True := fun _ _ => .inr trivial
  cases d <;> cases hx
  all_goals
    refine ⟨rfl, _, rfl, by omega, by omega, fun i b1 b2 => ?_⟩
    obtain ⟨j, rfl⟩ := Int.eq_ofNat_of_zero_le b1
    have hj : j < xs.length := by omega
    exact ⟨xs[j], atI_nat (List.getElem?_eq_getElem hj), hr j _ (List.getElem?_eq_getElem hj)⟩
def sRowD : FSpec := fun ds R _ => ∃ b n : Nat, ds = [.urn, .int b, .int n] ∧ b ≤ 5 ∧ 1 ≤ n ∧ n ≤ 5 ∧ ∀ r : List Int, RowIn b n r → R (.lst (r.map D.int))
abbrev s_law_row : Stmt := topS 28
theorem sc_law_row : FnScope ["pen", "begin", "into", "thing"] ["pen", "begin", "into"] (defScope s_law_row) := ⟨rfl, rfl, rfl, by decide +kernel, rfl, by decide +kernel, by decide +kernel⟩
theorem ok_law_row (F : Fun G.K "_law_row" "_law_row" s_law_row f fd) (bn : Bn mg) (F__law_draw : Fk G P w mg base 1 "_law_draw" ["pen", "many"] 1 sDraw) : FnD G P w mg base 2 f fd ["pen", "begin", "into"] 16777216 sRowD := by
  refine FnD.more (fnd_of F sc_law_row (fun cdv A outer s H E hr hg => have xk := xk_def (E := E) hr hg; (ds_one (ds_ret (de_comp (own := [("thing", 3)]) xk sc_law_row.nd (di_range1 bn.range (da_cons (dv 1) da_nil)) (blkOk_by (N := ["pen", "begin", "into", "thing"]) (sc := defScope s_law_row) (by decide +kernel)) (fun s H C cl fp => (dg_name (i := 3) sc_law_row.nd rfl (Or.inl rfl))) (fun s H C cl fp => dts_nil) (fun s H C cl fp => (de_call F__law_draw (Xk.blk xk _ _ _ _ _) (da_cons (dv 0) (da_cons (dv 2) da_nil)))) (by simp))))) ?_) (by decide)
  rintro ds R ex hl ⟨b, n, rfl, hb5, hn1, hn5, hr⟩
  refine ⟨_, rfl, b, rfl, by omega, by omega, ?_⟩
  rw [Int.toNat_natCast]
  refine compL_any (fun _ r => ∃ i : Int, r = .int i ∧ 0 ≤ i ∧ i < n) (fun d hd K hK => ?_) (fun rs hl hrs => ?_)
  · exact ⟨_, rfl, _, rfl, rfl, n, rfl, by omega, by omega, fun i h0 h1 => hK _ ⟨i, rfl, h0, h1⟩⟩
  · obtain ⟨r, rfl, hl2, hv⟩ := ints_of (P := fun i => 0 ≤ i ∧ i < (n : Int)) (fun d hd => by obtain ⟨_, _, i, h⟩ := all_of hl hrs d hd; exact ⟨i, h⟩)
    exact hr r ⟨by rw [hl2, hl]; simp [rangeD], hv⟩
def numD : D → D | .int i => .str (numS i) | _ => .non
theorem map_numD (r : List Int) : (r.map D.int).map numD = (r.map numS).map D.str := by rw [List.map_map, List.map_map]; rfl
def sTextL : FSpec := fun ds R _ => ∃ (r : List Int) (n : Int), ds = [.lst (r.map D.int), .int n] ∧ LeadIn r n ∧ R (.str (txtL r n))
abbrev s_law_text : Stmt := topS 29
theorem sc_law_text : FnScope ["row", "into", "thing"] ["row", "into"] (defScope s_law_text) := ⟨rfl, rfl, rfl, by decide +kernel, rfl, by decide +kernel, by decide +kernel⟩
theorem ok_law_text (F : Fun G.K "_law_text" "_law_text" s_law_text f fd) (bn : Bn mg)  : FnD G P w mg base 1 f fd ["row", "into"] 0 sTextL := by
  refine FnD.more (fnd_of F sc_law_text (fun cdv A outer s H E hr hg => have xk := xk_def (E := E) hr hg; (ds_one (ds_ret (de_join xk.K de_str (de_op (o_add xk.K) (de_comp (own := [("thing", 2)]) xk sc_law_text.nd (di_seq xk.K (dv 0)) (blkOk_by (N := ["row", "into", "thing"]) (sc := defScope s_law_text) (by decide +kernel)) (fun s H C cl fp => (dg_name (i := 2) sc_law_text.nd rfl (Or.inl rfl))) (fun s H C cl fp => dts_nil) (fun s H C cl fp => (de_ty (c_str) bn.str (da_cons (dv 2) da_nil))) (by simp)) (de_lst (da_cons de_str (da_cons (de_ty (c_str) bn.str (da_cons (dv 1) da_nil)) da_nil)))))))) ?_) (by decide)
  rintro ds R ex hl ⟨r, n, rfl, hL, hr⟩
  obtain ⟨l1, l5, n1, n5, hv⟩ := id hL
  have hd := hL.digits
  refine ⟨_, rfl, _, rfl, ?_⟩
  refine compL_map numD (fun e he K hK => ?_) ?_
  · obtain ⟨i, hi, rfl⟩ := List.mem_map.mp he
    obtain ⟨h0, h1⟩ := hd i hi
    exact ⟨_, rfl, digit_log h0 h1, hK⟩
  · rw [List.nil_append, map_numD]
    refine ⟨_, rfl, digit_log (by omega) (by omega), small (by simp), small (by simp; omega), ?_⟩
    refine ⟨wordsL r n, .inl ?_, ?_, hr⟩
    · unfold wordsL
      rw [List.map_append]
      rfl
    · have hlen : ((wordsL r n).map (·.length)).sum = r.length + 2 := by
        unfold wordsL
        rw [List.map_append, List.sum_append, digits_len hd]
        have hn : (numS n).length = 1 := digit_len (by omega) (by omega)
        have hc : (Str.ofString ":").length = 1 := by decide +kernel
        show _ + ((Str.ofString ":").length + ((numS n).length + 0)) = _
        omega
      rw [hlen, words_n, blank_len]
      omega
end
end Pg

set_option Elab.async false
set_option linter.all false
set_option maxRecDepth 100000
set_option maxHeartbeats 4100000
namespace Pg
open PySem L2 RZ Kn
section
variable {G : Gd} {P : Program} {w : World} {mg : Str → Option Value} {base : Heap} {f : Addr} {fd : FuncData}
def sEqAny : FSpec := fun ds R _ => ∃ (n : Int) (r : List Int) (e : D), ds = [leadD n r, e] ∧ ((∃ (n2 : Int) (r2 : List Int), e = leadD n2 r2 ∧ R (.bl (n == n2 && r == r2))) ∨ (((∃ es, e = .tup es) ∨ ∃ x, e = .str x) ∧ R (.bl false)))
abbrev s_Lead___eq__ : Stmt := inClass (topS 22) 1
theorem sc_Lead___eq__ : FnScope ["self", "other"] ["self", "other"] (defScope s_Lead___eq__) := ⟨rfl, rfl, rfl, by decide +kernel, rfl, by decide +kernel, by decide +kernel⟩
theorem ok_Lead___eq__ (F : Fun G.K "__eq__" "Lead.__eq__" s_Lead___eq__ f fd) (bn : Bn mg) (fo : Gk G) (r_Lead : mg "Lead" = some (.ref (G.cl 1))) : FnD G P w mg base 1 f fd ["self", "other"] 0 sEqAny := by
  refine FnD.more (fnd_of F sc_Lead___eq__ (fun cdv A outer s H E hr hg => have xk := xk_def (E := E) hr hg; (ds_one (ds_ret (de_and (de_cmp (o_isA) (de_ty (c_typeA xk.K) bn.type (da_cons (dv 1) da_nil)) (de_ref r_Lead) (by rfl)) (de_and (de_cmp (o_eq xk.K xk.u64) (de_fld xk.K fo.into (dv 0)) (de_fld xk.K fo.into (dv 1)) (by rfl)) (de_one (de_cmp (o_eq xk.K xk.u64) (de_fld xk.K fo.row (dv 0)) (de_fld xk.K fo.row (dv 1)) (by rfl)))))))) ?_) (by decide)
  rintro ds R ex hl ⟨n, r, e, rfl, hr⟩
  obtain ⟨m1, m2, m3, i1, i2, i3⟩ := fld_lead fo (n := n) (r := r)
  rcases hr with ⟨n2, r2, rfl, hr⟩ | ⟨he, hr⟩
  · obtain ⟨_, _, _, j1, j2, j3⟩ := fld_lead fo (n := n2) (r := r2)
    refine ⟨_, rfl, .inl ⟨1, _, rfl, ?_⟩⟩
    refine .inl ⟨G.cl 1, rfl, rfl, true, rfl, ?_⟩
    refine ⟨leadD n r, rfl, 1, _, _, rfl, m2, i2, leadD n2 r2, rfl, 1, _, _, rfl, m2, j2, ?_⟩
    refine eq_int ?_
    refine ⟨n == n2, rfl, ite_of (fun hb => ?_) fun hb => ?_⟩
    · rw [hb] at hr
      refine ⟨leadD n r, rfl, 1, _, _, rfl, m3, i3, leadD n2 r2, rfl, 1, _, _, rfl, m3, j3, ?_⟩
      exact eq_row shaped_row hr
    · rw [hb] at hr
      exact hr
  · refine ⟨_, rfl, .inr ?_⟩
    rcases he with ⟨es, rfl⟩ | ⟨x, rfl⟩
    · exact .inl ⟨_, rfl, .inr ⟨"tuple", G.cl 1, rfl, rfl, false, rfl, hr⟩⟩
    · exact .inr ⟨_, rfl, .inr ⟨"str", G.cl 1, rfl, rfl, false, rfl, hr⟩⟩
theorem eq_bl {a b : Bool} {Q : D → Prop} (h : Q (.bl (a == b))) : gEq (.bl a) (.bl b) Q := ⟨_, _, rfl, rfl, by cases a <;> rfl, by cases b <;> rfl, by cases a <;> cases b <;> exact h⟩
theorem ne_bl {a b : Bool} {Q : D → Prop} (h : Q (.bl (!(a == b)))) : gNe (.bl a) (.bl b) Q := ⟨_, _, rfl, rfl, by cases a <;> rfl, by cases b <;> rfl, by cases a <;> cases b <;> exact h⟩
theorem d_and {ta tb : DT} {ex : Exc → Prop} {env : List Sl} {Q : D → Prop} {x y : Bool} (h1 : ∀ K : D → Prop, K (.bl x) → ta ex env K) (h2 : x = true → ∀ K : D → Prop, K (.bl y) → tb ex env K) (hq : Q (.bl (x && y))) : dAnd ta tb ex env Q := h1 _ ⟨x, rfl, by
  cases x with
  | true => exact h2 rfl _ hq
  | false => exact hq⟩
theorem cut_toN {xs : List D} {k : Nat} : cutD xs none (some (k : Int)) = xs.take k := by
  unfold cutD
  rw [show HT.sIx xs.length xs.length (some (k : Int)) = min k xs.length from HT.sIx_nat xs.length xs.length k, HT.sIx_none, List.drop_zero, Nat.sub_zero]
  by_cases h : k ≤ xs.length
  · rw [Nat.min_eq_left h]
  · rw [Nat.min_eq_right (by omega), List.take_of_length_le
        (Nat.le_refl _), List.take_of_length_le (by omega)]
theorem cut_fromN {xs : List D} {k : Nat} : cutD xs (some (k : Int)) none = xs.drop k := by
  unfold cutD
  rw [show HT.sIx xs.length 0 (some (k : Int)) = min k xs.length from HT.sIx_nat xs.length 0 k, HT.sIx_none]
  by_cases h : k ≤ xs.length
  · rw [Nat.min_eq_left h,
        List.take_of_length_le (by simp)]
  · rw [Nat.min_eq_right (by omega), List.drop_eq_nil_of_le (by omega), List.drop_eq_nil_of_le (by omega)]
    simp
def shown3 (a b : Int) (r : List Int) : Str := PyData.shown (.tuple [.int a, .int b, rowP r])
theorem repr3 {a b : Int} {r : List Int} {Q : D → Prop} (ha : 0 ≤ a ∧ a < 8) (hb : 0 ≤ b ∧ b < 8) (hl : r.length ≤ 100) (hv : ∀ i ∈ r, 0 ≤ i ∧ i < 8) (hq : Q (.str (shown3 a b r))) : gRepr (.tup [.int a, .int b, rowD r]) Q := by
  obtain ⟨a1, a2, a3⟩ := int_facts ha
  obtain ⟨b1, b2, b3⟩ := int_facts hb
  obtain ⟨h1, h2, h3, h4⟩ := ints_facts hv
  have hd := depth_int r
  have hcan : PyData.canLay0 (.tuple [.int a, .int b, rowP r]) = true := by
    show (true && (true && (PyData.canLayAll0 (r.map PyData.int) && true))) = true
    rw [lay_int]; rfl
  have hdep : PyData.depth (.tuple [.int a, .int b, rowP r]) ≤ 3 := by
    show max 0 (max 0 (max (PyData.depthAll (r.map PyData.int) + 1) 0)) + 1 ≤ 3
    omega
  refine .inr ⟨⟨_, .inr rfl⟩, .tuple [.int a, .int b, rowP r], ?_, ?_, ?_, ?_, ?_, hq⟩
  · simp [pd, pdL, rowD, rowP, pdL_int]
  · unfold SeqAt.shaped
    rw [hcan, Bool.true_and]; exact decide_eq_true (by omega)
  · show (PyData.showable (.int a) && (PyData.showable (.int b) && (PyData.showableAll (r.map PyData.int) && true))) = true
    rw [a2, b2, h2]; rfl
  · show (PyData.hasDict (.int a) || (PyData.hasDict (.int b) || (PyData.hasDictAll (r.map PyData.int) || false))) = false
    rw [h4]; rfl
  · have hw : PyData.weight (.tuple [.int a, .int b, rowP r]) ≤ 2 ^ 20 := by
      show PyData.weight (.int a) + 1 + (PyData.weight (.int b) + 1 + (PyData.weightAll (r.map PyData.int) + 1 + 0)) ≤ 2 ^ 20
      omega
    have hlay : PyData.layable0 (.tuple [.int a, .int b, rowP r]) = true := by
      unfold PyData.layable0
      rw [hcan, decide_eq_true (show PyData.depth (.tuple [.int a, .int b, rowP r]) ≤ 64 by omega), decide_eq_true hw]
      rfl
    have hs : PyData.intsShort 13 (.tuple [.int a, .int b, rowP r]) = true := by
      show (PyData.intsShort 13 (.int a) && (PyData.intsShort 13 (.int b) && (PyData.intsShortAll 13 (r.map PyData.int) && true))) = true
      rw [a3, b3, h3]; rfl
    have := PyProof.Rows.shown_le13 hlay hs
    rw [sizeLine_eq]; omega
theorem repr1 {r : List Int} {Q : D → Prop} (hl : r.length ≤ 100) (hv : ∀ i ∈ r, 0 ≤ i ∧ i < 8) (hq : Q (.str (PyData.shown (rowP r)))) : gRepr (rowD r) Q := by
  obtain ⟨h1, h2, h3, h4⟩ := ints_facts hv
  have hd := depth_int r
  have hcan : PyData.canLay0 (rowP r) = true := lay_int r
  have hdep : PyData.depth (rowP r) ≤ 3 := by show PyData.depthAll (r.map PyData.int) + 1 ≤ 3; omega
  refine .inr ⟨⟨_, .inr rfl⟩, rowP r, by simp [pd, rowD, rowP, pdL_int], shaped_row r, h2, h4, ?_, hq⟩
  have hlay : PyData.layable0 (rowP r) = true := by
    unfold PyData.layable0
    rw [hcan, decide_eq_true (show PyData.depth (rowP r) ≤ 64 by omega), decide_eq_true (show PyData.weight (rowP r) ≤ 2 ^ 20 by show PyData.weightAll (r.map PyData.int) ≤ 2 ^ 20; omega)]
    rfl
  have := PyProof.Rows.shown_le13 hlay (show PyData.intsShort 13 (rowP r) = true from h3)
  rw [sizeLine_eq]; omega
theorem no_ints : ∀ r : List Int, noLstL (r.map D.int) = true
  | [] => rfl
  | i :: r => no_ints r
theorem no_lead {n : Int} {r : List Int} : noLst (leadD n r) = true := by
  show (noLstL (r.map D.int) && true) = true
  rw [no_ints, Bool.true_and]
/-- a lead's three parts, shown -/
theorem t_lead (fo : Gk G) {n : Int} {r : List Int} {ex : Exc → Prop} {env : List Sl} {Q : D → Prop} {i : Nat} (he : env[i]? = some (.val (leadD n r))) (hn : 0 ≤ n ∧ n < 8) (hl : r.length < 8) (hv : ∀ i ∈ r, 0 ≤ i ∧ i < 8) (h : Q (.str (shown3 r.length n r))) :
    dBi (g1 gRepr) (aCons (dTup (aCons (dFld G "begin" (dVar i)) (aCons (dFld G "into" (dVar i)) (aCons (dFld G "row" (dVar i)) aNil)))) aNil) ex env Q := by
  obtain ⟨m1, m2, m3, i1, i2, i3⟩ := fld_lead fo (n := n) (r := r)
  exact ⟨_, he, 1, _, _, rfl, m1, i1, _, he, 1, _, _, rfl, m2, i2, _, he, 1, _, _, rfl, m3, i3, small (by simp), nilR (repr3 (by omega) hn (by omega) hv h)⟩
theorem str_txt {r : List Int} {n : Int} (h : r ≠ []) : spc r ++ " : " ++ numS n = txtL r n := by
  unfold spc txtL wordsL
  rw [TL.join_eq, TL.join_eq, show r.map numS ++ [(":" : Str), numS n] = (r.map numS ++ [(":" : Str)]) ++ [numS n] by simp, PyProof.Rows.FinIter.join_snoc, if_neg (by simp), PyProof.Rows.FinIter.join_snoc, if_neg (by simpa using h)]
  simp only [Str.append_assoc]
  congr 1
  rw [← Str.append_assoc (":" : Str), ← Str.append_assoc (" " : Str), show (" " : Str) ++ ((":" : Str) ++ (" " : Str)) = " : " by decide +kernel]
theorem tg_two {i j : Nat} {a b : D} {env : List Sl} {Q : List Sl → Prop} (h : Q ((env.set i (.val a)).set j (.val b))) : tgTwo i j (.tup [a, b]) env Q := h
theorem ixN_0 {k : Nat} (h : 0 < k) : ixN k 0 = some 0 := by
  unfold ixN; rw [if_pos (by omega), if_pos (by omega)]
  rfl
/-- the others that a lead is held against -/
def OthOk (d : D) : Prop := ∃ (its : Int) (q : List Int), d = .tup [.int its, .lst (q.map D.int)] ∧ 1 ≤ its ∧ its ≤ 6 ∧ q.length ≤ 6 ∧ ∀ i ∈ q, 0 ≤ i ∧ i < its
def sKept : FSpec := fun ds R _ => ∃ (r : List Int) (n : Int), ds = [.urn, .lst (r.map D.int), .int n] ∧ LeadIn r n ∧ R (.bl true)
abbrev s_law_kept_right : Stmt := topS 30
theorem sc_law_kept_right : FnScope ["pen", "row", "into", "passed", "lead", "back", "others", "at", "its", "more"] ["pen", "row", "into"] (defScope s_law_kept_right) := ⟨rfl, rfl, rfl, by decide +kernel, rfl, by decide +kernel, by decide +kernel⟩
theorem ok_law_kept_right (F : Fun G.K "_law_kept_right" "_law_kept_right" s_law_kept_right f fd) (bn : Bn mg) (fo : Gk G) (F__law_draw : Fk G P w mg base 1 "_law_draw" ["pen", "many"] 1 sDraw) (F__law_text : Fk G P w mg base 1 "_law_text" ["row", "into"] 0 sTextL) (C_Lead : Fc G P w mg base 5 "Lead" 1 ["self", "into", "row"] 0 sLeadInitL) (CK_Lead : Fck G P w mg base 5 "Lead" 1 ["self", "into", "row"] ["row", "into"] [1, 0] 0 sLeadInitL) (S_Lead : Fs G P w mg base 2 1 0 sStrLead) (N_Lead : Fqn G P w mg base 1 1 0 sEqAny) (SM_read : Fsk G P w mg base 7 "Lead" 1 "read" ["text"] ["text"] [0] 0 sReadLead) : FnD G P w mg base 9 f fd ["pen", "row", "into"] 2 sKept := by
  refine FnD.more (fnd_of F sc_law_kept_right (fun cdv A outer s H E hr hg => have xk := xk_def (E := E) hr hg; (ds_cons (ds_own (i := 3) sc_law_kept_right.nd rfl (Or.inl rfl) (df_list xk.K bn.list (dv 1))) (ds_cons (ds_set (i := 4) sc_law_kept_right.nd rfl (Or.inl rfl) (de_lendL 3 (de_makek CK_Lead xk (dk_cons (dv 3) (dk_cons (dv 2) dk_nil))))) (ds_cons (ds_setIx (i := 3) rfl (de_neg de_int) de_int) (ds_cons (ds_app (i := 3) rfl de_int) (ds_cons (ds_if (dt_w (dw_or (dt_cmp (o_neS) (de_bi (c_repr xk) bn.repr (da_cons (de_tup (da_cons (de_fld xk.K fo.begin (dv 4)) (da_cons (de_fld xk.K fo.into (dv 4)) (da_cons (de_fld xk.K fo.row (dv 4)) da_nil)))) da_nil)) (de_bi (c_repr xk) bn.repr (da_cons (de_tup (da_cons (de_bi (c_len xk.K) bn.len (da_cons (dv 1) da_nil)) (da_cons (dv 2) (da_cons (de_ty (c_tuple xk.K) bn.tuple (da_cons (dv 1) da_nil)) da_nil)))) da_nil)) (by rfl)) (dw_or1 (dt_cmp (o_neS) (de_strI S_Lead xk bn.str (dv 4)) (de_call F__law_text xk (da_cons (dv 1) (da_cons (dv 2) da_nil))) (by rfl))))) (ds_one (ds_ret de_bl)) ds_nil) (ds_cons (ds_set (i := 5) sc_law_kept_right.nd rfl (Or.inl rfl) (de_statk SM_read xk (dk_cons (de_call F__law_text xk (da_cons (dv 1) (da_cons (dv 2) da_nil))) dk_nil))) (ds_cons (ds_if (dt_w (dw_or (dt_neO N_Lead xk (dv 5) (dv 4) (by rfl)) (dw_or (dt_cmp (o_neS) (de_bi (c_repr xk) bn.repr (da_cons (de_tup (da_cons (de_fld xk.K fo.begin (dv 5)) (da_cons (de_fld xk.K fo.into (dv 5)) (da_cons (de_fld xk.K fo.row (dv 5)) da_nil)))) da_nil)) (de_bi (c_repr xk) bn.repr (da_cons (de_tup (da_cons (de_bi (c_len xk.K) bn.len (da_cons (dv 1) da_nil)) (da_cons (dv 2) (da_cons (de_ty (c_tuple xk.K) bn.tuple (da_cons (dv 1) da_nil)) da_nil)))) da_nil)) (by rfl)) (dw_or1 (dt_neO N_Lead xk (dv 4) (de_make C_Lead xk (da_cons (dv 2) (da_cons (de_ty (c_tuple xk.K) bn.tuple (da_cons (dv 1) da_nil)) da_nil))) (by rfl)))))) (ds_one (ds_ret de_bl)) ds_nil) (ds_cons (ds_own (i := 6) sc_law_kept_right.nd rfl (Or.inl rfl) (df_lst (da_cons (de_tup (da_cons (de_op (o_add xk.K) (dv 2) de_int) (da_cons (dv 1) da_nil))) (da_cons (de_tup (da_cons (dv 2) (da_cons (de_op (o_add xk.K) (dv 1) (de_lst (da_cons (de_call F__law_draw xk (da_cons (dv 0) (da_cons (dv 2) da_nil))) da_nil))) da_nil))) (da_cons (de_tup (da_cons (dv 2) (da_cons (de_sl xk.K (dv 1) (do_some de_int) do_none) da_nil))) da_nil))))) (ds_cons (ds_set (i := 7) sc_law_kept_right.nd rfl (Or.inl rfl) (de_call F__law_draw xk (da_cons (dv 0) (da_cons (de_bi (c_len xk.K) bn.len (da_cons (dv 1) da_nil)) da_nil)))) (ds_cons (ds_app (i := 6) rfl (de_tup (da_cons (dv 2) (da_cons (de_op (o_add xk.K) (de_op (o_add xk.K) (de_sl xk.K (dv 1) do_none (do_some (dv 7))) (de_lst (da_cons (de_op (o_mod) (de_ty (c_int) bn.int (da_cons (de_op (o_add xk.K) (de_ix xk.K (dv 1) (dv 7) (fun _ _ => rfl)) de_int) da_nil)) (dv 2)) da_nil))) (de_sl xk.K (dv 1) (do_some (de_op (o_add xk.K) (dv 7) de_int)) do_none)) da_nil)))) (ds_cons (ds_app (i := 6) rfl (de_tup (da_cons (de_op (o_add xk.K) (de_bi (c_maxL xk.calm) bn.max (da_cons (dv 1) da_nil)) de_int) (da_cons (dv 1) da_nil)))) (ds_freeze (i := 6) (ds_cons (ds_for xk po_def (di_seq xk.K (dv 6)) (dg_two (i := 8) (j := 9) xk.K xk.calm sc_law_kept_right.nd rfl (Or.inl rfl) rfl (Or.inl rfl) (pg_name sc_law_kept_right.nd rfl (Or.inl rfl)) (pg_name sc_law_kept_right.nd rfl (Or.inl rfl))) (ds_one (ds_if (dt_w (dw_and (dt_cmp (o_lt) (dv 8) de_int (by rfl)) (dw_and (dt_chain (o_lt) (o_lt) de_int (de_bi (c_len xk.K) bn.len (da_cons (dv 9) da_nil)) de_int) (dw_and1 (dt_cmp (o_ne xk.K xk.u64) (de_eqO N_Lead xk (de_make C_Lead xk (da_cons (dv 8) (da_cons (dv 9) da_nil))) (dv 4) (by rfl)) (de_and (de_cmp (o_eq xk.K xk.u64) (dv 8) (dv 2) (by rfl)) (de_one (de_cmp (o_eq xk.K xk.u64) (dv 9) (dv 1) (by rfl)))) (by rfl)))))) (ds_one (ds_ret de_bl)) ds_nil))) (ds_one (ds_ret (de_and (de_neO N_Lead xk (dv 4) (de_ty (c_tuple xk.K) bn.tuple (da_cons (dv 1) da_nil)) (by rfl)) (de_and (de_neO N_Lead xk (dv 4) (de_call F__law_text xk (da_cons (dv 1) (da_cons (dv 2) da_nil))) (by rfl)) (de_one (de_not (de_eqO N_Lead xk (dv 4) (de_tup (da_cons (dv 2) (da_cons (de_ty (c_tuple xk.K) bn.tuple (da_cons (dv 1) da_nil)) da_nil))) (by rfl)))))))))))))))))))))) ?_) (by decide)
  rintro ds R ex hl ⟨r, n, rfl, hL, hr⟩
  obtain ⟨l1, l5, n1, n5, hv⟩ := id hL
  have hd := hL.digits
  have hrn : r ≠ [] := fun z => by rw [z] at l1; simp at l1
  have hn8 : 0 ≤ n ∧ n < 8 := by omega
  have hv8 : ∀ i ∈ r, 0 ≤ i ∧ i < 8 := fun i hi => by have := hv i hi; omega
  refine seq_to (fun env' => ∃ a, env' = [.val .urn, .val (.lst (r.map D.int)), .val (.int n), .own a (r.map D.int), .emp, .emp, .emp, .emp, .emp, .emp]) (fun de' hnx hrt => ?_) (fun env' e => ?_)
  · exact ⟨_, rfl, fun a => hnx _ ⟨a, rfl⟩⟩
  obtain ⟨a, rfl⟩ := e
  refine seq_to (fun env' => env' = [.val .urn, .val (.lst (r.map D.int)), .val (.int n), .own a (r.map D.int), .val (leadD n r), .emp, .emp, .emp, .emp, .emp]) (fun de' hnx hrt => ?_) (fun env' e => ?_)
  · exact ⟨a, _, rfl, _, rfl, _, rfl, rfl, n, _, r, rfl, rfl, n1, n5, l1, l5, hv, no_lead, hnx _ rfl⟩
  subst e
  refine seq_to (fun env' => ∃ P, P.length ≤ 5 ∧ env' = [.val .urn, .val (.lst (r.map D.int)), .val (.int n), .own a P, .val (leadD n r), .emp, .emp, .emp, .emp, .emp]) (fun de' hnx hrt => ?_) (fun env' e => ?_)
  · exact ⟨1, rfl, a, _, rfl, 0, 0, rfl, ixN_0 (by rw [List.length_map]; exact l1), hnx _ ⟨_, by rw [List.length_set, List.length_map]; exact l5, rfl⟩⟩
  obtain ⟨P, hP, rfl⟩ := e
  refine seq_to (fun env' => ∃ P, env' = [.val .urn, .val (.lst (r.map D.int)), .val (.int n), .own a P, .val (leadD n r), .emp, .emp, .emp, .emp, .emp]) (fun de' hnx hrt => ?_) (fun env' e => ?_)
  · exact ⟨a, _, rfl, by rw [sizeLine_eq]; omega, hnx _ ⟨_, rfl⟩⟩
  clear hP P
  obtain ⟨P, rfl⟩ := e
  refine seq_to (fun env' => env' = [.val .urn, .val (.lst (r.map D.int)), .val (.int n), .own a P, .val (leadD n r), .emp, .emp, .emp, .emp, .emp]) (fun de' hnx hrt => ?_) (fun env' e => ?_)
  · refine sif_of (x := (!decide (shown3 r.length n r = shown3 r.length n r)) || (!decide (txtL r n = txtL r n))) (tst_or (fun K hK => ?_) fun _ K hK => ?_) (fun hb => ?_) fun hb => hnx _ rfl
    · refine t_lead fo rfl hn8 (by omega) hv8 ?_
      refine ⟨_, rfl, nilLen ?_⟩
      refine ⟨_, rfl, _, rfl, small (by simp), nilR ?_⟩
      rw [List.length_map]
      refine repr3 (by omega) hn8 (by omega) hv8 ?_
      exact ⟨_, _, rfl, rfl, _, rfl, hK⟩
    · refine ⟨_, rfl, _, rfl, n, r, rfl, by omega, by omega, hd, by omega, ⟨_, rfl⟩, ?_⟩
      rw [str_txt hrn]
      exact ⟨_, rfl, _, rfl, rfl, r, n, rfl, hL, _, _, rfl, rfl, _, rfl, hK⟩
    · simp at hb
  subst e
  refine seq_to (fun env' => env' = [.val .urn, .val (.lst (r.map D.int)), .val (.int n), .own a P, .val (leadD n r), .val (leadD n r), .emp, .emp, .emp, .emp]) (fun de' hnx hrt => ?_) (fun env' e => ?_)
  · exact ⟨_, rfl, _, rfl, rfl, r, n, rfl, hL, rfl, r, n, rfl, hL, hnx _ rfl⟩
  subst e
  refine seq_to (fun env' => env' = [.val .urn, .val (.lst (r.map D.int)), .val (.int n), .own a P, .val (leadD n r), .val (leadD n r), .emp, .emp, .emp, .emp]) (fun de' hnx hrt => ?_) (fun env' e => ?_)
  · refine sif_of (x := (!(n == n && r == r)) || ((!decide (shown3 r.length n r = shown3 r.length n r)) || (!(n == n && r == r)))) (tst_or (fun K hK => ?_) fun _ => tst_or (fun K hK => ?_) fun _ K hK => ?_) (fun hb => ?_) fun hb => hnx _ rfl
    · exact ⟨_, rfl, _, rfl, _, rfl, .inl ⟨_, rfl⟩, n, r, _, rfl, .inl ⟨n, r, rfl, _, rfl, _, rfl, hK⟩⟩
    · refine t_lead fo rfl hn8 (by omega) hv8 ?_
      refine ⟨_, rfl, nilLen ?_⟩
      refine ⟨_, rfl, _, rfl, small (by simp), nilR ?_⟩
      rw [List.length_map]
      refine repr3 (by omega) hn8 (by omega) hv8 ?_
      exact ⟨_, _, rfl, rfl, _, rfl, hK⟩
    · exact ⟨_, rfl, _, rfl, _, rfl, rfl, n, _, r, rfl, rfl, n1, n5, l1, l5, hv, _, rfl, .inl ⟨_, rfl⟩, n, r, _, rfl, .inl ⟨n, r, rfl, _, rfl, _, rfl, hK⟩⟩
    · simp at hb
  subst e
  refine seq_to (fun env' => ∃ a2 os, os.length = 3 ∧ (∀ d ∈ os, OthOk d) ∧ env' = [.val .urn, .val (.lst (r.map D.int)), .val (.int n), .own a P, .val (leadD n r), .val (leadD n r), .own a2 os, .emp, .emp, .emp]) (fun de' hnx hrt => ?_) (fun env' e => ?_)
  · refine ⟨_, rfl, _, rfl, small (by simp), _, rfl, _, rfl, _, rfl, _, rfl, rfl, n, rfl, n1, by omega, fun i h0 h1 => ⟨small (by simp), small (by simp; omega), small (by simp), _, rfl, _, rfl, 1, rfl, ?_⟩⟩
    refine ⟨small (by simp), small (by simp), fun a2 => hnx _ ⟨a2, _, rfl, ?_, rfl⟩⟩
    intro d hd
    simp only [List.mem_cons, List.not_mem_nil, or_false] at hd
    rcases hd with rfl | rfl | rfl
    · exact ⟨n + 1, r, rfl, by omega, by omega, by omega, fun i hi => by have := hv i hi; omega⟩
    · refine ⟨n, r ++ [i], by rw [List.map_append]; rfl, by omega, by omega, by simp; omega, fun j hj => ?_⟩
      rcases List.mem_append.mp hj with hj | hj
      · exact hv j hj
      · rw [List.mem_singleton.mp hj]; exact ⟨h0, h1⟩
    · refine ⟨n, r.drop 1, by rw [show cutD (r.map D.int) (some (1 : Int)) none = (r.map D.int).drop 1 from cut_fromN (k := 1), List.map_drop], by omega, by omega, by simp; omega, fun j hj => hv j (List.mem_of_mem_drop hj)⟩
  obtain ⟨a2, os, ol, ho, rfl⟩ := e
  refine seq_to (fun env' => ∃ k : Nat, k < r.length ∧ env' = [.val .urn, .val (.lst (r.map D.int)), .val (.int n), .own a P, .val (leadD n r), .val (leadD n r), .own a2 os, .val (.int k), .emp, .emp]) (fun de' hnx hrt => ?_) (fun env' e => ?_)
  · refine ⟨_, rfl, _, rfl, nilLen ?_⟩
    refine ⟨rfl, _, rfl, by rw [List.length_map]; omega, by rw [List.length_map]; omega, fun i h0 h1 => ?_⟩
    rw [List.length_map] at h1
    obtain ⟨k, rfl⟩ := Int.eq_ofNat_of_zero_le h0
    exact hnx _ ⟨k, by omega, rfl⟩
  obtain ⟨k, hk, rfl⟩ := e
  refine seq_to (fun env' => ∃ os, os.length = 4 ∧ (∀ d ∈ os, OthOk d) ∧ env' = [.val .urn, .val (.lst (r.map D.int)), .val (.int n), .own a P, .val (leadD n r), .val (leadD n r), .own a2 os, .val (.int k), .emp, .emp]) (fun de' hnx hrt => ?_) (fun env' e => ?_)
  · have hat : atI (r.map D.int) (k : Int) = some (.int r[k]) := atI_nat (by rw [List.getElem?_map, List.getElem?_eq_getElem hk]; rfl)
    have c1 : cutD (r.map D.int) none (some (k : Int)) = (r.take k).map D.int := by rw [cut_toN, List.map_take]
    have c2 : cutD (r.map D.int) (some ((k : Int) + 1)) none = (r.drop (k + 1)).map D.int := by rw [show (k : Int) + 1 = ((k + 1 : Nat) : Int) from rfl, cut_fromN, List.map_drop]
    have hx := hv r[k] (List.getElem_mem hk)
    have hm0 := Int.emod_nonneg (r[k] + 1) (show n ≠ 0 by omega)
    have hm1 := Int.emod_lt_of_pos (r[k] + 1) (show 0 < n by omega)
    refine ⟨a2, os, rfl, _, rfl, _, rfl, _, rfl, k, rfl, ?_⟩
    refine ⟨_, rfl, _, rfl, _, hat, ?_⟩
    refine ⟨_, rfl, by omega, small (by simp), ?_⟩
    rw [c1]
    refine ⟨small (by simp; omega), _, rfl, _, rfl, (k : Int) + 1, rfl, ?_⟩
    show _ ∧ _
    rw [c2]
    refine ⟨small (by simp; omega), small (by simp), by rw [ol]; exact small (by decide), hnx _ ⟨_, by rw [List.length_append, ol]; rfl, ?_, rfl⟩⟩
    intro d hd
    rcases List.mem_append.mp hd with hd | hd
    · exact ho d hd
    · rw [List.mem_singleton.mp hd]
      refine ⟨n, r.take k ++ [(r[k] + 1) % n] ++ r.drop (k + 1), by rw [List.map_append, List.map_append]; rfl, by omega, by omega, by simp; omega, fun j hj => ?_⟩
      rcases List.mem_append.mp hj with hj | hj
      · rcases List.mem_append.mp hj with hj | hj
        · exact hv j (List.mem_of_mem_take hj)
        · rw [List.mem_singleton.mp hj]; exact ⟨hm0, hm1⟩
      · exact hv j (List.mem_of_mem_drop hj)
  clear ho ol os
  obtain ⟨os, ol, ho, rfl⟩ := e
  refine seq_to (fun env' => ∃ os, (∀ d ∈ os, OthOk d) ∧ env' = [.val .urn, .val (.lst (r.map D.int)), .val (.int n), .own a P, .val (leadD n r), .val (leadD n r), .own a2 os, .val (.int k), .emp, .emp]) (fun de' hnx hrt => ?_) (fun env' e => ?_)
  · refine ⟨a2, os, rfl, _, rfl, r, rfl, l1, fun m hm hmx => ?_⟩
    refine ⟨_, rfl, small (by simp), by rw [ol]; exact small (by decide), hnx _ ⟨_, ?_, rfl⟩⟩
    intro d hd
    rcases List.mem_append.mp hd with hd | hd
    · exact ho d hd
    · rw [List.mem_singleton.mp hd]
      have := hv m hm
      exact ⟨m + 1, r, rfl, by omega, by omega, by omega, fun j hj => by have := hv j hj; have := hmx j hj; omega⟩
  clear ho ol os
  obtain ⟨os, ho, rfl⟩ := e
  refine ⟨a2, os, rfl, ?_⟩
  refine seq_to (fun env' => ∃ s8 s9, env' = [.val .urn, .val (.lst (r.map D.int)), .val (.int n), .own a P, .val (leadD n r), .val (leadD n r), .val (.lst os), .val (.int k), s8, s9]) (fun de' hnx hrt => ?_) (fun env' e => ?_)
  · refine ⟨_, rfl, ?_⟩
    refine sForL_inv (fun _ env' => ∃ s8 s9, env' = [.val .urn, .val (.lst (r.map D.int)), .val (.int n), .own a P, .val (leadD n r), .val (leadD n r), .val (.lst os), .val (.int k), s8, s9]) 0 ⟨_, _, rfl⟩ (fun i d env he hI nx hx => ?_) (fun env hI => hnx _ hI)
    obtain ⟨s8, s9, rfl⟩ := hI
    obtain ⟨its, q, rfl, t1, t6, ql, qv⟩ := ho d (List.mem_of_getElem? he)
    refine tg_two ?_
    refine sif_of (x := decide (its < 6) && ((decide (0 < (q.length : Int)) && decide ((q.length : Int) < 6)) && !((its == n && q == r) == (its == n && q == r)))) (tst_and (fun K hK => ?_) fun h6 => tst_and (fun K hK => ?_) fun hlen K hK => ?_) (fun hb => ?_) fun hb => hx _ ⟨_, _, rfl⟩
    · exact ⟨_, rfl, trivial, _, rfl, hK⟩
    · refine ⟨_, rfl, nilLen ?_⟩
      rw [List.length_map]
      refine ⟨trivial, _, rfl, ite_of (fun hb => ?_) fun hb => ?_⟩
      · rw [hb] at hK
        exact ⟨trivial, _, rfl, hK⟩
      · rw [hb] at hK
        exact ⟨_, rfl, hK⟩
    · have h6' := of_decide_eq_true h6
      rw [Bool.and_eq_true] at hlen
      have hl0 := of_decide_eq_true hlen.1
      have hl6 := of_decide_eq_true hlen.2
      refine ⟨_, rfl, _, rfl, rfl, its, _, q, rfl, rfl, t1, by omega, by omega, by omega, qv, _, rfl, _, rfl, .inl ⟨_, rfl⟩, its, q, _, rfl, .inl ⟨n, r, rfl, _, rfl, ?_⟩⟩
      exact d_and (x := its == n) (y := q == r) (fun K hK => ⟨_, rfl, _, rfl, eq_int hK⟩) (fun _ K hK => ⟨_, rfl, _, rfl, eq_lst hK⟩) (ne_bl ⟨_, rfl, hK⟩)
    · simp at hb
  obtain ⟨s8, s9, rfl⟩ := e
  refine d_and (x := true) (y := true) (fun K hK => ?_) (fun _ K hK => ?_) hr
  · exact ⟨_, rfl, _, rfl, _, rfl, .inr (.inl ⟨_, rfl⟩), n, r, _, rfl, .inr ⟨.inl ⟨_, rfl⟩, _, rfl, hK⟩⟩
  · refine d_and (x := true) (y := true) (fun K hK => ?_) (fun _ K hK => ?_) hK
    · exact ⟨_, rfl, _, rfl, _, rfl, rfl, r, n, rfl, hL, _, rfl, .inr (.inr ⟨_, rfl⟩), n, r, _, rfl, .inr ⟨.inr ⟨_, rfl⟩, _, rfl, hK⟩⟩
    · exact ⟨_, rfl, _, rfl, _, rfl, small (by simp), _, rfl, .inr (.inl ⟨_, rfl⟩), n, r, _, rfl, .inr ⟨.inl ⟨_, rfl⟩, _, rfl, _, rfl, hK⟩⟩

end
end Pg

set_option Elab.async false
set_option linter.all false
set_option maxRecDepth 100000
set_option maxHeartbeats 4100000
namespace Pg
open PySem L2 RZ Kn
section
variable {G : Gd} {P : Program} {w : World} {mg : Str → Option Value} {base : Heap} {f : Addr} {fd : FuncData}
theorem nilT {ex : Exc → Prop} {env : List Sl} {ds : List D} {Q : D → Prop} (h : Q (.tup ds)) : aNil ex env fun xs => g1 gTuple (.lst ds :: xs) Q := h
theorem zip_sl {i : Nat} {as : List D} {ex : Exc → Prop} {env : List Sl} {Q : List D → Prop} (he : env[i]? = some (.val (.lst as))) (h : Q (zipD as (cutD as (some 1) none))) : iZip (aCons (dVar i) (aCons (dSl (dVar i) (oSome (dC (.int 1))) oNone) aNil)) ex env Q := ⟨_, he, _, he, 1, rfl, h⟩
theorem zip_sl2 {i j : Nat} {as bs : List D} {ex : Exc → Prop} {env : List Sl} {Q : List D → Prop} (he : env[i]? = some (.val (.lst as))) (hf : env[j]? = some (.val (.lst bs))) (h : Q (zipD (cutD as (some 1) none) bs)) : iZip (aCons (dSl (dVar i) (oSome (dC (.int 1))) oNone) (aCons (dVar j) aNil)) ex env Q := ⟨_, he, 1, rfl, _, hf, h⟩
theorem atR_in {r : List Int} {i n : Int} (h0 : 0 ≤ i) (h1 : i < r.length) (hv : ∀ x ∈ r, 0 ≤ x ∧ x < n) : atI (r.map D.int) i = some (.int (atR r i)) ∧ 0 ≤ atR r i ∧ atR r i < n := by
  obtain ⟨k, rfl⟩ := Int.eq_ofNat_of_zero_le h0
  have hk : k < r.length := by omega
  have e : atR r (k : Int) = r[k] := by
    unfold atR
    rw [Int.toNat_natCast, List.getD_eq_getElem?_getD, List.getElem?_eq_getElem hk]; rfl
  rw [e]
  exact ⟨atI_nat (by rw [List.getElem?_map, List.getElem?_eq_getElem hk]; rfl), hv _ (List.getElem_mem hk)⟩
def ofD (r : List Int) : D → D | .int i => .int (atR r i) | _ => .non
theorem map_ofD (r ts : List Int) : (ts.map D.int).map (ofD r) = (ts.map (atR r)).map D.int := by rw [List.map_map, List.map_map]; rfl
def idx (n : Nat) : List Int := (List.range n).map fun (i : Nat) => (i : Int)
theorem range_idx (n : Nat) : rangeD 0 n = (idx n).map D.int := by
  unfold rangeD idx
  rw [List.map_map]
  exact List.map_congr_left fun i _ => by show D.int (0 + (i : Int)) = D.int i; rw [Int.zero_add]
theorem idx_val {n : Nat} {i : Int} (h : i ∈ idx n) : 0 ≤ i ∧ i < n := by
  obtain ⟨k, hk, rfl⟩ := List.mem_map.mp h
  have := List.mem_range.mp hk
  omega
theorem idx_at (r : List Int) : (idx r.length).map (atR r) = r := by
  apply List.ext_getElem
  · simp [idx]
  · intro k h1 h2
    simp only [idx, List.getElem_map, List.getElem_range]
    unfold atR
    rw [Int.toNat_natCast, List.getD_eq_getElem?_getD, List.getElem?_eq_getElem h2]; rfl
theorem idx_len (n : Nat) : (idx n).length = n := by simp [idx]
theorem atR_idx {n : Nat} {i : Int} (h0 : 0 ≤ i) (h1 : i < n) : atR (idx n) i = i := by
  obtain ⟨k, rfl⟩ := Int.eq_ofNat_of_zero_le h0
  unfold atR idx
  rw [Int.toNat_natCast, List.getD_eq_getElem?_getD, List.getElem?_map, List.getElem?_range (by omega)]
  rfl
theorem atR_map {r : List Int} {f : Int → Int} {i : Int} (h0 : 0 ≤ i) (h1 : i < r.length) : atR (r.map f) i = f (atR r i) := by
  obtain ⟨k, rfl⟩ := Int.eq_ofNat_of_zero_le h0
  have hk : k < r.length := by omega
  unfold atR
  rw [Int.toNat_natCast, List.getD_eq_getElem?_getD, List.getD_eq_getElem?_getD, List.getElem?_map, List.getElem?_eq_getElem hk]
  rfl
def mkL : D → D | .tup [.int n, .lst ds] => .ins 1 [.int ds.length, .int n, .tup ds] | _ => .non
theorem mkL_lead {n : Int} {q : List Int} : mkL (.tup [.int n, .lst (q.map D.int)]) = leadD n q := by
  show D.ins 1 [.int (q.map D.int).length, _, _] = _
  rw [List.length_map]; rfl
theorem RowIn.comp {a b c : Nat} {r q : List Int} (h : RowIn a b r) (g : RowIn b c q) : RowIn a c (r.map (atR q)) := by
  refine ⟨by rw [List.length_map]; exact h.1, fun i hi => ?_⟩
  obtain ⟨j, hj, rfl⟩ := List.mem_map.mp hi
  have := h.2 j hj
  exact atR_mem this.1 (by rw [g.1]; exact this.2) g.2
theorem RowIn.idx (n : Nat) : RowIn n n (Pg.idx n) := ⟨idx_len n, fun i hi => idx_val hi⟩
theorem of_then {a b : Nat} {r q : List Int} {ts : List Int} (h : RowIn a b r) (hts : ∀ i ∈ ts, 0 ≤ i ∧ i < (a : Int)) : (ts.map (atR r)).map (atR q) = ts.map (atR (r.map (atR q))) := by
  rw [List.map_map]
  exact List.map_congr_left fun i hi => by
    have := hts i hi
    exact (atR_map this.1 (by rw [h.1]; exact this.2)).symm
theorem idx_of {n : Nat} {ts : List Int} (hts : ∀ i ∈ ts, 0 ≤ i ∧ i < (n : Int)) : ts.map (atR (idx n)) = ts := by
  have : ts.map (atR (idx n)) = ts.map id := List.map_congr_left fun i hi => atR_idx (hts i hi).1 (hts i hi).2
  rw [this, List.map_id]
def sLed : FSpec := fun ds R _ => ∃ (r : List Int) (n : Int), ds = [.urn, .lst (r.map D.int), .int n] ∧ LeadIn r n ∧ R (.bl true)
def sBehind4 : FSpec := fun ds R _ => ∃ s0 s1 s2 s3 : Nat, ds = [.urn, .lst [.int s0, .int s1, .int s2, .int s3]] ∧ 1 ≤ s0 ∧ s0 ≤ 5 ∧ 1 ≤ s1 ∧ s1 ≤ 5 ∧ 1 ≤ s2 ∧ s2 ≤ 5 ∧ 1 ≤ s3 ∧ s3 ≤ 5 ∧ R (.bl true)
abbrev s_law_led_right : Stmt := topS 31
theorem sc_law_led_right : FnScope ["pen", "row", "into", "lead", "things", "held", "turn", "thing"] ["pen", "row", "into"] (defScope s_law_led_right) := ⟨rfl, rfl, rfl, by decide +kernel, rfl, by decide +kernel, by decide +kernel⟩
theorem ok_law_led_right (F : Fun G.K "_law_led_right" "_law_led_right" s_law_led_right f fd) (bn : Bn mg) (fo : Gk G) (F__law_draw : Fk G P w mg base 1 "_law_draw" ["pen", "many"] 1 sDraw) (C_Lead : Fc G P w mg base 5 "Lead" 1 ["self", "into", "row"] 0 sLeadInitL) (M_of : Fm G P w mg base 5 1 "of" ["self", "values"] 0 sOfL) (MK_of : Fmk G P w mg base 5 1 "of" ["self", "values"] ["values"] [0] 0 sOfL) : FnD G P w mg base 9 f fd ["pen", "row", "into"] 16777300 sLed := by
  refine FnD.more (fnd_of F sc_law_led_right (fun cdv A outer s H E hr hg => have xk := xk_def (E := E) hr hg; (ds_cons (ds_par (i := 3) (j := 4) xk.calm sc_law_led_right.nd rfl rfl (by decide) rfl rfl (da_cons (de_make C_Lead xk (da_cons (dv 2) (da_cons (dv 1) da_nil))) (da_cons (de_comp (own := [("turn", 6)]) xk sc_law_led_right.nd (di_range1 bn.range (da_cons (de_call F__law_draw xk (da_cons (dv 0) (da_cons de_int da_nil))) da_nil)) (blkOk_by (N := ["pen", "row", "into", "lead", "things", "held", "turn", "thing"]) (sc := defScope s_law_led_right) (by decide +kernel)) (fun s H C cl fp => (dg_name (i := 6) sc_law_led_right.nd rfl (Or.inl rfl))) (fun s H C cl fp => dts_nil) (fun s H C cl fp => (de_call F__law_draw (Xk.blk xk _ _ _ _ _) (da_cons (dv 0) (da_cons (de_bi (c_len (Xk.blk xk _ _ _ _ _).K) bn.len (da_cons (dv 1) da_nil)) da_nil)))) (by simp)) da_nil)) (hw := (by with_unfolding_all rfl))) (ds_cons (ds_set (i := 5) sc_law_led_right.nd rfl (Or.inl rfl) (de_ty (c_list xk.K) bn.list (da_cons (dv 4) da_nil))) (ds_cons (ds_if (dt_w (dw_or (dt_cmp (o_neS) (de_bi (c_repr xk) bn.repr (da_cons (de_methk MK_of xk (dv 3) (dk_cons (dv 4) dk_nil)) da_nil)) (de_bi (c_repr xk) bn.repr (da_cons (de_ty (c_tuple xk.K) bn.tuple (da_cons (de_comp (own := [("thing", 7)]) xk sc_law_led_right.nd (di_seq xk.K (dv 4)) (blkOk_by (N := ["pen", "row", "into", "lead", "things", "held", "turn", "thing"]) (sc := defScope s_law_led_right) (by decide +kernel)) (fun s H C cl fp => (dg_name (i := 7) sc_law_led_right.nd rfl (Or.inl rfl))) (fun s H C cl fp => dts_nil) (fun s H C cl fp => (de_ix (Xk.blk xk _ _ _ _ _).K (dv 1) (dv 7) (fun _ _ => rfl))) (by simp)) da_nil)) da_nil)) (by rfl)) (dw_or1 (dt_cmp (o_ne xk.K xk.u64) (dv 4) (dv 5) (by rfl))))) (ds_one (ds_ret de_bl)) ds_nil) (ds_one (ds_ret (de_and (de_cmp (o_eq xk.K xk.u64) (de_meth M_of xk (dv 3) (da_cons (de_ty (c_tuple xk.K) bn.tuple (da_cons (dv 4) da_nil)) da_nil)) (de_meth M_of xk (dv 3) (da_cons (dv 4) da_nil)) (by rfl)) (de_and (de_cmp (o_eqS) (de_bi (c_repr xk) bn.repr (da_cons (de_meth M_of xk (dv 3) (da_cons (de_lst da_nil) da_nil)) da_nil)) de_str (by rfl)) (de_one (de_cmp (o_eq xk.K xk.u64) (de_meth M_of xk (dv 3) (da_cons (de_listRange xk.calm bn.list bn.range (de_bi (c_len xk.K) bn.len (da_cons (dv 1) da_nil))) da_nil)) (de_ty (c_tuple xk.K) bn.tuple (da_cons (dv 1) da_nil)) (by rfl))))))))))) ?_) (by decide)
  rintro ds R ex hl ⟨r, n, rfl, hL, hr⟩
  obtain ⟨l1, l5, n1, n5, hv⟩ := id hL
  refine seq_to (fun env' => ∃ ts : List Int, ts.length < 8 ∧ (∀ i ∈ ts, 0 ≤ i ∧ i < (r.length : Int)) ∧ env' = [.val .urn, .val (.lst (r.map D.int)), .val (.int n), .val (leadD n r), .val (.lst (ts.map D.int)), .emp, .emp, .emp]) (fun de' hnx hrt => ?_) (fun env' e => ?_)
  · refine ⟨_, rfl, _, rfl, rfl, n, _, r, rfl, rfl, n1, n5, l1, l5, hv, _, rfl, rfl, 8, rfl, by omega, by omega, fun m h0 h1 => ⟨m, rfl, by omega, by omega, ?_⟩⟩
    refine compL_any (fun _ d => ∃ i : Int, d = .int i ∧ 0 ≤ i ∧ i < (r.length : Int)) (fun d hd K hK => ?_) (fun rs hl hrs => ?_)
    · exact ⟨_, rfl, _, rfl, rfl, _, rfl, by rw [List.length_map]; omega, by rw [List.length_map]; omega, fun i h0 h1 => hK _ ⟨i, rfl, h0, by rw [List.length_map] at h1; exact h1⟩⟩
    · obtain ⟨ts, rfl, hl2, hts⟩ := ints_of (P := fun i => 0 ≤ i ∧ i < (r.length : Int)) (fun d hd => by obtain ⟨_, _, i, h⟩ := all_of hl hrs d hd; exact ⟨i, h⟩)
      have hlen : ts.length < 8 := by rw [hl2, hl]; simp [rangeD]; omega
      exact ⟨_, _, rfl, hnx _ ⟨ts, hlen, hts, rfl⟩⟩
  obtain ⟨ts, tl, tv, rfl⟩ := e
  refine seq_to (fun env' => env' = [.val .urn, .val (.lst (r.map D.int)), .val (.int n), .val (leadD n r), .val (.lst (ts.map D.int)), .val (.lst (ts.map D.int)), .emp, .emp]) (fun de' hnx hrt => ?_) (fun env' e => ?_)
  · exact ⟨_, rfl, hnx _ rfl⟩
  subst e
  have hat : ∀ i ∈ ts, atI (r.map D.int) i = some (.int (atR r i)) ∧ 0 ≤ atR r i ∧ atR r i < n := fun i hi => atR_in (tv i hi).1 (tv i hi).2 hv
  have hv8 : ∀ i ∈ ts.map (atR r), 0 ≤ i ∧ i < 8 := fun i hi => by
    obtain ⟨j, hj, rfl⟩ := List.mem_map.mp hi
    have := (hat j hj).2
    omega
  refine seq_to (fun env' => env' = [.val .urn, .val (.lst (r.map D.int)), .val (.int n), .val (leadD n r), .val (.lst (ts.map D.int)), .val (.lst (ts.map D.int)), .emp, .emp]) (fun de' hnx hrt => ?_) (fun env' e => ?_)
  · refine sif_of (x := (!decide (PyData.shown (rowP (ts.map (atR r))) = PyData.shown (rowP (ts.map (atR r))))) || (!(ts == ts))) (tst_or (fun K hK => ?_) fun _ K hK => ?_) (fun hb => ?_) fun hb => hnx _ rfl
    · refine ⟨_, rfl, _, rfl, _, rfl, rfl, n, r, _, ts, rfl, rfl, tv, nilR (repr1 (by simp; omega) hv8 ?_)⟩
      refine ⟨_, rfl, ?_⟩
      refine compL_map (ofD r) (fun d hd K1 h1 => ?_) ?_
      · obtain ⟨i, hi, rfl⟩ := List.mem_map.mp hd
        exact ⟨_, rfl, _, rfl, _, (hat i hi).1, h1⟩
      · rw [List.nil_append, map_ofD]
        refine nilT (nilR (repr1 (by simp; omega) hv8 ?_))
        exact ⟨_, _, rfl, rfl, _, rfl, hK⟩
    · exact ⟨_, rfl, _, rfl, ne_lst ⟨_, rfl, hK⟩⟩
    · simp at hb
  subst e
  refine d_and (x := true) (y := true) (fun K hK => ?_) (fun _ K hK => ?_) hr
  · exact ⟨_, rfl, _, rfl, _, rfl, rfl, n, r, _, ts, rfl, rfl, tv, _, rfl, _, rfl, _, rfl, rfl, n, r, _, ts, rfl, rfl, tv, eq_row shaped_row (by rw [beq_self_eq_true]; exact hK)⟩
  · refine d_and (x := true) (y := true) (fun K hK => ?_) (fun _ K hK => ?_) hK
    · have e0 : PyData.shown (rowP []) = "()" := by decide +kernel
      refine ⟨_, rfl, _, rfl, small (by simp), rfl, n, r, _, [], rfl, rfl, (by intro i hi; cases hi), nilR (repr1 (r := []) (by simp) (by intro i hi; cases hi) ?_)⟩
      exact ⟨_, _, rfl, rfl, by rw [e0]; exact hK⟩
    · refine ⟨_, rfl, _, rfl, _, rfl, _, rfl, by rw [List.length_map]; omega, by rw [List.length_map]; omega, rfl, n, r, _, idx r.length, rfl, ?_, fun i hi => idx_val hi, _, rfl, ?_⟩
      · rw [List.length_map, Int.toNat_natCast, range_idx]; rfl
      · rw [idx_at]
        exact eq_row shaped_row (by rw [beq_self_eq_true]; exact hK)

abbrev s_law_behind_right : Stmt := topS 32
theorem sc_law_behind_right : FnScope ["pen", "sizes", "rows", "one", "two", "three", "both", "due", "stay", "things", "begin", "into", "row", "thing", "turn"] ["pen", "sizes"] (defScope s_law_behind_right) := ⟨rfl, rfl, rfl, by decide +kernel, rfl, by decide +kernel, by decide +kernel⟩
theorem ok_law_behind_right (F : Fun G.K "_law_behind_right" "_law_behind_right" s_law_behind_right f fd) (bn : Bn mg) (fo : Gk G) (F__law_draw : Fk G P w mg base 1 "_law_draw" ["pen", "many"] 1 sDraw) (F__law_row : Fk G P w mg base 2 "_law_row" ["pen", "begin", "into"] 16777216 sRowD) (C_Lead : Fc G P w mg base 5 "Lead" 1 ["self", "into", "row"] 0 sLeadInitL) (N_Lead : Fqn G P w mg base 1 1 0 sEqAny) (M_of : Fm G P w mg base 5 1 "of" ["self", "values"] 0 sOfL) (M_then : Fm G P w mg base 7 1 "then" ["self", "other"] 0 sThenL) (MK_then : Fmk G P w mg base 7 1 "then" ["self", "other"] ["other"] [0] 0 sThenL) (F_idle : Fk G P w mg base 7 "idle" ["things"] 0 sIdleL) (K_idle : FkK G P w mg base 7 "idle" ["things"] ["things"] [0] 0 sIdleL) : FnD G P w mg base 10 f fd ["pen", "sizes"] 281475043819520 sBehind4 := by
  refine FnD.more (fnd_of F sc_law_behind_right (fun cdv A outer s H E hr hg => have xk := xk_def (E := E) hr hg; (ds_cons (ds_set (i := 2) sc_law_behind_right.nd rfl (Or.inr rfl) (de_comp (own := [("begin", 10), ("into", 11)]) xk sc_law_behind_right.nd (di_zip xk.K bn.zip (da_cons (dv 1) (da_cons (de_sl xk.K (dv 1) (do_some de_int) do_none) da_nil))) (blkOk_by (N := ["pen", "sizes", "rows", "one", "two", "three", "both", "due", "stay", "things", "begin", "into", "row", "thing", "turn"]) (sc := defScope s_law_behind_right) (by decide +kernel)) (fun s H C cl fp => (dg_two (i := 10) (j := 11) (Xk.blk xk _ _ _ _ _).K (Xk.blk xk _ _ _ _ _).calm sc_law_behind_right.nd rfl (Or.inl rfl) rfl (Or.inl rfl) (pg_name sc_law_behind_right.nd rfl (Or.inl rfl)) (pg_name sc_law_behind_right.nd rfl (Or.inl rfl)))) (fun s H C cl fp => dts_nil) (fun s H C cl fp => (de_call F__law_row (Xk.blk xk _ _ _ _ _) (da_cons (dv 0) (da_cons (dv 10) (da_cons (dv 11) da_nil))))) (by simp))) (ds_cons (ds_asg (de_comp (own := [("into", 11), ("row", 12)]) xk sc_law_behind_right.nd (di_zip xk.K bn.zip (da_cons (de_sl xk.K (dv 1) (do_some de_int) do_none) (da_cons (dv 2) da_nil))) (blkOk_by (N := ["pen", "sizes", "rows", "one", "two", "three", "both", "due", "stay", "things", "begin", "into", "row", "thing", "turn"]) (sc := defScope s_law_behind_right) (by decide +kernel)) (fun s H C cl fp => (dg_two (i := 11) (j := 12) (Xk.blk xk _ _ _ _ _).K (Xk.blk xk _ _ _ _ _).calm sc_law_behind_right.nd rfl (Or.inl rfl) rfl (Or.inl rfl) (pg_name sc_law_behind_right.nd rfl (Or.inl rfl)) (pg_name sc_law_behind_right.nd rfl (Or.inl rfl)))) (fun s H C cl fp => dts_nil) (fun s H C cl fp => (de_make C_Lead (Xk.blk xk _ _ _ _ _) (da_cons (dv 11) (da_cons (dv 12) da_nil)))) (by simp)) (dg_threeL xk.calm (pg_name (i := 3) sc_law_behind_right.nd rfl (Or.inl rfl)) (pg_name (i := 4) sc_law_behind_right.nd rfl (Or.inl rfl)) (pg_name (i := 5) sc_law_behind_right.nd rfl (Or.inl rfl)))) (ds_cons (ds_set (i := 6) sc_law_behind_right.nd rfl (Or.inl rfl) (de_methk MK_then xk (dv 3) (dk_cons (dv 4) dk_nil))) (ds_cons (ds_setComp (i := 7) (own := [("thing", 13)]) xk sc_law_behind_right.nd rfl rfl (sw_true rfl rfl rfl (by decide +kernel)) (di_seq xk.K (de_ix xk.K (dv 2) de_int (fun _ _ => rfl))) (blkOk_by (N := ["pen", "sizes", "rows", "one", "two", "three", "both", "due", "stay", "things", "begin", "into", "row", "thing", "turn"]) (sc := defScope s_law_behind_right) (by decide +kernel)) (fun s H C cl fp => (dg_name (i := 13) sc_law_behind_right.nd rfl (Or.inl rfl))) (fun s H C cl fp => dts_nil) (fun s H C cl fp => (de_ix (Xk.blk xk _ _ _ _ _).K (de_ix (Xk.blk xk _ _ _ _ _).K (dv 2) de_int (fun _ _ => rfl)) (dv 13) (fun _ _ => rfl))) (by simp)) (ds_cons (ds_if (dt_w (dw_or (dt_cmp (o_neS) (de_bi (c_repr xk) bn.repr (da_cons (de_tup (da_cons (de_fld xk.K fo.begin (dv 6)) (da_cons (de_fld xk.K fo.into (dv 6)) (da_cons (de_fld xk.K fo.row (dv 6)) da_nil)))) da_nil)) (de_bi (c_repr xk) bn.repr (da_cons (de_tup (da_cons (de_ix xk.K (dv 1) de_int (fun _ _ => rfl)) (da_cons (de_ix xk.K (dv 1) de_int (fun _ _ => rfl)) (da_cons (de_ty (c_tuple xk.K) bn.tuple (da_cons (dv 7) da_nil)) da_nil)))) da_nil)) (by rfl)) (dw_or1 (dt_neO N_Lead xk (dv 6) (de_make C_Lead xk (da_cons (de_ix xk.K (dv 1) de_int (fun _ _ => rfl)) (da_cons (dv 7) da_nil))) (by rfl))))) (ds_one (ds_ret de_bl)) ds_nil) (ds_cons (ds_if (dt_w (dw_or (dt_neO N_Lead xk (de_meth M_then xk (dv 6) (da_cons (dv 5) da_nil)) (de_meth M_then xk (dv 3) (da_cons (de_meth M_then xk (dv 4) (da_cons (dv 5) da_nil)) da_nil)) (by rfl)) (dw_or (dt_neO N_Lead xk (dv 3) (de_make C_Lead xk (da_cons (de_ix xk.K (dv 1) de_int (fun _ _ => rfl)) (da_cons (de_ix xk.K (dv 2) de_int (fun _ _ => rfl)) da_nil))) (by rfl)) (dw_or1 (dt_neO N_Lead xk (dv 4) (de_make C_Lead xk (da_cons (de_ix xk.K (dv 1) de_int (fun _ _ => rfl)) (da_cons (de_ix xk.K (dv 2) de_int (fun _ _ => rfl)) da_nil))) (by rfl)))))) (ds_one (ds_ret de_bl)) ds_nil) (ds_cons (ds_set (i := 8) sc_law_behind_right.nd rfl (Or.inl rfl) (de_callk K_idle xk (dk_cons (de_ix xk.K (dv 1) de_int (fun _ _ => rfl)) dk_nil))) (ds_cons (ds_if (dt_cmp (o_neS) (de_bi (c_repr xk) bn.repr (da_cons (de_tup (da_cons (de_fld xk.K fo.begin (dv 8)) (da_cons (de_fld xk.K fo.into (dv 8)) (da_cons (de_fld xk.K fo.row (dv 8)) da_nil)))) da_nil)) (de_bi (c_repr xk) bn.repr (da_cons (de_tup (da_cons (de_ix xk.K (dv 1) de_int (fun _ _ => rfl)) (da_cons (de_ix xk.K (dv 1) de_int (fun _ _ => rfl)) (da_cons (de_tupleRange xk.calm bn.tuple bn.range (de_ix xk.K (dv 1) de_int (fun _ _ => rfl))) da_nil)))) da_nil)) (by rfl)) (ds_one (ds_ret de_bl)) ds_nil) (ds_cons (ds_setComp (i := 9) (own := [("turn", 14)]) xk sc_law_behind_right.nd rfl rfl (sw_true rfl rfl rfl (by decide +kernel)) (di_range1 bn.range (da_cons de_int da_nil)) (blkOk_by (N := ["pen", "sizes", "rows", "one", "two", "three", "both", "due", "stay", "things", "begin", "into", "row", "thing", "turn"]) (sc := defScope s_law_behind_right) (by decide +kernel)) (fun s H C cl fp => (dg_name (i := 14) sc_law_behind_right.nd rfl (Or.inl rfl))) (fun s H C cl fp => dts_nil) (fun s H C cl fp => (de_call F__law_draw (Xk.blk xk _ _ _ _ _) (da_cons (dv 0) (da_cons (de_ix (Xk.blk xk _ _ _ _ _).K (dv 1) de_int (fun _ _ => rfl)) da_nil)))) (by simp)) (ds_cons (ds_if (dt_w (dw_or (dt_cmp (o_ne xk.K xk.u64) (de_meth M_of xk (dv 4) (da_cons (de_meth M_of xk (dv 3) (da_cons (dv 9) da_nil)) da_nil)) (de_meth M_of xk (dv 6) (da_cons (dv 9) da_nil)) (by rfl)) (dw_or1 (dt_cmp (o_ne xk.K xk.u64) (de_meth M_of xk (dv 8) (da_cons (dv 9) da_nil)) (de_ty (c_tuple xk.K) bn.tuple (da_cons (dv 9) da_nil)) (by rfl))))) (ds_one (ds_ret de_bl)) ds_nil) (ds_one (ds_ret (de_and (de_eqO N_Lead xk (de_meth M_then xk (dv 8) (da_cons (dv 3) da_nil)) (dv 3) (by rfl)) (de_one (de_eqO N_Lead xk (de_meth M_then xk (dv 3) (da_cons (de_call F_idle xk (da_cons (de_ix xk.K (dv 1) de_int (fun _ _ => rfl)) da_nil)) da_nil)) (dv 3) (by rfl))))))))))))))))) ?_) (by decide)
  rintro ds R ex hl ⟨s0, s1, s2, s3, rfl, a0, b0, a1, b1, a2, b2, a3, b3, hr⟩
  have at0 : atI [D.int s0, .int s1, .int s2, .int s3] 0 = some (.int s0) := rfl
  have at1 : atI [D.int s0, .int s1, .int s2, .int s3] 1 = some (.int s1) := rfl
  have at2 : atI [D.int s0, .int s1, .int s2, .int s3] 2 = some (.int s2) := rfl
  have cut1 : cutD [D.int s0, .int s1, .int s2, .int s3] (some 1) none = [.int s1, .int s2, .int s3] := cut_fromN (k := 1)
  refine seq_to (fun env' => ∃ r0 r1 r2, RowIn s0 s1 r0 ∧ RowIn s1 s2 r1 ∧ RowIn s2 s3 r2 ∧ env' = [.val .urn, .val (.lst [.int s0, .int s1, .int s2, .int s3]), .val (.lst [.lst (r0.map D.int), .lst (r1.map D.int), .lst (r2.map D.int)]), .emp, .emp, .emp, .emp, .emp, .emp, .emp, .emp, .emp, .emp, .emp, .emp]) (fun de' hnx hrt => ?_) (fun env' e => ?_)
  · refine zip_sl (i := 1) rfl ?_
    have cz : zipD [D.int s0, .int s1, .int s2, .int s3] (cutD [D.int s0, .int s1, .int s2, .int s3] (some 1) none) = [.tup [.int s0, .int s1], .tup [.int s1, .int s2], .tup [.int s2, .int s3]] := by rw [cut1]; rfl
    rw [cz]
    refine compL_any (fun d x => ∃ q, x = .lst (q.map D.int) ∧ ∀ b n : Nat, d = .tup [.int b, .int n] → RowIn b n q) (fun d hd K hK => ?_) (fun rs hl hrs => ?_)
    · have go : ∀ b n : Nat, 1 ≤ b → b ≤ 5 → 1 ≤ n → n ≤ 5 → d = .tup [.int b, .int n] → ∃ b n : Nat, 1 ≤ b ∧ b ≤ 5 ∧ 1 ≤ n ∧ n ≤ 5 ∧ d = .tup [.int b, .int n] := fun b n h1 h2 h3 h4 h5 => ⟨b, n, h1, h2, h3, h4, h5⟩
      have : ∃ b n : Nat, 1 ≤ b ∧ b ≤ 5 ∧ 1 ≤ n ∧ n ≤ 5 ∧ d = .tup [.int b, .int n] := by
        simp only [List.mem_cons, List.not_mem_nil, or_false] at hd
        rcases hd with e | e | e
        · exact go s0 s1 a0 b0 a1 b1 e
        · exact go s1 s2 a1 b1 a2 b2 e
        · exact go s2 s3 a2 b2 a3 b3 e
      obtain ⟨b, n, h1, h2, h3, h4, rfl⟩ := this
      refine tg_two ?_
      refine ⟨_, rfl, _, rfl, _, rfl, rfl, b, n, rfl, h2, h3, h4, fun q hq => hK _ ⟨q, rfl, fun b' n' e => ?_⟩⟩
      have e2 : (b : Int) = b' ∧ (n : Int) = n' := by simpa using e
      obtain rfl : b = b' := by omega
      obtain rfl : n = n' := by omega
      exact hq
    · match rs, hl with
      | [x0, x1, x2], _ =>
        obtain ⟨q0, rfl, g0⟩ := hrs 0 _ _ rfl rfl
        obtain ⟨q1, rfl, g1⟩ := hrs 1 _ _ rfl rfl
        obtain ⟨q2, rfl, g2⟩ := hrs 2 _ _ rfl rfl
        exact hnx _ ⟨q0, q1, q2, g0 _ _ rfl, g1 _ _ rfl, g2 _ _ rfl, rfl⟩
  obtain ⟨r0, r1, r2, h0, h1, h2, rfl⟩ := e
  refine seq_to (fun env' => env' = [.val .urn, .val (.lst [.int s0, .int s1, .int s2, .int s3]), .val (.lst [.lst (r0.map D.int), .lst (r1.map D.int), .lst (r2.map D.int)]), .val (leadD s1 r0), .val (leadD s2 r1), .val (leadD s3 r2), .emp, .emp, .emp, .emp, .emp, .emp, .emp, .emp, .emp]) (fun de' hnx hrt => ?_) (fun env' e => ?_)
  · refine zip_sl2 (i := 1) (j := 2) rfl rfl ?_
    have cz : zipD (cutD [D.int s0, .int s1, .int s2, .int s3] (some 1) none) [.lst (r0.map D.int), .lst (r1.map D.int), .lst (r2.map D.int)] = [.tup [.int s1, .lst (r0.map D.int)], .tup [.int s2, .lst (r1.map D.int)], .tup [.int s3, .lst (r2.map D.int)]] := by rw [cut1]; rfl
    rw [cz]
    refine compL_map mkL (fun d hd K hK => ?_) ?_
    · have : ∃ (b n : Nat) (q : List Int), 1 ≤ b ∧ b ≤ 5 ∧ 1 ≤ n ∧ n ≤ 5 ∧ RowIn b n q ∧ d = .tup [.int n, .lst (q.map D.int)] := by
        simp only [List.mem_cons, List.not_mem_nil, or_false] at hd
        rcases hd with e | e | e
        · exact ⟨s0, s1, r0, a0, b0, a1, b1, h0, e⟩
        · exact ⟨s1, s2, r1, a1, b1, a2, b2, h1, e⟩
        · exact ⟨s2, s3, r2, a2, b2, a3, b3, h2, e⟩
      obtain ⟨b, n, q, g1, g2, g3, g4, hq, rfl⟩ := this
      rw [mkL_lead] at hK
      refine tg_two ?_
      have := hq.1
      exact ⟨_, rfl, _, rfl, rfl, n, _, q, rfl, rfl, by omega, by omega, by omega, by omega, hq.2, hK⟩
    · have e : [] ++ [D.tup [.int s1, .lst (r0.map D.int)], .tup [.int s2, .lst (r1.map D.int)], .tup [.int s3, .lst (r2.map D.int)]].map mkL = [leadD s1 r0, leadD s2 r1, leadD s3 r2] := by
        rw [List.nil_append, List.map_cons, List.map_cons, List.map_cons, mkL_lead, mkL_lead, mkL_lead]
        rfl
      rw [e]
      exact ⟨_, _, _, rfl, hnx _ rfl⟩
  subst e
  have l0 := h0.1
  have l1 := h1.1
  have l2 := h2.1
  obtain ⟨t01, ht⟩ : ∃ t, t = r0.map (atR r1) := ⟨_, rfl⟩
  have h01 : RowIn s0 s2 t01 := by rw [ht]; exact h0.comp h1
  have l01 := h01.1
  refine seq_to (fun env' => env' = [.val .urn, .val (.lst [.int s0, .int s1, .int s2, .int s3]), .val (.lst [.lst (r0.map D.int), .lst (r1.map D.int), .lst (r2.map D.int)]), .val (leadD s1 r0), .val (leadD s2 r1), .val (leadD s3 r2), .val (leadD s2 t01), .emp, .emp, .emp, .emp, .emp, .emp, .emp, .emp]) (fun de' hnx hrt => ?_) (fun env' e => ?_)
  · refine ⟨_, rfl, _, rfl, _, rfl, rfl, s1, s2, r0, r1, rfl, by omega, h0.2, h1.2, by omega, by omega, by omega, by omega, ?_⟩
    rw [← ht]
    exact hnx _ rfl
  subst e
  refine seq_to (fun env' => env' = [.val .urn, .val (.lst [.int s0, .int s1, .int s2, .int s3]), .val (.lst [.lst (r0.map D.int), .lst (r1.map D.int), .lst (r2.map D.int)]), .val (leadD s1 r0), .val (leadD s2 r1), .val (leadD s3 r2), .val (leadD s2 t01), .val (.lst (t01.map D.int)), .emp, .emp, .emp, .emp, .emp, .emp, .emp]) (fun de' hnx hrt => ?_) (fun env' e => ?_)
  · refine ⟨_, rfl, _, rfl, ?_⟩
    refine compL_map (ofD r1) (fun d hd K hK => ?_) ?_
    · obtain ⟨i, hi, rfl⟩ := List.mem_map.mp hd
      have := h0.2 i hi
      exact ⟨_, rfl, _, rfl, _, rfl, _, atR_at this.1 (by omega), hK⟩
    · rw [List.nil_append, map_ofD, ← ht]
      exact hnx _ rfl
  subst e
  have v8 : ∀ {a b : Nat} {r : List Int}, RowIn a b r → b ≤ 5 → ∀ i ∈ r, 0 ≤ i ∧ i < 8 := fun h hb i hi => by have := h.2 i hi; omega
  refine seq_to (fun env' => env' = [.val .urn, .val (.lst [.int s0, .int s1, .int s2, .int s3]), .val (.lst [.lst (r0.map D.int), .lst (r1.map D.int), .lst (r2.map D.int)]), .val (leadD s1 r0), .val (leadD s2 r1), .val (leadD s3 r2), .val (leadD s2 t01), .val (.lst (t01.map D.int)), .emp, .emp, .emp, .emp, .emp, .emp, .emp]) (fun de' hnx hrt => ?_) (fun env' e => ?_)
  · refine sif_of (x := (!decide (shown3 t01.length s2 t01 = shown3 s0 s2 t01)) || (!((s2 : Int) == s2 && t01 == t01))) (tst_or (fun K hK => ?_) fun _ K hK => ?_) (fun hb => ?_) fun hb => hnx _ rfl
    · refine t_lead fo rfl (by omega) (by omega) (v8 h01 b2) ?_
      refine ⟨_, rfl, _, at0, _, rfl, _, at2, _, rfl, small (by simp), nilR ?_⟩
      refine repr3 (by omega) (by omega) (by omega) (v8 h01 b2) ?_
      exact ⟨_, _, rfl, rfl, _, rfl, hK⟩
    · exact ⟨_, rfl, _, rfl, _, at2, _, rfl, rfl, s2, _, t01, rfl, rfl, by omega, by omega, by omega, by omega, h01.2, _, rfl, .inl ⟨_, rfl⟩, s2, t01, _, rfl, .inl ⟨s2, t01, rfl, _, rfl, _, rfl, hK⟩⟩
    · rw [l01] at hb
      simp at hb
  subst e
  obtain ⟨t12, ht2⟩ : ∃ t, t = r1.map (atR r2) := ⟨_, rfl⟩
  have h12 : RowIn s1 s3 t12 := by rw [ht2]; exact h1.comp h2
  have l12 := h12.1
  have eqt : t01.map (atR r2) = r0.map (atR t12) := by rw [ht, ht2]; exact of_then h1 h0.2
  refine seq_to (fun env' => env' = [.val .urn, .val (.lst [.int s0, .int s1, .int s2, .int s3]), .val (.lst [.lst (r0.map D.int), .lst (r1.map D.int), .lst (r2.map D.int)]), .val (leadD s1 r0), .val (leadD s2 r1), .val (leadD s3 r2), .val (leadD s2 t01), .val (.lst (t01.map D.int)), .emp, .emp, .emp, .emp, .emp, .emp, .emp]) (fun de' hnx hrt => ?_) (fun env' e => ?_)
  · refine sif_of (x := (!((s3 : Int) == s3 && t01.map (atR r2) == r0.map (atR t12))) || ((!((s1 : Int) == s1 && r0 == r0)) || (!((s2 : Int) == s2 && r1 == r1)))) (tst_or (fun K hK => ?_) fun _ => tst_or (fun K hK => ?_) fun _ K hK => ?_) (fun hb => ?_) fun hb => hnx _ rfl
    · refine ⟨_, rfl, _, rfl, _, rfl, rfl, s2, s3, t01, r2, rfl, by omega, h01.2, h2.2, by omega, by omega, by omega, by omega, ?_⟩
      refine ⟨_, rfl, _, rfl, _, rfl, _, rfl, _, rfl, rfl, s2, s3, r1, r2, rfl, by omega, h1.2, h2.2, by omega, by omega, by omega, by omega, ?_⟩
      rw [← ht2]
      refine ⟨rfl, s1, s3, r0, t12, rfl, by omega, h0.2, h12.2, by omega, by omega, by omega, by omega, ?_⟩
      exact ⟨_, rfl, .inl ⟨_, rfl⟩, s3, _, _, rfl, .inl ⟨s3, _, rfl, _, rfl, _, rfl, hK⟩⟩
    · exact ⟨_, rfl, _, rfl, _, at1, _, rfl, _, rfl, rfl, s1, _, r0, rfl, rfl, by omega, by omega, by omega, by omega, h0.2, _, rfl, .inl ⟨_, rfl⟩, s1, r0, _, rfl, .inl ⟨s1, r0, rfl, _, rfl, _, rfl, hK⟩⟩
    · exact ⟨_, rfl, _, rfl, _, at2, _, rfl, _, rfl, rfl, s2, _, r1, rfl, rfl, by omega, by omega, by omega, by omega, h1.2, _, rfl, .inl ⟨_, rfl⟩, s2, r1, _, rfl, .inl ⟨s2, r1, rfl, _, rfl, _, rfl, hK⟩⟩
    · rw [eqt] at hb
      simp at hb
  subst e
  have hid := RowIn.idx s0
  have lid := hid.1
  refine seq_to (fun env' => env' = [.val .urn, .val (.lst [.int s0, .int s1, .int s2, .int s3]), .val (.lst [.lst (r0.map D.int), .lst (r1.map D.int), .lst (r2.map D.int)]), .val (leadD s1 r0), .val (leadD s2 r1), .val (leadD s3 r2), .val (leadD s2 t01), .val (.lst (t01.map D.int)), .val (leadD s0 (idx s0)), .emp, .emp, .emp, .emp, .emp, .emp]) (fun de' hnx hrt => ?_) (fun env' e => ?_)
  · exact ⟨_, rfl, _, at0, rfl, s0, rfl, a0, b0, hnx _ rfl⟩
  subst e
  refine seq_to (fun env' => env' = [.val .urn, .val (.lst [.int s0, .int s1, .int s2, .int s3]), .val (.lst [.lst (r0.map D.int), .lst (r1.map D.int), .lst (r2.map D.int)]), .val (leadD s1 r0), .val (leadD s2 r1), .val (leadD s3 r2), .val (leadD s2 t01), .val (.lst (t01.map D.int)), .val (leadD s0 (idx s0)), .emp, .emp, .emp, .emp, .emp, .emp]) (fun de' hnx hrt => ?_) (fun env' e => ?_)
  · refine sif_of (x := (!decide (shown3 (idx s0).length s0 (idx s0) = shown3 s0 s0 (idx s0)))) (fun K hK => ?_) (fun hb => ?_) fun hb => hnx _ rfl
    · refine t_lead fo rfl (by omega) (by omega) (v8 hid b0) ?_
      refine ⟨_, rfl, _, at0, _, rfl, _, at0, _, rfl, _, at0, s0, rfl, by omega, by omega, small (by simp), nilR ?_⟩
      rw [Int.toNat_natCast, range_idx]
      refine repr3 (by omega) (by omega) (by omega) (v8 hid b0) ?_
      exact ⟨_, _, rfl, rfl, _, rfl, hK⟩
    · rw [lid] at hb
      simp at hb
  subst e
  refine seq_to (fun env' => ∃ ts : List Int, (∀ i ∈ ts, 0 ≤ i ∧ i < (s0 : Int)) ∧ env' = [.val .urn, .val (.lst [.int s0, .int s1, .int s2, .int s3]), .val (.lst [.lst (r0.map D.int), .lst (r1.map D.int), .lst (r2.map D.int)]), .val (leadD s1 r0), .val (leadD s2 r1), .val (leadD s3 r2), .val (leadD s2 t01), .val (.lst (t01.map D.int)), .val (leadD s0 (idx s0)), .val (.lst (ts.map D.int)), .emp, .emp, .emp, .emp, .emp]) (fun de' hnx hrt => ?_) (fun env' e => ?_)
  · refine ⟨4, rfl, by omega, by omega, ?_⟩
    refine compL_any (fun _ d => ∃ i : Int, d = .int i ∧ 0 ≤ i ∧ i < (s0 : Int)) (fun d hd K hK => ?_) (fun rs hl hrs => ?_)
    · exact ⟨_, rfl, _, rfl, _, at0, rfl, s0, rfl, by omega, by omega, fun i h0 h1 => hK _ ⟨i, rfl, h0, h1⟩⟩
    · obtain ⟨ts, rfl, hl2, hts⟩ := ints_of (P := fun i => 0 ≤ i ∧ i < (s0 : Int)) (fun d hd => by obtain ⟨_, _, i, h⟩ := all_of hl hrs d hd; exact ⟨i, h⟩)
      exact hnx _ ⟨ts, hts, rfl⟩
  obtain ⟨ts, tv, rfl⟩ := e
  have tv0 : ∀ i ∈ ts, 0 ≤ i ∧ i < (r0.length : Int) := by rw [l0]; exact tv
  have tv01 : ∀ i ∈ ts, 0 ≤ i ∧ i < (t01.length : Int) := by rw [l01]; exact tv
  have tvid : ∀ i ∈ ts, 0 ≤ i ∧ i < ((idx s0).length : Int) := by rw [lid]; exact tv
  have tv1 : ∀ i ∈ ts.map (atR r0), 0 ≤ i ∧ i < (r1.length : Int) := fun i hi => by
    obtain ⟨j, hj, rfl⟩ := List.mem_map.mp hi
    have := tv0 j hj
    rw [l1]
    exact atR_mem this.1 this.2 h0.2
  refine seq_to (fun env' => env' = [.val .urn, .val (.lst [.int s0, .int s1, .int s2, .int s3]), .val (.lst [.lst (r0.map D.int), .lst (r1.map D.int), .lst (r2.map D.int)]), .val (leadD s1 r0), .val (leadD s2 r1), .val (leadD s3 r2), .val (leadD s2 t01), .val (.lst (t01.map D.int)), .val (leadD s0 (idx s0)), .val (.lst (ts.map D.int)), .emp, .emp, .emp, .emp, .emp]) (fun de' hnx hrt => ?_) (fun env' e => ?_)
  · refine sif_of (x := (!((ts.map (atR r0)).map (atR r1) == ts.map (atR t01))) || (!(ts.map (atR (idx s0)) == ts))) (tst_or (fun K hK => ?_) fun _ K hK => ?_) (fun hb => ?_) fun hb => hnx _ rfl
    · refine ⟨_, rfl, _, rfl, _, rfl, _, rfl, _, rfl, rfl, s1, r0, _, ts, rfl, rfl, tv0, ?_⟩
      refine ⟨rfl, s2, r1, _, ts.map (atR r0), rfl, rfl, tv1, ?_⟩
      refine ⟨_, rfl, _, rfl, _, rfl, rfl, s2, t01, _, ts, rfl, rfl, tv01, ?_⟩
      exact ne_row ⟨_, rfl, hK⟩
    · refine ⟨_, rfl, _, rfl, _, rfl, rfl, s0, idx s0, _, ts, rfl, rfl, tvid, ?_⟩
      refine ⟨_, rfl, nilT ?_⟩
      exact ne_row ⟨_, rfl, hK⟩
    · rw [of_then h0 tv, ← ht, idx_of tv] at hb
      simp at hb
  subst e
  have ei : (idx s0).map (atR r0) = r0 := by rw [← l0]; exact idx_at r0
  have ej : r0.map (atR (idx s1)) = r0 := idx_of h0.2
  refine d_and (x := true) (y := true) (fun K hK => ?_) (fun _ K hK => ?_) hr
  · refine ⟨_, rfl, _, rfl, _, rfl, rfl, s0, s1, idx s0, r0, rfl, by omega, hid.2, h0.2, by omega, by omega, by omega, by omega, ?_⟩
    rw [ei]
    exact ⟨_, rfl, _, rfl, .inl ⟨_, rfl⟩, s1, r0, _, rfl, .inl ⟨s1, r0, rfl, _, rfl, by rw [beq_self_eq_true, beq_self_eq_true]; exact hK⟩⟩
  · have hi1 := RowIn.idx s1
    have li1 := hi1.1
    refine ⟨_, rfl, _, rfl, _, rfl, _, at1, rfl, s1, rfl, a1, b1, ?_⟩
    refine ⟨rfl, s1, s1, r0, idx s1, rfl, by omega, h0.2, hi1.2, by omega, by omega, by omega, by omega, ?_⟩
    rw [ej]
    exact ⟨_, rfl, _, rfl, .inl ⟨_, rfl⟩, s1, r0, _, rfl, .inl ⟨s1, r0, rfl, _, rfl, by rw [beq_self_eq_true, beq_self_eq_true]; exact hK⟩⟩

end
end Pg

set_option Elab.async false
set_option linter.all false
set_option maxRecDepth 100000
set_option maxHeartbeats 4100000
namespace Pg
open PySem L2 RZ Kn
open PyProof.Rows (envOfC)
section
variable {G : Gd} {P : Program} {w : World} {mg : Str → Option Value} {fa a : Addr} {fd : FuncData} {s₁ : Shared} {ns : List Int}
/-- the facts of the law's callees, over the urn -/
structure Calls (G : Gd) (P : Program) (w : World) (mg : Str → Option Value) (base : Heap) : Prop where
  draw : Fk G P w mg base 1 "_law_draw" ["pen", "many"] 1 sDraw
  row : Fk G P w mg base 2 "_law_row" ["pen", "begin", "into"] 16777216 sRowD
  kept : Fk G P w mg base 9 "_law_kept_right" ["pen", "row", "into"] 2 sKept
  led : Fk G P w mg base 9 "_law_led_right" ["pen", "row", "into"] 16777300 sLed
  behind : Fk G P w mg base 10 "_law_behind_right" ["pen", "sizes"] 281475043819520 sBehind4
/-- a number from 1 to 5 is drawn -/
theorem draw15 {ex : Exc → Prop} {env : List Sl} {Q : D → Prop} (he : env[1]? = some (.val .urn)) (h : ∀ b : Nat, 1 ≤ b → b ≤ 5 → Q (.int b)) : (dOp gAdd (dC (.int 1)) (dCall 2 sDraw (aCons (dVar 1) (aCons (dC (.int 5)) aNil)))) ex env Q := by
  refine ⟨_, he, rfl, 5, rfl, by omega, by omega, fun r h0 h1 => ?_⟩
  obtain ⟨k, rfl⟩ := Int.eq_ofNat_of_zero_le h0
  exact h (1 + k) (by omega) (by omega)
abbrev s_law : Stmt := topS 33
theorem sc_law : FnScope ["script", "pen", "turn", "sizes", "row", "world"] ["script"] (defScope s_law) := ⟨rfl, rfl, rfl, by decide +kernel, rfl, by decide +kernel, by decide +kernel⟩
theorem ok_law (hGu : G.u = none) (F : Fun G.K "law" "law" s_law fa fd) (hb : ∀ (s : Shared) (v : Value), BindsTo s fd ⟨[v], []⟩ [("script", v)]) (bn : Bn mg) (hlen : ns.length ≤ 63) (hr : Room 11 callerA)
    (hC : ∀ (q : Addr × Addr) (base : Heap), Calls { G with u := some q } P w mg base)
    (h0 : ∀ (base : Heap) (cdv : Value) (H : Hp), Room 10 (callerA.deeper (envOfC "law" (defScope s_law) s₁.heap.objs.size fa cdv)) → PS (cxOf (L2.CX P w) P w G.K mg base ["script", "pen", "turn", "sizes", "row", "world"] "law" (defScope s_law) fa cdv callerA [] s₁ H EF) ((defBody s_law).getD 0 (.Pass ⟨0, 0, 0, 0⟩)) (tAsg (tCall (spPen G.K) [] EF (tCons (tVar 0) tNil)) (gName 1))) :
    LawOk P w G.K mg fa a ns s₁ := by
  refine law_of hGu F sc_law hb hr (by decide) rfl ?_ hlen h0 (fun p b base cdv H rm => have xk := xk_def (G := { G with u := some (p, b) }) (E := EF) rm rfl; have Cc := hC (p, b) base; (ds_cons (ds_for xk po_def (di_range1 bn.range (da_cons de_int da_nil)) (dg_name (i := 2) sc_law.nd rfl (Or.inl rfl)) (ds_cons (ds_setComp (i := 3) (own := [("world", 5)]) xk sc_law.nd rfl rfl (sw_true rfl rfl rfl (by decide +kernel)) (di_range1 bn.range (da_cons de_int da_nil)) (blkOk_by (N := ["script", "pen", "turn", "sizes", "row", "world"]) (sc := defScope s_law) (by decide +kernel)) (fun s H C cl fp => (dg_name (i := 5) sc_law.nd rfl (Or.inl rfl))) (fun s H C cl fp => dts_nil) (fun s H C cl fp => (de_op (o_add (Xk.blk xk _ _ _ _ _).K) de_int (de_call Cc.draw (Xk.blk xk _ _ _ _ _) (da_cons (dv 1) (da_cons de_int da_nil))))) (by simp)) (ds_cons (ds_set (i := 4) sc_law.nd rfl (Or.inl rfl) (de_call Cc.row xk (da_cons (dv 1) (da_cons (de_ix xk.K (dv 3) de_int (fun _ _ => rfl)) (da_cons (de_ix xk.K (dv 3) de_int (fun _ _ => rfl)) da_nil))))) (ds_one (ds_if (dt_w (dw_or (dt_not (dt_val (de_call Cc.kept xk (da_cons (dv 1) (da_cons (dv 4) (da_cons (de_ix xk.K (dv 3) de_int (fun _ _ => rfl)) da_nil)))))) (dw_or (dt_not (dt_val (de_call Cc.led xk (da_cons (dv 1) (da_cons (dv 4) (da_cons (de_ix xk.K (dv 3) de_int (fun _ _ => rfl)) da_nil)))))) (dw_or1 (dt_not (dt_val (de_call Cc.behind xk (da_cons (dv 1) (da_cons (dv 3) da_nil))))))))) (ds_one (ds_ret de_bl)) ds_nil))))) (ds_one (ds_ret de_bl)))) ?_
  · decide
  refine seq_to (fun env' => True) (fun de' hnx hrt => ?_) (fun env' e => ?_)
  · refine ⟨4, rfl, by omega, by omega, ?_⟩
    refine sForL_inv (fun i env => ∃ s2 s3 s4, env = [.emp, .val .urn, s2, s3, s4, .emp]) 0 ⟨_, _, _, rfl⟩ (fun i x env hi hI nx hn2 => ?_) (fun env hI => hnx _ trivial)
    obtain ⟨s2, s3, s4, rfl⟩ := hI
    refine seq_to (fun env' => ∃ z0 z1 z2 z3 : Nat, 1 ≤ z0 ∧ z0 ≤ 5 ∧ 1 ≤ z1 ∧ z1 ≤ 5 ∧ 1 ≤ z2 ∧ z2 ≤ 5 ∧ 1 ≤ z3 ∧ z3 ≤ 5 ∧ env' = [.emp, .val .urn, .val x, .val (.lst [.int z0, .int z1, .int z2, .int z3]), s4, .emp]) (fun de' hnx hrt => ?_) (fun env' e => ?_)
    · refine ⟨4, rfl, by omega, by omega, ?_⟩
      refine compL_any (fun _ r => ∃ k : Nat, r = .int k ∧ 1 ≤ k ∧ k ≤ 5) (fun d hd K hK => ?_) (fun rs hl hrs => ?_)
      · exact draw15 rfl fun b hb1 hb5 => hK _ ⟨b, rfl, hb1, hb5⟩
      · have key := all_of hl hrs
        have hl3 : rs.length = 4 := by rw [hl]; rfl
        match rs, hl3 with
        | [d0, d1, d2, d3], _ =>
          obtain ⟨_, _, k0, e0, p0, q0⟩ := key d0 (by simp)
          obtain ⟨_, _, k1, e1, p1, q1⟩ := key d1 (by simp)
          obtain ⟨_, _, k2, e2, p2, q2⟩ := key d2 (by simp)
          obtain ⟨_, _, k3, e3, p3, q3⟩ := key d3 (by simp)
          subst e0; subst e1; subst e2; subst e3
          exact hnx _ ⟨k0, k1, k2, k3, p0, q0, p1, q1, p2, q2, p3, q3, rfl⟩
    obtain ⟨z0, z1, z2, z3, p0, q0, p1, q1, p2, q2, p3, q3, rfl⟩ := e
    have at0 : atI [D.int z0, .int z1, .int z2, .int z3] 0 = some (.int z0) := rfl
    have at1 : atI [D.int z0, .int z1, .int z2, .int z3] 1 = some (.int z1) := rfl
    refine seq_to (fun env' => ∃ r, RowIn z0 z1 r ∧ env' = [.emp, .val .urn, .val x, .val (.lst [.int z0, .int z1, .int z2, .int z3]), .val (.lst (r.map D.int)), .emp]) (fun de' hnx hrt => ?_) (fun env' e => ?_)
    · exact ⟨_, rfl, _, rfl, _, at0, _, rfl, _, at1, rfl, z0, z1, rfl, q0, p1, q1, fun r hr => hnx _ ⟨r, hr, rfl⟩⟩
    obtain ⟨r, hr, rfl⟩ := e
    have hrl := hr.1
    have hL : LeadIn r z1 := ⟨by omega, by omega, by omega, by omega, hr.2⟩
    refine sif_of (x := (!true || (!true || !true))) (tst_or (fun K hK => ?_) fun _ => tst_or (fun K hK => ?_) fun _ K hK => ?_) (fun hb => Bool.noConfusion hb) (fun _ => hn2 _ ⟨_, _, _, rfl⟩)
    · exact ⟨_, rfl, _, rfl, _, rfl, _, at1, rfl, r, z1, rfl, hL, true, rfl, hK⟩
    · exact ⟨_, rfl, _, rfl, _, rfl, _, at1, rfl, r, z1, rfl, hL, true, rfl, hK⟩
    · exact ⟨_, rfl, _, rfl, rfl, z0, z1, z2, z3, rfl, p0, q0, p1, q1, p2, q2, p3, q3, true, rfl, hK⟩
  · exact rfl
end
end Pg

set_option Elab.async false
set_option linter.all false
set_option maxRecDepth 100000
set_option maxHeartbeats 4100000
namespace Pg
open PySem L2 RZ Kn
/-- the two classes that the law reaches: their addresses, their fields -/
def clK (a b : Addr) : Nat → Addr
  | 1 => a
  | _ => b
def flK : Nat → List Str
  | 1 => ["begin", "into", "row"]
  | _ => ["words", "taken"]
section
variable {K : PySem.W.Frag} {a b : Addr} {u : Option (Addr × Addr)} {f : Str}
theorem fld_one (ca : Cls K a) (na : PySem.W.findIn K (.ref a) f = some none) (h : f ∉ (["words", "taken"] : List Str)) : FldOk ⟨K, clK a b, flK, u⟩ f := ⟨fun c hc => by
  match c, hc with
  | 1, _ => exact ⟨ca, na⟩
  | 0, hc => exact absurd hc h
  | n + 2, hc => exact absurd hc h⟩
theorem fld_two (cb : Cls K b) (nb : PySem.W.findIn K (.ref b) f = some none) (h : f ∉ (["begin", "into", "row"] : List Str)) : FldOk ⟨K, clK a b, flK, u⟩ f := ⟨fun c hc => by
  match c, hc with
  | 1, hc => exact absurd hc h
  | 0, _ => exact ⟨cb, nb⟩
  | n + 2, _ => exact ⟨cb, nb⟩⟩
theorem flK_nd : ∀ c, (flK c).Nodup := fun c => by
  match c with
  | 1 => show (["begin", "into", "row"] : List Str).Nodup; decide +kernel
  | 0 => show (["words", "taken"] : List Str).Nodup; decide +kernel
  | n + 2 => show (["words", "taken"] : List Str).Nodup; decide +kernel
theorem flK_sm : ∀ c, (flK c).length ≤ 100 := fun c => by
  match c with
  | 1 => show 3 ≤ 100; decide
  | 0 => show 2 ≤ 100; decide
  | n + 2 => show 2 ≤ 100; decide
end
end Pg

set_option Elab.async false
set_option linter.all false
set_option maxRecDepth 100000
set_option maxHeartbeats 4100000
namespace Pg
open PySem PySem.Spec PyProof.Rows L2 Kn
open RZ
theorem close {l : PySem.W.OpenLaw} {w : World} {K : PySem.W.Frag} {h : Heap} {mg : Str → Option Value} {fa a : Addr} {s : Shared} {ns : List Int} (X : K.In h) (Gh : h.Ns mainGlobals mg) (hfa : mg "law" = some (.ref fa)) (hlen : ns.length ≤ 63)
    {C_Lead : Addr}
    {C_Items : Addr}
    {f_law : Addr} {oc_law kV_law dc_law pm_law cd_law ct_law : Value} {od_law an_law : Option Addr} {sl_law : Array (Option Value)}
    {f_is_integer : Addr} {oc_is_integer kV_is_integer dc_is_integer pm_is_integer cd_is_integer ct_is_integer : Value} {od_is_integer an_is_integer : Option Addr} {sl_is_integer : Array (Option Value)}
    {f_are_numbers : Addr} {oc_are_numbers kV_are_numbers dc_are_numbers pm_are_numbers cd_are_numbers ct_are_numbers : Value} {od_are_numbers an_are_numbers : Option Addr} {sl_are_numbers : Array (Option Value)}
    {f_is_within : Addr} {oc_is_within kV_is_within dc_is_within pm_is_within cd_is_within ct_is_within : Value} {od_is_within an_is_within : Option Addr} {sl_is_within : Array (Option Value)}
    {f_demand_number : Addr} {oc_demand_number kV_demand_number dc_demand_number pm_demand_number cd_demand_number ct_demand_number : Value} {od_demand_number an_demand_number : Option Addr} {sl_demand_number : Array (Option Value)}
    {f_demand_world : Addr} {oc_demand_world kV_demand_world dc_demand_world pm_demand_world cd_demand_world ct_demand_world : Value} {od_demand_world an_demand_world : Option Addr} {sl_demand_world : Array (Option Value)}
    {f_demand_numbers : Addr} {oc_demand_numbers kV_demand_numbers dc_demand_numbers pm_demand_numbers cd_demand_numbers ct_demand_numbers : Value} {od_demand_numbers an_demand_numbers : Option Addr} {sl_demand_numbers : Array (Option Value)}
    {f_demand_things : Addr} {oc_demand_things kV_demand_things dc_demand_things pm_demand_things cd_demand_things ct_demand_things : Value} {od_demand_things an_demand_things : Option Addr} {sl_demand_things : Array (Option Value)}
    {f_Lead___init__ : Addr} {oc_Lead___init__ kV_Lead___init__ dc_Lead___init__ pm_Lead___init__ cd_Lead___init__ ct_Lead___init__ : Value} {od_Lead___init__ an_Lead___init__ : Option Addr} {sl_Lead___init__ : Array (Option Value)}
    {f_idle : Addr} {oc_idle kV_idle dc_idle pm_idle cd_idle ct_idle : Value} {od_idle an_idle : Option Addr} {sl_idle : Array (Option Value)}
    {f_Lead_of : Addr} {oc_Lead_of kV_Lead_of dc_Lead_of pm_Lead_of cd_Lead_of ct_Lead_of : Value} {od_Lead_of an_Lead_of : Option Addr} {sl_Lead_of : Array (Option Value)}
    {f_Lead_then : Addr} {oc_Lead_then kV_Lead_then dc_Lead_then pm_Lead_then cd_Lead_then ct_Lead_then : Value} {od_Lead_then an_Lead_then : Option Addr} {sl_Lead_then : Array (Option Value)}
    {f_spaced : Addr} {oc_spaced kV_spaced dc_spaced pm_spaced cd_spaced ct_spaced : Value} {od_spaced an_spaced : Option Addr} {sl_spaced : Array (Option Value)}
    {f_Lead___str__ : Addr} {oc_Lead___str__ kV_Lead___str__ dc_Lead___str__ pm_Lead___str__ cd_Lead___str__ ct_Lead___str__ : Value} {od_Lead___str__ an_Lead___str__ : Option Addr} {sl_Lead___str__ : Array (Option Value)}
    {f_Items___init__ : Addr} {oc_Items___init__ kV_Items___init__ dc_Items___init__ pm_Items___init__ cd_Items___init__ ct_Items___init__ : Value} {od_Items___init__ an_Items___init__ : Option Addr} {sl_Items___init__ : Array (Option Value)}
    {f_Items_stands : Addr} {oc_Items_stands kV_Items_stands dc_Items_stands pm_Items_stands cd_Items_stands ct_Items_stands : Value} {od_Items_stands an_Items_stands : Option Addr} {sl_Items_stands : Array (Option Value)}
    {f_Items_take : Addr} {oc_Items_take kV_Items_take dc_Items_take pm_Items_take cd_Items_take ct_Items_take : Value} {od_Items_take an_Items_take : Option Addr} {sl_Items_take : Array (Option Value)}
    {f_Items_take_number : Addr} {oc_Items_take_number kV_Items_take_number dc_Items_take_number pm_Items_take_number cd_Items_take_number ct_Items_take_number : Value} {od_Items_take_number an_Items_take_number : Option Addr} {sl_Items_take_number : Array (Option Value)}
    {f_Items_take_end : Addr} {oc_Items_take_end kV_Items_take_end dc_Items_take_end pm_Items_take_end cd_Items_take_end ct_Items_take_end : Value} {od_Items_take_end an_Items_take_end : Option Addr} {sl_Items_take_end : Array (Option Value)}
    {f_Lead_read : Addr} {oc_Lead_read kV_Lead_read dc_Lead_read pm_Lead_read cd_Lead_read ct_Lead_read : Value} {od_Lead_read an_Lead_read : Option Addr} {sl_Lead_read : Array (Option Value)}
    {p_Lead_read : Addr} {rs_Lead_read : List Value}
    {f_law_pen : Addr} {oc_law_pen kV_law_pen dc_law_pen pm_law_pen cd_law_pen ct_law_pen : Value} {od_law_pen an_law_pen : Option Addr} {sl_law_pen : Array (Option Value)}
    {f_law_draw : Addr} {oc_law_draw kV_law_draw dc_law_draw pm_law_draw cd_law_draw ct_law_draw : Value} {od_law_draw an_law_draw : Option Addr} {sl_law_draw : Array (Option Value)}
    {f_law_row : Addr} {oc_law_row kV_law_row dc_law_row pm_law_row cd_law_row ct_law_row : Value} {od_law_row an_law_row : Option Addr} {sl_law_row : Array (Option Value)}
    {f_law_text : Addr} {oc_law_text kV_law_text dc_law_text pm_law_text cd_law_text ct_law_text : Value} {od_law_text an_law_text : Option Addr} {sl_law_text : Array (Option Value)}
    {f_Lead___eq__ : Addr} {oc_Lead___eq__ kV_Lead___eq__ dc_Lead___eq__ pm_Lead___eq__ cd_Lead___eq__ ct_Lead___eq__ : Value} {od_Lead___eq__ an_Lead___eq__ : Option Addr} {sl_Lead___eq__ : Array (Option Value)}
    {f_law_kept_right : Addr} {oc_law_kept_right kV_law_kept_right dc_law_kept_right pm_law_kept_right cd_law_kept_right ct_law_kept_right : Value} {od_law_kept_right an_law_kept_right : Option Addr} {sl_law_kept_right : Array (Option Value)}
    {f_law_led_right : Addr} {oc_law_led_right kV_law_led_right dc_law_led_right pm_law_led_right cd_law_led_right ct_law_led_right : Value} {od_law_led_right an_law_led_right : Option Addr} {sl_law_led_right : Array (Option Value)}
    {f_law_behind_right : Addr} {oc_law_behind_right kV_law_behind_right dc_law_behind_right pm_law_behind_right cd_law_behind_right ct_law_behind_right : Value} {od_law_behind_right an_law_behind_right : Option Addr} {sl_law_behind_right : Array (Option Value)}
    {t_MOST_THINGS : Tok}
    (aC_Lead : PySem.W.nsIn K mainGlobals "Lead" = some (some (.ref C_Lead)))
    (pg_Lead : PySem.W.plainGet K C_Lead Str.empty = true)
    (hd_Lead : PySem.W.hasDictIn K C_Lead = true)
    (po_Lead : PySem.W.plainOver K C_Lead = true)
    (sa_Lead : PySem.W.findIn K (.ref C_Lead) "__setattr__" = some (some (.builtin "object.__setattr__")))
    (rd_Lead : PySem.W.readsIn K C_Lead (.type "type") = true)
    (ga_Lead : PySem.W.specialIn K (.ref C_Lead) "__getattribute__" = some (some (.builtin "type.__getattribute__")))
    (mo_Lead : PySem.W.mroIn K C_Lead (.type "object") = some true)
    (ne_Lead : PySem.W.findIn K (.ref C_Lead) "__ne__" = some (some (.builtin "object.__ne__")))
    (mk_Lead : PySem.W.makesIn K C_Lead = true)
    (kc_Lead : PySem.W.keepIn K (.ref C_Lead) = true)
    (n_Lead_begin : PySem.W.findIn K (.ref C_Lead) "begin" = some none)
    (n_Lead_into : PySem.W.findIn K (.ref C_Lead) "into" = some none)
    (n_Lead_row : PySem.W.findIn K (.ref C_Lead) "row" = some none)
    (aC_Items : PySem.W.nsIn K mainGlobals "Items" = some (some (.ref C_Items)))
    (pg_Items : PySem.W.plainGet K C_Items Str.empty = true)
    (hd_Items : PySem.W.hasDictIn K C_Items = true)
    (po_Items : PySem.W.plainOver K C_Items = true)
    (sa_Items : PySem.W.findIn K (.ref C_Items) "__setattr__" = some (some (.builtin "object.__setattr__")))
    (mk_Items : PySem.W.makesIn K C_Items = true)
    (kc_Items : PySem.W.keepIn K (.ref C_Items) = true)
    (n_Items_words : PySem.W.findIn K (.ref C_Items) "words" = some none)
    (n_Items_taken : PySem.W.findIn K (.ref C_Items) "taken" = some none)
    (a_law : PySem.W.nsIn K mainGlobals "law" = some (some (.ref f_law)))
    (l_law : K.lookup f_law = some ⟨oc_law, od_law, .func (PySem.W.fnOf "law" "law" (defArgs (topS 33)) (defBody (topS 33)) (defScope (topS 33)) .none kV_law dc_law pm_law an_law cd_law ct_law), sl_law⟩)
    (c_law : PySem.W.codeIn K cd_law "law" = true)
    (k_law : PySem.W.keepIn K (.ref f_law) = true)
    (a_is_integer : PySem.W.nsIn K mainGlobals "is_integer" = some (some (.ref f_is_integer)))
    (l_is_integer : K.lookup f_is_integer = some ⟨oc_is_integer, od_is_integer, .func (PySem.W.fnOf "is_integer" "is_integer" (defArgs (topS 1)) (defBody (topS 1)) (defScope (topS 1)) .none kV_is_integer dc_is_integer pm_is_integer an_is_integer cd_is_integer ct_is_integer), sl_is_integer⟩)
    (c_is_integer : PySem.W.codeIn K cd_is_integer "is_integer" = true)
    (k_is_integer : PySem.W.keepIn K (.ref f_is_integer) = true)
    (a_are_numbers : PySem.W.nsIn K mainGlobals "are_numbers" = some (some (.ref f_are_numbers)))
    (l_are_numbers : K.lookup f_are_numbers = some ⟨oc_are_numbers, od_are_numbers, .func (PySem.W.fnOf "are_numbers" "are_numbers" (defArgs (topS 3)) (defBody (topS 3)) (defScope (topS 3)) .none kV_are_numbers dc_are_numbers pm_are_numbers an_are_numbers cd_are_numbers ct_are_numbers), sl_are_numbers⟩)
    (c_are_numbers : PySem.W.codeIn K cd_are_numbers "are_numbers" = true)
    (k_are_numbers : PySem.W.keepIn K (.ref f_are_numbers) = true)
    (a_is_within : PySem.W.nsIn K mainGlobals "is_within" = some (some (.ref f_is_within)))
    (l_is_within : K.lookup f_is_within = some ⟨oc_is_within, od_is_within, .func (PySem.W.fnOf "is_within" "is_within" (defArgs (topS 2)) (defBody (topS 2)) (defScope (topS 2)) .none kV_is_within dc_is_within pm_is_within an_is_within cd_is_within ct_is_within), sl_is_within⟩)
    (c_is_within : PySem.W.codeIn K cd_is_within "is_within" = true)
    (k_is_within : PySem.W.keepIn K (.ref f_is_within) = true)
    (a_demand_number : PySem.W.nsIn K mainGlobals "demand_number" = some (some (.ref f_demand_number)))
    (l_demand_number : K.lookup f_demand_number = some ⟨oc_demand_number, od_demand_number, .func (PySem.W.fnOf "demand_number" "demand_number" (defArgs (topS 14)) (defBody (topS 14)) (defScope (topS 14)) .none kV_demand_number dc_demand_number pm_demand_number an_demand_number cd_demand_number ct_demand_number), sl_demand_number⟩)
    (c_demand_number : PySem.W.codeIn K cd_demand_number "demand_number" = true)
    (k_demand_number : PySem.W.keepIn K (.ref f_demand_number) = true)
    (a_demand_world : PySem.W.nsIn K mainGlobals "demand_world" = some (some (.ref f_demand_world)))
    (l_demand_world : K.lookup f_demand_world = some ⟨oc_demand_world, od_demand_world, .func (PySem.W.fnOf "demand_world" "demand_world" (defArgs (topS 15)) (defBody (topS 15)) (defScope (topS 15)) .none kV_demand_world dc_demand_world pm_demand_world an_demand_world cd_demand_world ct_demand_world), sl_demand_world⟩)
    (c_demand_world : PySem.W.codeIn K cd_demand_world "demand_world" = true)
    (k_demand_world : PySem.W.keepIn K (.ref f_demand_world) = true)
    (a_demand_numbers : PySem.W.nsIn K mainGlobals "demand_numbers" = some (some (.ref f_demand_numbers)))
    (l_demand_numbers : K.lookup f_demand_numbers = some ⟨oc_demand_numbers, od_demand_numbers, .func (PySem.W.fnOf "demand_numbers" "demand_numbers" (defArgs (topS 16)) (defBody (topS 16)) (defScope (topS 16)) .none kV_demand_numbers dc_demand_numbers pm_demand_numbers an_demand_numbers cd_demand_numbers ct_demand_numbers), sl_demand_numbers⟩)
    (c_demand_numbers : PySem.W.codeIn K cd_demand_numbers "demand_numbers" = true)
    (k_demand_numbers : PySem.W.keepIn K (.ref f_demand_numbers) = true)
    (a_demand_things : PySem.W.nsIn K mainGlobals "demand_things" = some (some (.ref f_demand_things)))
    (l_demand_things : K.lookup f_demand_things = some ⟨oc_demand_things, od_demand_things, .func (PySem.W.fnOf "demand_things" "demand_things" (defArgs (topS 17)) (defBody (topS 17)) (defScope (topS 17)) .none kV_demand_things dc_demand_things pm_demand_things an_demand_things cd_demand_things ct_demand_things), sl_demand_things⟩)
    (c_demand_things : PySem.W.codeIn K cd_demand_things "demand_things" = true)
    (k_demand_things : PySem.W.keepIn K (.ref f_demand_things) = true)
    (a_Lead___init__ : PySem.W.findIn K (.ref C_Lead) "__init__" = some (some (.ref f_Lead___init__)))
    (i_Lead___init__ : PySem.W.isFn K (.ref f_Lead___init__) = true)
    (l_Lead___init__ : K.lookup f_Lead___init__ = some ⟨oc_Lead___init__, od_Lead___init__, .func (PySem.W.fnOf "__init__" "Lead.__init__" (defArgs (inClass (topS 22) 0)) (defBody (inClass (topS 22) 0)) (defScope (inClass (topS 22) 0)) .none kV_Lead___init__ dc_Lead___init__ pm_Lead___init__ an_Lead___init__ cd_Lead___init__ ct_Lead___init__), sl_Lead___init__⟩)
    (c_Lead___init__ : PySem.W.codeIn K cd_Lead___init__ "Lead.__init__" = true)
    (k_Lead___init__ : PySem.W.keepIn K (.ref f_Lead___init__) = true)
    (a_idle : PySem.W.nsIn K mainGlobals "idle" = some (some (.ref f_idle)))
    (l_idle : K.lookup f_idle = some ⟨oc_idle, od_idle, .func (PySem.W.fnOf "idle" "idle" (defArgs (topS 23)) (defBody (topS 23)) (defScope (topS 23)) .none kV_idle dc_idle pm_idle an_idle cd_idle ct_idle), sl_idle⟩)
    (c_idle : PySem.W.codeIn K cd_idle "idle" = true)
    (k_idle : PySem.W.keepIn K (.ref f_idle) = true)
    (a_Lead_of : PySem.W.findIn K (.ref C_Lead) "of" = some (some (.ref f_Lead_of)))
    (i_Lead_of : PySem.W.isFn K (.ref f_Lead_of) = true)
    (l_Lead_of : K.lookup f_Lead_of = some ⟨oc_Lead_of, od_Lead_of, .func (PySem.W.fnOf "of" "Lead.of" (defArgs (inClass (topS 22) 4)) (defBody (inClass (topS 22) 4)) (defScope (inClass (topS 22) 4)) .none kV_Lead_of dc_Lead_of pm_Lead_of an_Lead_of cd_Lead_of ct_Lead_of), sl_Lead_of⟩)
    (c_Lead_of : PySem.W.codeIn K cd_Lead_of "Lead.of" = true)
    (k_Lead_of : PySem.W.keepIn K (.ref f_Lead_of) = true)
    (a_Lead_then : PySem.W.findIn K (.ref C_Lead) "then" = some (some (.ref f_Lead_then)))
    (i_Lead_then : PySem.W.isFn K (.ref f_Lead_then) = true)
    (l_Lead_then : K.lookup f_Lead_then = some ⟨oc_Lead_then, od_Lead_then, .func (PySem.W.fnOf "then" "Lead.then" (defArgs (inClass (topS 22) 5)) (defBody (inClass (topS 22) 5)) (defScope (inClass (topS 22) 5)) .none kV_Lead_then dc_Lead_then pm_Lead_then an_Lead_then cd_Lead_then ct_Lead_then), sl_Lead_then⟩)
    (c_Lead_then : PySem.W.codeIn K cd_Lead_then "Lead.then" = true)
    (k_Lead_then : PySem.W.keepIn K (.ref f_Lead_then) = true)
    (a_spaced : PySem.W.nsIn K mainGlobals "spaced" = some (some (.ref f_spaced)))
    (l_spaced : K.lookup f_spaced = some ⟨oc_spaced, od_spaced, .func (PySem.W.fnOf "spaced" "spaced" (defArgs (topS 19)) (defBody (topS 19)) (defScope (topS 19)) .none kV_spaced dc_spaced pm_spaced an_spaced cd_spaced ct_spaced), sl_spaced⟩)
    (c_spaced : PySem.W.codeIn K cd_spaced "spaced" = true)
    (k_spaced : PySem.W.keepIn K (.ref f_spaced) = true)
    (a_Lead___str__ : PySem.W.findIn K (.ref C_Lead) "__str__" = some (some (.ref f_Lead___str__)))
    (i_Lead___str__ : PySem.W.isFn K (.ref f_Lead___str__) = true)
    (l_Lead___str__ : K.lookup f_Lead___str__ = some ⟨oc_Lead___str__, od_Lead___str__, .func (PySem.W.fnOf "__str__" "Lead.__str__" (defArgs (inClass (topS 22) 2)) (defBody (inClass (topS 22) 2)) (defScope (inClass (topS 22) 2)) .none kV_Lead___str__ dc_Lead___str__ pm_Lead___str__ an_Lead___str__ cd_Lead___str__ ct_Lead___str__), sl_Lead___str__⟩)
    (c_Lead___str__ : PySem.W.codeIn K cd_Lead___str__ "Lead.__str__" = true)
    (k_Lead___str__ : PySem.W.keepIn K (.ref f_Lead___str__) = true)
    (a_Items___init__ : PySem.W.findIn K (.ref C_Items) "__init__" = some (some (.ref f_Items___init__)))
    (i_Items___init__ : PySem.W.isFn K (.ref f_Items___init__) = true)
    (l_Items___init__ : K.lookup f_Items___init__ = some ⟨oc_Items___init__, od_Items___init__, .func (PySem.W.fnOf "__init__" "Items.__init__" (defArgs (inClass (topS 20) 0)) (defBody (inClass (topS 20) 0)) (defScope (inClass (topS 20) 0)) .none kV_Items___init__ dc_Items___init__ pm_Items___init__ an_Items___init__ cd_Items___init__ ct_Items___init__), sl_Items___init__⟩)
    (c_Items___init__ : PySem.W.codeIn K cd_Items___init__ "Items.__init__" = true)
    (k_Items___init__ : PySem.W.keepIn K (.ref f_Items___init__) = true)
    (a_Items_stands : PySem.W.findIn K (.ref C_Items) "stands" = some (some (.ref f_Items_stands)))
    (i_Items_stands : PySem.W.isFn K (.ref f_Items_stands) = true)
    (l_Items_stands : K.lookup f_Items_stands = some ⟨oc_Items_stands, od_Items_stands, .func (PySem.W.fnOf "stands" "Items.stands" (defArgs (inClass (topS 20) 1)) (defBody (inClass (topS 20) 1)) (defScope (inClass (topS 20) 1)) .none kV_Items_stands dc_Items_stands pm_Items_stands an_Items_stands cd_Items_stands ct_Items_stands), sl_Items_stands⟩)
    (c_Items_stands : PySem.W.codeIn K cd_Items_stands "Items.stands" = true)
    (k_Items_stands : PySem.W.keepIn K (.ref f_Items_stands) = true)
    (a_Items_take : PySem.W.findIn K (.ref C_Items) "take" = some (some (.ref f_Items_take)))
    (i_Items_take : PySem.W.isFn K (.ref f_Items_take) = true)
    (l_Items_take : K.lookup f_Items_take = some ⟨oc_Items_take, od_Items_take, .func (PySem.W.fnOf "take" "Items.take" (defArgs (inClass (topS 20) 2)) (defBody (inClass (topS 20) 2)) (defScope (inClass (topS 20) 2)) .none kV_Items_take dc_Items_take pm_Items_take an_Items_take cd_Items_take ct_Items_take), sl_Items_take⟩)
    (c_Items_take : PySem.W.codeIn K cd_Items_take "Items.take" = true)
    (k_Items_take : PySem.W.keepIn K (.ref f_Items_take) = true)
    (a_Items_take_number : PySem.W.findIn K (.ref C_Items) "take_number" = some (some (.ref f_Items_take_number)))
    (i_Items_take_number : PySem.W.isFn K (.ref f_Items_take_number) = true)
    (l_Items_take_number : K.lookup f_Items_take_number = some ⟨oc_Items_take_number, od_Items_take_number, .func (PySem.W.fnOf "take_number" "Items.take_number" (defArgs (inClass (topS 20) 3)) (defBody (inClass (topS 20) 3)) (defScope (inClass (topS 20) 3)) .none kV_Items_take_number dc_Items_take_number pm_Items_take_number an_Items_take_number cd_Items_take_number ct_Items_take_number), sl_Items_take_number⟩)
    (c_Items_take_number : PySem.W.codeIn K cd_Items_take_number "Items.take_number" = true)
    (k_Items_take_number : PySem.W.keepIn K (.ref f_Items_take_number) = true)
    (a_Items_take_end : PySem.W.findIn K (.ref C_Items) "take_end" = some (some (.ref f_Items_take_end)))
    (i_Items_take_end : PySem.W.isFn K (.ref f_Items_take_end) = true)
    (l_Items_take_end : K.lookup f_Items_take_end = some ⟨oc_Items_take_end, od_Items_take_end, .func (PySem.W.fnOf "take_end" "Items.take_end" (defArgs (inClass (topS 20) 4)) (defBody (inClass (topS 20) 4)) (defScope (inClass (topS 20) 4)) .none kV_Items_take_end dc_Items_take_end pm_Items_take_end an_Items_take_end cd_Items_take_end ct_Items_take_end), sl_Items_take_end⟩)
    (c_Items_take_end : PySem.W.codeIn K cd_Items_take_end "Items.take_end" = true)
    (k_Items_take_end : PySem.W.keepIn K (.ref f_Items_take_end) = true)
    (a_Lead_read : PySem.W.findCls K (.ref C_Lead) (.type "type") "read" = some (.get (.builtin "staticmethod.__get__") (.ref p_Lead_read) .none (.ref C_Lead)))
    (r_Lead_read : PySem.W.recIn K p_Lead_read "staticmethod" = some (.ref f_Lead_read :: rs_Lead_read))
    (l_Lead_read : K.lookup f_Lead_read = some ⟨oc_Lead_read, od_Lead_read, .func (PySem.W.fnOf "read" "Lead.read" (defArgs (inClass (topS 22) 3)) (defBody (inClass (topS 22) 3)) (defScope (inClass (topS 22) 3)) .none kV_Lead_read dc_Lead_read pm_Lead_read an_Lead_read cd_Lead_read ct_Lead_read), sl_Lead_read⟩)
    (c_Lead_read : PySem.W.codeIn K cd_Lead_read "Lead.read" = true)
    (k_Lead_read : PySem.W.keepIn K (.ref f_Lead_read) = true)
    (a_law_pen : PySem.W.nsIn K mainGlobals "_law_pen" = some (some (.ref f_law_pen)))
    (l_law_pen : K.lookup f_law_pen = some ⟨oc_law_pen, od_law_pen, .func (PySem.W.fnOf "_law_pen" "_law_pen" (defArgs (topS 25)) (defBody (topS 25)) (defScope (topS 25)) .none kV_law_pen dc_law_pen pm_law_pen an_law_pen cd_law_pen ct_law_pen), sl_law_pen⟩)
    (c_law_pen : PySem.W.codeIn K cd_law_pen "_law_pen" = true)
    (k_law_pen : PySem.W.keepIn K (.ref f_law_pen) = true)
    (a_law_draw : PySem.W.nsIn K mainGlobals "_law_draw" = some (some (.ref f_law_draw)))
    (l_law_draw : K.lookup f_law_draw = some ⟨oc_law_draw, od_law_draw, .func (PySem.W.fnOf "_law_draw" "_law_draw" (defArgs (topS 26)) (defBody (topS 26)) (defScope (topS 26)) .none kV_law_draw dc_law_draw pm_law_draw an_law_draw cd_law_draw ct_law_draw), sl_law_draw⟩)
    (c_law_draw : PySem.W.codeIn K cd_law_draw "_law_draw" = true)
    (k_law_draw : PySem.W.keepIn K (.ref f_law_draw) = true)
    (a_law_row : PySem.W.nsIn K mainGlobals "_law_row" = some (some (.ref f_law_row)))
    (l_law_row : K.lookup f_law_row = some ⟨oc_law_row, od_law_row, .func (PySem.W.fnOf "_law_row" "_law_row" (defArgs (topS 28)) (defBody (topS 28)) (defScope (topS 28)) .none kV_law_row dc_law_row pm_law_row an_law_row cd_law_row ct_law_row), sl_law_row⟩)
    (c_law_row : PySem.W.codeIn K cd_law_row "_law_row" = true)
    (k_law_row : PySem.W.keepIn K (.ref f_law_row) = true)
    (a_law_text : PySem.W.nsIn K mainGlobals "_law_text" = some (some (.ref f_law_text)))
    (l_law_text : K.lookup f_law_text = some ⟨oc_law_text, od_law_text, .func (PySem.W.fnOf "_law_text" "_law_text" (defArgs (topS 29)) (defBody (topS 29)) (defScope (topS 29)) .none kV_law_text dc_law_text pm_law_text an_law_text cd_law_text ct_law_text), sl_law_text⟩)
    (c_law_text : PySem.W.codeIn K cd_law_text "_law_text" = true)
    (k_law_text : PySem.W.keepIn K (.ref f_law_text) = true)
    (a_Lead___eq__ : PySem.W.findIn K (.ref C_Lead) "__eq__" = some (some (.ref f_Lead___eq__)))
    (i_Lead___eq__ : PySem.W.isFn K (.ref f_Lead___eq__) = true)
    (l_Lead___eq__ : K.lookup f_Lead___eq__ = some ⟨oc_Lead___eq__, od_Lead___eq__, .func (PySem.W.fnOf "__eq__" "Lead.__eq__" (defArgs (inClass (topS 22) 1)) (defBody (inClass (topS 22) 1)) (defScope (inClass (topS 22) 1)) .none kV_Lead___eq__ dc_Lead___eq__ pm_Lead___eq__ an_Lead___eq__ cd_Lead___eq__ ct_Lead___eq__), sl_Lead___eq__⟩)
    (c_Lead___eq__ : PySem.W.codeIn K cd_Lead___eq__ "Lead.__eq__" = true)
    (k_Lead___eq__ : PySem.W.keepIn K (.ref f_Lead___eq__) = true)
    (a_law_kept_right : PySem.W.nsIn K mainGlobals "_law_kept_right" = some (some (.ref f_law_kept_right)))
    (l_law_kept_right : K.lookup f_law_kept_right = some ⟨oc_law_kept_right, od_law_kept_right, .func (PySem.W.fnOf "_law_kept_right" "_law_kept_right" (defArgs (topS 30)) (defBody (topS 30)) (defScope (topS 30)) .none kV_law_kept_right dc_law_kept_right pm_law_kept_right an_law_kept_right cd_law_kept_right ct_law_kept_right), sl_law_kept_right⟩)
    (c_law_kept_right : PySem.W.codeIn K cd_law_kept_right "_law_kept_right" = true)
    (k_law_kept_right : PySem.W.keepIn K (.ref f_law_kept_right) = true)
    (a_law_led_right : PySem.W.nsIn K mainGlobals "_law_led_right" = some (some (.ref f_law_led_right)))
    (l_law_led_right : K.lookup f_law_led_right = some ⟨oc_law_led_right, od_law_led_right, .func (PySem.W.fnOf "_law_led_right" "_law_led_right" (defArgs (topS 31)) (defBody (topS 31)) (defScope (topS 31)) .none kV_law_led_right dc_law_led_right pm_law_led_right an_law_led_right cd_law_led_right ct_law_led_right), sl_law_led_right⟩)
    (c_law_led_right : PySem.W.codeIn K cd_law_led_right "_law_led_right" = true)
    (k_law_led_right : PySem.W.keepIn K (.ref f_law_led_right) = true)
    (a_law_behind_right : PySem.W.nsIn K mainGlobals "_law_behind_right" = some (some (.ref f_law_behind_right)))
    (l_law_behind_right : K.lookup f_law_behind_right = some ⟨oc_law_behind_right, od_law_behind_right, .func (PySem.W.fnOf "_law_behind_right" "_law_behind_right" (defArgs (topS 32)) (defBody (topS 32)) (defScope (topS 32)) .none kV_law_behind_right dc_law_behind_right pm_law_behind_right an_law_behind_right cd_law_behind_right ct_law_behind_right), sl_law_behind_right⟩)
    (c_law_behind_right : PySem.W.codeIn K cd_law_behind_right "_law_behind_right" = true)
    (k_law_behind_right : PySem.W.keepIn K (.ref f_law_behind_right) = true)
    (v_MOST_THINGS : PySem.W.nsIn K mainGlobals "MOST_THINGS" = some (some (.int 5 t_MOST_THINGS)))
    (z_len : PySem.W.nsIn K mainGlobals "len" = some none)
    (z_all : PySem.W.nsIn K mainGlobals "all" = some none)
    (z_any : PySem.W.nsIn K mainGlobals "any" = some none)
    (z_isinstance : PySem.W.nsIn K mainGlobals "isinstance" = some none)
    (z_int : PySem.W.nsIn K mainGlobals "int" = some none)
    (z_bool : PySem.W.nsIn K mainGlobals "bool" = some none)
    (z_list : PySem.W.nsIn K mainGlobals "list" = some none)
    (z_tuple : PySem.W.nsIn K mainGlobals "tuple" = some none)
    (z_str : PySem.W.nsIn K mainGlobals "str" = some none)
    (z_range : PySem.W.nsIn K mainGlobals "range" = some none)
    (z_zip : PySem.W.nsIn K mainGlobals "zip" = some none)
    (z_sorted : PySem.W.nsIn K mainGlobals "sorted" = some none)
    (z_type : PySem.W.nsIn K mainGlobals "type" = some none)
    (z_max : PySem.W.nsIn K mainGlobals "max" = some none)
    (z_min : PySem.W.nsIn K mainGlobals "min" = some none)
    (z_abs : PySem.W.nsIn K mainGlobals "abs" = some none)
    (z_repr : PySem.W.nsIn K mainGlobals "repr" = some none) :
    LawOk l.prog w K mg fa a ns s := by
  cases hfa.symm.trans (PySem.W.mg_of X Gh a_law)
  have F_law := fun_mk (st := (topS 33)) l_law c_law k_law
  have b_law := F_law.binds (ps := ["script"]) fun _ _ _ _ _ _ us hl => match us, hl with | [_], _ => rfl
  have F_is_integer := fun_mk (st := (topS 1)) l_is_integer c_is_integer k_is_integer
  have b_is_integer := F_is_integer.binds (ps := ["value"]) fun _ _ _ _ _ _ us hl => match us, hl with | [_], _ => rfl
  have F_are_numbers := fun_mk (st := (topS 3)) l_are_numbers c_are_numbers k_are_numbers
  have b_are_numbers := F_are_numbers.binds (ps := ["value"]) fun _ _ _ _ _ _ us hl => match us, hl with | [_], _ => rfl
  have F_is_within := fun_mk (st := (topS 2)) l_is_within c_is_within k_is_within
  have b_is_within := F_is_within.binds (ps := ["value", "least", "most"]) fun _ _ _ _ _ _ us hl => match us, hl with | [_, _, _], _ => rfl
  have F_demand_number := fun_mk (st := (topS 14)) l_demand_number c_demand_number k_demand_number
  have b_demand_number := F_demand_number.binds (ps := ["value", "least", "most", "part"]) fun _ _ _ _ _ _ us hl => match us, hl with | [_, _, _, _], _ => rfl
  have F_demand_world := fun_mk (st := (topS 15)) l_demand_world c_demand_world k_demand_world
  have b_demand_world := F_demand_world.binds (ps := ["things", "part"]) fun _ _ _ _ _ _ us hl => match us, hl with | [_, _], _ => rfl
  have F_demand_numbers := fun_mk (st := (topS 16)) l_demand_numbers c_demand_numbers k_demand_numbers
  have b_demand_numbers := F_demand_numbers.binds (ps := ["values", "part"]) fun _ _ _ _ _ _ us hl => match us, hl with | [_, _], _ => rfl
  have F_demand_things := fun_mk (st := (topS 17)) l_demand_things c_demand_things k_demand_things
  have b_demand_things := F_demand_things.binds (ps := ["values", "things"]) fun _ _ _ _ _ _ us hl => match us, hl with | [_, _], _ => rfl
  have F_Lead___init__ := fun_mk (st := (inClass (topS 22) 0)) l_Lead___init__ c_Lead___init__ k_Lead___init__
  have b_Lead___init__ := F_Lead___init__.binds (ps := ["self", "into", "row"]) fun _ _ _ _ _ _ us hl => match us, hl with | [_, _, _], _ => rfl
  have F_idle := fun_mk (st := (topS 23)) l_idle c_idle k_idle
  have b_idle := F_idle.binds (ps := ["things"]) fun _ _ _ _ _ _ us hl => match us, hl with | [_], _ => rfl
  have F_Lead_of := fun_mk (st := (inClass (topS 22) 4)) l_Lead_of c_Lead_of k_Lead_of
  have b_Lead_of := F_Lead_of.binds (ps := ["self", "values"]) fun _ _ _ _ _ _ us hl => match us, hl with | [_, _], _ => rfl
  have F_Lead_then := fun_mk (st := (inClass (topS 22) 5)) l_Lead_then c_Lead_then k_Lead_then
  have b_Lead_then := F_Lead_then.binds (ps := ["self", "other"]) fun _ _ _ _ _ _ us hl => match us, hl with | [_, _], _ => rfl
  have F_spaced := fun_mk (st := (topS 19)) l_spaced c_spaced k_spaced
  have b_spaced := F_spaced.binds (ps := ["numbers"]) fun _ _ _ _ _ _ us hl => match us, hl with | [_], _ => rfl
  have F_Lead___str__ := fun_mk (st := (inClass (topS 22) 2)) l_Lead___str__ c_Lead___str__ k_Lead___str__
  have b_Lead___str__ := F_Lead___str__.binds (ps := ["self"]) fun _ _ _ _ _ _ us hl => match us, hl with | [_], _ => rfl
  have F_Items___init__ := fun_mk (st := (inClass (topS 20) 0)) l_Items___init__ c_Items___init__ k_Items___init__
  have b_Items___init__ := F_Items___init__.binds (ps := ["self", "text"]) fun _ _ _ _ _ _ us hl => match us, hl with | [_, _], _ => rfl
  have F_Items_stands := fun_mk (st := (inClass (topS 20) 1)) l_Items_stands c_Items_stands k_Items_stands
  have b_Items_stands := F_Items_stands.binds (ps := ["self", "word"]) fun _ _ _ _ _ _ us hl => match us, hl with | [_, _], _ => rfl
  have F_Items_take := fun_mk (st := (inClass (topS 20) 2)) l_Items_take c_Items_take k_Items_take
  have b_Items_take := F_Items_take.binds (ps := ["self", "word"]) fun _ _ _ _ _ _ us hl => match us, hl with | [_, _], _ => rfl
  have F_Items_take_number := fun_mk (st := (inClass (topS 20) 3)) l_Items_take_number c_Items_take_number k_Items_take_number
  have b_Items_take_number := F_Items_take_number.binds (ps := ["self", "least", "most"]) fun _ _ _ _ _ _ us hl => match us, hl with | [_, _, _], _ => rfl
  have F_Items_take_end := fun_mk (st := (inClass (topS 20) 4)) l_Items_take_end c_Items_take_end k_Items_take_end
  have b_Items_take_end := F_Items_take_end.binds (ps := ["self"]) fun _ _ _ _ _ _ us hl => match us, hl with | [_], _ => rfl
  have F_Lead_read := fun_mk (st := (inClass (topS 22) 3)) l_Lead_read c_Lead_read k_Lead_read
  have b_Lead_read := F_Lead_read.binds (ps := ["text"]) fun _ _ _ _ _ _ us hl => match us, hl with | [_], _ => rfl
  have F_law_pen := fun_mk (st := (topS 25)) l_law_pen c_law_pen k_law_pen
  have b_law_pen := F_law_pen.binds (ps := ["script"]) fun _ _ _ _ _ _ us hl => match us, hl with | [_], _ => rfl
  have F_law_draw := fun_mk (st := (topS 26)) l_law_draw c_law_draw k_law_draw
  have b_law_draw := F_law_draw.binds (ps := ["pen", "many"]) fun _ _ _ _ _ _ us hl => match us, hl with | [_, _], _ => rfl
  have F_law_row := fun_mk (st := (topS 28)) l_law_row c_law_row k_law_row
  have b_law_row := F_law_row.binds (ps := ["pen", "begin", "into"]) fun _ _ _ _ _ _ us hl => match us, hl with | [_, _, _], _ => rfl
  have F_law_text := fun_mk (st := (topS 29)) l_law_text c_law_text k_law_text
  have b_law_text := F_law_text.binds (ps := ["row", "into"]) fun _ _ _ _ _ _ us hl => match us, hl with | [_, _], _ => rfl
  have F_Lead___eq__ := fun_mk (st := (inClass (topS 22) 1)) l_Lead___eq__ c_Lead___eq__ k_Lead___eq__
  have b_Lead___eq__ := F_Lead___eq__.binds (ps := ["self", "other"]) fun _ _ _ _ _ _ us hl => match us, hl with | [_, _], _ => rfl
  have F_law_kept_right := fun_mk (st := (topS 30)) l_law_kept_right c_law_kept_right k_law_kept_right
  have b_law_kept_right := F_law_kept_right.binds (ps := ["pen", "row", "into"]) fun _ _ _ _ _ _ us hl => match us, hl with | [_, _, _], _ => rfl
  have F_law_led_right := fun_mk (st := (topS 31)) l_law_led_right c_law_led_right k_law_led_right
  have b_law_led_right := F_law_led_right.binds (ps := ["pen", "row", "into"]) fun _ _ _ _ _ _ us hl => match us, hl with | [_, _, _], _ => rfl
  have F_law_behind_right := fun_mk (st := (topS 32)) l_law_behind_right c_law_behind_right k_law_behind_right
  have b_law_behind_right := F_law_behind_right.binds (ps := ["pen", "sizes"]) fun _ _ _ _ _ _ us hl => match us, hl with | [_, _], _ => rfl
  have bn : Bn mg := ⟨PySem.W.mg_none_of X Gh z_len, PySem.W.mg_none_of X Gh z_all, PySem.W.mg_none_of X Gh z_any, PySem.W.mg_none_of X Gh z_isinstance, PySem.W.mg_none_of X Gh z_int, PySem.W.mg_none_of X Gh z_bool, PySem.W.mg_none_of X Gh z_list, PySem.W.mg_none_of X Gh z_tuple, PySem.W.mg_none_of X Gh z_str, PySem.W.mg_none_of X Gh z_range, PySem.W.mg_none_of X Gh z_zip, PySem.W.mg_none_of X Gh z_sorted, PySem.W.mg_none_of X Gh z_type, PySem.W.mg_none_of X Gh z_max, PySem.W.mg_none_of X Gh z_min, PySem.W.mg_none_of X Gh z_abs, PySem.W.mg_none_of X Gh z_repr⟩
  have cls_Lead : Cls K C_Lead := ⟨pg_Lead, hd_Lead, po_Lead, sa_Lead⟩
  have cls_Items : Cls K C_Items := ⟨pg_Items, hd_Items, po_Items, sa_Items⟩
  let Gd0 : Option (Addr × Addr) → Gd := fun u => ⟨K, clK C_Lead C_Items, flK, u⟩
  have all : ∀ (u : Option (Addr × Addr)) (base : Heap), Calls (Gd0 u) l.prog w mg base := by
    intro u base
    have fo : Gk (Gd0 u) := ⟨rfl, rfl, fld_one cls_Lead n_Lead_begin (by decide +kernel), fld_one cls_Lead n_Lead_into (by decide +kernel), fld_one cls_Lead n_Lead_row (by decide +kernel), fld_two cls_Items n_Items_words (by decide +kernel), fld_two cls_Items n_Items_taken (by decide +kernel), flK_nd, flK_sm⟩
    have A_is_integer := ok_is_integer (G := Gd0 u) (P := l.prog) (w := w) (base := base) F_is_integer bn
    have A_are_numbers := ok_are_numbers (G := Gd0 u) (P := l.prog) (w := w) (base := base) F_are_numbers bn ⟨_, _, A_is_integer, PySem.W.mg_of X Gh a_is_integer, k_is_integer, b_is_integer⟩
    have A_is_within := ok_is_within (G := Gd0 u) (P := l.prog) (w := w) (base := base) F_is_within bn ⟨_, _, A_is_integer, PySem.W.mg_of X Gh a_is_integer, k_is_integer, b_is_integer⟩
    have A_demand_number := ok_demand_number (G := Gd0 u) (P := l.prog) (w := w) (base := base) F_demand_number bn ⟨_, _, A_is_within, PySem.W.mg_of X Gh a_is_within, k_is_within, b_is_within⟩
    have A_demand_world := ok_demand_world (G := Gd0 u) (P := l.prog) (w := w) (base := base) F_demand_world bn ⟨_, _, A_demand_number, PySem.W.mg_of X Gh a_demand_number, k_demand_number, b_demand_number⟩ ⟨_, PySem.W.mg_of X Gh v_MOST_THINGS⟩
    have A_demand_numbers := ok_demand_numbers (G := Gd0 u) (P := l.prog) (w := w) (base := base) F_demand_numbers bn ⟨_, _, A_are_numbers, PySem.W.mg_of X Gh a_are_numbers, k_are_numbers, b_are_numbers⟩
    have A_demand_things := ok_demand_things (G := Gd0 u) (P := l.prog) (w := w) (base := base) F_demand_things bn ⟨_, _, A_is_within, PySem.W.mg_of X Gh a_is_within, k_is_within, b_is_within⟩
    have A_Lead___init__ := ok_Lead___init__ (G := Gd0 u) (P := l.prog) (w := w) (base := base) F_Lead___init__ bn fo ⟨_, _, A_demand_world, PySem.W.mg_of X Gh a_demand_world, k_demand_world, b_demand_world⟩ ⟨_, _, A_demand_things, PySem.W.mg_of X Gh a_demand_things, k_demand_things, b_demand_things⟩ ⟨_, _, A_are_numbers, PySem.W.mg_of X Gh a_are_numbers, k_are_numbers, b_are_numbers⟩ ⟨_, PySem.W.mg_of X Gh v_MOST_THINGS⟩
    have A_idle := ok_idle (G := Gd0 u) (P := l.prog) (w := w) (base := base) F_idle bn ⟨_, _, A_demand_world, PySem.W.mg_of X Gh a_demand_world, k_demand_world, b_demand_world⟩ ⟨_, _, A_Lead___init__, PySem.W.mg_of X Gh aC_Lead, ⟨mk_Lead, a_Lead___init__, i_Lead___init__, kc_Lead⟩, b_Lead___init__, by decide⟩
    have A_Lead_of := ok_Lead_of (G := Gd0 u) (P := l.prog) (w := w) (base := base) F_Lead_of bn fo ⟨_, _, A_demand_numbers, PySem.W.mg_of X Gh a_demand_numbers, k_demand_numbers, b_demand_numbers⟩ ⟨_, _, A_demand_things, PySem.W.mg_of X Gh a_demand_things, k_demand_things, b_demand_things⟩
    have A_Lead_then := ok_Lead_then (G := Gd0 u) (P := l.prog) (w := w) (base := base) F_Lead_then bn fo ⟨_, _, A_Lead_of, ⟨a_Lead_of, i_Lead_of, k_Lead_of⟩, cls_Lead, b_Lead_of, by show ("of" : Str) ∉ (["begin", "into", "row"] : List Str); decide +kernel⟩ ⟨_, _, A_Lead___init__, PySem.W.mg_of X Gh aC_Lead, ⟨mk_Lead, a_Lead___init__, i_Lead___init__, kc_Lead⟩, b_Lead___init__, by decide⟩ (PySem.W.mg_of X Gh aC_Lead)
    have A_spaced := ok_spaced (G := Gd0 u) (P := l.prog) (w := w) (base := base) F_spaced bn
    have A_Lead___str__ := ok_Lead___str__ (G := Gd0 u) (P := l.prog) (w := w) (base := base) F_Lead___str__ bn fo ⟨_, _, A_spaced, PySem.W.mg_of X Gh a_spaced, k_spaced, b_spaced⟩
    have A_Items___init__ := ok_Items___init__ (G := Gd0 u) (P := l.prog) (w := w) (base := base) F_Items___init__ bn fo
    have A_Items_stands := ok_Items_stands (G := Gd0 u) (P := l.prog) (w := w) (base := base) F_Items_stands bn fo
    have A_Items_take := ok_Items_take (G := Gd0 u) (P := l.prog) (w := w) (base := base) F_Items_take bn fo ⟨_, _, A_Items_stands, ⟨a_Items_stands, i_Items_stands, k_Items_stands⟩, cls_Items, b_Items_stands, by show ("stands" : Str) ∉ (["words", "taken"] : List Str); decide +kernel⟩
    have A_Items_take_number := ok_Items_take_number (G := Gd0 u) (P := l.prog) (w := w) (base := base) F_Items_take_number bn fo ⟨_, _, A_Items_stands, ⟨a_Items_stands, i_Items_stands, k_Items_stands⟩, cls_Items, b_Items_stands, by show ("stands" : Str) ∉ (["words", "taken"] : List Str); decide +kernel⟩
    have A_Items_take_end := ok_Items_take_end (G := Gd0 u) (P := l.prog) (w := w) (base := base) F_Items_take_end bn fo
    have A_Lead_read := ok_Lead_read (G := Gd0 u) (P := l.prog) (w := w) (base := base) F_Lead_read bn fo ⟨_, _, A_Items_stands, ⟨a_Items_stands, i_Items_stands, k_Items_stands⟩, cls_Items, b_Items_stands, by show ("stands" : Str) ∉ (["words", "taken"] : List Str); decide +kernel⟩ ⟨_, _, A_Items_take_number, ⟨a_Items_take_number, i_Items_take_number, k_Items_take_number⟩, cls_Items, b_Items_take_number, by show ("take_number" : Str) ∉ (["words", "taken"] : List Str); decide +kernel⟩ ⟨_, _, A_Items_take, ⟨a_Items_take, i_Items_take, k_Items_take⟩, cls_Items, b_Items_take, by show ("take" : Str) ∉ (["words", "taken"] : List Str); decide +kernel⟩ ⟨_, _, A_Items_take_end, ⟨a_Items_take_end, i_Items_take_end, k_Items_take_end⟩, cls_Items, b_Items_take_end, by show ("take_end" : Str) ∉ (["words", "taken"] : List Str); decide +kernel⟩ ⟨_, _, A_Items___init__, PySem.W.mg_of X Gh aC_Items, ⟨mk_Items, a_Items___init__, i_Items___init__, kc_Items⟩, b_Items___init__, by decide⟩ ⟨_, _, A_Lead___init__, PySem.W.mg_of X Gh aC_Lead, ⟨mk_Lead, a_Lead___init__, i_Lead___init__, kc_Lead⟩, b_Lead___init__, by decide⟩ ⟨_, PySem.W.mg_of X Gh v_MOST_THINGS⟩
    have A_law_draw := ok_law_draw (G := Gd0 u) (P := l.prog) (w := w) (base := base) F_law_draw bn
    have A_law_row := ok_law_row (G := Gd0 u) (P := l.prog) (w := w) (base := base) F_law_row bn ⟨_, _, A_law_draw, PySem.W.mg_of X Gh a_law_draw, k_law_draw, b_law_draw⟩
    have A_law_text := ok_law_text (G := Gd0 u) (P := l.prog) (w := w) (base := base) F_law_text bn
    have A_Lead___eq__ := ok_Lead___eq__ (G := Gd0 u) (P := l.prog) (w := w) (base := base) F_Lead___eq__ bn fo (PySem.W.mg_of X Gh aC_Lead)
    have A_law_kept_right := ok_law_kept_right (G := Gd0 u) (P := l.prog) (w := w) (base := base) F_law_kept_right bn fo ⟨_, _, A_law_draw, PySem.W.mg_of X Gh a_law_draw, k_law_draw, b_law_draw⟩ ⟨_, _, A_law_text, PySem.W.mg_of X Gh a_law_text, k_law_text, b_law_text⟩ ⟨_, _, A_Lead___init__, PySem.W.mg_of X Gh aC_Lead, ⟨mk_Lead, a_Lead___init__, i_Lead___init__, kc_Lead⟩, b_Lead___init__, by decide⟩ ⟨_, _, A_Lead___init__, PySem.W.mg_of X Gh aC_Lead, ⟨mk_Lead, a_Lead___init__, i_Lead___init__, kc_Lead⟩, KkM.all (fun self us hl => match us, hl with | [_, _], _ => rfl) (by decide) rfl⟩ ⟨_, _, _, A_Lead___str__, a_Lead___str__, i_Lead___str__, b_Lead___str__, rfl⟩ ⟨_, _, _, A_Lead___eq__, a_Lead___eq__, i_Lead___eq__, b_Lead___eq__, rfl, mo_Lead, ne_Lead⟩ ⟨_, _, _, _, A_Lead_read, PySem.W.mg_of X Gh aC_Lead, ⟨rd_Lead, ga_Lead⟩, a_Lead_read, ⟨_, r_Lead_read⟩, rfl, k_Lead_read, Kk.all (fun us hl => match us, hl with | [_], _ => rfl) (by decide) rfl⟩
    have A_law_led_right := ok_law_led_right (G := Gd0 u) (P := l.prog) (w := w) (base := base) F_law_led_right bn fo ⟨_, _, A_law_draw, PySem.W.mg_of X Gh a_law_draw, k_law_draw, b_law_draw⟩ ⟨_, _, A_Lead___init__, PySem.W.mg_of X Gh aC_Lead, ⟨mk_Lead, a_Lead___init__, i_Lead___init__, kc_Lead⟩, b_Lead___init__, by decide⟩ ⟨_, _, A_Lead_of, ⟨a_Lead_of, i_Lead_of, k_Lead_of⟩, cls_Lead, b_Lead_of, by show ("of" : Str) ∉ (["begin", "into", "row"] : List Str); decide +kernel⟩ ⟨_, _, A_Lead_of, ⟨a_Lead_of, i_Lead_of, k_Lead_of⟩, cls_Lead, KkM.all (fun self us hl => match us, hl with | [_], _ => rfl) (by decide) rfl, by show ("of" : Str) ∉ (["begin", "into", "row"] : List Str); decide +kernel⟩
    have A_law_behind_right := ok_law_behind_right (G := Gd0 u) (P := l.prog) (w := w) (base := base) F_law_behind_right bn fo ⟨_, _, A_law_draw, PySem.W.mg_of X Gh a_law_draw, k_law_draw, b_law_draw⟩ ⟨_, _, A_law_row, PySem.W.mg_of X Gh a_law_row, k_law_row, b_law_row⟩ ⟨_, _, A_Lead___init__, PySem.W.mg_of X Gh aC_Lead, ⟨mk_Lead, a_Lead___init__, i_Lead___init__, kc_Lead⟩, b_Lead___init__, by decide⟩ ⟨_, _, _, A_Lead___eq__, a_Lead___eq__, i_Lead___eq__, b_Lead___eq__, rfl, mo_Lead, ne_Lead⟩ ⟨_, _, A_Lead_of, ⟨a_Lead_of, i_Lead_of, k_Lead_of⟩, cls_Lead, b_Lead_of, by show ("of" : Str) ∉ (["begin", "into", "row"] : List Str); decide +kernel⟩ ⟨_, _, A_Lead_then, ⟨a_Lead_then, i_Lead_then, k_Lead_then⟩, cls_Lead, b_Lead_then, by show ("then" : Str) ∉ (["begin", "into", "row"] : List Str); decide +kernel⟩ ⟨_, _, A_Lead_then, ⟨a_Lead_then, i_Lead_then, k_Lead_then⟩, cls_Lead, KkM.all (fun self us hl => match us, hl with | [_], _ => rfl) (by decide) rfl, by show ("then" : Str) ∉ (["begin", "into", "row"] : List Str); decide +kernel⟩ ⟨_, _, A_idle, PySem.W.mg_of X Gh a_idle, k_idle, b_idle⟩ ⟨_, _, A_idle, PySem.W.mg_of X Gh a_idle, k_idle, Kk.all (fun us hl => match us, hl with | [_], _ => rfl) (by decide) rfl⟩
    exact ⟨⟨_, _, A_law_draw, PySem.W.mg_of X Gh a_law_draw, k_law_draw, b_law_draw⟩, ⟨_, _, A_law_row, PySem.W.mg_of X Gh a_law_row, k_law_row, b_law_row⟩, ⟨_, _, A_law_kept_right, PySem.W.mg_of X Gh a_law_kept_right, k_law_kept_right, b_law_kept_right⟩, ⟨_, _, A_law_led_right, PySem.W.mg_of X Gh a_law_led_right, k_law_led_right, b_law_led_right⟩, ⟨_, _, A_law_behind_right, PySem.W.mg_of X Gh a_law_behind_right, k_law_behind_right, b_law_behind_right⟩⟩
  exact ok_law (G := Gd0 none) rfl F_law (fun s v => .of_eq rfl) bn hlen ⟨rfl, by decide, by decide⟩ (fun q base => all (some q) base)
    (fun base cdv H rm => ps_set (i := 1) sc_law.nd rfl (Or.inr rfl) (pe_call (ok_law_pen F_law_pen bn.int) (rm.mono (by decide)) rfl (PySem.W.mg_of X Gh a_law_pen) k_law_pen b_law_pen .nil (xk_def (G := Gd0 none) (E := EF) rm rfl).pass (pa_cons (pe_var (i := 0) rfl (by first | exact Or.inl rfl | exact Or.inr (Or.inl rfl) | exact Or.inr (Or.inr rfl)) (by decide) (by decide)) pa_nil)))
end Pg

set_option Elab.async false
set_option linter.all false
set_option maxRecDepth 100000
set_option maxHeartbeats 4100000

open PySem
open PySem.W PyProof.Rows in
set_option
      maxRecDepth 100000 in
set_option maxHeartbeats 0 in
theorem PySem.Challenge.cw_kindtells_k04_leads_kept_and_behind_one_holds : PySem.Challenge.rw_kindtells_k04_leads_kept_and_behind_one.Holds := by
  w_on; o_law; k_head;
        (case hw => w_witness2)
  k_fill
  refine Kn.law_row (l := PySem.Challenge.rw_kindtells_k04_leads_kept_and_behind_one) (n := 63) rfl (by decide) rfl (fun w h Y => PySem.W.kIn_of Y) ?F
  case F =>
    intro w mg fa a h s ns KX Gh hmg hlen
    refine' Pg.close KX Gh hmg hlen ?aC_Lead ?pg_Lead ?hd_Lead ?po_Lead ?sa_Lead ?rd_Lead ?ga_Lead ?mo_Lead ?ne_Lead ?mk_Lead ?kc_Lead ?n_Lead_begin ?n_Lead_into ?n_Lead_row ?aC_Items ?pg_Items ?hd_Items ?po_Items ?sa_Items ?mk_Items ?kc_Items ?n_Items_words ?n_Items_taken ?a_law ?l_law ?c_law ?k_law ?a_is_integer ?l_is_integer ?c_is_integer ?k_is_integer ?a_are_numbers ?l_are_numbers ?c_are_numbers ?k_are_numbers ?a_is_within ?l_is_within ?c_is_within ?k_is_within ?a_demand_number ?l_demand_number ?c_demand_number ?k_demand_number ?a_demand_world ?l_demand_world ?c_demand_world ?k_demand_world ?a_demand_numbers ?l_demand_numbers ?c_demand_numbers ?k_demand_numbers ?a_demand_things ?l_demand_things ?c_demand_things ?k_demand_things ?a_Lead___init__ ?i_Lead___init__ ?l_Lead___init__ ?c_Lead___init__ ?k_Lead___init__ ?a_idle ?l_idle ?c_idle ?k_idle ?a_Lead_of ?i_Lead_of ?l_Lead_of ?c_Lead_of ?k_Lead_of ?a_Lead_then ?i_Lead_then ?l_Lead_then ?c_Lead_then ?k_Lead_then ?a_spaced ?l_spaced ?c_spaced ?k_spaced ?a_Lead___str__ ?i_Lead___str__ ?l_Lead___str__ ?c_Lead___str__ ?k_Lead___str__ ?a_Items___init__ ?i_Items___init__ ?l_Items___init__ ?c_Items___init__ ?k_Items___init__ ?a_Items_stands ?i_Items_stands ?l_Items_stands ?c_Items_stands ?k_Items_stands ?a_Items_take ?i_Items_take ?l_Items_take ?c_Items_take ?k_Items_take ?a_Items_take_number ?i_Items_take_number ?l_Items_take_number ?c_Items_take_number ?k_Items_take_number ?a_Items_take_end ?i_Items_take_end ?l_Items_take_end ?c_Items_take_end ?k_Items_take_end ?a_Lead_read ?r_Lead_read ?l_Lead_read ?c_Lead_read ?k_Lead_read ?a_law_pen ?l_law_pen ?c_law_pen ?k_law_pen ?a_law_draw ?l_law_draw ?c_law_draw ?k_law_draw ?a_law_row ?l_law_row ?c_law_row ?k_law_row ?a_law_text ?l_law_text ?c_law_text ?k_law_text ?a_Lead___eq__ ?i_Lead___eq__ ?l_Lead___eq__ ?c_Lead___eq__ ?k_Lead___eq__ ?a_law_kept_right ?l_law_kept_right ?c_law_kept_right ?k_law_kept_right ?a_law_led_right ?l_law_led_right ?c_law_led_right ?k_law_led_right ?a_law_behind_right ?l_law_behind_right ?c_law_behind_right ?k_law_behind_right ?v_MOST_THINGS ?z_len ?z_all ?z_any ?z_isinstance ?z_int ?z_bool ?z_list ?z_tuple ?z_str ?z_range ?z_zip ?z_sorted ?z_type ?z_max ?z_min ?z_abs ?z_repr
    (case aC_Lead => k_is)
    (case pg_Lead => k_is)
    (case hd_Lead => k_is)
    (case po_Lead => k_is)
    (case sa_Lead => k_is)
    (case rd_Lead => k_is)
    (case ga_Lead => k_is)
    (case mo_Lead => k_is)
    (case ne_Lead => k_is)
    (case mk_Lead => k_is)
    (case kc_Lead => k_is)
    (case n_Lead_begin => k_is)
    (case n_Lead_into => k_is)
    (case n_Lead_row => k_is)
    (case aC_Items => k_is)
    (case pg_Items => k_is)
    (case hd_Items => k_is)
    (case po_Items => k_is)
    (case sa_Items => k_is)
    (case mk_Items => k_is)
    (case kc_Items => k_is)
    (case n_Items_words => k_is)
    (case n_Items_taken => k_is)
    (case a_law => k_is)
    (case l_law => k_is)
    (case c_law => k_is)
    (case k_law => k_is)
    (case a_is_integer => k_is)
    (case l_is_integer => k_is)
    (case c_is_integer => k_is)
    (case k_is_integer => k_is)
    (case a_are_numbers => k_is)
    (case l_are_numbers => k_is)
    (case c_are_numbers => k_is)
    (case k_are_numbers => k_is)
    (case a_is_within => k_is)
    (case l_is_within => k_is)
    (case c_is_within => k_is)
    (case k_is_within => k_is)
    (case a_demand_number => k_is)
    (case l_demand_number => k_is)
    (case c_demand_number => k_is)
    (case k_demand_number => k_is)
    (case a_demand_world => k_is)
    (case l_demand_world => k_is)
    (case c_demand_world => k_is)
    (case k_demand_world => k_is)
    (case a_demand_numbers => k_is)
    (case l_demand_numbers => k_is)
    (case c_demand_numbers => k_is)
    (case k_demand_numbers => k_is)
    (case a_demand_things => k_is)
    (case l_demand_things => k_is)
    (case c_demand_things => k_is)
    (case k_demand_things => k_is)
    (case a_Lead___init__ => k_is)
    (case i_Lead___init__ => k_is)
    (case l_Lead___init__ => k_is)
    (case c_Lead___init__ => k_is)
    (case k_Lead___init__ => k_is)
    (case a_idle => k_is)
    (case l_idle => k_is)
    (case c_idle => k_is)
    (case k_idle => k_is)
    (case a_Lead_of => k_is)
    (case i_Lead_of => k_is)
    (case l_Lead_of => k_is)
    (case c_Lead_of => k_is)
    (case k_Lead_of => k_is)
    (case a_Lead_then => k_is)
    (case i_Lead_then => k_is)
    (case l_Lead_then => k_is)
    (case c_Lead_then => k_is)
    (case k_Lead_then => k_is)
    (case a_spaced => k_is)
    (case l_spaced => k_is)
    (case c_spaced => k_is)
    (case k_spaced => k_is)
    (case a_Lead___str__ => k_is)
    (case i_Lead___str__ => k_is)
    (case l_Lead___str__ => k_is)
    (case c_Lead___str__ => k_is)
    (case k_Lead___str__ => k_is)
    (case a_Items___init__ => k_is)
    (case i_Items___init__ => k_is)
    (case l_Items___init__ => k_is)
    (case c_Items___init__ => k_is)
    (case k_Items___init__ => k_is)
    (case a_Items_stands => k_is)
    (case i_Items_stands => k_is)
    (case l_Items_stands => k_is)
    (case c_Items_stands => k_is)
    (case k_Items_stands => k_is)
    (case a_Items_take => k_is)
    (case i_Items_take => k_is)
    (case l_Items_take => k_is)
    (case c_Items_take => k_is)
    (case k_Items_take => k_is)
    (case a_Items_take_number => k_is)
    (case i_Items_take_number => k_is)
    (case l_Items_take_number => k_is)
    (case c_Items_take_number => k_is)
    (case k_Items_take_number => k_is)
    (case a_Items_take_end => k_is)
    (case i_Items_take_end => k_is)
    (case l_Items_take_end => k_is)
    (case c_Items_take_end => k_is)
    (case k_Items_take_end => k_is)
    (case a_Lead_read => k_is)
    (case r_Lead_read => k_is)
    (case l_Lead_read => k_is)
    (case c_Lead_read => k_is)
    (case k_Lead_read => k_is)
    (case a_law_pen => k_is)
    (case l_law_pen => k_is)
    (case c_law_pen => k_is)
    (case k_law_pen => k_is)
    (case a_law_draw => k_is)
    (case l_law_draw => k_is)
    (case c_law_draw => k_is)
    (case k_law_draw => k_is)
    (case a_law_row => k_is)
    (case l_law_row => k_is)
    (case c_law_row => k_is)
    (case k_law_row => k_is)
    (case a_law_text => k_is)
    (case l_law_text => k_is)
    (case c_law_text => k_is)
    (case k_law_text => k_is)
    (case a_Lead___eq__ => k_is)
    (case i_Lead___eq__ => k_is)
    (case l_Lead___eq__ => k_is)
    (case c_Lead___eq__ => k_is)
    (case k_Lead___eq__ => k_is)
    (case a_law_kept_right => k_is)
    (case l_law_kept_right => k_is)
    (case c_law_kept_right => k_is)
    (case k_law_kept_right => k_is)
    (case a_law_led_right => k_is)
    (case l_law_led_right => k_is)
    (case c_law_led_right => k_is)
    (case k_law_led_right => k_is)
    (case a_law_behind_right => k_is)
    (case l_law_behind_right => k_is)
    (case c_law_behind_right => k_is)
    (case k_law_behind_right => k_is)
    (case v_MOST_THINGS => k_is)
    (case z_len => k_is)
    (case z_all => k_is)
    (case z_any => k_is)
    (case z_isinstance => k_is)
    (case z_int => k_is)
    (case z_bool => k_is)
    (case z_list => k_is)
    (case z_tuple => k_is)
    (case z_str => k_is)
    (case z_range => k_is)
    (case z_zip => k_is)
    (case z_sorted => k_is)
    (case z_type => k_is)
    (case z_max => k_is)
    (case z_min => k_is)
    (case z_abs => k_is)
    (case z_repr => k_is)

