import PyProof.Rows.All
import Wide.All
import OpenK.AllK
import Wide.FinOn
import HandS.ForMost
import HandS.Deep
import HandS.SortInts
import HandS.Lambda
import HandS.TupAny
import HandS.Conv
import KE.GoesEnum
import KE.KTupSum
import HandS.Strs
import HandS.SetFor
import HandS.Gcd
import KE.KMathGC
import HandS.DictComp
import KE.SortKeyHeap
import HandS.SortKw
import HandS.Words
import KE.SortData
import HandS.SortOrd
import HandS.ForExc
import HandS.SetBool
import PyProof.ReprRoads
import HandS.Zip
import HandS.IsInst
import HandS.Style
import HandS.RaiseMore
import HandS.Defaults
import KE.DataMinMax
import HandS.Star
import HandS.EndTab
import KE.HD3
import HandS.HeadEnd
import HandS.HeadHook1
import HandS.HeadHook2
import HandS.HeadHook3
import HandS.HeadHook4
import HandS.MakeKwOnly
import PySem.Challenge.RW_nonames_k40_needless_and_joined_sizes
set_option Elab.async false
set_option linter.all false
set_option maxRecDepth 100000
set_option maxHeartbeats 4000000
/-! data: what a def's values are, however they lie -/
namespace Dl
open PySem PySem.Spec PyProof.Rows L2

/-- the classes' addresses; the tables of code objects with the name that each takes -/
structure Cl where
  at_ : Nat → Addr
  tabs : List (Addr × Str)
  exc : Option Addr := none
instance : CoeFun Cl (fun _ => Nat → Addr) := ⟨Cl.at_⟩

inductive D where
  | non | bl (b : Bool) | int (i : Int) | str (x : Str) | lst (xs : List D) | tup (xs : List D)
  | obj (c : Nat) (ns : List Str) (xs : List D) | dT (ks : List (List Key)) (xs : List D) | dK (ks : List Key) (xs : List D)
  | vol (k : Nat) | scr

mutual
/-- the value v is the data d, in the heap H -/
inductive Rep (K : PySem.W.Frag) (cl : Cl) (H : Hp) : V → D → Prop
  | non : Rep K cl H .non .non
  | bl (b : Bool) : Rep K cl H (.bl b) (.bl b)
  | int (i : Int) : Rep K cl H (.int i) (.int i)
  | str (x : Str) : Rep K cl H (.str x) (.str x)
  | lst {a : Addr} {xs : List V} {ds : List D} : H a = some (.lst xs) → Reps K cl H xs ds → Rep K cl H (.ref a) (.lst ds)
  | tup {a : Addr} {xs : List V} {ds : List D} : H a = some (.tup xs) → Reps K cl H xs ds → Rep K cl H (.ref a) (.tup ds)
  | obj {a dx : Addr} {c : Nat} {fs : List (Str × V)} {ns : List Str} {ds : List D} : H a = some (.ins (cl c) dx fs) → fs.map (·.1) = ns → Reps K cl H (fs.map (·.2)) ds → Rep K cl H (.ref a) (.obj c ns ds)
  | dT {a : Addr} {kvs : List (List Key × V)} {ks : List (List Key)} {ds : List D} : H a = some (.dT kvs) → kvs.map (·.1) = ks → Reps K cl H (kvs.map (·.2)) ds → Rep K cl H (.ref a) (.dT ks ds)
  | dK {a : Addr} {kvs : List (Key × V)} {ks : List Key} {ds : List D} : H a = some (.dK kvs) → kvs.map (·.1) = ks → Reps K cl H (kvs.map (·.2)) ds → Rep K cl H (.ref a) (.dK ks ds)
  | vol {a : Addr} {k : Nat} : H a = some (.rng (k : Int) 0) → Rep K cl H (.ref a) (.vol k)
  | scr {a : Addr} {ns : List Int} : SqL K H a (ns.map V.int) → Rep K cl H (.ref a) .scr
inductive Reps (K : PySem.W.Frag) (cl : Cl) (H : Hp) : List V → List D → Prop
  | nil : Reps K cl H [] []
  | cons {v : V} {vs : List V} {d : D} {ds : List D} : Rep K cl H v d → Reps K cl H vs ds → Reps K cl H (v :: vs) (d :: ds)
end

theorem same_seqT {K : PySem.W.Frag} {H H' : Hp} {a : Addr} {xs : List V} (e : Same H H') (h : SqT K H a xs) : SqT K H' a xs := by
  rcases h with (h | ⟨o, h⟩) | h
  · exact .inl (.inl (e _ _ h))
  · exact .inl (.inr ⟨o, e _ _ h⟩)
  · exact .inr h
section
variable {K : PySem.W.Frag} {cl : Cl} {H H' : Hp}
mutual
theorem Rep.mono (e : Same H H') {v : V} {d : D} (h : Rep K cl H v d) : Rep K cl H' v d := by
  cases h with
  | non => exact .non
  | bl b => exact .bl b
  | int i => exact .int i
  | str x => exact .str x
  | lst q r => exact .lst (e _ _ q) (Reps.mono e r)
  | tup q r => exact .tup (e _ _ q) (Reps.mono e r)
  | obj q k r => exact .obj (e _ _ q) k (Reps.mono e r)
  | dT q k r => exact .dT (e _ _ q) k (Reps.mono e r)
  | dK q k r => exact .dK (e _ _ q) k (Reps.mono e r)
  | vol q => exact .vol (e _ _ q)
  | scr q => exact .scr (e.seq q)
theorem Reps.mono (e : Same H H') {vs : List V} {ds : List D} (h : Reps K cl H vs ds) : Reps K cl H' vs ds := by
  cases h with
  | nil => exact .nil
  | cons a b => exact .cons (Rep.mono e a) (Reps.mono e b)
end
theorem Reps.len : ∀ {vs : List V} {ds : List D}, Reps K cl H vs ds → vs.length = ds.length
  | _, _, .nil => rfl
  | _, _, .cons _ b => by rw [List.length_cons, List.length_cons, Reps.len b]
theorem Reps.append : ∀ {vs us : List V} {ds es : List D}, Reps K cl H vs ds → Reps K cl H us es → Reps K cl H (vs ++ us) (ds ++ es)
  | _, _, _, _, .nil, s => s
  | _, _, _, _, .cons r t, s => .cons r (Reps.append t s)
theorem Reps.get : ∀ {vs : List V} {ds : List D} {i : Nat} {d : D}, Reps K cl H vs ds → ds[i]? = some d → ∃ v, vs[i]? = some v ∧ Rep K cl H v d
  | _, _, _, _, .nil, e => by simp at e
  | _, _, 0, _, .cons r _, e => by simp at e; subst e; exact ⟨_, rfl, r⟩
  | _, _, i + 1, d, .cons _ t, e => by
    obtain ⟨u, h1, h2⟩ := Reps.get (i := i) (d := d) t (by simpa using e)
    exact ⟨u, by simpa using h1, h2⟩
theorem Reps.getV : ∀ {vs : List V} {ds : List D} {i : Nat} {v : V}, Reps K cl H vs ds → vs[i]? = some v → ∃ d, ds[i]? = some d ∧ Rep K cl H v d
  | _, _, _, _, .nil, e => by simp at e
  | _, _, 0, _, .cons r _, e => by simp at e; subst e; exact ⟨_, rfl, r⟩
  | _, _, i + 1, v, .cons _ t, e => by
    obtain ⟨u, h1, h2⟩ := Reps.getV (i := i) (v := v) t (by simpa using e)
    exact ⟨u, by simpa using h1, h2⟩
theorem Reps.take : ∀ {vs : List V} {ds : List D} (n : Nat), Reps K cl H vs ds → Reps K cl H (vs.take n) (ds.take n)
  | _, _, 0, _ => .nil
  | _, _, _ + 1, .nil => .nil
  | _, _, n + 1, .cons r t => .cons r (Reps.take n t)
theorem Reps.drop : ∀ {vs : List V} {ds : List D} (n : Nat), Reps K cl H vs ds → Reps K cl H (vs.drop n) (ds.drop n)
  | _, _, 0, r => r
  | _, _, _ + 1, .nil => .nil
  | _, _, n + 1, .cons _ t => Reps.drop n t
theorem Reps.dropLast {vs : List V} {ds : List D} (r : Reps K cl H vs ds) : Reps K cl H vs.dropLast ds.dropLast := by
  rw [List.dropLast_eq_take, List.dropLast_eq_take, r.len]
  exact r.take _
theorem Reps.one {v : V} {d : D} (r : Rep K cl H v d) : Reps K cl H [v] [d] := .cons r .nil
theorem Reps.ints : ∀ {vs : List V} {ns : List Int}, Reps K cl H vs (ns.map D.int) → vs = ns.map V.int
  | [], [], _ => rfl
  | _ :: _, [], h => nomatch h
  | [], _ :: _, h => nomatch h
  | v :: vs, n :: ns, h => by
    cases h with
    | cons a b =>
      cases a
      rw [List.map_cons, Reps.ints b]
theorem Reps.ofInts : ∀ (ns : List Int), Reps K cl H (ns.map V.int) (ns.map D.int)
  | [] => .nil
  | n :: ns => .cons (.int n) (Reps.ofInts ns)
end

/-- neither a table nor told by its text -/
def Plain (o : HO) : Prop := (∀ ps, o ≠ .tbl ps) ∧ ∀ p, o ≠ .ext p
theorem tabs_upd {T : List (Addr × Str)} {H : Hp} {a : Addr} {o u : HO} (h : H a = some o) (n : Plain o) (t : LamX.Tabs T H) : LamX.Tabs T (upd H a u) := fun p hp => by
  obtain ⟨ps, h1, h2, h3⟩ := t p hp
  have n1 : p.1 ≠ a := fun z => by rw [z, h] at h1; cases h1; exact n.1 ps rfl
  refine ⟨ps, by rw [upd_ne n1]; exact h1, h2, fun pos cv hc => ?_⟩
  obtain ⟨c, e1, e2⟩ := h3 pos cv hc
  have n2 : c ≠ a := fun z => by rw [z, h] at e2; cases e2; exact n.2 _ rfl
  exact ⟨c, e1, by rw [upd_ne n2]; exact e2⟩
/-- what may stand where a thing changes by itself: the pool -/
def VolOk (k : Int) (o : HO) : Prop := k = 0 ∧ ∃ (c : Int) (b : Bool) (j : Int), o = .lst [.int c, .bl b, .int j]
theorem VolOk.plain {k : Int} {o : HO} (h : VolOk k o) : Plain o := by
  obtain ⟨_, c, b, j, rfl⟩ := h
  exact ⟨(fun _ z => nomatch z), (fun _ z => nomatch z)⟩
theorem VolOk.notTup {k : Int} {o : HO} (h : VolOk k o) (xs : List V) : o ≠ .tup xs := by
  obtain ⟨_, c, b, j, rfl⟩ := h
  exact fun z => nomatch z
/-- no mark -/
abbrev NoMk (o : Option HO) : Prop := ∀ i j, o ≠ some (.rng i j)
/-- the clean view: a part of the heap, without tables; a range marks a thing that changes by itself -/
structure Cln (B H : Hp) : Prop where
  s : ∀ a o, B a = some o → NoMk (some o) → H a = some o
  v : ∀ a i j, B a = some (.rng i j) → ∃ o, H a = some o ∧ VolOk i o
  n : ∀ a ps, B a ≠ some (.tbl ps)
theorem Cln.get {B H : Hp} (c : Cln B H) (a : Addr) (o : HO) (h : B a = some o) (nm : NoMk (some o) := by exact fun _ _ z => nomatch z) : H a = some o := c.s a o h nm
instance {B H : Hp} : CoeFun (Cln B H) (fun _ => ∀ (a : Addr) (o : HO) (h : B a = some o) (nm : NoMk (some o) := by exact fun _ _ z => nomatch z), H a = some o) := ⟨@Cln.get B H⟩
section
variable {T : List (Addr × Str)} {B H H1 : Hp}
theorem Cln.some_of (c : Cln B H) {a : Addr} {o : HO} (h : B a = some o) : ∃ u, H a = some u := by
  by_cases q : NoMk (some o)
  · exact ⟨o, c.s a o h q⟩
  · have : ∃ i j, o = .rng i j := Classical.byContradiction fun z => q fun i j e => z ⟨i, j, Option.some.inj e⟩
    obtain ⟨i, j, rfl⟩ := this
    obtain ⟨u, h1, _⟩ := c.v a i j h
    exact ⟨u, h1⟩
theorem Cln.trans (c : Cln B H) (s : Same H H1) : Cln B H1 := ⟨fun a o h n => s _ _ (c.s a o h n), fun a i j h => let ⟨o, h1, h2⟩ := c.v a i j h; ⟨o, s _ _ h1, h2⟩, c.n⟩
theorem Cln.free (c : Cln B H) {a : Addr} (h : H a = none) : B a = none := by
  cases e : B a with
  | none => rfl
  | some o =>
    obtain ⟨u, hu⟩ := c.some_of e
    rw [h] at hu
    cases hu
theorem Cln.ne_none (c : Cln B H) {a : Addr} {o : HO} (h : B a = some o) : H a ≠ none := by
  obtain ⟨u, hu⟩ := c.some_of h
  rw [hu]
  exact fun z => nomatch z
end
/-- all but the tables and what is marked stay, nothing goes -/
structure Grow (T : List (Addr × Str)) (B H H' : Hp) : Prop where
  keep : ∀ a o, H a = some o → (∀ ps, o ≠ .tbl ps) → NoMk (B a) → H' a = some o
  dom : ∀ b, H' b = none → H b = none
  tabs : LamX.Tabs T H → LamX.Tabs T H'
theorem Same.grow {T : List (Addr × Str)} {B H H' : Hp} (s : Same H H') : Grow T B H H' := ⟨fun a o e _ _ => s a o e, fun _ e => s.free e, fun t => t.ext s⟩
theorem Grow.free {T : List (Addr × Str)} {B H H1 : Hp} (g : Grow T B H H1) {a : Addr} (h : H1 a = none) : H a = none := g.dom a h
/-- all but the tables stay -/
structure Grow0 (T : List (Addr × Str)) (H H' : Hp) : Prop where
  keep : ∀ a o, H a = some o → (∀ ps, o ≠ .tbl ps) → H' a = some o
  dom : ∀ b, H' b = none → H b = none
  tabs : LamX.Tabs T H → LamX.Tabs T H'
theorem Same.grow0 {T : List (Addr × Str)} {H H' : Hp} (s : Same H H') : Grow0 T H H' := ⟨fun a o e _ => s a o e, fun _ e => s.free e, fun t => t.ext s⟩
theorem Grow0.get {T : List (Addr × Str)} {H H1 : Hp} (g : Grow0 T H H1) {a : Addr} {o : HO} (h : H a = some o) (n : ∀ ps, o ≠ .tbl ps := by exact fun _ z => nomatch z) : H1 a = some o := g.keep a o h n
theorem Grow0.free {T : List (Addr × Str)} {H H1 : Hp} (g : Grow0 T H H1) {a : Addr} (h : H1 a = none) : H a = none := g.dom a h
theorem Grow0.ext {T : List (Addr × Str)} {B H H' : Hp} (c : Cln B H) (g : Grow0 T H H') : ∃ _ : Cln B H', Grow T B H H' :=
  ⟨⟨fun a o e m => g.keep a o (c.s a o e m) fun ps z => c.n a ps (by rw [e, z]), fun a i j e => let ⟨o, h1, h2⟩ := c.v a i j e; ⟨o, g.keep a o h1 h2.plain.1, h2⟩, c.n⟩, ⟨fun a o e n _ => g.keep a o e n, g.dom, g.tabs⟩⟩
theorem noMk_none : NoMk none := fun _ _ z => nomatch z
/-- the clean view B and the heap H have grown to B', H' -/
structure Ext (T : List (Addr × Str)) (B H B' H' : Hp) : Prop where
  hh : Grow T B H H'
  bb : Same B B'
  bh : Cln B' H'
  out : ∀ a o, H a = some o → (∀ xs, o ≠ .tup xs) → (∀ ps, o ≠ .tbl ps) → B' a = B a
section
variable {T : List (Addr × Str)} {B H B1 H1 B2 H2 : Hp}
theorem Ext.refl (h : Cln B H) : Ext T B H B H := ⟨Same.grow (Same.refl _), Same.refl _, h, fun _ _ _ _ _ => rfl⟩
/-- what is no mark stays none, where it was there -/
theorem Ext.noMk (x : Ext T B H B1 H1) {a : Addr} {o : HO} (h : H a = some o) (nt : ∀ ps, o ≠ .tbl ps) (n : NoMk (B a)) : NoMk (B1 a) := by
  by_cases q : ∃ xs, o = .tup xs
  · obtain ⟨xs, rfl⟩ := q
    intro i j e
    have h1 := x.hh.keep a _ h nt n
    obtain ⟨u, g1, g2⟩ := x.bh.v a i j e
    rw [h1] at g1
    cases g1
    exact g2.notTup xs rfl
  · rw [x.out a o h (fun xs z => q ⟨xs, z⟩) nt]
    exact n
theorem Ext.get (x : Ext T B H B1 H1) {a : Addr} {o : HO} (h : H a = some o) (nB : B a = none) (nt : ∀ ps, o ≠ .tbl ps := by exact fun _ z => nomatch z) : H1 a = some o := x.hh.keep a o h nt (by rw [nB]; exact noMk_none)
theorem Ext.getM (x : Ext T B H B1 H1) {a : Addr} {o : HO} (h : H a = some o) (nB : NoMk (B a)) (nt : ∀ ps, o ≠ .tbl ps := by exact fun _ z => nomatch z) : H1 a = some o := x.hh.keep a o h nt nB
/-- what stands stands on -/
theorem Ext.there (x : Ext T B H B1 H1) {a : Addr} (h : H a ≠ none) : H1 a ≠ none := fun z => h (x.hh.dom a z)
theorem Ext.plain (x : Ext T B H B1 H1) {a : Addr} {o : HO} (h : H a = some o) (nt : ∀ xs, o ≠ .tup xs) (nn : ∀ ps, o ≠ .tbl ps) : ∃ u, H1 a = some u ∧ (∀ xs, u ≠ .tup xs) ∧ (∀ ps, u ≠ .tbl ps) := by
  by_cases q : NoMk (B a)
  · exact ⟨o, x.hh.keep a o h nn q, nt, nn⟩
  · have : ∃ i j, B a = some (.rng i j) := Classical.byContradiction fun z => q fun i j e => z ⟨i, j, e⟩
    obtain ⟨i, j, e⟩ := this
    obtain ⟨u, h1, h2⟩ := x.bh.v a i j (x.bb _ _ e)
    exact ⟨u, h1, h2.notTup, h2.plain.1⟩
theorem Ext.trans (a : Ext T B H B1 H1) (b : Ext T B1 H1 B2 H2) : Ext T B H B2 H2 :=
  ⟨⟨fun x o e n m => b.hh.keep x o (a.hh.keep x o e n m) n (a.noMk e n m), fun c e => a.hh.dom c (b.hh.dom c e), fun t => b.hh.tabs (a.hh.tabs t)⟩, a.bb.trans b.bb, b.bh, fun x o e t n => by
    obtain ⟨u, h1, h2, h3⟩ := a.plain e t n
    exact (b.out x u h1 h2 h3).trans (a.out x o e t n)⟩
theorem same_new {p : Addr} {o : HO} (h : H p = none) : Same H (upd H p o) := fun b x e => by
  rw [upd_ne (ne_of_none e h)]
  exact e
theorem same_upd2 {p : Addr} {o : HO} (h : Cln B H) (n : H p = none) (hp : ∀ ps, o ≠ .tbl ps) (hm : NoMk (some o)) : Cln (upd B p o) (upd H p o) := by
  refine ⟨fun b x e m => ?_, fun b i j e => ?_, fun b ps e => ?_⟩
  · by_cases q : b = p
    · subst q
      rw [upd_same] at e
      rw [upd_same]
      exact e
    · rw [upd_ne q] at e
      rw [upd_ne q]
      exact h.s b x e m
  · by_cases q : b = p
    · subst q
      rw [upd_same] at e
      exact absurd e (hm i j)
    · rw [upd_ne q] at e
      rw [upd_ne q]
      exact h.v b i j e
  · by_cases q : b = p
    · subst q
      rw [upd_same] at e
      exact hp ps (Option.some.inj e)
    · rw [upd_ne q] at e
      exact h.n b ps e
theorem Ext.new {p : Addr} {o : HO} (h : Cln B H) (n : H p = none) (hp : ∀ ps, o ≠ .tbl ps := by exact fun _ z => nomatch z) (hm : NoMk (some o) := by exact fun _ _ z => nomatch z) : Ext T B H (upd B p o) (upd H p o) :=
  ⟨Same.grow (same_new n), same_new (h.free n), same_upd2 h n hp hm, fun a u e _ _ => upd_ne (ne_of_none e n)⟩
/-- own things: the heap alone grows -/
theorem Ext.side {p : Addr} {o : HO} (x : Ext T B H B1 H1) (n : H1 p = none) : Ext T B H B1 (upd H1 p o) :=
  x.trans ⟨Same.grow (same_new n), Same.refl _, x.bh.trans (same_new n), fun _ _ _ _ _ => rfl⟩
/-- an own thing joins the clean view -/
theorem Ext.join {p : Addr} {u : HO} (x : Ext T B H B1 H1) (h1 : H1 p = some u) (nB : B1 p = none) (n0 : H p = none) (hu : ∀ ps, u ≠ .tbl ps := by exact fun _ z => nomatch z) (hm : NoMk (some u) := by exact fun _ _ z => nomatch z) : Ext T B H (upd B1 p u) H1 := by
  refine ⟨x.hh, x.bb.trans (same_new nB), ⟨fun b o e m => ?_, fun b i j e => ?_, fun b ps e => ?_⟩, fun b o e nt nn => ?_⟩
  · by_cases z : b = p
    · subst z; rw [upd_same] at e; cases e; exact h1
    · rw [upd_ne z] at e; exact x.bh.s b o e m
  · by_cases z : b = p
    · subst z; rw [upd_same] at e; exact absurd e (hm i j)
    · rw [upd_ne z] at e; exact x.bh.v b i j e
  · by_cases z : b = p
    · subst z; rw [upd_same] at e; exact hu ps (Option.some.inj e)
    · rw [upd_ne z] at e; exact x.bh.n b ps e
  · rw [upd_ne (ne_of_none e n0)]
    exact x.out b o e nt nn
/-- a marked thing changes -/
theorem Ext.vol {p : Addr} {i j : Int} {u : HO} (c : Cln B H) (h : B p = some (.rng i j)) (hu : VolOk i u) : Ext T B H B (upd H p u) := by
  obtain ⟨o, h1, h2⟩ := c.v p i j h
  refine ⟨⟨fun a x e _ m => ?_, fun b e => ?_, fun t => tabs_upd h1 h2.plain t⟩, Same.refl _, ⟨fun a x e m => ?_, fun a k l e => ?_, c.n⟩, fun _ _ _ _ _ => rfl⟩
  · have : a ≠ p := fun z => m i j (by rw [z]; exact h)
    rw [upd_ne this]; exact e
  · by_cases z : b = p
    · subst z; rw [upd_same] at e; cases e
    · rw [upd_ne z] at e; exact e
  · have : a ≠ p := fun z => m i j (by rw [← e, z]; exact h)
    rw [upd_ne this]; exact c.s a x e m
  · by_cases z : a = p
    · subst z
      rw [h] at e
      cases e
      exact ⟨u, upd_same, hu⟩
    · rw [upd_ne z]; exact c.v a k l e
/-- a new marked thing -/
theorem Ext.newVol {p : Addr} {i j : Int} {u : HO} (c : Cln B H) (n : H p = none) (hu : VolOk i u) : Ext T B H (upd B p (.rng i j)) (upd H p u) := by
  refine ⟨Same.grow (same_new n), same_new (c.free n), ⟨fun a x e m => ?_, fun a k l e => ?_, fun a ps e => ?_⟩, fun a u e _ _ => upd_ne (ne_of_none e n)⟩
  · by_cases z : a = p
    · subst z; rw [upd_same] at e; cases e; exact absurd rfl (m i j)
    · rw [upd_ne z] at e; rw [upd_ne z]; exact c.s a x e m
  · by_cases z : a = p
    · subst z; rw [upd_same] at e; cases e; exact ⟨u, upd_same, hu⟩
    · rw [upd_ne z] at e; rw [upd_ne z]; exact c.v a k l e
  · by_cases z : a = p
    · subst z; rw [upd_same] at e; cases e
    · rw [upd_ne z] at e; exact c.n a ps e
end

/-- the heap at the entry, as the body sees it; the object that the body makes -/
structure HG where
  h : Hp
  self : Addr
instance : CoeFun HG (fun _ => Addr → Option HO) := ⟨HG.h⟩
/-- what a slot holds: nothing that is known; data; an own list or dict that is changed -/
inductive SV where
  | un | val (d : D) | own (ds : List D) | ownT (ks : List (List Key)) (ds : List D) | ownK (ks : List Key) (ds : List D) | ownO (c : Nat) (ns : List Str) (ds : List D) | exc (c : Nat) (d : D)
abbrev Rho := List SV
def SV.owned : SV → Bool
  | .own _ => true
  | .ownT _ _ => true
  | .ownK _ _ => true
  | .ownO _ _ _ => true
  | _ => false
section
variable (K : PySem.W.Frag) (cl : Cl) (H0 : HG) (B H : Hp)
def SlotOk (o : Option (Option V)) : SV → Prop
  | .un => True
  | .val d => ∃ v, o = some (some v) ∧ Rep K cl B v d
  | .own ds => ∃ a xs, o = some (some (.ref a)) ∧ H a = some (.lst xs) ∧ B a = none ∧ H0 a = none ∧ Reps K cl B xs ds
  | .ownT ks ds => ∃ a kvs, o = some (some (.ref a)) ∧ H a = some (.dT kvs) ∧ B a = none ∧ H0 a = none ∧ kvs.map (·.1) = ks ∧ Reps K cl B (kvs.map (·.2)) ds
  | .ownK ks ds => ∃ a kvs, o = some (some (.ref a)) ∧ H a = some (.dK kvs) ∧ B a = none ∧ H0 a = none ∧ kvs.map (·.1) = ks ∧ Reps K cl B (kvs.map (·.2)) ds
  | .ownO c ns ds => ∃ a dx fs, (o = some (some (.ref a)) ∧ a = H0.self) ∧ H a = some (.ins (cl c) dx fs) ∧ B a = none ∧ H0 a = none ∧ fs.map (·.1) = ns ∧ Reps K cl B (fs.map (·.2)) ds
  | .exc c d => ∃ a dx v, o = some (some (.ref a)) ∧ cl.exc = some a ∧ B dx = some (.xd [("given", v)]) ∧ Rep K cl B v d
structure Slots (σ : L2.St) (ρ : Rho) : Prop where
  len : σ.length = ρ.length
  at_ : ∀ (i : Nat) (s : SV), ρ[i]? = some s → SlotOk K cl H0 B H σ[i]? s
  inj : ∀ (i j : Nat) (s t : SV) (a : Addr), ρ[i]? = some s → ρ[j]? = some t → s.owned = true → t.owned = true → σ[i]? = some (some (.ref a)) → σ[j]? = some (some (.ref a)) → i = j
  tabs : LamX.Tabs cl.tabs H
end
section
variable {K : PySem.W.Frag} {cl : Cl} {H0 : HG} {B H B' H' : Hp} {σ : L2.St} {ρ : Rho}
theorem SlotOk.ext {o : Option (Option V)} {s : SV} (e : Ext cl.tabs B H B' H') (h : SlotOk K cl H0 B H o s) : SlotOk K cl H0 B' H' o s := by
  cases s with
  | un => trivial
  | val d => obtain ⟨v, h1, h2⟩ := h; exact ⟨v, h1, h2.mono e.bb⟩
  | own ds => obtain ⟨a, xs, h1, h2, h3, h4, h5⟩ := h; exact ⟨a, xs, h1, e.get h2 h3, (e.out _ _ h2 (fun _ z => nomatch z) (fun _ z => nomatch z)).trans h3, h4, h5.mono e.bb⟩
  | ownT ks ds => obtain ⟨a, xs, h1, h2, h3, h4, h5, h6⟩ := h; exact ⟨a, xs, h1, e.get h2 h3, (e.out _ _ h2 (fun _ z => nomatch z) (fun _ z => nomatch z)).trans h3, h4, h5, h6.mono e.bb⟩
  | ownK ks ds => obtain ⟨a, xs, h1, h2, h3, h4, h5, h6⟩ := h; exact ⟨a, xs, h1, e.get h2 h3, (e.out _ _ h2 (fun _ z => nomatch z) (fun _ z => nomatch z)).trans h3, h4, h5, h6.mono e.bb⟩
  | ownO c ns ds => obtain ⟨a, dx, xs, h1, h2, h3, h4, h5, h6⟩ := h; exact ⟨a, dx, xs, h1, e.get h2 h3, (e.out _ _ h2 (fun _ z => nomatch z) (fun _ z => nomatch z)).trans h3, h4, h5, h6.mono e.bb⟩
  | exc c d => obtain ⟨a, dx, v, h1, h2, h3, h4⟩ := h; exact ⟨a, dx, v, h1, h2, e.bb _ _ h3, h4.mono e.bb⟩
theorem Slots.ext (e : Ext cl.tabs B H B' H') (h : Slots K cl H0 B H σ ρ) : Slots K cl H0 B' H' σ ρ :=
  ⟨h.len, fun i s q => (h.at_ i s q).ext e, h.inj, e.hh.tabs h.tabs⟩
end

/-! ### expressions -/
/-- the expression makes g of the slots' data -/
def tD (K : PySem.W.Frag) (cl : Cl) (g : Rho → Option D) : TE := fun σ H Q => ∃ H0 B ρ d, Cln B H ∧ Slots K cl H0 B H σ ρ ∧ g ρ = some d ∧ ∀ B' H' v, Ext cl.tabs B H B' H' → Rep K cl B' v d → Q v H'
def tDT (K : PySem.W.Frag) (cl : Cl) (g : Rho → Option Bool) : TT := fun σ H Q => ∃ H0 B ρ d, Cln B H ∧ Slots K cl H0 B H σ ρ ∧ g ρ = some d ∧ ∀ B' H', Ext cl.tabs B H B' H' → Q d H'
def tDs (K : PySem.W.Frag) (cl : Cl) (g : Rho → Option (List D)) : TA := fun σ H Q => ∃ H0 B ρ ds, Cln B H ∧ Slots K cl H0 B H σ ρ ∧ g ρ = some ds ∧ ∀ B' H' vs, Ext cl.tabs B H B' H' → Reps K cl B' vs ds → Q vs H'
/-- a list or tuple that is read, also an own list -/
def tSq (K : PySem.W.Frag) (cl : Cl) (g : Rho → Option (List D)) : TE := fun σ H Q => ∃ H0 B ρ ds, Cln B H ∧ Slots K cl H0 B H σ ρ ∧ g ρ = some ds ∧ ∀ B' H' a xs, Ext cl.tabs B H B' H' → H' a = some (.lst xs) → NoMk (B' a) → Reps K cl B' xs ds → Q (.ref a) H'
section
variable {X : Cx} {cl : Cl}
theorem pe_mono {e : Expr} {t t' : TE} (h : PE X e t) (m : ∀ σ H Q, t' σ H Q → t σ H Q) : PE X e t' := ⟨fun pins s σ H Q I w => h.run pins s σ H Q I (m σ H Q w)⟩
theorem pt_mono {e : Expr} {t t' : TT} (h : PT X e t) (m : ∀ σ H Q, t' σ H Q → t σ H Q) : PT X e t' := ⟨fun pins s σ H Q I w => h.run pins s σ H Q I (m σ H Q w)⟩
theorem pw_mono {e : Expr} {t t' : TT} (h : PW X e t) (m : ∀ σ H Q, t' σ H Q → t σ H Q) : PW X e t' := ⟨fun wh pins s σ H Q I w => h.run wh pins s σ H Q I (m σ H Q w)⟩
theorem pa_mono {es : List Expr} {t t' : TA} (h : PA X es t) (m : ∀ σ H Q, t' σ H Q → t σ H Q) : PA X es t' := ⟨fun pos pins s σ H Q I w => h.run pos pins s σ H Q I (m σ H Q w)⟩
theorem ps_mono {st : Stmt} {t t' : TS} (h : PS X st t) (m : ∀ E σ H, t' E σ H → t E σ H) : PS X st t' := ⟨fun pins s σ H E I w => h.run pins s σ H E I (m E σ H w)⟩
theorem pss_mono {st : List Stmt} {t t' : TS} (h : PSs X st t) (m : ∀ E σ H, t' E σ H → t E σ H) : PSs X st t' := ⟨fun pins s σ H E I w => h.run pins s σ H E I (m E σ H w)⟩

def gVar (i : Nat) : Rho → Option D := fun ρ => match ρ[i]? with | some (.val d) => some d | _ => none
def gSqVar (i : Nat) : Rho → Option (List D) := fun ρ => match ρ[i]? with | some (.own ds) => some ds | some (.val (.lst ds)) => some ds | _ => none
theorem d_var {i : Nat} {e : Expr} (h : PE X e (tVar i)) : PE X e (tD X.K cl (gVar i)) := pe_mono h fun σ H Q ⟨H0, B, ρ, d, hB, hs, hg, q⟩ => by
  unfold gVar at hg
  cases e : ρ[i]? with
  | none => rw [e] at hg; cases hg
  | some s =>
    rw [e] at hg
    cases s with
    | val d' =>
      cases hg
      obtain ⟨v, h1, h2⟩ := hs.at_ i _ e
      exact ⟨v, h1, q B H v (Ext.refl hB) h2⟩
    | _ => cases hg
theorem d_sqvar {i : Nat} {e : Expr} (h : PE X e (tVar i)) : PE X e (tSq X.K cl (gSqVar i)) := pe_mono h fun σ H Q ⟨H0, B, ρ, d, hB, hs, hg, q⟩ => by
  unfold gSqVar at hg
  cases e : ρ[i]? with
  | none => rw [e] at hg; cases hg
  | some s =>
    rw [e] at hg
    cases s with
    | own ds =>
      cases hg
      obtain ⟨a, xs, h1, h2, h3, h4, h5⟩ := hs.at_ i _ e
      exact ⟨.ref a, h1, q B H a xs (Ext.refl hB) h2 (by rw [h3]; exact noMk_none) h5⟩
    | val d' =>
      cases d' with
      | lst ds =>
        cases hg
        obtain ⟨v, h1, h2⟩ := hs.at_ i _ e
        cases h2 with
        | lst h3 h4 => exact ⟨_, h1, q B H _ _ (Ext.refl hB) (hB _ _ h3) (by rw [h3]; exact fun _ _ z => nomatch z) h4⟩
      | _ => cases hg
    | _ => cases hg
def gSqOf (g : Rho → Option D) : Rho → Option (List D) := fun ρ => match g ρ with | some (.lst ds) => some ds | _ => none
theorem d_sqof {e : Expr} {g : Rho → Option D} (h : PE X e (tD X.K cl g)) : PE X e (tSq X.K cl (gSqOf g)) := pe_mono h fun σ H Q ⟨H0, B, ρ, ds, hB, hs, hg, q⟩ => by
  unfold gSqOf at hg
  split at hg
  · rename_i ds' e
    cases hg
    refine ⟨H0, B, ρ, _, hB, hs, e, fun B' H' v x r => ?_⟩
    cases r with
    | lst h3 h4 => exact q B' H' _ _ x (x.bh _ _ h3) (by rw [h3]; exact fun _ _ z => nomatch z) h4
  · cases hg
def gC (d : D) : Rho → Option D := fun _ => some d
theorem d_const {e : Expr} {v : V} {d : D} (h : PE X e (tC v)) (r : ∀ B, Rep X.K cl B v d) : PE X e (tD X.K cl (gC d)) := pe_mono h fun σ H Q ⟨H0, B, ρ, d', hB, hs, hg, q⟩ => by
  cases hg
  exact q B H v (Ext.refl hB) (r B)
theorem d_int {i j pos} : PE X (.Constant (.int i) j pos) (tD X.K cl (gC (.int i))) := d_const pe_int fun _ => .int _
theorem d_bl {b j pos} : PE X (.Constant (.bool b) j pos) (tD X.K cl (gC (.bl b))) := d_const pe_bl fun _ => .bl _
theorem d_non {j pos} : PE X (.Constant .none j pos) (tD X.K cl (gC .non)) := d_const pe_non fun _ => .non
theorem d_str {x j pos} : PE X (.Constant (.str x) j pos) (tD X.K cl (gC (.str x))) := d_const pe_str fun _ => .str _
/-! arguments -/
def gNil : Rho → Option (List D) := fun _ => some []
def gCons (g : Rho → Option D) (r : Rho → Option (List D)) : Rho → Option (List D) := fun ρ => (g ρ).bind fun d => (r ρ).bind fun ds => some (d :: ds)
theorem da_nil : PA X [] (tDs X.K cl gNil) := pa_mono pa_nil fun σ H Q ⟨H0, B, ρ, d', hB, hs, hg, q⟩ => by
  cases hg
  exact q B H [] (Ext.refl hB) .nil
/-- two expressions in a row -/
theorem tD_two {f g : Rho → Option D} {σ : L2.St} {H : Hp} {H0 : HG} {B : Hp} {ρ : Rho} {a b : D} {R : V → V → Hp → Prop} {K : PySem.W.Frag} (hB : Cln B H) (hs : Slots K cl H0 B H σ ρ) (ha : f ρ = some a) (hb : g ρ = some b)
    (q : ∀ B' H' v u, Ext cl.tabs B H B' H' → Rep K cl B' v a → Rep K cl B' u b → R v u H') : tD K cl f σ H fun x H1 => tD K cl g σ H1 fun y H2 => R x y H2 :=
  ⟨H0, B, ρ, a, hB, hs, ha, fun B1 H1 v x1 r1 => ⟨H0, B1, ρ, b, x1.bh, hs.ext x1, hb, fun B2 H2 u x2 r2 => q B2 H2 v u (x1.trans x2) (r1.mono x2.bb) r2⟩⟩
theorem da_cons {e : Expr} {es : List Expr} {g : Rho → Option D} {r : Rho → Option (List D)} (h : PE X e (tD X.K cl g)) (hr : PA X es (tDs X.K cl r)) (hst : starEach (e :: es) X.env = (false, eval e X.env) :: starEach es X.env := by rfl) : PA X (e :: es) (tDs X.K cl (gCons g r)) := pa_mono (pa_cons h hr hst) fun σ H Q ⟨H0, B, ρ, d', hB, hs, hg, q⟩ => by
  unfold gCons at hg
  cases e1 : g ρ with
  | none => rw [e1] at hg; cases hg
  | some d =>
    rw [e1] at hg
    cases e2 : r ρ with
    | none => rw [e2] at hg; cases hg
    | some ds =>
      rw [e2] at hg
      cases hg
      exact ⟨H0, B, ρ, d, hB, hs, e1, fun B1 H1 v x1 r1 => ⟨H0, B1, ρ, ds, x1.bh, hs.ext x1, e2, fun B2 H2 us x2 r2 => q B2 H2 (v :: us) (x1.trans x2) (.cons (r1.mono x2.bb) r2)⟩⟩
end
end Dl
set_option maxRecDepth 100000
set_option maxHeartbeats 4000000
namespace Dl
open PySem PySem.Spec PyProof.Rows L2

mutual
def D.py : D → PyData
  | .non => .none
  | .bl b => .bool b
  | .int i => .int i
  | .str x => .str x
  | .lst xs => .list (D.pys xs)
  | .tup xs => .tuple (D.pys xs)
  | .obj _ _ _ => .none
  | .dT _ _ => .none
  | .dK _ _ => .none
  | .vol _ => .none
  | .scr => .none
def D.pys : List D → List PyData
  | [] => []
  | d :: ds => d.py :: D.pys ds
end
mutual
/-- plain data, at most n deep -/
def D.ok : Nat → D → Bool
  | _, .non => true
  | _, .bl _ => true
  | _, .int _ => true
  | _, .str x => PyData.strOk x
  | 0, _ => false
  | n + 1, .lst xs => D.oks n xs
  | n + 1, .tup xs => D.oks n xs
  | _ + 1, .obj _ _ _ => false
  | _ + 1, .dT _ _ => false
  | _ + 1, .dK _ _ => false
  | _ + 1, .vol _ => false
  | _ + 1, .scr => false
def D.oks : Nat → List D → Bool
  | _, [] => true
  | n, d :: ds => D.ok n d && D.oks n ds
end
theorem pys_map : ∀ ds : List D, D.pys ds = ds.map D.py
  | [] => by unfold D.pys; rfl
  | d :: ds => by unfold D.pys; rw [List.map_cons, pys_map ds]
section
variable {K : PySem.W.Frag} {cl : Cl} {B H : Hp}
mutual
theorem Rep.dp (hB : Cln B H) {v : V} {d : D} (n : Nat) (h : Rep K cl B v d) (k : D.ok n d = true) : Dp K H v d.py := by
  cases h with
  | non => exact .non
  | bl b => exact .bl b
  | int i => exact .int i
  | str x => exact .str x
  | lst q r =>
    cases n with
    | zero => simp [D.ok] at k
    | succ n => unfold D.py; exact .lst (SqL.of (hB _ _ q)) (Reps.dp hB n r (by simpa [D.ok] using k))
  | tup q r =>
    cases n with
    | zero => simp [D.ok] at k
    | succ n => unfold D.py; exact .tup (SqT.of (hB _ _ q)) (Reps.dp hB n r (by simpa [D.ok] using k))
  | obj q a r => cases n <;> simp [D.ok] at k
  | dT q a r => cases n <;> simp [D.ok] at k
  | dK q a r => cases n <;> simp [D.ok] at k
  | vol q => cases n <;> simp [D.ok] at k
  | scr q => cases n <;> simp [D.ok] at k
theorem Reps.dp (hB : Cln B H) {vs : List V} {ds : List D} (n : Nat) (h : Reps K cl B vs ds) (k : D.oks n ds = true) : DpAll K H vs (D.pys ds) := by
  cases h with
  | nil => unfold D.pys; exact .nil
  | cons a b =>
    rw [D.oks, Bool.and_eq_true] at k
    have k' := k
    unfold D.pys
    exact .cons (Rep.dp hB n a k'.1) (Reps.dp hB n b k'.2)
end
end
mutual
theorem ok_shape : ∀ (n : Nat) (d : D), D.ok n d = true → d.py.canLay0 = true ∧ d.py.depth ≤ n
  | n, .non, _ => by simp [D.py, PyData.canLay0, PyData.depth]
  | n, .bl _, _ => by simp [D.py, PyData.canLay0, PyData.depth]
  | n, .int _, _ => by simp [D.py, PyData.canLay0, PyData.depth]
  | n, .str x, h => by
    have h' : PyData.strOk x = true := by cases n <;> simpa [D.ok] using h
    simp [D.py, PyData.canLay0, PyData.depth, h']
  | 0, .lst _, h => by simp [D.ok] at h
  | 0, .tup _, h => by simp [D.ok] at h
  | 0, .obj _ _ _, h => by simp [D.ok] at h
  | 0, .dT _ _, h => by simp [D.ok] at h
  | 0, .dK _ _, h => by simp [D.ok] at h
  | 0, .vol _, h => by simp [D.ok] at h
  | 0, .scr, h => by simp [D.ok] at h
  | n + 1, .lst xs, h => by
    have z := oks_shape n xs (by simpa [D.ok] using h)
    simp only [D.py, PyData.canLay0, PyData.depth]
    exact ⟨z.1, by omega⟩
  | n + 1, .tup xs, h => by
    have z := oks_shape n xs (by simpa [D.ok] using h)
    simp only [D.py, PyData.canLay0, PyData.depth]
    exact ⟨z.1, by omega⟩
  | n + 1, .obj _ _ _, h => by simp [D.ok] at h
  | n + 1, .dT _ _, h => by simp [D.ok] at h
  | n + 1, .dK _ _, h => by simp [D.ok] at h
  | n + 1, .vol _, h => by simp [D.ok] at h
  | n + 1, .scr, h => by simp [D.ok] at h
theorem oks_shape : ∀ (n : Nat) (ds : List D), D.oks n ds = true → PyData.canLayAll0 (D.pys ds) = true ∧ PyData.depthAll (D.pys ds) ≤ n
  | n, [], _ => by simp [D.pys, PyData.canLayAll0, PyData.depthAll]
  | n, d :: ds, h => by
    have h' : D.ok n d = true ∧ D.oks n ds = true := by simpa [D.oks, Bool.and_eq_true] using h
    have a := ok_shape n d h'.1
    have b := oks_shape n ds h'.2
    simp only [D.pys, PyData.canLayAll0, PyData.depthAll, Bool.and_eq_true]
    exact ⟨⟨a.1, b.1⟩, by omega⟩
end
theorem ok_shaped {n : Nat} {d : D} (h : D.ok n d = true) (hn : n ≤ 64 := by decide) : SeqAt.shaped d.py = true := by
  have z := ok_shape n d h
  unfold SeqAt.shaped
  rw [Bool.and_eq_true]
  exact ⟨z.1, decide_eq_true (Nat.le_trans z.2 hn)⟩

/-! ### two-place operations -/
def OpDD (K : PySem.W.Frag) (cl : Cl) (r : R2) (f : D → D → Option D) : Prop := ∀ (B H : Hp) (v u : V) (a b c : D) (Q : VK), Cln B H → Rep K cl B v a → Rep K cl B u b → f a b = some c → (∀ B' H' w, Ext cl.tabs B H B' H' → Rep K cl B' w c → Q w H') → r v u H Q
def gBin (f : D → D → Option D) (g h : Rho → Option D) : Rho → Option D := fun ρ => (g ρ).bind fun a => (h ρ).bind fun b => f a b
section
variable {X : Cx} {cl : Cl} {e a b : Expr} {pos : Pos} {g h : Rho → Option D} {r s : R2} {f : D → D → Option D}
theorem d_bin (hp : PE X e (tOp r (tD X.K cl g) (tD X.K cl h))) (k : OpDD X.K cl r f) : PE X e (tD X.K cl (gBin f g h)) := pe_mono hp fun σ H Q ⟨H0, B, ρ, c, hB, hs, hg, q⟩ => by
  unfold gBin at hg
  cases e1 : g ρ with
  | none => rw [e1] at hg; cases hg
  | some x =>
    cases e2 : h ρ with
    | none => rw [e1, e2] at hg; cases hg
    | some y =>
      rw [e1, e2] at hg
      exact tD_two hB hs e1 e2 fun B' H' v u xx r1 r2 => k B' H' v u x y c Q xx.bh r1 r2 hg fun B2 H2 w x2 r3 => q B2 H2 w (xx.trans x2) r3
def rOr (r s : R2) : R2 := fun x y H Q => r x y H Q ∨ s x y H Q
theorem op_or {fn : Value → Value → Sem Value} (h1 : OpR X fn r) (h2 : OpR X fn s) : OpR X fn (rOr r s) := by
  intro pins st σ H x y v u Q I rx ry h
  rcases h with h | h
  · exact h1 pins st σ H x y v u Q I rx ry h
  · exact h2 pins st σ H x y v u Q I rx ry h
end
/-- the largest length that is used -/
def top : Nat := 100000
theorem top_le {n : Nat} (h : n ≤ top) : n ≤ sizeLine := Nat.le_trans h (by decide)
theorem top_lt {n : Nat} (h : n ≤ top) : n < sizeLine := Nat.lt_of_le_of_lt h (by decide)
def fAdd : D → D → Option D
  | .int i, .int j => some (.int (i + j))
  | .lst xs, .lst ys => if xs.length + ys.length ≤ top then some (.lst (xs ++ ys)) else none
  | .tup xs, .tup ys => if xs.length + ys.length ≤ top then some (.tup (xs ++ ys)) else none
  | _, _ => none
def fSub : D → D → Option D
  | .int i, .int j => some (.int (i - j))
  | _, _ => none
def fMul : D → D → Option D
  | .int i, .int j => if i.natAbs < 18446744073709551616 then some (.int (i * j)) else none
  | _, _ => none
def fFdiv : D → D → Option D
  | .int i, .int j => if 0 < j ∧ j < 1073741824 then some (.int (i.fdiv j)) else none
  | _, _ => none
def fMod : D → D → Option D
  | .int i, .int j => if 0 < j then some (.int (i.fmod j)) else none
  | _, _ => none
section
variable {X : Cx} {cl : Cl} {K : PySem.W.Frag}
theorem dd_add : OpDD K cl (rOr (rI0 fun i j => .int (i + j)) (rOr rCat (rCatA K))) fAdd := fun B H v u a b c Q hB ra rb hf q => by
  cases ra with
  | int i =>
    cases rb with
    | int j => cases hf; exact .inl ⟨i, j, rfl, rfl, q B H _ (Ext.refl hB) (.int _)⟩
    | _ => cases hf
  | lst h1 h2 =>
    cases rb with
    | lst h3 h4 =>
      simp only [fAdd] at hf
      split at hf
      · rename_i hz
        cases hf
        rw [← h2.len, ← h4.len] at hz
        refine .inr (.inl ⟨_, _, _, _, rfl, rfl, hB _ _ h1, hB _ _ h3, top_le hz, fun p np => ?_⟩)
        exact q _ _ _ (Ext.new hB np) (.lst upd_same ((h2.append h4).mono (same_new (hB.free np))))
      · cases hf
    | _ => cases hf
  | tup h1 h2 =>
    cases rb with
    | tup h3 h4 =>
      simp only [fAdd] at hf
      split at hf
      · rename_i hz
        cases hf
        rw [← h2.len, ← h4.len] at hz
        refine .inr (.inr ⟨_, _, _, _, rfl, rfl, SqT.of (hB _ _ h1), SqT.of (hB _ _ h3), top_le hz, fun e => ?_, fun e1 e2 => ?_, fun e1 e2 p np => ?_⟩)
        · subst e
          cases h2
          exact q _ _ _ (Ext.refl hB) (.tup h3 h4)
        · subst e2
          cases h4
          rw [List.append_nil] at q
          exact q _ _ _ (Ext.refl hB) (.tup h1 h2)
        · exact q _ _ _ (Ext.new hB np) (.tup upd_same ((h2.append h4).mono (same_new (hB.free np))))
      · cases hf
    | _ => cases hf
  | _ => cases hf
theorem dd_int {C : Int → Int → Prop} {g : Int → Int → V} {f : D → D → Option D} (h : ∀ a b c, f a b = some c → ∃ i j, a = .int i ∧ b = .int j ∧ C i j ∧ ∀ B, Rep K cl B (g i j) c) : OpDD K cl (rI C g) f := fun B H v u a b c Q hB ra rb hf q => by
  obtain ⟨i, j, rfl, rfl, hc, r⟩ := h a b c hf
  cases ra
  cases rb
  exact ⟨i, j, rfl, rfl, hc, q B H _ (Ext.refl hB) (r B)⟩
theorem dd_int0 {g : Int → Int → V} {f : D → D → Option D} (h : ∀ a b c, f a b = some c → ∃ i j, a = .int i ∧ b = .int j ∧ ∀ B, Rep K cl B (g i j) c) : OpDD K cl (rI0 g) f := fun B H v u a b c Q hB ra rb hf q => by
  obtain ⟨i, j, rfl, rfl, r⟩ := h a b c hf
  cases ra
  cases rb
  exact ⟨i, j, rfl, rfl, q B H _ (Ext.refl hB) (r B)⟩
theorem dd_sub : OpDD K cl (rI0 fun i j => .int (i - j)) fSub := dd_int0 fun a b c h => by
  cases a <;> cases b <;> simp only [fSub] at h <;> cases h
  exact ⟨_, _, rfl, rfl, fun B => .int _⟩
theorem dd_mul : OpDD K cl (rI CMul fun i j => .int (i * j)) fMul := dd_int fun a b c h => by
  cases a <;> cases b <;> simp only [fMul] at h <;> try cases h
  split at h
  · rename_i i j hz
    cases h
    exact ⟨_, _, rfl, rfl, .inl ⟨by omega, by omega⟩, fun B => .int _⟩
  · cases h
theorem dd_fdiv : OpDD K cl (rI CDivN fun i j => .int (i.fdiv j)) fFdiv := dd_int fun a b c h => by
  cases a <;> cases b <;> simp only [fFdiv] at h <;> try cases h
  split at h
  · rename_i i j hz
    cases h
    exact ⟨_, _, rfl, rfl, ⟨by omega, by omega⟩, fun B => .int _⟩
  · cases h
theorem dd_mod : OpDD K cl (rI (fun _ j => j ≠ 0) fun i j => .int (i.fmod j)) fMod := dd_int fun a b c h => by
  cases a <;> cases b <;> simp only [fMod] at h <;> try cases h
  split at h
  · rename_i i j hz
    cases h
    exact ⟨_, _, rfl, rfl, by omega, fun B => .int _⟩
  · cases h
end
/-! ### comparisons -/
def D.toV : D → V
  | .non => .non
  | .bl b => .bl b
  | .int i => .int i
  | .str x => .str x
  | _ => .ref 0
def D.flat : D → Bool
  | .non => true
  | .bl _ => true
  | .int _ => true
  | .str _ => true
  | _ => false
/-- == of data: numbers, texts at once, the rest by the library's own -/
def D.eqv (a b : D) : Bool := match a, b with
  | .int i, .int j => i == j
  | a, b => PyData.eqv a.py b.py
def fEqB (a b : D) : Option Bool := match a, b with
  | .int i, .int j => some (i == j)
  | .str x, .str y => some (decide (x = y))
  | a, b => if D.ok 8 a = true ∧ D.ok 8 b = true then some (PyData.eqv a.py b.py) else none
def fEq (a b : D) : Option D := (fEqB a b).map D.bl
def fNe (a b : D) : Option D := (fEqB a b).map fun k => D.bl (!k)
def fCmp (p : Int → Int → Bool) : D → D → Option D
  | .int i, .int j => some (.bl (p i j))
  | _, _ => none
section
variable {X : Cx} {cl : Cl} {K : PySem.W.Frag}
theorem fEqB_dp {B H : Hp} (hB : Cln B H) {v u : V} {a b : D} {k : Bool} (ra : Rep K cl B v a) (rb : Rep K cl B u b) (h : fEqB a b = some k) :
    (∃ d e, Dp K H v d ∧ Dp K H u e ∧ SeqAt.shaped d = true ∧ SeqAt.shaped e = true ∧ PyData.eqv d e = k) ∨ (scal v u = true ∧ decide (v = u) = k) := by
  unfold fEqB at h
  split at h
  · cases h
    cases ra
    cases rb
    exact .inl ⟨_, _, .int _, .int _, rfl, rfl, by simp [PyData.eqv]⟩
  · cases h
    cases ra
    cases rb
    exact .inr ⟨rfl, by simp⟩
  · split at h
    · rename_i hz
      cases h
      exact .inl ⟨_, _, ra.dp hB 8 hz.1, rb.dp hB 8 hz.2, ok_shaped hz.1, ok_shaped hz.2, rfl⟩
    · cases h
theorem dd_eq : OpDD K cl (rOr (rEqD K) rEq) fEq := fun B H v u a b c Q hB ra rb hf q => by
  unfold fEq at hf
  cases e : fEqB a b with
  | none => rw [e] at hf; cases hf
  | some k =>
    rw [e] at hf
    cases hf
    rcases fEqB_dp hB ra rb e with ⟨d, d', h1, h2, h3, h4, h5⟩ | ⟨h1, h2⟩
    · exact .inl ⟨d, d', h1, h2, h3, h4, q B H _ (Ext.refl hB) (by rw [h5]; exact .bl _)⟩
    · exact .inr ⟨h1, q B H _ (Ext.refl hB) (by rw [h2]; exact .bl _)⟩
theorem dd_ne : OpDD K cl (rOr (rNeD K) rNe) fNe := fun B H v u a b c Q hB ra rb hf q => by
  unfold fNe at hf
  cases e : fEqB a b with
  | none => rw [e] at hf; cases hf
  | some k =>
    rw [e] at hf
    cases hf
    rcases fEqB_dp hB ra rb e with ⟨d, d', h1, h2, h3, h4, h5⟩ | ⟨h1, h2⟩
    · exact .inl ⟨d, d', h1, h2, h3, h4, q B H _ (Ext.refl hB) (by rw [h5]; exact .bl _)⟩
    · exact .inr ⟨h1, q B H _ (Ext.refl hB) (by rw [h2]; exact .bl _)⟩
theorem dd_cmp {p : Int → Int → Bool} : OpDD K cl (rI0 fun i j => .bl (p i j)) (fCmp p) := dd_int0 fun a b c h => by
  cases a <;> cases b <;> simp only [fCmp] at h <;> cases h
  exact ⟨_, _, rfl, rfl, fun B => .bl _⟩
theorem flat_toV {B : Hp} {v : V} {d : D} (r : Rep K cl B v d) (f : d.flat = true) : v = d.toV ∧ flatV v = true := by
  cases r <;> first | exact ⟨rfl, rfl⟩ | (simp [D.flat] at f)
theorem flats_toV {B : Hp} : ∀ {vs : List V} {ds : List D}, Reps K cl B vs ds → ds.all D.flat = true → vs = ds.map D.toV ∧ vs.all flatV = true
  | _, _, .nil, _ => ⟨rfl, rfl⟩
  | _, _, .cons (v := v) (vs := vs) (d := d) (ds := ds) r t, f => by
    rw [List.all_cons, Bool.and_eq_true] at f
    have a := flat_toV r f.1
    have b := flats_toV t f.2
    rw [List.map_cons, List.all_cons, a.2, b.2]
    exact ⟨by rw [← a.1, ← b.1], rfl⟩
end
/-- among natural numbers -/
def natIn (i : Nat) : List D → Option Bool
  | [] => some false
  | .int (.ofNat j) :: ys => match natIn i ys with
    | some b => some (Nat.beq j i || b)
    | none => none
  | _ :: _ => none
theorem natIn_spec {i : Nat} : ∀ {ys : List D} {b : Bool}, natIn i ys = some b → ys.all D.flat = true ∧ (ys.any fun y => eqV y.toV (.int (.ofNat i))) = b
  | [], b, h => by cases h; exact ⟨rfl, rfl⟩
  | y :: ys, b, h => by
    unfold natIn at h
    split at h
    · rename_i e
      cases e
    · rename_i j ys' e
      cases e
      split at h
      · rename_i b' e2
        cases h
        obtain ⟨h1, h2⟩ := natIn_spec e2
        refine ⟨by rw [List.all_cons, h1]; rfl, ?_⟩
        rw [List.any_cons, h2]
        congr 1
        show eqV (.int (.ofNat j)) (.int (.ofNat i)) = Nat.beq j i
        by_cases e : j = i
        · subst e; simp [eqV]
        · have : Nat.beq j i = false := by
            cases hb : Nat.beq j i with
            | false => rfl
            | true => exact absurd (Nat.eq_of_beq_eq_true hb) e
          rw [this]
          simp [eqV]
          omega
      · cases h
    · cases h
/-- x among the items -/
def inB0 (x : D) (ys : List D) : Option Bool :=
  if x.flat = true ∧ ys.all D.flat = true then some (ys.any fun y => eqV y.toV x.toV)
  else if D.ok 8 x = true ∧ D.oks 8 ys = true then some (ys.any fun y => PyData.eqv y.py x.py) else none
def quick (x : D) (ys : List D) : Option Bool := match x with
  | .int (.ofNat i) => natIn i ys
  | _ => none
theorem quick_spec {x : D} {ys : List D} {b : Bool} (h : quick x ys = some b) : x.flat = true ∧ ys.all D.flat = true ∧ (ys.any fun y => eqV y.toV x.toV) = b := by
  unfold quick at h
  split at h
  · obtain ⟨h1, h2⟩ := natIn_spec h
    exact ⟨rfl, h1, h2⟩
  · cases h
def inB (x : D) (ys : List D) : Option Bool := match quick x ys with
  | some b => some b
  | none => inB0 x ys
def inT (x : D) (ys : List D) : Option Bool := match quick x ys with
  | some b => some b
  | none => if x.flat = true ∧ ys.all D.flat = true then some (ys.any fun y => eqV y.toV x.toV) else none
theorem inT_spec {x : D} {ys : List D} {b : Bool} (h : inT x ys = some b) : x.flat = true ∧ ys.all D.flat = true ∧ (ys.any fun y => eqV y.toV x.toV) = b := by
  unfold inT at h
  split at h
  · rename_i e
    cases h
    exact quick_spec e
  · split at h
    · rename_i hz
      cases h
      exact ⟨hz.1, hz.2, rfl⟩
    · cases h
def fIn (neg : Bool) (x : D) : D → Option D
  | .lst ys => (inB x ys).map fun k => .bl (if neg then !k else k)
  | .tup ys => (inT x ys).map fun k => .bl (if neg then !k else k)
  | _ => none
section
variable {X : Cx} {cl : Cl} {K : PySem.W.Frag}
theorem inV_of {x : D} {ys : List D} : inV x.toV (ys.map D.toV) = ys.any fun y => eqV y.toV x.toV := by
  unfold inV
  rw [List.any_map]
  rfl
theorem pyany {x : PyData} : ∀ ds : List D, ((D.pys ds).any fun z => PyData.eqv z x) = ds.any fun y => PyData.eqv y.py x
  | [] => by unfold D.pys; rfl
  | d :: ds => by unfold D.pys; rw [List.any_cons, List.any_cons, pyany ds]
/-- in, over a list that is read -/
def rInL (K : PySem.W.Frag) : R2 := rOr (rIn K false) (rInD K)
def rNotInL (K : PySem.W.Frag) : R2 := rOr (rIn K true) (rNotInD K)
theorem in_list {B H : Hp} {v : V} {a : Addr} {xs : List V} {x : D} {ys : List D} {k : Bool} (hB : Cln B H) (rx : Rep K cl B v x) (hl : H a = some (.lst xs)) (ry : Reps K cl B xs ys) (h : inB x ys = some k) :
    (∀ Q : VK, Q (.bl k) H → rInL K v (.ref a) H Q) ∧ ∀ Q : VK, Q (.bl (!k)) H → rNotInL K v (.ref a) H Q := by
  have key : (x.flat = true ∧ ys.all D.flat = true ∧ (ys.any fun y => eqV y.toV x.toV) = k) ∨ inB0 x ys = some k := by
    unfold inB at h
    split at h
    · rename_i e
      cases h
      exact .inl (quick_spec e)
    · exact .inr h
  replace h : inB0 x ys = some k := by
    rcases key with ⟨z1, z2, z3⟩ | z
    · unfold inB0
      rw [if_pos ⟨z1, z2⟩, z3]
    · exact z
  unfold inB0 at h
  split at h
  · rename_i hz
    cases h
    obtain ⟨e1, f1⟩ := flat_toV rx hz.1
    obtain ⟨e2, f2⟩ := flats_toV ry hz.2
    refine ⟨fun Q q => .inl ⟨a, xs, rfl, .inl (SqL.of hl), f1, f2, ?_⟩, fun Q q => .inl ⟨a, xs, rfl, .inl (SqL.of hl), f1, f2, ?_⟩⟩
    · rw [e1, e2, inV_of]; exact q
    · rw [e1, e2, inV_of]; exact q
  · split at h
    · rename_i hz
      cases h
      have d1 := rx.dp hB 8 hz.1
      have d2 : Dp K H (.ref a) (.list (D.pys ys)) := .lst (SqL.of hl) (ry.dp hB 8 hz.2)
      have s2 : SeqAt.shaped (.list (D.pys ys)) = true := by
        have z := oks_shape 8 ys hz.2
        unfold SeqAt.shaped
        rw [Bool.and_eq_true]
        refine ⟨by simpa [PyData.canLay0] using z.1, decide_eq_true ?_⟩
        simp only [PyData.depth]
        omega
      refine ⟨fun Q q => .inr ⟨_, _, d1, d2, ok_shaped hz.1, s2, ?_⟩, fun Q q => .inr ⟨_, _, d1, d2, ok_shaped hz.1, s2, ?_⟩⟩
      · rw [pyany]; exact q
      · rw [pyany]; exact q
    · cases h
theorem dd_in : OpDD K cl (rInL K) (fIn false) := fun B H v u a b c Q hB ra rb hf q => by
  cases rb with
  | lst h1 h2 =>
    simp only [fIn] at hf
    cases e : inB a _ with
    | none => rw [e] at hf; cases hf
    | some k =>
      rw [e] at hf
      cases hf
      exact (in_list hB ra (hB _ _ h1) h2 e).1 Q (q B H _ (Ext.refl hB) (.bl _))
  | tup h1 h2 =>
    simp only [fIn] at hf
    cases e : inT a _ with
    | none => rw [e] at hf; cases hf
    | some k =>
      rw [e] at hf
      cases hf
      obtain ⟨z1, z2, z3⟩ := inT_spec e
      obtain ⟨e1, f1⟩ := flat_toV ra z1
      obtain ⟨e2, f2⟩ := flats_toV h2 z2
      refine .inl ⟨_, _, rfl, .inr (SqT.of (hB _ _ h1)), f1, f2, ?_⟩
      rw [e1, e2, inV_of, z3]
      exact q B H _ (Ext.refl hB) (.bl _)
  | _ => cases hf
theorem dd_notIn : OpDD K cl (rNotInL K) (fIn true) := fun B H v u a b c Q hB ra rb hf q => by
  cases rb with
  | lst h1 h2 =>
    simp only [fIn] at hf
    cases e : inB a _ with
    | none => rw [e] at hf; cases hf
    | some k =>
      rw [e] at hf
      cases hf
      exact (in_list hB ra (hB _ _ h1) h2 e).2 Q (q B H _ (Ext.refl hB) (.bl _))
  | tup h1 h2 =>
    simp only [fIn] at hf
    cases e : inT a _ with
    | none => rw [e] at hf; cases hf
    | some k =>
      rw [e] at hf
      cases hf
      obtain ⟨z1, z2, z3⟩ := inT_spec e
      obtain ⟨e1, f1⟩ := flat_toV ra z1
      obtain ⟨e2, f2⟩ := flats_toV h2 z2
      refine .inl ⟨_, _, rfl, .inr (SqT.of (hB _ _ h1)), f1, f2, ?_⟩
      rw [e1, e2, inV_of, z3]
      exact q B H _ (Ext.refl hB) (.bl _)
  | _ => cases hf
end
end Dl
set_option maxRecDepth 100000
set_option maxHeartbeats 4000000
namespace Dl
open PySem PySem.Spec PyProof.Rows L2
section
variable {X : Cx} {cl : Cl} {K : PySem.W.Frag} {e : Expr} {g h : Rho → Option D} {gs : Rho → Option (List D)}
/-! displays -/
def mkTup (ds : List D) : Option D := if ds.length ≤ top then some (.tup ds) else none
def mkLst (ds : List D) : Option D := if ds.length ≤ top then some (.lst ds) else none
def gDs (f : List D → Option D) (gs : Rho → Option (List D)) : Rho → Option D := fun ρ => (gs ρ).bind f
/-- a step from values to a value -/
def CaD (K : PySem.W.Frag) (cl : Cl) (r : List V → Hp → VK → Prop) (f : List D → Option D) : Prop := ∀ (B H : Hp) (vs : List V) (ds : List D) (c : D) (Q : VK), Cln B H → Reps K cl B vs ds → f ds = some c → (∀ B' H' w, Ext cl.tabs B H B' H' → Rep K cl B' w c → Q w H') → r vs H Q
theorem d_ds {r : List V → Hp → VK → Prop} {f : List D → Option D} (hp : PE X e (tCB r (tDs X.K cl gs))) (k : CaD X.K cl r f) : PE X e (tD X.K cl (gDs f gs)) := pe_mono hp fun σ H Q ⟨H0, B, ρ, c, hB, hs, hg, q⟩ => by
  unfold gDs at hg
  cases e1 : gs ρ with
  | none => rw [e1] at hg; cases hg
  | some ds =>
    rw [e1] at hg
    exact ⟨H0, B, ρ, ds, hB, hs, e1, fun B' H' vs x r => k B' H' vs ds c Q x.bh r hg fun B2 H2 w x2 r2 => q B2 H2 w (x.trans x2) r2⟩
theorem ca_tup : CaD K cl (fun xs H1 Q => xs.length ≤ sizeLine ∧ ∀ p, H1 p = none → Q (.ref p) (upd H1 p (.tup xs))) mkTup := fun B H vs ds c Q hB r hf q => by
  unfold mkTup at hf
  split at hf
  · rename_i hz
    cases hf
    rw [← r.len] at hz
    exact ⟨top_le hz, fun p np => q _ _ _ (Ext.new hB np) (.tup upd_same (r.mono (same_new (hB.free np))))⟩
  · cases hf
theorem ca_lst : CaD K cl (fun xs H1 Q => xs.length ≤ sizeLine ∧ ∀ p, H1 p = none → Q (.ref p) (upd H1 p (.lst xs))) mkLst := fun B H vs ds c Q hB r hf q => by
  unfold mkLst at hf
  split at hf
  · rename_i hz
    cases hf
    rw [← r.len] at hz
    exact ⟨top_le hz, fun p np => q _ _ _ (Ext.new hB np) (.lst upd_same (r.mono (same_new (hB.free np))))⟩
  · cases hf
theorem d_tup {es : List Expr} {k pos} (h : PA X es (tDs X.K cl gs)) : PE X (.Tuple es k pos) (tD X.K cl (gDs mkTup gs)) := d_ds (pe_tup h) ca_tup
theorem d_lst {es : List Expr} {pos} (h : PA X es (tDs X.K cl gs)) : PE X (.List es pos) (tD X.K cl (gDs mkLst gs)) := d_ds (pe_lst h) ca_lst

/-! subscripts -/
def atD (xs : List D) : Int → Option D
  | .ofNat n => xs[n]?
  | i => L2.atI xs i
theorem atD_some {xs : List D} {i : Int} {d : D} (h : atD xs i = some d) : L2.atI xs i = some d := by
  unfold atD at h
  split at h
  · exact L2.atI_nat h
  · exact h
def fIx : D → D → Option D
  | .lst xs, .int i => atD xs i
  | .tup xs, .int i => atD xs i
  | _, _ => none
theorem Reps.atI {B : Hp} {vs : List V} {ds : List D} {i : Int} {d : D} (r : Reps K cl B vs ds) (h : atI ds i = some d) : ∃ v, L2.atI vs i = some v ∧ Rep K cl B v d := by
  unfold L2.atI at h ⊢
  rw [r.len]
  cases e : ixN ds.length i with
  | none => rw [e] at h; cases h
  | some j =>
    rw [e] at h
    exact r.get h
theorem dd_ix : OpDD K cl (rIx K) fIx := fun B H v u a b c Q hB ra rb hf q => by
  cases ra with
  | lst h1 h2 =>
    cases rb with
    | int i =>
      obtain ⟨w, e1, r⟩ := h2.atI (atD_some hf)
      exact .inl ⟨_, _, i, w, rfl, rfl, SqL.of (hB _ _ h1), e1, q B H w (Ext.refl hB) r⟩
    | _ => cases hf
  | tup h1 h2 =>
    cases rb with
    | int i =>
      obtain ⟨w, e1, r⟩ := h2.atI (atD_some hf)
      exact .inr (.inl ⟨_, _, i, w, rfl, rfl, SqT.of (hB _ _ h1), e1, q B H w (Ext.refl hB) r⟩)
    | _ => cases hf
  | _ => cases hf
theorem d_ix {a b : Expr} {pos} (ha : PE X a (tD X.K cl g)) (hb : PE X b (tD X.K cl h)) (hs : PlainIx b := by exact fun _ _ => rfl) : PE X (.Subscript a b pos) (tD X.K cl (gBin fIx g h)) := d_bin (pe_ix ix_seq ha hb hs) dd_ix
/-- .. of an own list -/
def gIxS (g : Rho → Option (List D)) (h : Rho → Option D) : Rho → Option D := fun ρ => (g ρ).bind fun ds => (h ρ).bind fun i => fIx (.lst ds) i
theorem d_ixS {a b : Expr} {pos} {g : Rho → Option (List D)} (ha : PE X a (tSq X.K cl g)) (hb : PE X b (tD X.K cl h)) (hs : PlainIx b := by exact fun _ _ => rfl) : PE X (.Subscript a b pos) (tD X.K cl (gIxS g h)) := pe_mono (pe_ix ix_seq ha hb hs) fun σ H Q ⟨H0, B, ρ, c, hB, hs, hg, q⟩ => by
  unfold gIxS at hg
  cases e1 : g ρ with
  | none => rw [e1] at hg; cases hg
  | some ds =>
    cases e2 : h ρ with
    | none => rw [e1, e2] at hg; cases hg
    | some i =>
      rw [e1, e2] at hg
      cases i with
      | int i =>
        refine ⟨H0, B, ρ, ds, hB, hs, e1, fun B1 H1 a xs x1 hl nm r1 => ⟨H0, B1, ρ, _, x1.bh, hs.ext x1, e2, fun B2 H2 v x2 r2 => ?_⟩⟩
        cases r2
        obtain ⟨w, e3, r⟩ := r1.atI (d := c) (atD_some hg)
        exact .inl ⟨a, _, i, w, rfl, rfl, SqL.of (x2.getM hl nm), e3, q B2 H2 w (x1.trans x2) (r.mono x2.bb)⟩
      | _ => cases hg
/-! d[k] -/
def dAt : List Key → List D → Key → Option D
  | k :: ks, x :: xs, y => if k = y then some x else dAt ks xs y
  | _, _, _ => none
def dAtT : List (List Key) → List D → List Key → Option D
  | k :: ks, x :: xs, y => if k = y then some x else dAtT ks xs y
  | _, _, _ => none
def D.key : D → Option Key
  | .int i => some (.inl i)
  | .str x => some (.inr x)
  | _ => none
def D.keys : List D → Option (List Key)
  | [] => some []
  | d :: ds => (d.key).bind fun k => (D.keys ds).bind fun ks => some (k :: ks)
theorem key_of {B : Hp} {v : V} {d : D} {k : Key} (r : Rep K cl B v d) (h : d.key = some k) : v = kV k := by
  cases r <;> simp only [D.key] at h <;> cases h <;> rfl
theorem keys_of {B : Hp} : ∀ {vs : List V} {ds : List D} {ks : List Key}, Reps K cl B vs ds → D.keys ds = some ks → vs = ks.map kV
  | _, _, _, .nil, h => by cases h; rfl
  | _, _, ks, .cons (v := v) (d := d) (ds := ds) r t, h => by
    unfold D.keys at h
    cases e1 : d.key with
    | none => rw [e1] at h; cases h
    | some k =>
      cases e2 : D.keys ds with
      | none => rw [e1, e2] at h; cases h
      | some ks' =>
        rw [e1, e2] at h
        cases h
        rw [List.map_cons, key_of r e1, keys_of t e2]
theorem dAt_val {B : Hp} {y : Key} {d : D} : ∀ {kvs : List (Key × V)} {ds : List D}, Reps K cl B (kvs.map (·.2)) ds → dAt (kvs.map (·.1)) ds y = some d → ∃ v, valV kvs y = some v ∧ Rep K cl B v d
  | [], _, r, h => by cases r; simp [dAt] at h
  | (k, v) :: kvs, _, r, h => by
    cases r with
    | cons r t =>
      simp only [List.map_cons, dAt] at h
      unfold valV
      rw [List.find?_cons]
      by_cases e : k = y
      · rw [if_pos e] at h
        cases h
        rw [decide_eq_true e]
        exact ⟨v, rfl, r⟩
      · rw [if_neg e] at h
        rw [decide_eq_false e]
        exact dAt_val t h
theorem dAtT_val {B : Hp} {y : List Key} {d : D} : ∀ {kvs : List (List Key × V)} {ds : List D}, Reps K cl B (kvs.map (·.2)) ds → dAtT (kvs.map (·.1)) ds y = some d → ∃ v, valV kvs y = some v ∧ Rep K cl B v d
  | [], _, r, h => by cases r; simp [dAtT] at h
  | (k, v) :: kvs, _, r, h => by
    cases r with
    | cons r t =>
      simp only [List.map_cons, dAtT] at h
      unfold valV
      rw [List.find?_cons]
      by_cases e : k = y
      · rw [if_pos e] at h
        cases h
        rw [decide_eq_true e]
        exact ⟨v, rfl, r⟩
      · rw [if_neg e] at h
        rw [decide_eq_false e]
        exact dAtT_val t h
def fGet : D → D → Option D
  | .dK ks xs, y => y.key.bind fun k => dAt ks xs k
  | .dT ks xs, .tup ys => (D.keys ys).bind fun k => dAtT ks xs k
  | _, _ => none
theorem dget_of {B H : Hp} {v u : V} {a b c : D} (hB : Cln B H) (ra : Rep K cl B v a) (rb : Rep K cl B u b) (h : fGet a b = some c) : ∃ p w, v = .ref p ∧ DGet H p u (some w) ∧ Rep K cl B w c := by
  cases ra with
  | dK h1 h2 h3 =>
    simp only [fGet] at h
    cases e1 : b.key with
    | none => rw [e1] at h; cases h
    | some k =>
      rw [e1] at h
      subst h2
      obtain ⟨w, e2, r⟩ := dAt_val h3 h
      exact ⟨_, w, rfl, by rw [key_of rb e1, ← e2]; exact DGet.k (hB _ _ h1), r⟩
  | dT h1 h2 h3 =>
    cases rb with
    | tup h4 h5 =>
      simp only [fGet] at h
      cases e1 : D.keys _ with
      | none => rw [e1] at h; cases h
      | some k =>
        rw [e1] at h
        subst h2
        obtain ⟨w, e2, r⟩ := dAtT_val h3 h
        refine ⟨_, w, rfl, ?_, r⟩
        rw [← e2]
        exact DGet.t (hB _ _ h1) (by rw [← keys_of h5 e1]; exact hB _ _ h4)
    | _ => cases h
  | _ => cases h
theorem d_get {a b : Expr} {pos} (hu : X.A.units + 1 < cLine) (ha : PE X a (tD X.K cl g)) (hb : PE X b (tD X.K cl h)) (hs : NoSl b := by exact fun _ _ => rfl) : PE X (.Subscript a b pos) (tD X.K cl (gBin fGet g h)) := pe_mono (pe_dget hu ha hb hs) fun σ H Q ⟨H0, B, ρ, c, hB, hs, hg, q⟩ => by
  unfold gBin at hg
  cases e1 : g ρ with
  | none => rw [e1] at hg; cases hg
  | some x =>
    cases e2 : h ρ with
    | none => rw [e1, e2] at hg; cases hg
    | some y =>
      rw [e1, e2] at hg
      refine tD_two hB hs e1 e2 fun B' H' v u xx r1 r2 => ?_
      obtain ⟨p, w, ev, dg, r⟩ := dget_of xx.bh r1 r2 hg
      exact ⟨p, w, ev, dg, q B' H' w xx r⟩
/-! slices -/
def cutD (xs : List D) (lo hi : Option Int) : List D := (xs.drop (HT.sIx xs.length 0 lo)).take (HT.sIx xs.length xs.length hi - HT.sIx xs.length 0 lo)
def gNoPart : Rho → Option (Option Int) := fun _ => some none
def gPart (g : Rho → Option D) : Rho → Option (Option Int) := fun ρ => match g ρ with | some (.int i) => some (some i) | _ => none
def tPo (K : PySem.W.Frag) (cl : Cl) (g : Rho → Option (Option Int)) : TO := fun σ H Q => ∃ H0 B ρ o, Cln B H ∧ Slots K cl H0 B H σ ρ ∧ g ρ = some o ∧ ∀ B' H', Ext cl.tabs B H B' H' → Q o H'
theorem po_mono {o : Option Expr} {t t' : TO} (h : PO X o t) (m : ∀ σ H Q, t' σ H Q → t σ H Q) : PO X o t' := ⟨fun pins s σ H Q I w => h.run pins s σ H Q I (m σ H Q w)⟩
theorem dpo_none : PO X none (tPo X.K cl gNoPart) := po_mono po_none fun σ H Q ⟨H0, B, ρ, o, hB, hs, hg, q⟩ => by
  cases hg
  exact q B H (Ext.refl hB)
theorem dpo_some (h : PE X e (tD X.K cl g)) : PO X (some e) (tPo X.K cl (gPart g)) := po_mono (po_some h) fun σ H Q ⟨H0, B, ρ, o, hB, hs, hg, q⟩ => by
  unfold gPart at hg
  split at hg
  · rename_i i ei
    cases hg
    refine ⟨H0, B, ρ, _, hB, hs, ei, fun B' H' v x r => ?_⟩
    cases r
    exact ⟨i, rfl, q B' H' x⟩
  · cases hg
def gSl (g : Rho → Option D) (l h : Rho → Option (Option Int)) : Rho → Option D := fun ρ => (g ρ).bind fun x => (l ρ).bind fun lo => (h ρ).bind fun hi => match x with
  | .lst xs => some (.lst (cutD xs lo hi))
  | .tup xs => some (.tup (cutD xs lo hi))
  | _ => none
theorem cut_reps {B : Hp} {vs : List V} {ds : List D} (r : Reps K cl B vs ds) (lo hi : Option Int) : Reps K cl B (cutV vs lo hi) (cutD ds lo hi) := by
  unfold cutV cutD
  rw [r.len]
  exact (r.drop _).take _
theorem d_sl {e : Expr} {lo hi : Option Expr} {p2 pos} {l u : Rho → Option (Option Int)} (he : PE X e (tD X.K cl g)) (hl : PO X lo (tPo X.K cl l)) (hh : PO X hi (tPo X.K cl u)) : PE X (.Subscript e (.Slice lo hi none p2) pos) (tD X.K cl (gSl g l u)) :=
  pe_mono (pe_slice (SlR.or sl_list sl_tupA) he hl hh) fun σ H Q ⟨H0, B, ρ, c, hB, hs, hg, q⟩ => by
  unfold gSl at hg
  cases e1 : g ρ with
  | none => rw [e1] at hg; cases hg
  | some x =>
    cases e2 : l ρ with
    | none => rw [e1, e2] at hg; cases hg
    | some lo' =>
      cases e3 : u ρ with
      | none => rw [e1, e2, e3] at hg; cases hg
      | some hi' =>
        rw [e1, e2, e3] at hg
        refine ⟨H0, B, ρ, x, hB, hs, e1, fun B1 H1 v x1 r1 => ⟨H0, B1, ρ, lo', x1.bh, hs.ext x1, e2, fun B2 H2 x2 => ⟨H0, B2, ρ, hi', x2.bh, (hs.ext x1).ext x2, e3, fun B3 H3 x3 => ?_⟩⟩⟩
        have x03 := (x1.trans x2).trans x3
        have x13 := x2.trans x3
        cases r1 with
        | lst h1 h2 =>
          cases hg
          exact .inl ⟨_, _, rfl, SqL.of (x3.bh _ _ (x13.bb _ _ h1)), fun p np => q _ _ _ (x03.trans (Ext.new x3.bh np)) (.lst upd_same (cut_reps (h2.mono (x13.bb.trans (same_new (x3.bh.free np)))) lo' hi'))⟩
        | tup h1 h2 =>
          cases hg
          refine .inr ⟨_, _, rfl, SqT.of (x3.bh _ _ (x13.bb _ _ h1)), fun ew => ?_, fun _ p np => q _ _ _ (x03.trans (Ext.new x3.bh np)) (.tup upd_same (cut_reps (h2.mono (x13.bb.trans (same_new (x3.bh.free np)))) lo' hi'))⟩
          have z := cut_reps (h2.mono x13.bb) lo' hi'
          unfold cutV at z
          rw [ew.1, ew.2] at z
          simp only [List.drop_zero, Nat.sub_zero, List.take_length] at z
          exact q _ _ _ x03 (.tup (x13.bb _ _ h1) z)
        | _ => cases hg
/-! tests -/
def gTest (g : Rho → Option D) : Rho → Option Bool := fun ρ => match g ρ with | some (.bl b) => some b | _ => none
theorem dt_of {t : TE} {a : Expr} (hp : PT X a (tTest t)) (m : ∀ σ H Q, tD X.K cl g σ H Q → t σ H Q) : PT X a (tDT X.K cl (gTest g)) := pt_mono hp fun σ H Q ⟨H0, B, ρ, c, hB, hs, hg, q⟩ => by
  unfold gTest at hg
  split at hg
  · rename_i b eb
    cases hg
    refine m _ _ _ ⟨H0, B, ρ, _, hB, hs, eb, fun B' H' v x r => ?_⟩
    cases r
    exact ⟨c, rfl, q B' H' x⟩
  · cases hg
theorem dt_val {a : Expr} (hp : PE X a (tD X.K cl g)) (he : ∀ whole, isTrue a X.env whole = (do let v ← whole; standAt a.pos; holding [v] (truthy v)) := by intro _; rfl) : PT X a (tDT X.K cl (gTest g)) :=
  dt_of (t := tD X.K cl g) ⟨(pt_val hp he).run⟩ fun _ _ _ z => z
theorem bin_of {r : R2} {f : D → D → Option D} (k : OpDD K cl r f) : ∀ σ H Q, tD K cl (gBin f g h) σ H Q → tOp r (tD K cl g) (tD K cl h) σ H Q := fun σ H Q ⟨H0, B, ρ, c, hB, hs, hg, q⟩ => by
  unfold gBin at hg
  cases e1 : g ρ with
  | none => rw [e1] at hg; cases hg
  | some x =>
    cases e2 : h ρ with
    | none => rw [e1, e2] at hg; cases hg
    | some y =>
      rw [e1, e2] at hg
      exact tD_two hB hs e1 e2 fun B' H' v u xx r1 r2 => k B' H' v u x y c Q xx.bh r1 r2 hg fun B2 H2 w x2 r3 => q B2 H2 w (xx.trans x2) r3
theorem dt_cmp {a : Expr} {r : R2} {f : D → D → Option D} (hp : PT X a (tTest (tOp r (tD X.K cl g) (tD X.K cl h)))) (k : OpDD X.K cl r f) : PT X a (tDT X.K cl (gTest (gBin f g h))) := dt_of hp (bin_of k)
/-- in, not in an own list -/
def gInS (neg : Bool) (g : Rho → Option D) (h : Rho → Option (List D)) : Rho → Option D := fun ρ => (g ρ).bind fun x => (h ρ).bind fun ys => fIn neg x (.lst ys)
theorem inS_of {h : Rho → Option (List D)} (neg : Bool) : ∀ σ H Q, tD K cl (gInS neg g h) σ H Q → tOp (if neg then rNotInL K else rInL K) (tD K cl g) (tSq K cl h) σ H Q := fun σ H Q ⟨H0, B, ρ, c, hB, hs, hg, q⟩ => by
  unfold gInS at hg
  cases e1 : g ρ with
  | none => rw [e1] at hg; cases hg
  | some x =>
    cases e2 : h ρ with
    | none => rw [e1, e2] at hg; cases hg
    | some ys =>
      rw [e1, e2] at hg
      refine ⟨H0, B, ρ, x, hB, hs, e1, fun B1 H1 v x1 r1 => ⟨H0, B1, ρ, ys, x1.bh, hs.ext x1, e2, fun B2 H2 a xs x2 hl nm r2 => ?_⟩⟩
      simp only [fIn] at hg
      replace hg : (inB x ys).map (fun k => D.bl (if neg then !k else k)) = some c := hg
      cases e3 : inB x ys with
      | none => rw [e3] at hg; cases hg
      | some k =>
        rw [e3] at hg
        cases hg
        have z := in_list x2.bh (r1.mono x2.bb) hl r2 e3
        cases neg with
        | false => exact z.1 Q (q B2 H2 _ (x1.trans x2) (.bl _))
        | true => exact z.2 Q (q B2 H2 _ (x1.trans x2) (.bl _))
theorem d_inS {a b : Expr} {pos} {h : Rho → Option (List D)} (ha : PE X a (tD X.K cl g)) (hb : PE X b (tSq X.K cl h)) (ho : OpR X (compareOp .In) (rInL X.K)) (hm : behindInMarks .In b = false := by rfl) : PE X (.Compare a [.In] [b] pos) (tD X.K cl (gInS false g h)) := pe_mono (pe_cmpR ho ha hb hm) (inS_of false)
theorem d_notInS {a b : Expr} {pos} {h : Rho → Option (List D)} (ha : PE X a (tD X.K cl g)) (hb : PE X b (tSq X.K cl h)) (ho : OpR X (compareOp .NotIn) (rNotInL X.K)) (hm : behindInMarks .NotIn b = false := by rfl) : PE X (.Compare a [.NotIn] [b] pos) (tD X.K cl (gInS true g h)) := pe_mono (pe_cmpR ho ha hb hm) (inS_of true)
theorem dt_inS {a b : Expr} {pos} {h : Rho → Option (List D)} (ha : PE X a (tD X.K cl g)) (hb : PE X b (tSq X.K cl h)) (ho : OpR X (compareOp .In) (rInL X.K)) (hm : behindInMarks .In b = false := by rfl) : PT X (.Compare a [.In] [b] pos) (tDT X.K cl (gTest (gInS false g h))) := dt_of (pt_cmpR ho ha hb hm) (inS_of false)
theorem dt_notInS {a b : Expr} {pos} {h : Rho → Option (List D)} (ha : PE X a (tD X.K cl g)) (hb : PE X b (tSq X.K cl h)) (ho : OpR X (compareOp .NotIn) (rNotInL X.K)) (hm : behindInMarks .NotIn b = false := by rfl) : PT X (.Compare a [.NotIn] [b] pos) (tDT X.K cl (gTest (gInS true g h))) := dt_of (pt_cmpR ho ha hb hm) (inS_of true)
/-! and, or, not, if else -/
variable {u t : Rho → Option Bool}
def gAnd (t u : Rho → Option Bool) : Rho → Option Bool := fun ρ => (t ρ).bind fun b => if b = true then u ρ else some false
def gOr (t u : Rho → Option Bool) : Rho → Option Bool := fun ρ => (t ρ).bind fun b => if b = true then some true else u ρ
def gNot (t : Rho → Option Bool) : Rho → Option Bool := fun ρ => (t ρ).map (!·)
theorem dw_and1 {a : Expr} {pos} (ha : PT X a (tDT X.K cl t)) : PW X (.BoolOp .And [a] pos) (tDT X.K cl t) := pw_and1 ha
theorem dw_or1 {a : Expr} {pos} (ha : PT X a (tDT X.K cl t)) : PW X (.BoolOp .Or [a] pos) (tDT X.K cl t) := pw_or1 ha
theorem dw_and {a b : Expr} {rest : List Expr} {pos} (ha : PT X a (tDT X.K cl t)) (hb : PW X (.BoolOp .And (b :: rest) pos) (tDT X.K cl u)) : PW X (.BoolOp .And (a :: b :: rest) pos) (tDT X.K cl (gAnd t u)) := pw_mono (pw_and ha hb) fun σ H Q ⟨H0, B, ρ, c, hB, hs, hg, q⟩ => by
  unfold gAnd at hg
  cases e1 : t ρ with
  | none => rw [e1] at hg; cases hg
  | some k =>
    rw [e1] at hg
    refine ⟨H0, B, ρ, k, hB, hs, e1, fun B' H' x => ?_⟩
    cases k with
    | true => exact iteT ⟨H0, B', ρ, c, x.bh, hs.ext x, hg, fun B2 H2 x2 => q B2 H2 (x.trans x2)⟩
    | false => cases hg; exact iteF (q B' H' x)
theorem dw_or {a b : Expr} {rest : List Expr} {pos} (ha : PT X a (tDT X.K cl t)) (hb : PW X (.BoolOp .Or (b :: rest) pos) (tDT X.K cl u)) : PW X (.BoolOp .Or (a :: b :: rest) pos) (tDT X.K cl (gOr t u)) := pw_mono (pw_or ha hb) fun σ H Q ⟨H0, B, ρ, c, hB, hs, hg, q⟩ => by
  unfold gOr at hg
  cases e1 : t ρ with
  | none => rw [e1] at hg; cases hg
  | some k =>
    rw [e1] at hg
    refine ⟨H0, B, ρ, k, hB, hs, e1, fun B' H' x => ?_⟩
    cases k with
    | false => exact iteF ⟨H0, B', ρ, c, x.bh, hs.ext x, hg, fun B2 H2 x2 => q B2 H2 (x.trans x2)⟩
    | true => cases hg; exact iteT (q B' H' x)
theorem dt_not {a : Expr} {pos} (ha : PT X a (tDT X.K cl t)) : PT X (.UnaryOp .Not a pos) (tDT X.K cl (gNot t)) := pt_mono (pt_not ha) fun σ H Q ⟨H0, B, ρ, c, hB, hs, hg, q⟩ => by
  unfold gNot at hg
  cases e1 : t ρ with
  | none => rw [e1] at hg; cases hg
  | some k =>
    rw [e1] at hg
    cases hg
    exact ⟨H0, B, ρ, k, hB, hs, e1, fun B' H' x => q B' H' x⟩
/-- and, or, not of bools, as values -/
def gAndV (g h : Rho → Option D) : Rho → Option D := fun ρ => (gTest g ρ).bind fun b => if b = true then h ρ else some (.bl false)
def gOrV (g h : Rho → Option D) : Rho → Option D := fun ρ => (gTest g ρ).bind fun b => if b = true then some (.bl true) else h ρ
def gNotV (g : Rho → Option D) : Rho → Option D := fun ρ => (gTest g ρ).map fun b => .bl (!b)
theorem gTest_some {ρ : Rho} {b : Bool} (h : gTest g ρ = some b) : g ρ = some (.bl b) := by
  unfold gTest at h
  split at h
  · rename_i e; cases h; exact e
  · cases h
theorem d_and {a b : Expr} {rest : List Expr} {pos} (ha : PE X a (tD X.K cl g)) (hb : PE X (.BoolOp .And (b :: rest) pos) (tD X.K cl h)) : PE X (.BoolOp .And (a :: b :: rest) pos) (tD X.K cl (gAndV g h)) := pe_mono (pe_and ha hb) fun σ H Q ⟨H0, B, ρ, c, hB, hs, hg, q⟩ => by
  unfold gAndV at hg
  cases e1 : gTest g ρ with
  | none => rw [e1] at hg; cases hg
  | some k =>
    rw [e1] at hg
    refine ⟨H0, B, ρ, _, hB, hs, gTest_some e1, fun B' H' v x r => ?_⟩
    cases r
    refine ⟨k, rfl, ?_⟩
    cases k with
    | true => exact iteT ⟨H0, B', ρ, c, x.bh, hs.ext x, hg, fun B2 H2 w x2 r2 => q B2 H2 w (x.trans x2) r2⟩
    | false => cases hg; exact iteF (q B' H' _ x (.bl _))
theorem d_or {a b : Expr} {rest : List Expr} {pos} (ha : PE X a (tD X.K cl g)) (hb : PE X (.BoolOp .Or (b :: rest) pos) (tD X.K cl h)) : PE X (.BoolOp .Or (a :: b :: rest) pos) (tD X.K cl (gOrV g h)) := pe_mono (pe_or ha hb) fun σ H Q ⟨H0, B, ρ, c, hB, hs, hg, q⟩ => by
  unfold gOrV at hg
  cases e1 : gTest g ρ with
  | none => rw [e1] at hg; cases hg
  | some k =>
    rw [e1] at hg
    refine ⟨H0, B, ρ, _, hB, hs, gTest_some e1, fun B' H' v x r => ?_⟩
    cases r
    refine ⟨k, rfl, ?_⟩
    cases k with
    | false => exact iteF ⟨H0, B', ρ, c, x.bh, hs.ext x, hg, fun B2 H2 w x2 r2 => q B2 H2 w (x.trans x2) r2⟩
    | true => cases hg; exact iteT (q B' H' _ x (.bl _))
theorem d_not {a : Expr} {pos} (ha : PE X a (tD X.K cl g)) : PE X (.UnaryOp .Not a pos) (tD X.K cl (gNotV g)) := pe_mono (pe_not ha) fun σ H Q ⟨H0, B, ρ, c, hB, hs, hg, q⟩ => by
  unfold gNotV at hg
  cases e1 : gTest g ρ with
  | none => rw [e1] at hg; cases hg
  | some k =>
    rw [e1] at hg
    cases hg
    refine ⟨H0, B, ρ, _, hB, hs, gTest_some e1, fun B' H' v x r => ?_⟩
    cases r
    exact ⟨k, rfl, q B' H' _ x (.bl _)⟩
def gIf (t : Rho → Option Bool) (g h : Rho → Option D) : Rho → Option D := fun ρ => (t ρ).bind fun b => if b = true then g ρ else h ρ
theorem d_if {c a b : Expr} {pos} (hc : PT X c (tDT X.K cl t)) (ha : PE X a (tD X.K cl g)) (hb : PE X b (tD X.K cl h)) : PE X (.IfExp c a b pos) (tD X.K cl (gIf t g h)) := pe_mono (pe_ifExp hc ha hb) fun σ H Q ⟨H0, B, ρ, c, hB, hs, hg, q⟩ => by
  unfold gIf at hg
  cases e1 : t ρ with
  | none => rw [e1] at hg; cases hg
  | some k =>
    rw [e1] at hg
    refine ⟨H0, B, ρ, _, hB, hs, e1, fun B' H' x => ?_⟩
    cases k with
    | true => exact iteT ⟨H0, B', ρ, c, x.bh, hs.ext x, hg, fun B2 H2 w x2 r2 => q B2 H2 w (x.trans x2) r2⟩
    | false => exact iteF ⟨H0, B', ρ, c, x.bh, hs.ext x, hg, fun B2 H2 w x2 r2 => q B2 H2 w (x.trans x2) r2⟩
/-! truth of anything -/
def fTru : D → Option Bool
  | .non => some false
  | .bl b => some b
  | .int i => some (i != 0)
  | .lst xs => some (!xs.isEmpty)
  | .tup xs => some (!xs.isEmpty)
  | _ => none
def gTru (g : Rho → Option D) : Rho → Option Bool := fun ρ => (g ρ).bind fTru
theorem reps_empty {B : Hp} {vs : List V} {ds : List D} (r : Reps K cl B vs ds) : ds.isEmpty = vs.isEmpty := by cases r <;> rfl
theorem dt_tru {a : Expr} (ha : PE X a (tD X.K cl g)) (he : ∀ whole, isTrue a X.env whole = (do let v ← whole; standAt a.pos; holding [v] (truthy v)) := by intro _; rfl) : PT X a (tDT X.K cl (gTru g)) := pt_mono (pt_truth ha he) fun σ H Q ⟨H0, B, ρ, c, hB, hs, hg, q⟩ => by
  unfold gTru at hg
  cases e1 : g ρ with
  | none => rw [e1] at hg; cases hg
  | some x =>
    rw [e1] at hg
    refine ⟨H0, B, ρ, x, hB, hs, e1, fun B' H' v x1 r => ⟨c, ?_, q B' H' x1⟩⟩
    cases r with
    | lst h1 h2 => cases hg; exact .inl ⟨_, SqL.of (x1.bh _ _ h1), by rw [reps_empty h2]⟩
    | tup h1 h2 => cases hg; exact .inr (.inl ⟨_, SqT.of (x1.bh _ _ h1), by rw [reps_empty h2]⟩)
    | non => cases hg; rfl
    | bl b => cases hg; rfl
    | int i => cases hg; rfl
    | _ => cases hg
def gTruS (g : Rho → Option (List D)) : Rho → Option Bool := fun ρ => (g ρ).map fun ds => !ds.isEmpty
theorem dt_truS {a : Expr} {g : Rho → Option (List D)} (ha : PE X a (tSq X.K cl g)) (he : ∀ whole, isTrue a X.env whole = (do let v ← whole; standAt a.pos; holding [v] (truthy v)) := by intro _; rfl) : PT X a (tDT X.K cl (gTruS g)) := pt_mono (pt_truth ha he) fun σ H Q ⟨H0, B, ρ, c, hB, hs, hg, q⟩ => by
  unfold gTruS at hg
  cases e1 : g ρ with
  | none => rw [e1] at hg; cases hg
  | some x =>
    rw [e1] at hg
    cases hg
    exact ⟨H0, B, ρ, x, hB, hs, e1, fun B' H' a xs x1 hl _ r => ⟨!x.isEmpty, .inl ⟨_, SqL.of hl, by rw [reps_empty r]⟩, q B' H' x1⟩⟩
end
end Dl
set_option maxRecDepth 100000
set_option maxHeartbeats 4000000
namespace Dl
open PySem PySem.Spec PyProof.Rows L2

/-! ### slots are set -/
section
variable {K : PySem.W.Frag} {cl : Cl} {H0 : HG} {B H : Hp} {σ : L2.St} {ρ : Rho}
theorem Slots.set {i : Nat} {v : V} {s : SV} (h : Slots K cl H0 B H σ ρ) (ok : SlotOk K cl H0 B H (some (some v)) s) (hf : s.owned = true → ∀ (j : Nat) (t : SV) (a : Addr), j ≠ i → ρ[j]? = some t → t.owned = true → σ[j]? = some (some (.ref a)) → v ≠ .ref a) :
    Slots K cl H0 B H (σ.set i (some v)) (ρ.set i s) := by
  refine ⟨by rw [List.length_set, List.length_set, h.len], fun j t e => ?_, fun j k t u a e1 e2 o1 o2 f1 f2 => ?_, h.tabs⟩
  · by_cases q : i = j
    · subst q
      have hl : i < ρ.length := by
        have := (List.getElem?_eq_some_iff.mp e).1
        rwa [List.length_set] at this
      rw [List.getElem?_set_self hl] at e
      cases e
      rw [List.getElem?_set_self (by rw [h.len]; exact hl)]
      exact ok
    · rw [List.getElem?_set_ne q] at e
      rw [List.getElem?_set_ne q]
      exact h.at_ j t e
  · by_cases q1 : i = j
    · by_cases q2 : i = k
      · rw [← q1, ← q2]
      · subst q1
        rw [List.getElem?_set_ne q2] at e2 f2
        have hl : i < ρ.length := by
          have := (List.getElem?_eq_some_iff.mp e1).1
          rwa [List.length_set] at this
        rw [List.getElem?_set_self hl] at e1
        cases e1
        rw [List.getElem?_set_self (by rw [h.len]; exact hl)] at f1
        cases f1
        exact absurd rfl (hf o1 k u a (Ne.symm q2) e2 o2 f2)
    · by_cases q2 : i = k
      · subst q2
        rw [List.getElem?_set_ne q1] at e1 f1
        have hl : i < ρ.length := by
          have := (List.getElem?_eq_some_iff.mp e2).1
          rwa [List.length_set] at this
        rw [List.getElem?_set_self hl] at e2
        cases e2
        rw [List.getElem?_set_self (by rw [h.len]; exact hl)] at f2
        cases f2
        exact absurd rfl (hf o2 j t a (Ne.symm q1) e1 o1 f1)
      · rw [List.getElem?_set_ne q1] at e1 f1
        rw [List.getElem?_set_ne q2] at e2 f2
        exact h.inj j k t u a e1 e2 o1 o2 f1 f2
theorem Slots.setVal {i : Nat} {v : V} {d : D} (h : Slots K cl H0 B H σ ρ) (r : Rep K cl B v d) : Slots K cl H0 B H (σ.set i (some v)) (ρ.set i (.val d)) :=
  h.set ⟨v, rfl, r⟩ fun z => nomatch z
/-- the owned objects' addresses are below H -/
theorem Slots.there (h : Slots K cl H0 B H σ ρ) {j : Nat} {t : SV} {a : Addr} (e : ρ[j]? = some t) (o : t.owned = true) (f : σ[j]? = some (some (.ref a))) : ∃ u, H a = some u ∧ Plain u := by
  have z := h.at_ j t e
  rw [f] at z
  cases t with
  | own ds => obtain ⟨a', xs, e1, e2, _⟩ := z; cases e1; exact ⟨_, e2, (fun _ z => nomatch z), (fun _ z => nomatch z)⟩
  | ownT ks ds => obtain ⟨a', xs, e1, e2, _⟩ := z; cases e1; exact ⟨_, e2, (fun _ z => nomatch z), (fun _ z => nomatch z)⟩
  | ownK ks ds => obtain ⟨a', xs, e1, e2, _⟩ := z; cases e1; exact ⟨_, e2, (fun _ z => nomatch z), (fun _ z => nomatch z)⟩
  | ownO c ns ds => obtain ⟨a', dx, xs, ⟨e1, _⟩, e2, _⟩ := z; cases e1; exact ⟨_, e2, (fun _ z => nomatch z), (fun _ z => nomatch z)⟩
  | un => cases o
  | val d => cases o
  | exc c d => cases o
theorem Slots.newAddr (h : Slots K cl H0 B H σ ρ) {p : Addr} (np : H p = none) : ∀ (j : Nat) (t : SV) (a : Addr), ρ[j]? = some t → t.owned = true → σ[j]? = some (some (.ref a)) → V.ref p ≠ .ref a := fun j t a e o f z => by
  cases z
  obtain ⟨u, hu, _⟩ := h.there e o f
  rw [np] at hu
  cases hu
end

/-! ### statements -/
inductive Out where
  | nx (ρ : Rho) | rt (d : D) | bk (ρ : Rho) | ct (ρ : Rho) | ro (ds : List D)
def Goal (K : PySem.W.Frag) (cl : Cl) (H0 : HG) (B0 B : Hp) (E : Ends) : Out → Prop
  | .nx ρ => ∀ B' H' σ', Ext cl.tabs B0 H0.h B' H' → Same B B' → Slots K cl H0 B' H' σ' ρ → E.nx σ' H'
  | .bk ρ => ∀ B' H' σ', Ext cl.tabs B0 H0.h B' H' → Same B B' → Slots K cl H0 B' H' σ' ρ → E.bk σ' H'
  | .ct ρ => ∀ B' H' σ', Ext cl.tabs B0 H0.h B' H' → Same B B' → Slots K cl H0 B' H' σ' ρ → E.ct σ' H'
  | .rt d => ∀ B' H' v, Ext cl.tabs B0 H0.h B' H' → Rep K cl B' v d → E.rt v H'
  | .ro ds => ∀ B' H' p xs, Ext cl.tabs B0 H0.h B' H' → H' p = some (.lst xs) → B' p = none → H0.h p = none → Reps K cl B' xs ds → E.rt (.ref p) H'
abbrev M := Rho → Option Out
def tS (K : PySem.W.Frag) (cl : Cl) (m : M) : TS := fun E σ H => ∃ (H0 : HG) (B0 B : Hp) (ρ : Rho) (out : Out), Ext cl.tabs B0 H0.h B H ∧ Slots K cl H0 B H σ ρ ∧ m ρ = some out ∧ Goal K cl H0 B0 B E out
section
variable {K : PySem.W.Frag} {cl : Cl} {H0 : HG} {B0 B B' : Hp} {E : Ends} {out : Out}
theorem Goal.grow (h : Goal K cl H0 B0 B E out) (s : Same B B') : Goal K cl H0 B0 B' E out := by
  cases out with
  | nx ρ => exact fun B2 H2 σ2 x s2 z => h B2 H2 σ2 x (s.trans s2) z
  | bk ρ => exact fun B2 H2 σ2 x s2 z => h B2 H2 σ2 x (s.trans s2) z
  | ct ρ => exact fun B2 H2 σ2 x s2 z => h B2 H2 σ2 x (s.trans s2) z
  | rt d => exact h
  | ro ds => exact h
end
section
variable {X : Cx} {cl : Cl} {K : PySem.W.Frag} {e : Expr} {st : Stmt} {rest : List Stmt} {g h : Rho → Option D} {m n : M} {pos : Pos}
/-! blocks -/
def mNil : M := fun ρ => some (.nx ρ)
def mSeq (m n : M) : M := fun ρ => (m ρ).bind fun o => match o with
  | .nx ρ' => n ρ'
  | o => some o
theorem ss_nil : PSs X [] (tS X.K cl mNil) := pss_mono pss_nil fun E σ H ⟨H0, B0, B, ρ, out, x, s, hm, q⟩ => by
  cases hm
  exact q B H σ x (Same.refl _) s
theorem seq_of (E : Ends) (σ : L2.St) (H : Hp) (h : tS K cl (mSeq m n) E σ H) : tSeq (tS K cl m) (tS K cl n) E σ H := by
  obtain ⟨H0, B0, B, ρ, out, x, s, hm, q⟩ := h
  unfold mSeq at hm
  cases e1 : m ρ with
  | none => rw [e1] at hm; cases hm
  | some o =>
    rw [e1] at hm
    refine ⟨H0, B0, B, ρ, o, x, s, e1, ?_⟩
    cases o with
    | nx ρ' => exact fun B' H' σ' x' s' z => ⟨H0, B0, B', ρ', out, x', z, hm, q.grow s'⟩
    | rt d => cases hm; exact q
    | ro ds => cases hm; exact q
    | bk ρ' => cases hm; exact q
    | ct ρ' => cases hm; exact q
theorem ss_cons (a : PS X st (tS X.K cl m)) (b : PSs X rest (tS X.K cl n)) : PSs X (st :: rest) (tS X.K cl (mSeq m n)) := pss_mono (pss_cons a b) seq_of
theorem ss_one (a : PS X st (tS X.K cl m)) : PSs X [st] (tS X.K cl m) := pss_one a
/-! small ones -/
def mPass : M := fun ρ => some (.nx ρ)
def mBreak : M := fun ρ => some (.bk ρ)
def mCont : M := fun ρ => some (.ct ρ)
def mNever : M := fun _ => none
theorem s_pass : PS X (.Pass pos) (tS X.K cl mPass) := ps_mono ps_pass fun E σ H ⟨H0, B0, B, ρ, out, x, s, hm, q⟩ => by
  cases hm; exact q B H σ x (Same.refl _) s
theorem s_break : PS X (.Break pos) (tS X.K cl mBreak) := ps_mono ps_break fun E σ H ⟨H0, B0, B, ρ, out, x, s, hm, q⟩ => by
  cases hm; exact q B H σ x (Same.refl _) s
theorem s_cont : PS X (.Continue pos) (tS X.K cl mCont) := ps_mono ps_continue fun E σ H ⟨H0, B0, B, ρ, out, x, s, hm, q⟩ => by
  cases hm; exact q B H σ x (Same.refl _) s
theorem s_never : PS X st (tS X.K cl mNever) := ps_mono ps_never fun E σ H ⟨H0, B0, B, ρ, out, x, s, hm, q⟩ => by cases hm
def mRet (g : Rho → Option D) : M := fun ρ => (g ρ).map Out.rt
theorem s_ret (he : PE X e (tD X.K cl g)) : PS X (.Return (some e) pos) (tS X.K cl (mRet g)) := ps_mono (ps_ret he) fun E σ H ⟨H0, B0, B, ρ, out, x, s, hm, q⟩ => by
  unfold mRet at hm
  cases e1 : g ρ with
  | none => rw [e1] at hm; cases hm
  | some d =>
    rw [e1] at hm
    cases hm
    exact ⟨H0, B, ρ, d, x.bh, s, e1, fun B' H' v x' r => q B' H' v (x.trans x') r⟩
def mRetN : M := fun _ => some (.rt .non)
theorem s_retN : PS X (.Return none pos) (tS X.K cl mRetN) := ps_mono ps_retN fun E σ H ⟨H0, B0, B, ρ, out, x, s, hm, q⟩ => by
  cases hm; exact q B H _ x .non
/-- return x, x an own list -/
def mRetO (i : Nat) : M := fun ρ => match ρ[i]? with | some (.own ds) => some (.rt (.lst ds)) | some (.val d) => some (.rt d) | _ => none
theorem s_retO {i : Nat} (he : PE X e (tVar i)) : PS X (.Return (some e) pos) (tS X.K cl (mRetO i)) := ps_mono (ps_ret he) fun E σ H ⟨H0, B0, B, ρ, out, x, s, hm, q⟩ => by
  unfold mRetO at hm
  cases e1 : ρ[i]? with
  | none => rw [e1] at hm; cases hm
  | some sv =>
    rw [e1] at hm
    cases sv with
    | own ds =>
      cases hm
      obtain ⟨a, xs, h1, h2, h3, h4, h5⟩ := s.at_ i _ e1
      exact ⟨.ref a, h1, q (upd B a (.lst xs)) H _ (x.join h2 h3 h4) (.lst upd_same (h5.mono (same_new h3)))⟩
    | val d =>
      cases hm
      obtain ⟨v, h1, h2⟩ := s.at_ i _ e1
      exact ⟨v, h1, q B H _ x h2⟩
    | _ => cases hm
/-- return x, x an own list, as a new list -/
def mRetOwn (i : Nat) : M := fun ρ => match ρ[i]? with | some (.own ds) => some (.ro ds) | _ => none
theorem s_retOwn {i : Nat} (he : PE X e (tVar i)) : PS X (.Return (some e) pos) (tS X.K cl (mRetOwn i)) := ps_mono (ps_ret he) fun E σ H ⟨H0, B0, B, ρ, out, x, s, hm, q⟩ => by
  unfold mRetOwn at hm
  split at hm
  · rename_i ds e1
    cases hm
    obtain ⟨a, xs, h1, h2, h3, h4, h5⟩ := s.at_ i _ e1
    exact ⟨.ref a, h1, q B H a xs x h2 h3 h4 h5⟩
  · cases hm
/-- return [..] -/
def mRetNew (gs : Rho → Option (List D)) : M := fun ρ => (gs ρ).bind fun ds => if ds.length ≤ top then some (.ro ds) else none
theorem s_retNew {gs : Rho → Option (List D)} (he : PE X e (tLst (tDs X.K cl gs))) : PS X (.Return (some e) pos) (tS X.K cl (mRetNew gs)) := ps_mono (ps_ret he) fun E σ H ⟨H0, B0, B, ρ, out, x, s, hm, q⟩ => by
  unfold mRetNew at hm
  cases e1 : gs ρ with
  | none => rw [e1] at hm; cases hm
  | some ds =>
    rw [e1] at hm
    replace hm : (if ds.length ≤ top then some (Out.ro ds) else none) = some out := hm
    split at hm
    · rename_i hz
      cases hm
      refine ⟨H0, B, ρ, ds, x.bh, s, e1, fun B' H' vs x' r => ⟨by rw [r.len]; exact top_le hz, fun p np => ?_⟩⟩
      have xx := x.trans x'
      exact q B' _ p vs (xx.side np) upd_same (xx.bh.free np) (xx.hh.free np) r
    · cases hm
def mIf (t : Rho → Option Bool) (m n : M) : M := fun ρ => (t ρ).bind fun b => if b = true then m ρ else n ρ
theorem s_if {c : Expr} {a b : List Stmt} {t : Rho → Option Bool} (hc : PT X c (tDT X.K cl t)) (ha : PSs X a (tS X.K cl m)) (hb : PSs X b (tS X.K cl n)) : PS X (.If c a b pos) (tS X.K cl (mIf t m n)) := ps_mono (ps_if hc ha hb) fun E σ H ⟨H0, B0, B, ρ, out, x, s, hm, q⟩ => by
  unfold mIf at hm
  cases e1 : t ρ with
  | none => rw [e1] at hm; cases hm
  | some k =>
    rw [e1] at hm
    refine ⟨H0, B, ρ, k, x.bh, s, e1, fun B' H' x' => ?_⟩
    cases k with
    | true => exact iteT ⟨H0, B0, B', ρ, out, x.trans x', s.ext x', hm, q.grow x'.bb⟩
    | false => exact iteF ⟨H0, B0, B', ρ, out, x.trans x', s.ext x', hm, q.grow x'.bb⟩
def mExpr (g : Rho → Option D) : M := fun ρ => (g ρ).map fun _ => .nx ρ
theorem s_expr (he : PE X e (tD X.K cl g)) (hs : swapsWith e none pos.line X.env = pure false := by rfl) : PS X (.Expr e pos) (tS X.K cl (mExpr g)) := ps_mono (ps_expr he hs) fun E σ H ⟨H0, B0, B, ρ, out, x, s, hm, q⟩ => by
  unfold mExpr at hm
  cases e1 : g ρ with
  | none => rw [e1] at hm; cases hm
  | some d =>
    rw [e1] at hm
    cases hm
    exact ⟨H0, B, ρ, d, x.bh, s, e1, fun B' H' v x' r => q B' H' σ (x.trans x') x'.bb (s.ext x')⟩
/-! stores -/
def mSet (i : Nat) (g : Rho → Option D) : M := fun ρ => (g ρ).map fun d => .nx (ρ.set i (.val d))
theorem set_of {i : Nat} {t : TE} (ht : ∀ σ H Q, tD K cl g σ H Q → t σ H Q) (E : Ends) (σ : L2.St) (H : Hp) (h : tS K cl (mSet i g) E σ H) : tAsg t (gName i) E σ H := by
  obtain ⟨H0, B0, B, ρ, out, x, s, hm, q⟩ := h
  unfold mSet at hm
  cases e1 : g ρ with
  | none => rw [e1] at hm; cases hm
  | some d =>
    rw [e1] at hm
    cases hm
    exact ht _ _ _ ⟨H0, B, ρ, d, x.bh, s, e1, fun B' H' v x' r => q B' H' _ (x.trans x') x'.bb ((s.ext x').setVal r)⟩
theorem s_set {i : Nat} (h : PS X st (tAsg (tD X.K cl g) (gName i))) : PS X st (tS X.K cl (mSet i g)) := ps_mono h (set_of fun _ _ _ z => z)
/-- x = [a, ..], a list that is changed later -/
def mOwn (i : Nat) (gs : Rho → Option (List D)) : M := fun ρ => (gs ρ).bind fun ds => if ds.length ≤ top then some (.nx (ρ.set i (.own ds))) else none
theorem s_own {i : Nat} {gs : Rho → Option (List D)} (h : PS X st (tAsg (tLst (tDs X.K cl gs)) (gName i))) : PS X st (tS X.K cl (mOwn i gs)) := ps_mono h fun E σ H ⟨H0, B0, B, ρ, out, x, s, hm, q⟩ => by
  unfold mOwn at hm
  cases e1 : gs ρ with
  | none => rw [e1] at hm; cases hm
  | some ds =>
    rw [e1] at hm
    replace hm : (if ds.length ≤ top then some (Out.nx (ρ.set i (.own ds))) else none) = some out := hm
    split at hm
    · rename_i hz
      cases hm
      refine ⟨H0, B, ρ, ds, x.bh, s, e1, fun B' H' vs x' r => ⟨by rw [r.len]; exact top_le hz, fun p np => ?_⟩⟩
      have xx := x.trans x'
      have nB : B' p = none := xx.bh.free np
      have n0 : H0 p = none := xx.hh.free np
      have s' := s.ext x'
      have ext2 : Ext cl.tabs B0 H0.h B' (upd H' p (.lst vs)) := xx.side np
      have s2 : Slots X.K cl H0 B' (upd H' p (.lst vs)) σ ρ := s'.ext ((Ext.refl xx.bh).side np)
      exact q B' _ _ ext2 x'.bb (s2.set ⟨p, vs, rfl, upd_same, nB, n0, r⟩ fun _ j t a _ e o f => s'.newAddr np j t a e o f)
    · cases hm
theorem s_ownT {i : Nat} (h : PS X st (tAsg tDNewT (gName i))) : PS X st (tS X.K cl fun ρ => some (.nx (ρ.set i (.ownT [] [])))) := ps_mono h fun E σ H ⟨H0, B0, B, ρ, out, x, s, hm, q⟩ p np => by
  cases hm
  have nB : B p = none := x.bh.free np
  have n0 : H0 p = none := x.hh.free np
  have ext2 : Ext cl.tabs B0 H0.h B (upd H p (.dT [])) := x.side np
  have s2 : Slots X.K cl H0 B (upd H p (.dT [])) σ ρ := s.ext ((Ext.refl x.bh).side np)
  exact q B _ _ ext2 (Same.refl _) (s2.set ⟨p, [], rfl, upd_same, nB, n0, rfl, .nil⟩ fun _ j t a _ e o f => s.newAddr np j t a e o f)
theorem s_ownK {i : Nat} (h : PS X st (tAsg tDNewK (gName i))) : PS X st (tS X.K cl fun ρ => some (.nx (ρ.set i (.ownK [] [])))) := ps_mono h fun E σ H ⟨H0, B0, B, ρ, out, x, s, hm, q⟩ p np => by
  cases hm
  have nB : B p = none := x.bh.free np
  have n0 : H0 p = none := x.hh.free np
  have ext2 : Ext cl.tabs B0 H0.h B (upd H p (.dK [])) := x.side np
  have s2 : Slots X.K cl H0 B (upd H p (.dK [])) σ ρ := s.ext ((Ext.refl x.bh).side np)
  exact q B _ _ ext2 (Same.refl _) (s2.set ⟨p, [], rfl, upd_same, nB, n0, rfl, .nil⟩ fun _ j t a _ e o f => s.newAddr np j t a e o f)
/-- an own object is changed to u -/
theorem ext_own {T : List (Addr × Str)} {H0 B0 B H : Hp} {a : Addr} {u o : HO} (x : Ext T B0 H0 B H) (nB : B a = none) (n0 : H0 a = none) (ho : H a = some o) (hp : Plain o := by exact ⟨(fun _ z => nomatch z), (fun _ z => nomatch z)⟩) : Ext T B0 H0 B (upd H a u) :=
  ⟨⟨fun b o e n m => by rw [upd_ne (ne_of_none e n0)]; exact x.hh.keep b o e n m, fun b e => by
    by_cases z : b = a
    · subst z; exact n0
    · rw [upd_ne z] at e; exact x.hh.dom b e, fun t => tabs_upd ho hp (x.hh.tabs t)⟩, x.bb, ⟨fun b o e m => by rw [upd_ne (ne_of_none e nB)]; exact x.bh.s b o e m, fun b i j e => by rw [upd_ne (ne_of_none e nB)]; exact x.bh.v b i j e, x.bh.n⟩, x.out⟩
theorem slots_own {H0 : HG} {B H : Hp} {σ : L2.St} {ρ : Rho} {i : Nat} {a : Addr} {u : HO} {s t : SV} (z : Slots K cl H0 B H σ ρ) (e : ρ[i]? = some s) (o : s.owned = true) (f : σ[i]? = some (some (.ref a))) (ok : SlotOk K cl H0 B (upd H a u) (some (some (.ref a))) t) (ot : t.owned = true) :
    Slots K cl H0 B (upd H a u) σ (ρ.set i t) := by
  have hl : i < ρ.length := (List.getElem?_eq_some_iff.mp e).1
  obtain ⟨u0, hu0, hp0⟩ := z.there e o f
  refine ⟨by rw [List.length_set, z.len], fun j w ej => ?_, fun j k w y b e1 e2 o1 o2 f1 f2 => ?_, tabs_upd hu0 hp0 z.tabs⟩
  · by_cases q : i = j
    · subst q
      rw [List.getElem?_set_self hl] at ej
      cases ej
      rw [f]
      exact ok
    · rw [List.getElem?_set_ne q] at ej
      have zz := z.at_ j w ej
      cases w with
      | un => trivial
      | val d => exact zz
      | exc c d => exact zz
      | own ds =>
        obtain ⟨b, xs, h1, h2, h3, h4, h5⟩ := zz
        have nb : b ≠ a := fun eb => q (z.inj i j s _ a e ej o rfl f (by rw [h1, eb]))
        exact ⟨b, xs, h1, by rw [upd_ne nb]; exact h2, h3, h4, h5⟩
      | ownT ks ds =>
        obtain ⟨b, xs, h1, h2, h3, h4, h5⟩ := zz
        have nb : b ≠ a := fun eb => q (z.inj i j s _ a e ej o rfl f (by rw [h1, eb]))
        exact ⟨b, xs, h1, by rw [upd_ne nb]; exact h2, h3, h4, h5⟩
      | ownK ks ds =>
        obtain ⟨b, xs, h1, h2, h3, h4, h5⟩ := zz
        have nb : b ≠ a := fun eb => q (z.inj i j s _ a e ej o rfl f (by rw [h1, eb]))
        exact ⟨b, xs, h1, by rw [upd_ne nb]; exact h2, h3, h4, h5⟩
      | ownO c ns ds =>
        obtain ⟨b, dx, xs, h1, h2, h3, h4, h5⟩ := zz
        have nb : b ≠ a := fun eb => q (z.inj i j s _ a e ej o rfl f (by rw [h1.1, eb]))
        exact ⟨b, dx, xs, h1, by rw [upd_ne nb]; exact h2, h3, h4, h5⟩
  · by_cases q1 : i = j
    · by_cases q2 : i = k
      · rw [← q1, ← q2]
      · subst q1
        rw [List.getElem?_set_ne q2] at e2
        exact z.inj i k s y b e e2 o o2 f1 f2
    · by_cases q2 : i = k
      · subst q2
        rw [List.getElem?_set_ne q1] at e1
        exact z.inj j i w s b e1 e o1 o f1 f2
      · rw [List.getElem?_set_ne q1] at e1
        rw [List.getElem?_set_ne q2] at e2
        exact z.inj j k w y b e1 e2 o1 o2 f1 f2
/-- x.append(e) -/
def mApp (i : Nat) (g : Rho → Option D) : M := fun ρ => match ρ[i]? with
  | some (.own ds) => (g ρ).bind fun d => if ds.length < top then some (.nx (ρ.set i (.own (ds ++ [d])))) else none
  | _ => none
theorem s_append {i : Nat} (h : PS X st (tDrop (tBM X.K "list" rAppend (tVar i) (tCons (tD X.K cl g) tNil)))) : PS X st (tS X.K cl (mApp i g)) := ps_mono h fun E σ H ⟨H0, B0, B, ρ, out, x, s, hm, q⟩ => by
  unfold mApp at hm
  cases e1 : ρ[i]? with
  | none => rw [e1] at hm; cases hm
  | some sv =>
    rw [e1] at hm
    cases sv with
    | own ds =>
      obtain ⟨a, xs, h1, h2, h3, h4, h5⟩ := s.at_ i _ e1
      cases e2 : g ρ with
      | none => simp only [e2] at hm; cases hm
      | some d =>
        simp only [e2] at hm
        replace hm : (if ds.length < top then some (Out.nx (ρ.set i (.own (ds ++ [d])))) else none) = some out := hm
        split at hm
        · rename_i hz
          cases hm
          refine ⟨.ref a, h1, .inl ⟨rfl, xs, SqL.of h2⟩, ⟨H0, B, ρ, d, x.bh, s, e2, fun B' H' v x' r => ?_⟩⟩
          have xx := x.trans x'
          have s' := s.ext x'
          obtain ⟨a', xs', g1, g2, g3, g4, g5⟩ := s'.at_ i _ e1
          have ea : a' = a := by rw [h1] at g1; cases g1; rfl
          subst ea
          refine ⟨a', xs', v, rfl, rfl, g2, by rw [g5.len]; exact Nat.lt_of_lt_of_le hz (top_le (Nat.le_refl _)), ?_⟩
          exact q B' _ σ (ext_own xx g3 g4 g2) x'.bb (slots_own s' e1 rfl h1 ⟨a', _, rfl, upd_same, g3, g4, g5.append (.one r)⟩ rfl)
        · cases hm
    | _ => cases hm
/-- x.extend(e), e a list -/
def mExt (i : Nat) (g : Rho → Option D) : M := fun ρ => match ρ[i]? with
  | some (.own ds) => (g ρ).bind fun d => match d with
    | .lst es => if ds.length + es.length ≤ top then some (.nx (ρ.set i (.own (ds ++ es)))) else none
    | _ => none
  | _ => none
theorem s_extend {i : Nat} (h : PS X st (tDrop (tBM X.K "list" rExtend (tVar i) (tCons (tD X.K cl g) tNil)))) : PS X st (tS X.K cl (mExt i g)) := ps_mono h fun E σ H ⟨H0, B0, B, ρ, out, x, s, hm, q⟩ => by
  unfold mExt at hm
  cases e1 : ρ[i]? with
  | none => rw [e1] at hm; cases hm
  | some sv =>
    rw [e1] at hm
    cases sv with
    | own ds =>
      obtain ⟨a, xs, h1, h2, h3, h4, h5⟩ := s.at_ i _ e1
      cases e2 : g ρ with
      | none => simp only [e2] at hm; cases hm
      | some d =>
        simp only [e2] at hm
        cases d with
        | lst es =>
          replace hm : (if ds.length + es.length ≤ top then some (Out.nx (ρ.set i (.own (ds ++ es)))) else none) = some out := hm
          split at hm
          · rename_i hz
            cases hm
            refine ⟨.ref a, h1, .inl ⟨rfl, xs, SqL.of h2⟩, ⟨H0, B, ρ, _, x.bh, s, e2, fun B' H' v x' r => ?_⟩⟩
            have xx := x.trans x'
            have s' := s.ext x'
            obtain ⟨a', xs', g1, g2, g3, g4, g5⟩ := s'.at_ i _ e1
            have ea : a' = a := by rw [h1] at g1; cases g1; rfl
            subst ea
            cases r with
            | lst r1 r2 =>
              refine ⟨a', _, xs', _, rfl, rfl, g2, xx.bh _ _ r1, by rw [g5.len, r2.len]; exact top_le hz, ?_⟩
              exact q B' _ σ (ext_own xx g3 g4 g2) x'.bb (slots_own s' e1 rfl h1 ⟨a', _, rfl, upd_same, g3, g4, g5.append r2⟩ rfl)
          · cases hm
        | _ => cases hm
    | _ => cases hm
/-- y = x.pop() -/
def mPop (i j : Nat) : M := fun ρ => match ρ[i]? with
  | some (.own ds) => if i = j then none else match ds[ds.length - 1]? with
    | some d => some (.nx ((ρ.set i (.own ds.dropLast)).set j (.val d)))
    | none => none
  | _ => none
theorem s_pop {i j : Nat} (h : PS X st (tAsg (tBM0 X.K "list" rPop (tVar i)) (gName j))) : PS X st (tS X.K cl (mPop i j)) := ps_mono h fun E σ H ⟨H0, B0, B, ρ, out, x, s, hm, q⟩ => by
  unfold mPop at hm
  cases e1 : ρ[i]? with
  | none => rw [e1] at hm; cases hm
  | some sv =>
    rw [e1] at hm
    cases sv with
    | own ds =>
      obtain ⟨a, xs, h1, h2, h3, h4, h5⟩ := s.at_ i _ e1
      replace hm : (if i = j then none else match ds[ds.length - 1]? with
        | some d => some (Out.nx ((ρ.set i (.own ds.dropLast)).set j (.val d)))
        | none => none) = some out := hm
      split at hm
      · cases hm
      · rename_i hij
        cases e2 : ds[ds.length - 1]? with
        | none => rw [e2] at hm; cases hm
        | some d =>
          rw [e2] at hm
          cases hm
          obtain ⟨v, hv, rv⟩ := h5.get e2
          rw [← h5.len] at hv
          refine ⟨.ref a, h1, .inl ⟨rfl, xs, SqL.of h2⟩, a, xs, v, rfl, rfl, h2, hv, ?_⟩
          exact q B _ _ (ext_own x h3 h4 h2) (Same.refl _) ((slots_own s e1 rfl h1 (t := .own ds.dropLast) ⟨a, _, rfl, upd_same, h3, h4, h5.dropLast⟩ rfl).setVal rv)
    | _ => cases hm
end
end Dl
set_option maxRecDepth 100000
set_option maxHeartbeats 4000000
namespace Dl
open PySem PySem.Spec PyProof.Rows L2

/-! ### what is walked -/
/-- from B1 on, J yields the data ds -/
def Walk (K : PySem.W.Frag) (cl : Cl) (J : It) (B1 : Hp) (ds : List D) : Prop := ∀ (B2 H2 : Hp) (i : Nat), Same B1 B2 → Cln B2 H2 →
  (i < ds.length → J.go i H2 ∧ ∀ x H3, J.yld i H2 x H3 → ∃ B3 d, Ext cl.tabs B2 H2 B3 H3 ∧ ds[i]? = some d ∧ Rep K cl B3 x d) ∧ (ds.length ≤ i → J.stop i H2)
def tI (K : PySem.W.Frag) (cl : Cl) (gi : Rho → Option (List D)) : TI := fun σ H R => ∃ H0 B ρ ds, Cln B H ∧ Slots K cl H0 B H σ ρ ∧ gi ρ = some ds ∧ ∀ J B' H', Ext cl.tabs B H B' H' → Walk K cl J B' ds → R J H'
/-- a target: the slots `is` take what bind makes of the data -/
def tG (K : PySem.W.Frag) (cl : Cl) (is : List Nat) (bind : D → Rho → Option Rho) : TG := fun v σ H Q => ∃ H0 B ρ d ρ', Cln B H ∧ Slots K cl H0 B H σ ρ ∧ Rep K cl B v d ∧ bind d ρ = some ρ' ∧
  ∀ σ', σ'.length = σ.length → (∀ j, j ∉ is → σ'[j]? = σ[j]?) → Slots K cl H0 B H σ' ρ' → Q σ' H
def tGs (K : PySem.W.Frag) (cl : Cl) (is : List Nat) (bind : List D → Rho → Option Rho) : TGs := fun vs σ H Q => ∃ H0 B ρ ds ρ', Cln B H ∧ Slots K cl H0 B H σ ρ ∧ Reps K cl B vs ds ∧ bind ds ρ = some ρ' ∧
  ∀ σ', σ'.length = σ.length → (∀ j, j ∉ is → σ'[j]? = σ[j]?) → Slots K cl H0 B H σ' ρ' → Q σ' H
section
variable {X : Cx} {cl : Cl} {K : PySem.W.Frag} {tg e : Expr} {g h : Rho → Option D} {pos : Pos}
theorem pi_mono {iter : Expr} {t t' : TI} (h : PI X tg iter t) (m : ∀ σ H Q, t' σ H Q → t σ H Q) : PI X tg iter t' := ⟨fun pins s σ H R I w => h.run pins s σ H R I (m σ H R w)⟩
theorem pg_mono {t t' : TG} (h : PG X tg t) (m : ∀ v σ H Q, t' v σ H Q → t v σ H Q) : PG X tg t' := ⟨fun pins s σ H v u Q I r w => h.run pins s σ H v u Q I r (m v σ H Q w)⟩
theorem pgs_mono {ts : List Expr} {t t' : TGs} (h : PGs X ts t) (m : ∀ v σ H Q, t' v σ H Q → t v σ H Q) : PGs X ts t' := ⟨fun pins s σ H v u Q I r w => h.run pins s σ H v u Q I r (m v σ H Q w)⟩
def bName (i : Nat) : D → Rho → Option Rho := fun d ρ => some (ρ.set i (.val d))
theorem dg_name {i : Nat} (h : PG X tg (gName i)) : PG X tg (tG X.K cl [i] (bName i)) := pg_mono h fun v σ H Q ⟨H0, B, ρ, d, ρ', hB, s, r, hb, q⟩ => by
  cases hb
  exact q _ (List.length_set ..) (fun j hj => List.getElem?_set_ne (by simpa [eq_comm] using hj)) (s.setVal r)
def bNil : List D → Rho → Option Rho := fun ds ρ => match ds with | [] => some ρ | _ => none
def bCons (b : D → Rho → Option Rho) (r : List D → Rho → Option Rho) : List D → Rho → Option Rho := fun ds ρ => match ds with | d :: ds => (b d ρ).bind fun ρ' => r ds ρ' | [] => none
theorem dgs_nil : PGs X [] (tGs X.K cl [] bNil) := pgs_mono pgs_nil fun v σ H Q ⟨H0, B, ρ, ds, ρ', hB, s, r, hb, q⟩ => by
  cases r with
  | nil => cases hb; exact ⟨rfl, q σ rfl (fun _ _ => rfl) s⟩
  | cons _ _ => cases hb
theorem dgs_cons {e : Expr} {es : List Expr} {is js : List Nat} {b : D → Rho → Option Rho} {r : List D → Rho → Option Rho} (h1 : PG X e (tG X.K cl is b)) (h2 : PGs X es (tGs X.K cl js r)) (hs : (assignEach (e :: es) X.env).map (·.2) = assign e X.env :: (assignEach es X.env).map (·.2) := by rfl) :
    PGs X (e :: es) (tGs X.K cl (is ++ js) (bCons b r)) := pgs_mono (pgs_cons h1 h2 hs) fun v σ H Q ⟨H0, B, ρ, ds, ρ', hB, s, rr, hb, q⟩ => by
  cases rr with
  | nil => cases hb
  | cons r1 r2 =>
    unfold bCons at hb
    replace hb : (b _ ρ).bind (fun ρ' => r _ ρ') = some ρ' := hb
    cases e1 : b _ ρ with
    | none => rw [e1] at hb; cases hb
    | some ρ1 =>
      rw [e1] at hb
      refine ⟨_, _, rfl, H0, B, ρ, _, ρ1, hB, s, r1, e1, fun σ1 l1 f1 s1 => ⟨H0, B, ρ1, _, ρ', hB, s1, r2, hb, fun σ2 l2 f2 s2 => q σ2 (l2.trans l1) (fun j hj => ?_) s2⟩⟩
      rw [List.mem_append, not_or] at hj
      exact (f2 j hj.2).trans (f1 j hj.1)
def bTup (n : Nat) (b : List D → Rho → Option Rho) : D → Rho → Option Rho := fun d ρ => match d with | .tup ds => if ds.length = n then b ds ρ else none | _ => none
theorem dg_tup {es : List Expr} {k : Nat} {is : List Nat} {b : List D → Rho → Option Rho} {n : Nat} (hc : X.calm = true) (h : PGs X es (tGs X.K cl is b)) (hn : (assignEach es X.env).length = n := by rfl) (hst : (assignEach es X.env).findIdx? (·.1) = none := by rfl) :
    PG X (.Tuple es k pos) (tG X.K cl is (bTup n b)) := pg_mono (pg_tup hc h hn hst) fun v σ H Q ⟨H0, B, ρ, d, ρ', hB, s, r, hb, q⟩ => by
  cases r with
  | tup h1 h2 =>
    unfold bTup at hb
    replace hb : (if _ = n then b _ ρ else none) = some ρ' := hb
    split at hb
    · rename_i hz
      exact ⟨_, _, rfl, SqT.of (hB _ _ h1), by rw [h2.len]; exact hz, H0, B, ρ, _, ρ', hB, s, h2, hb, q⟩
    · cases hb
  | _ => cases hb
/-! lists, tuples -/
def iSeq (K : PySem.W.Frag) (tl : TE) : TI := fun σ H R => tl σ H fun x H1 => ∃ a, x = .ref a ∧ (((∃ xs, SqL K H1 a xs) ∧ R (Itl K a) H1) ∨ ((∃ xs, SqT K H1 a xs) ∧ R (Itt K a) H1))
theorem pi_seq {l : Expr} {tl : TE} (hl : PE X l tl) : PI X tg l (iSeq X.K tl) := by
  refine ⟨fun pins s σ H R I h => ?_⟩
  refine thn (hl.run pins s σ H _ I h) fun v s1 ⟨x, H1, I1, r1, q1⟩ => ?_
  obtain ⟨a, e, q1⟩ := q1
  subst e
  cases r1
  have fr : ∀ b ∈ [s1.heap.objs.size], FpOk X pins H1 b := fun b hb => by
    have e : b = s1.heap.objs.size := by simpa using hb
    subst e
    exact I1.fpOk (Nat.le_refl _) (I1.hok.fresh (Nat.le_refl _))
  rcases q1 with ⟨⟨xs, hq⟩, q⟩ | ⟨⟨xs, hq⟩, q⟩
  · obtain ⟨its, rv, p, hz⟩ := I1.list hq
    exact wpAny_pyIter_list p.isList ⟨s1.heap.objs.size, [s1.heap.objs.size], _, _, H1, rfl, I1.kept (t' := s1.toks) fun b o e => Heap.get?_push_of_some _ e, turn_list a _, ⟨_, Heap.get?_push_size _ rfl, rfl, rfl⟩, fr, q⟩
  · obtain ⟨its, rv, p, hz⟩ := I1.tuple hq
    exact wpAny_pyIter_tuple (show s1.heap.IsTuple a its.toArray from p) ⟨s1.heap.objs.size, [s1.heap.objs.size], _, _, H1, rfl, I1.kept (t' := s1.toks) fun b o e => Heap.get?_push_of_some _ e, turn_tuple a _, ⟨_, Heap.get?_push_size _ rfl, rfl, rfl⟩, fr, q⟩
def gSeq (g : Rho → Option D) : Rho → Option (List D) := fun ρ => match g ρ with | some (.lst ds) => some ds | some (.tup ds) => some ds | _ => none
theorem list_inj {B : Hp} {a : Addr} {xs ys : List V} (h : B a = some (.lst xs)) (h' : SqL K B a ys) (nk : K.lookup a = none) : xs = ys := by
  rcases h' with (h' | ⟨o, h'⟩) | ⟨o, its, n, e, _⟩
  · rw [h] at h'; cases h'; rfl
  · rw [h] at h'; cases h'
  · rw [nk] at e; cases e
theorem di_seq {l : Expr} (hl : PE X l (tD X.K cl g)) : PI X tg l (tI X.K cl (gSeq g)) := pi_mono (pi_seq hl) fun σ H R ⟨H0, B, ρ, ds, hB, s, hg, q⟩ => by
  unfold gSeq at hg
  split at hg
  · rename_i ds' e1
    cases hg
    refine ⟨H0, B, ρ, _, hB, s, e1, fun B' H' v x r => ?_⟩
    cases r with
    | lst h1 h2 =>
      refine ⟨_, rfl, .inl ⟨⟨_, SqL.of (x.bh _ _ h1)⟩, q _ B' H' x fun B2 H2 i s1 s2 => ⟨fun hi => ?_, fun hi => ⟨_, SqL.of (s2 _ _ (s1 _ _ h1)), by rw [h2.len]; exact hi⟩⟩⟩⟩
      obtain ⟨w, hw, rw'⟩ := (h2.mono s1).get (List.getElem?_eq_getElem hi)
      refine ⟨⟨_, w, SqL.of (s2 _ _ (s1 _ _ h1)), hw⟩, fun y H3 hy => ⟨B2, _, ?_, List.getElem?_eq_getElem hi, ?_⟩⟩
      · rw [hy.1]; exact Ext.refl s2
      · have := hy.2 _ (SqL.of (s2 _ _ (s1 _ _ h1)))
        rw [hw] at this; cases this; exact rw'
  · rename_i ds' e1
    cases hg
    refine ⟨H0, B, ρ, _, hB, s, e1, fun B' H' v x r => ?_⟩
    cases r with
    | tup h1 h2 =>
      refine ⟨_, rfl, .inr ⟨⟨_, SqT.of (x.bh _ _ h1)⟩, q _ B' H' x fun B2 H2 i s1 s2 => ⟨fun hi => ?_, fun hi => ⟨_, SqT.of (s2 _ _ (s1 _ _ h1)), by rw [h2.len]; exact hi⟩⟩⟩⟩
      obtain ⟨w, hw, rw'⟩ := (h2.mono s1).get (List.getElem?_eq_getElem hi)
      refine ⟨⟨_, w, SqT.of (s2 _ _ (s1 _ _ h1)), hw⟩, fun y H3 hy => ⟨B2, _, ?_, List.getElem?_eq_getElem hi, ?_⟩⟩
      · rw [hy.1]; exact Ext.refl s2
      · have := hy.2 _ (SqT.of (s2 _ _ (s1 _ _ h1)))
        rw [hw] at this; cases this; exact rw'
  · cases hg
/-! ranges -/
def rngD (lo : Int) (n : Nat) : List D := (List.range n).map fun i => D.int (lo + (i : Nat))
theorem rng_at {lo : Int} {n i : Nat} (h : i < n) : (rngD lo n)[i]? = some (.int (lo + i)) := by
  unfold rngD
  rw [List.getElem?_map, List.getElem?_range h]
  rfl
theorem rng_len {lo : Int} {n : Nat} : (rngD lo n).length = n := by unfold rngD; rw [List.length_map, List.length_range]
theorem walk_rng {lo : Int} {n : Nat} {B1 : Hp} : Walk K cl (Itr lo n) B1 (rngD lo n) := fun B2 H2 i s1 s2 => ⟨fun hi => by
    rw [rng_len] at hi
    refine ⟨hi, fun x H3 hy => ⟨B2, _, ?_, rng_at hi, ?_⟩⟩
    · rw [hy.1]; exact Ext.refl s2
    · rw [hy.2]; exact .int _, fun hi => by rw [rng_len] at hi; exact hi⟩
def big : Int := 1000000
def gRng1 (gs : Rho → Option (List D)) : Rho → Option (List D) := fun ρ => match gs ρ with | some [.int j] => if -big < j ∧ j < big then some (rngD 0 j.toNat) else none | _ => none
def gRng2 (gs : Rho → Option (List D)) : Rho → Option (List D) := fun ρ => match gs ρ with | some [.int i, .int j] => if -big < i ∧ i < big ∧ -big < j ∧ j < big then some (rngD i (j - i).toNat) else none | _ => none
theorem reps1 {B : Hp} {vs : List V} {a : D} (r : Reps K cl B vs [a]) : ∃ v, vs = [v] ∧ Rep K cl B v a := by
  cases r with
  | cons r t => cases t; exact ⟨_, rfl, r⟩
theorem reps2 {B : Hp} {vs : List V} {a b : D} (r : Reps K cl B vs [a, b]) : ∃ v u, vs = [v, u] ∧ Rep K cl B v a ∧ Rep K cl B u b := by
  cases r with
  | cons r t =>
    obtain ⟨u, e, q⟩ := reps1 t
    exact ⟨_, u, by rw [e], r, q⟩
theorem di_rng1 {a : Expr} {gs : Rho → Option (List D)} {p : Pos} (hg : Gl X "range") (hm : X.mg "range" = none) (ha : PA X [a] (tDs X.K cl gs)) (hs : starEach [a] X.env = [(false, eval a X.env)] := by rfl) : PI X tg (.Call (.Name "range" p) [a] [] pos) (tI X.K cl (gRng1 gs)) :=
  pi_mono (pi_range1 hg hm ha hs) fun σ H R ⟨H0, B, ρ, ds, hB, s, hgi, q⟩ => by
  unfold gRng1 at hgi
  split at hgi
  · rename_i j e1
    split at hgi
    · rename_i hj
      cases hgi
      refine ⟨H0, B, ρ, _, hB, s, e1, fun B' H' vs x r => ?_⟩
      obtain ⟨v, rfl, r1⟩ := reps1 r
      cases r1
      unfold big at hj
      exact ⟨j, rfl, by omega, by omega, q _ B' H' x walk_rng⟩
    · cases hgi
  · cases hgi
theorem di_rng2 {a b : Expr} {gs : Rho → Option (List D)} {p : Pos} (hg : Gl X "range") (hm : X.mg "range" = none) (ha : PA X [a, b] (tDs X.K cl gs)) (hs : starEach [a, b] X.env = [(false, eval a X.env), (false, eval b X.env)] := by rfl) (hs2 : starEach [b] X.env = [(false, eval b X.env)] := by rfl) : PI X tg (.Call (.Name "range" p) [a, b] [] pos) (tI X.K cl (gRng2 gs)) :=
  pi_mono (pi_range2 hg hm ha hs hs2) fun σ H R ⟨H0, B, ρ, ds, hB, s, hgi, q⟩ => by
  unfold gRng2 at hgi
  split at hgi
  · rename_i i j e1
    split at hgi
    · rename_i hj
      cases hgi
      refine ⟨H0, B, ρ, _, hB, s, e1, fun B' H' vs x r => ?_⟩
      obtain ⟨v, u, rfl, r1, r2⟩ := reps2 r
      cases r1
      cases r2
      unfold big at hj
      exact ⟨i, j, rfl, ⟨by omega, by omega, by omega, by omega⟩, q _ B' H' x walk_rng⟩
    · cases hgi
  · cases hgi

/-! ### for -/
def forRun (bind : D → Rho → Option Rho) (body : M) : Rho → List D → Option Out
  | ρ, [] => some (.nx ρ)
  | ρ, d :: ds => (bind d ρ).bind fun ρ1 => (body ρ1).bind fun o => match o with
    | .nx ρ2 => forRun bind body ρ2 ds
    | .ct ρ2 => forRun bind body ρ2 ds
    | .bk ρ2 => some (.nx ρ2)
    | .rt d => some (.rt d)
    | .ro ds => some (.ro ds)
def mFor (gi : Rho → Option (List D)) (bind : D → Rho → Option Rho) (body : M) : M := fun ρ => (gi ρ).bind fun ds => forRun bind body ρ ds
theorem s_for {iter : Expr} {body : List Stmt} {gi : Rho → Option (List D)} {is : List Nat} {bind : D → Rho → Option Rho} {m : M} (hp : PassesOwn (model X.prog X.w) X.A X.env X.xe) (hc : X.calm = true) (hi : PI X tg iter (tI X.K cl gi)) (hg : PG X tg (tG X.K cl is bind)) (hb : PSs X body (tS X.K cl m))
    (hs : ∀ x, foldedSetIterable iter X.env x = pure x := by intro _; rfl) : PS X (.For tg iter body [] pos) (tS X.K cl (mFor gi bind m)) := ps_mono (ps_for hp hc hi hg hb hs) fun E σ H ⟨H0, B0, B, ρ, out, x, s, hm, q⟩ => by
  unfold mFor at hm
  cases e1 : gi ρ with
  | none => rw [e1] at hm; cases hm
  | some ds =>
    rw [e1] at hm
    replace hm : forRun bind m ρ ds = some out := hm
    refine ⟨H0, B, ρ, ds, x.bh, s, e1, fun J B1 H1 x1 wk => ?_⟩
    refine ⟨fun i k σ H => k = ds.length - i ∧ i ≤ ds.length ∧ ∃ B2 ρ2, Ext cl.tabs B0 H0.h B2 H ∧ Same B1 B2 ∧ Slots X.K cl H0 B2 H σ ρ2 ∧ forRun bind m ρ2 (ds.drop i) = some out, ⟨_, rfl, Nat.zero_le _, B1, ρ, x.trans x1, Same.refl _, s.ext x1, hm⟩, ?_⟩
    rintro i k σ2 H2 ⟨rfl, hi, B2, ρ2, x2, s12, sl, hr⟩
    have wki := wk B2 H2 i s12 x2.bh
    by_cases hlt : i < ds.length
    · obtain ⟨hgo, hy⟩ := wki.1 hlt
      refine .inr ⟨hgo, fun σ' H' => ∃ B' ρ', Ext cl.tabs B0 H0.h B' H' ∧ Same B1 B' ∧ Slots X.K cl H0 B' H' σ' ρ' ∧ forRun bind m ρ' (ds.drop (i + 1)) = some out, fun σ' H' w => ⟨_, ?_, rfl, hlt, w⟩, fun v H3 hv => ?_⟩
      · omega
      · obtain ⟨B3, d, x3, hd, rv⟩ := hy v H3 hv
        have x03 := x2.trans x3
        rw [List.drop_eq_getElem_cons hlt] at hr
        rw [List.getElem?_eq_getElem hlt] at hd
        cases hd
        unfold forRun at hr
        cases e2 : bind ds[i] ρ2 with
        | none => rw [e2] at hr; cases hr
        | some ρ3 =>
          rw [e2] at hr
          refine ⟨H0, B3, ρ2, _, ρ3, x03.bh, sl.ext x3, rv, e2, fun σ3 l3 f3 s3 => ?_⟩
          replace hr : (m ρ3).bind (fun o => match o with
            | .nx ρ2 => forRun bind m ρ2 (ds.drop (i + 1))
            | .ct ρ2 => forRun bind m ρ2 (ds.drop (i + 1))
            | .bk ρ2 => some (.nx ρ2)
            | .rt d => some (.rt d)
            | .ro ds => some (.ro ds)) = some out := hr
          cases e3 : m ρ3 with
          | none => rw [e3] at hr; cases hr
          | some o =>
            rw [e3] at hr
            refine ⟨H0, B0, B3, ρ3, o, x03, s3, e3, ?_⟩
            cases o with
            | nx ρ4 => exact fun B4 H4 σ4 x4 s34 sl4 => ⟨B4, ρ4, x4, (s12.trans x3.bb).trans s34, sl4, hr⟩
            | ct ρ4 => exact fun B4 H4 σ4 x4 s34 sl4 => ⟨B4, ρ4, x4, (s12.trans x3.bb).trans s34, sl4, hr⟩
            | bk ρ4 => cases hr; exact fun B4 H4 σ4 x4 s34 sl4 => q B4 H4 σ4 x4 ((x1.bb.trans (s12.trans x3.bb)).trans s34) sl4
            | rt d => cases hr; exact q
            | ro ds => cases hr; exact q
    · have e : i = ds.length := by omega
      subst e
      rw [List.drop_length] at hr
      cases hr
      exact .inl ⟨wki.2 (Nat.le_refl _), q B2 H2 σ2 x2 (x1.bb.trans s12) sl⟩

/-! ### while -/
def whileRun (t : Rho → Option Bool) (body : M) : Nat → Rho → Option Out
  | 0, _ => none
  | n + 1, ρ => (t ρ).bind fun b => if b = true then (body ρ).bind fun o => match o with
    | .nx ρ2 => whileRun t body n ρ2
    | .ct ρ2 => whileRun t body n ρ2
    | .bk ρ2 => some (.nx ρ2)
    | .rt d => some (.rt d)
    | .ro ds => some (.ro ds)
    else some (.nx ρ)
theorem s_while {c : Expr} {body : List Stmt} {t : Rho → Option Bool} {m : M} (n : Nat) (hp : PassesOwn (model X.prog X.w) X.A X.env X.xe) (hc : PT X c (tDT X.K cl t)) (hb : PSs X body (tS X.K cl m)) : PS X (.While c body [] pos) (tS X.K cl (whileRun t m n)) := ps_mono (ps_while hp hc hb) fun E σ H ⟨H0, B0, B, ρ, out, x, s, hm, q⟩ => by
  refine ⟨fun k σ H => ∃ B2 ρ2, Ext cl.tabs B0 H0.h B2 H ∧ Same B B2 ∧ Slots X.K cl H0 B2 H σ ρ2 ∧ whileRun t m k ρ2 = some out, ⟨n, B, ρ, x, Same.refl _, s, hm⟩, ?_⟩
  rintro k σ2 H2 ⟨B2, ρ2, x2, s12, sl, hr⟩
  cases k with
  | zero => cases hr
  | succ k =>
    unfold whileRun at hr
    cases e1 : t ρ2 with
    | none => rw [e1] at hr; cases hr
    | some b =>
      rw [e1] at hr
      refine ⟨H0, B2, ρ2, b, x2.bh, sl, e1, fun B3 H3 x3 => ?_⟩
      have x03 := x2.trans x3
      cases b with
      | false =>
        cases hr
        exact iteF (q B3 H3 σ2 x03 (s12.trans x3.bb) (sl.ext x3))
      | true =>
        replace hr : (m ρ2).bind (fun o => match o with
          | .nx ρ2 => whileRun t m k ρ2
          | .ct ρ2 => whileRun t m k ρ2
          | .bk ρ2 => some (.nx ρ2)
          | .rt d => some (.rt d)
          | .ro ds => some (.ro ds)) = some out := hr
        refine iteT ⟨fun σ' H' => ∃ B' ρ', Ext cl.tabs B0 H0.h B' H' ∧ Same B B' ∧ Slots X.K cl H0 B' H' σ' ρ' ∧ whileRun t m k ρ' = some out, fun σ' H' w => ⟨k, Nat.lt_succ_self _, w⟩, ?_⟩
        cases e3 : m ρ2 with
        | none => rw [e3] at hr; cases hr
        | some o =>
          rw [e3] at hr
          refine ⟨H0, B0, B3, ρ2, o, x03, sl.ext x3, e3, ?_⟩
          cases o with
          | nx ρ4 => exact fun B4 H4 σ4 x4 s34 sl4 => ⟨B4, ρ4, x4, (s12.trans x3.bb).trans s34, sl4, hr⟩
          | ct ρ4 => exact fun B4 H4 σ4 x4 s34 sl4 => ⟨B4, ρ4, x4, (s12.trans x3.bb).trans s34, sl4, hr⟩
          | bk ρ4 => cases hr; exact fun B4 H4 σ4 x4 s34 sl4 => q B4 H4 σ4 x4 ((s12.trans x3.bb).trans s34) sl4
          | rt d => cases hr; exact q
          | ro ds => cases hr; exact q

/-! ### comprehensions -/
def wipeR (ρ : Rho) : List Nat → Rho
  | [] => ρ
  | v :: vs => (wipeR ρ vs).set v .un
theorem wipe_eq {σ τ : L2.St} : ∀ {vs : List Nat}, σ.length = τ.length → (∀ j, j ∉ vs → σ[j]? = τ[j]?) → wipe σ vs = wipe τ vs := fun {vs} hl hf => by
  have key : ∀ (vs : List Nat) (σ : L2.St) (j : Nat), (wipe σ vs)[j]? = if j ∈ vs ∧ j < σ.length then some none else σ[j]? := by
    intro vs
    induction vs with
    | nil => intro σ j; simp [wipe]
    | cons v vs ih =>
      intro σ j
      unfold wipe
      by_cases q : v = j
      · subst q
        by_cases hv : v < σ.length
        · rw [List.getElem?_set_self (by rw [wipe_length]; exact hv), if_pos ⟨List.mem_cons_self, hv⟩]
        · rw [List.getElem?_eq_none (by rw [List.length_set, wipe_length]; omega), if_neg (fun z => hv z.2), List.getElem?_eq_none (by omega)]
      · rw [List.getElem?_set_ne q, ih]
        by_cases hm : j ∈ vs
        · simp [hm]
        · have : ¬ j = v := fun z => q z.symm
          simp [hm, this]
  apply List.ext_getElem?
  intro j
  rw [key, key, hl]
  by_cases hj : j ∈ vs
  · by_cases hz : j < τ.length
    · rw [if_pos ⟨hj, hz⟩, if_pos ⟨hj, hz⟩]
    · rw [if_neg (fun z => hz z.2), if_neg (fun z => hz z.2), List.getElem?_eq_none (by omega), List.getElem?_eq_none (by omega)]
  · rw [if_neg (fun z => hj z.1), if_neg (fun z => hj z.1), hf j hj]
theorem wipe_wipe {σ : L2.St} {vs : List Nat} : wipe (wipe σ vs) vs = wipe σ vs := wipe_eq (wipe_length σ vs) fun j hj => by
  induction vs with
  | nil => rfl
  | cons v vs ih =>
    rw [List.mem_cons, not_or] at hj
    unfold wipe
    rw [List.getElem?_set_ne (Ne.symm hj.1)]
    exact ih hj.2
theorem Slots.un {H0 : HG} {B H : Hp} {σ : L2.St} {ρ : Rho} (h : Slots K cl H0 B H σ ρ) (v : Nat) : Slots K cl H0 B H (σ.set v none) (ρ.set v .un) := by
  refine ⟨by rw [List.length_set, List.length_set, h.len], fun j t e => ?_, fun j k t u a e1 e2 o1 o2 f1 f2 => ?_, h.tabs⟩
  · by_cases q : v = j
    · subst q
      have hl : v < ρ.length := by
        have := (List.getElem?_eq_some_iff.mp e).1
        rwa [List.length_set] at this
      rw [List.getElem?_set_self hl] at e
      cases e
      trivial
    · rw [List.getElem?_set_ne q] at e
      rw [List.getElem?_set_ne q]
      exact h.at_ j t e
  · have n1 : v ≠ j := fun q => by
      subst q
      have hl : v < ρ.length := by
        have := (List.getElem?_eq_some_iff.mp e1).1
        rwa [List.length_set] at this
      rw [List.getElem?_set_self hl] at e1
      cases e1
      cases o1
    have n2 : v ≠ k := fun q => by
      subst q
      have hl : v < ρ.length := by
        have := (List.getElem?_eq_some_iff.mp e2).1
        rwa [List.length_set] at this
      rw [List.getElem?_set_self hl] at e2
      cases e2
      cases o2
    rw [List.getElem?_set_ne n1] at e1 f1
    rw [List.getElem?_set_ne n2] at e2 f2
    exact h.inj j k t u a e1 e2 o1 o2 f1 f2
theorem Slots.wipe {H0 : HG} {B H : Hp} {σ : L2.St} {ρ : Rho} (h : Slots K cl H0 B H σ ρ) : ∀ vs : List Nat, Slots K cl H0 B H (L2.wipe σ vs) (wipeR ρ vs)
  | [] => h
  | v :: vs => (Slots.wipe h vs).un v
def lcRun (bind : D → Rho → Option Rho) (tt : Rho → Option Bool) (te : Rho → Option D) (ρ : Rho) : List D → Option (List D)
  | [] => some []
  | d :: ds => (bind d ρ).bind fun ρ1 => (tt ρ1).bind fun b => if b = true then (te ρ1).bind fun y => (lcRun bind tt te ρ ds).bind fun r => some (y :: r) else lcRun bind tt te ρ ds
def gLc (gi : Rho → Option (List D)) (bind : D → Rho → Option Rho) (tt : Rho → Option Bool) (te : Rho → Option D) (vs : List Nat) : Rho → Option D := fun ρ => (gi ρ).bind fun ds => if ds.length ≤ top then (lcRun bind tt te (wipeR ρ vs) ds).map D.lst else none
theorem lcRun_len {bind : D → Rho → Option Rho} {tt : Rho → Option Bool} {te : Rho → Option D} {ρ : Rho} : ∀ {ds out : List D}, lcRun bind tt te ρ ds = some out → out.length ≤ ds.length
  | [], out, h => by cases h; exact Nat.le_refl _
  | d :: ds, out, h => by
    unfold lcRun at h
    cases e1 : bind d ρ with
    | none => rw [e1] at h; cases h
    | some ρ1 =>
      simp only [e1, Option.bind_some] at h
      cases e2 : tt ρ1 with
      | none => rw [e2] at h; cases h
      | some b =>
        simp only [e2, Option.bind_some] at h
        cases b with
        | false => exact Nat.le_succ_of_le (lcRun_len (ds := ds) h)
        | true =>
          simp only [if_true] at h
          cases e3 : te ρ1 with
          | none => rw [e3] at h; cases h
          | some y =>
            simp only [e3, Option.bind_some] at h
            cases e4 : lcRun bind tt te ρ ds with
            | none => rw [e4] at h; cases h
            | some r =>
              simp only [e4, Option.bind_some] at h
              cases h
              exact Nat.succ_le_succ (lcRun_len e4)
theorem lc_of {gi : Rho → Option (List D)} {is vs : List Nat} {bind : D → Rho → Option Rho} {tt : Rho → Option Bool} {te : Rho → Option D} (hv : ∀ i ∈ is, i ∈ vs) : ∀ σ H Q, tD K cl (gLc gi bind tt te vs) σ H Q → tLc (tI K cl gi) (tG K cl is bind) (tDT K cl tt) (tD K cl te) vs σ H Q := fun σ H Q ⟨H0, B, ρ, c, hB, s, hg, q⟩ => by
  unfold gLc at hg
  cases e1 : gi ρ with
  | none => rw [e1] at hg; cases hg
  | some ds =>
    rw [e1] at hg
    replace hg : (if ds.length ≤ top then (lcRun bind tt te (wipeR ρ vs) ds).map D.lst else none) = some c := hg
    split at hg
    · rename_i hz
      cases e2 : lcRun bind tt te (wipeR ρ vs) ds with
      | none => rw [e2] at hg; cases hg
      | some out =>
        rw [e2] at hg
        cases hg
        refine ⟨H0, B, ρ, ds, hB, s, e1, fun J B1 H1 x1 wk Dd nD => ?_⟩
        have nB1 : B1 Dd = none := x1.bh.free nD
        refine ⟨fun i k H => k = ds.length - i ∧ i ≤ ds.length ∧ ∃ B2 acc ys rest, Ext cl.tabs B1 H1 B2 H ∧ B2 Dd = none ∧ H Dd = some (.lst acc) ∧ Reps K cl B2 acc ys ∧ lcRun bind tt te (wipeR ρ vs) (ds.drop i) = some rest ∧ out = ys ++ rest ∧ ys.length ≤ i,
          ⟨_, rfl, Nat.zero_le _, B1, [], [], out, (Ext.refl x1.bh).side nD, nB1, upd_same, .nil, e2, rfl, Nat.le_refl _⟩, ?_⟩
        rintro i k H2 ⟨rfl, hi, B2, acc, ys, rest, x2, nD2, hD2, ra, hr, eo, hy⟩
        have wki := wk B2 H2 i x2.bb x2.bh
        by_cases hlt : i < ds.length
        · obtain ⟨hgo, hyl⟩ := wki.1 hlt
          refine .inr ⟨hgo, fun H' => i + 1 ≤ ds.length ∧ ∃ B2 acc ys rest, Ext cl.tabs B1 H1 B2 H' ∧ B2 Dd = none ∧ H' Dd = some (.lst acc) ∧ Reps K cl B2 acc ys ∧ lcRun bind tt te (wipeR ρ vs) (ds.drop (i + 1)) = some rest ∧ out = ys ++ rest ∧ ys.length ≤ i + 1,
            fun H' w => ⟨ds.length - (i + 1), by omega, rfl, w⟩, fun v H3 hv3 => ?_⟩
          obtain ⟨B3, d, x3, hd, rv⟩ := hyl v H3 hv3
          rw [List.getElem?_eq_getElem hlt] at hd
          cases hd
          rw [List.drop_eq_getElem_cons hlt] at hr
          unfold lcRun at hr
          have x23 := x1.trans (x2.trans x3)
          cases e3 : bind ds[i] (wipeR ρ vs) with
          | none => rw [e3] at hr; cases hr
          | some ρ1 =>
            simp only [e3, Option.bind_some] at hr
            refine ⟨H0, B3, wipeR ρ vs, _, ρ1, x3.bh, (s.ext x23).wipe vs, rv, e3, fun σ3 l3 f3 s3 => ⟨?_, ?_⟩⟩
            · rw [← wipe_wipe (σ := σ)]
              exact wipe_eq l3 fun j hj => f3 j fun z => hj (hv j z)
            · cases e4 : tt ρ1 with
              | none => rw [e4] at hr; cases hr
              | some b =>
                simp only [e4, Option.bind_some] at hr
                refine ⟨H0, B3, ρ1, b, x3.bh, s3, e4, fun B4 H4 x4 => ?_⟩
                have x24 := x3.trans x4
                have x14 := x2.trans x24
                have hD4 : H4 Dd = some (.lst acc) := x24.get hD2 nD2
                have nD4 : B4 Dd = none := (x24.out _ _ hD2 (fun _ z => nomatch z) (fun _ z => nomatch z)).trans nD2
                cases b with
                | false =>
                  simp only [Bool.false_eq_true, if_false] at hr
                  exact iteF ⟨hlt, B4, acc, ys, rest, x14, nD4, hD4, ra.mono x24.bb, hr, eo, Nat.le_succ_of_le hy⟩
                | true =>
                  simp only [if_true] at hr
                  cases e5 : te ρ1 with
                  | none => rw [e5] at hr; cases hr
                  | some y =>
                    simp only [e5, Option.bind_some] at hr
                    cases e6 : lcRun bind tt te (wipeR ρ vs) (ds.drop (i + 1)) with
                    | none => rw [e6] at hr; cases hr
                    | some r' =>
                      simp only [e6, Option.bind_some] at hr
                      cases hr
                      refine iteT ⟨H0, B4, ρ1, y, x4.bh, s3.ext x4, e5, fun B5 H5 w x5 rw' => ?_⟩
                      have x25 := x24.trans x5
                      have x15 := x2.trans x25
                      have hD5 : H5 Dd = some (.lst acc) := x25.get hD2 nD2
                      have nD5 : B5 Dd = none := (x25.out _ _ hD2 (fun _ z => nomatch z) (fun _ z => nomatch z)).trans nD2
                      have n1 : H1 Dd = none := nD
                      refine ⟨acc, hD5, by rw [ra.len]; exact Nat.lt_of_le_of_lt hy (Nat.lt_of_lt_of_le hlt (top_le hz)), hlt, B5, acc ++ [w], ys ++ [y], r', ext_own x15 nD5 n1 hD5, nD5, upd_same, (ra.mono x25.bb).append (.one rw'), rfl, by rw [eo, List.append_assoc]; rfl, by rw [List.length_append]; exact Nat.succ_le_succ hy⟩
        · have e : i = ds.length := by omega
          subst e
          rw [List.drop_length] at hr
          cases hr
          rw [List.append_nil] at eo
          subst eo
          exact .inl ⟨wki.2 (Nat.le_refl _), q (upd B2 Dd (.lst acc)) H2 _ (x1.trans (x2.join hD2 nD2 nD)) (.lst upd_same (ra.mono (same_new nD2)))⟩
    · cases hg
theorem dts_nil : PTs X [] (tDT X.K cl fun _ => some true) := ⟨fun pins s σ H Q I ⟨H0, B, ρ, c, hB, sl, hg, q⟩ => by
  cases hg
  exact pts_nil.run pins s σ H Q I (q B H (Ext.refl hB))⟩
theorem dts_one {c : Expr} {t : Rho → Option Bool} (h : PT X c (tDT X.K cl t)) : PTs X [c] (tDT X.K cl t) := pts_one h
end
end Dl
set_option maxRecDepth 100000
set_option maxHeartbeats 4000000
namespace Dl
open PySem PySem.Spec PyProof.Rows L2

/-! ### enumerate(t), t a tuple -/
theorem meets_enumerate_newT (t : Addr) (items : Array Value) :
    Meets (Builtin.«enumerate.__new__» ⟨[.type "enumerate", .ref t], []⟩) (fun _ R s => s.heap.IsTuple t items ∧
      R (.ok (.ret (.ref (s.heap.push { cls := .type "tuple_iterator", data := .fields #[.ref t, .int 0 0] }).objs.size))) { s with heap := (s.heap.push { cls := .type "tuple_iterator", data := .fields #[.ref t, .int 0 0] }).push { cls := .type "enumerate", data := .fields #[.none, .bool false, .ref s.heap.objs.size, rawInt 0, .none, .none] } }) :=
  .of_wp fun prog w A R s h => by
    obtain ⟨hp, g, d, tk, os⟩ := s; obtain ⟨h1, h⟩ := h
    have hsub := sub_enumerate
    have q1 : ∀ {A' : Around} {E : Value → Shared → Prop} {Q : Value → Shared → Prop}, Q (.ref hp.objs.size) ⟨hp.push { cls := .type "tuple_iterator", data := .fields #[.ref t, .int 0 0] }, g, d, tk, os⟩ → wpAny (model prog w) A' (pyIter (.ref t)) Q E ⟨hp, g, d, tk, os⟩ :=
      fun q => wpAny_pyIter_tuple (s := ⟨hp, g, d, tk, os⟩) h1 q
    wp_walk using q1
    refine wpAny_stack_any fun st => wpAny_pure ?_
    split
    · rename_i c _ _ _ _ _
      cases (c == Value.type "enumerate")
      · wp_walk using q1
        exact ⟨_, rfl, h⟩
      · wp_walk using q1
        exact ⟨_, rfl, h⟩
    · wp_walk using q1
      exact ⟨_, rfl, h⟩
theorem call_enumerate_tuple {prog : Program} {w : World} {A : Around} {E : Value → Shared → Prop} {s : Shared} {t : Addr} {items : Array Value} {Q : Value → Shared → Prop} (hT : s.heap.IsTuple t items)
    (h : ∀ h', IsEnum h' (s.heap.objs.size + 1) s.heap.objs.size 0 .none → h'.IsTupleIter s.heap.objs.size t 0 → h'.objs.size = s.heap.objs.size + 2 →
      (∀ b o, s.heap.get? b = some o → h'.get? b = some o) → Q (.ref (s.heap.objs.size + 1)) { s with heap := h' }) :
    wpAny (model prog w) A (call (.type "enumerate") [.ref t]) Q E s := by
  refine callType_new F.called_enumerate (by decide) (F.typeCall_enumerate_1 _) (F.newCall_enumerate_1 _) (fun obj => F.args_object_init_2 obj _) F.entry_enumerate_new
    (meets_enumerate_newT t items) ⟨hT, ?_⟩
  have hz : (s.heap.push { cls := .type "tuple_iterator", data := .fields #[.ref t, .int 0 0] }).objs.size = s.heap.objs.size + 1 := Heap.size_push ..
  show _ ∧ _
  rw [hz]
  have he : IsEnum ((s.heap.push { cls := .type "tuple_iterator", data := .fields #[.ref t, .int 0 0] }).push
      { cls := .type "enumerate", data := .fields #[.none, .bool false, .ref s.heap.objs.size, rawInt 0, .none, .none] }) (s.heap.objs.size + 1) s.heap.objs.size 0 .none := by
    have := Heap.get?_push_size (s.heap.push { cls := .type "tuple_iterator", data := .fields #[.ref t, .int 0 0] })
      (o := { cls := .type "enumerate", data := .fields #[.none, .bool false, .ref s.heap.objs.size, rawInt 0, .none, .none] }) rfl
    rw [hz] at this; exact this
  refine ⟨⟨_, he, rfl⟩, h _ he ⟨_, Heap.get?_push_of_some _ (Heap.get?_push_size _ rfl), rfl, rfl⟩ (by rw [Heap.size_push, hz]) fun b o x => Heap.get?_push_of_some _ (Heap.get?_push_of_some _ x)⟩
/-- the tuple at a, each item in a new pair -/
def IteT (K : PySem.W.Frag) (a : Addr) : It :=
  ⟨fun i H => ∃ (xs : List V) (x : V), SqT K H a xs ∧ xs[i]? = some x, fun i H v H' => ∃ T x, v = .ref T ∧ H T = none ∧ H' = upd H T (.tup [.int (i : Nat), x]) ∧ ∀ xs, SqT K H a xs → xs[i]? = some x, fun i H => ∃ xs : List V, SqT K H a xs ∧ xs.length ≤ i⟩
theorem apart_iter {h : Heap} {a it : Addr} {items : Array Value} {i : Nat} {t : Addr} (p : h.IsTuple a items) (q : h.IsTupleIter it t i) : a ≠ it := fun e => by
  subst e
  obtain ⟨o, ho, hc, _⟩ := p
  obtain ⟨o', ho', hc', _⟩ := q
  rw [ho] at ho'
  cases ho'
  rw [hc] at hc'
  exact absurd hc' (by decide)
theorem apart_enum {h : Heap} {a e it : Addr} {items : Array Value} {i : Int} {old : Value} (p : h.IsTuple a items) (q : IsEnum h e it i old) : a ≠ e := fun z => by
  subst z
  obtain ⟨o, ho, hc, _⟩ := p
  have q' : h.get? a = some _ := q
  rw [ho] at q'
  cases q'
  have hc' : Value.type "enumerate" = .type "tuple" := hc
  exact absurd (Value.type.inj hc') (by decide)
theorem turn_enumT {P : Program} {w : World} {K : PySem.W.Frag} {elts : List Expr} {kk : Nat} {tpos : Pos} (a e it : Addr) :
    Turn P w K (.Tuple elts kk tpos) (IteT K a) [e, it] e (fun i h => (∃ old, IsEnum h e it ((i : Nat) : Int) old) ∧ h.IsTupleIter it a i ∧ e ≠ it) where
  mem := by simp
  obj := fun i h st b hb => by
    obtain ⟨⟨old, he⟩, ⟨o, ho, hc, hd⟩, _⟩ := st
    have e' : b = e ∨ b = it := by simpa using hb
    rcases e' with z | z
    · rw [z]; exact ⟨_, he, fun v q => nomatch q⟩
    · rw [z]; exact ⟨o, ho, fun v q => by rw [hd] at q; cases q⟩
  keep := fun i h h' st k => let ⟨⟨old, he⟩, hi, hne⟩ := st; ⟨⟨old, k e (by simp) _ he⟩, hi.at fun o q => k it (by simp) o q, hne⟩
  item := by
    intro X hP hw hK hc i pins s σ H E I hf st hg
    subst hP hw hK
    obtain ⟨⟨old, he⟩, hit, hne⟩ := st
    obtain ⟨xs, x, hq, hx⟩ := hg
    obtain ⟨its, rv, p, hz⟩ := I.tuple hq
    have pt : s.heap.IsTuple a its.toArray := p
    obtain ⟨u, hu, ru⟩ := rv.get hx
    have hel : e < s.heap.objs.size := Heap.lt_size he
    have hil : it < s.heap.objs.size := by obtain ⟨_, q, _⟩ := hit; exact Heap.lt_size q
    have n1 := apart_iter pt hit
    have n2 := apart_enum pt he
    have hlt : i < its.toArray.size := by
      rw [List.size_toArray]
      exact (List.getElem?_eq_some_iff.mp hu).1
    refine wpAny_pyNext_enum_itemD (Draws.tuple (prog := X.prog) (w := X.w) (A := X.A.in1) (show X.A.in1.handled = none from I.ok.hd hc) it a n1 its.toArray) he ⟨hit, pt⟩ hlt hne (by simp [hne, Ne.symm n2]) fun y h' tk hy ho hit' hT hsz hk => ?_
    have ey : y = u := by
      have z : its[i]? = some y := by simpa using hy
      rw [hu] at z; cases z; rfl
    subst ey
    refine ⟨_, rfl, wpAny_letOwnedTupleGo_enum (s := { s with heap := h', toks := tk + 1 }) ho fun h'' he' sb => ?_⟩
    have hT2 : h''.get? s.heap.objs.size = some { cls := .type "tuple", data := .seq #[.int i tk, y] } := (sb.2 _ (Nat.ne_of_gt hel)).trans hT
    have new : ObjOk X.prog X.w (upd H s.heap.objs.size (.tup [.int (i : Nat), x])) h'' s.heap.objs.size (.tup [.int (i : Nat), x]) :=
      ⟨by show 2 ≤ sizeLine; decide, [.int i tk, y], .cons ⟨_, rfl⟩ (.cons ru .nil), ⟨_, hT2, rfl, _, rfl⟩⟩
    have I1 : Inv X pins σ (upd H s.heap.objs.size (.tup [.int (i : Nat), x])) { s with heap := h'', toks := tk + 1 } :=
      I.turnedNew (ch := [e, it]) (fun b ob hb q => (sb.2 b (fun z => hb (by simp [z]))).trans (hk b ob (fun z => hb (by simp [z])) (fun z => hb (by simp [z])) q)) hf (Nat.le_refl _) new
    refine ⟨.ref s.heap.objs.size, _, I1, rfl, ⟨_, x, rfl, I.hok.fresh (Nat.le_refl _), rfl, fun ys hy => by rw [I.tuple_inj hy hq]; exact hx⟩, ⟨⟨y, ?_⟩, hit'.1.at fun o q => (sb.2 it (Ne.symm hne)).trans q, hne⟩, fun b hb => ?_⟩
    · have e1 : ((i + 1 : Nat) : Int) = (i : Int) + 1 := by omega
      rw [e1]; exact he'
    · have hb' : b < s.heap.objs.size := by
        have e' : b = e ∨ b = it := by simpa using hb
        rcases e' with z | z
        · rw [z]; exact hel
        · rw [z]; exact hil
      rw [upd_ne (Nat.ne_of_lt hb')]
      exact (hf b hb).1
  done := by
    intro X hP hw hK hc i pins s σ H E I hf st hg
    subst hP hw hK
    obtain ⟨⟨old, he⟩, hit, hne⟩ := st
    obtain ⟨xs, hq, hx⟩ := hg
    obtain ⟨its, rv, p, hz⟩ := I.tuple hq
    have pt : s.heap.IsTuple a its.toArray := p
    obtain ⟨f0, f1, f2, f3, f4, f5⟩ := hf it (by simp)
    have hl := rv.length
    have hT : s.TypeIs (.ref e) "enumerate" := ⟨_, he, rfl⟩
    show wpAny _ _ (pyNext (.ref e)) _ E s
    unfold pyNext
    refine wpAny_bind (wpAny_attempt (wpAny_callSpecial?_slot (name := Str.ofString "__next__") hT F.slot_enumerate_next
      (wpAny_call_entry F.slot_enumerate_next hT F.entry_enumerate_next ?_ (F.args_enumerate_next_1 _))))
    show wpAny _ _ (field (.ref e) 2 >>= _) _ _ _
    refine wpAny_bind (wpAny_field he rfl (x := .ref it) rfl ?_)
    refine wpAny_bind (wpAny_nextOf_tuple_end (I.ok.hd hc) hit pt (by simp; omega) fun h' x he' hx' => ?_)
    obtain ⟨o, ho, hcl⟩ := hx'
    refine wpAny_bind (wpAny_isInstance (T := "StopIteration") (b := true) ⟨o, ho, hcl⟩ isSubtype_stop ?_)
    exact wpAny_pure ⟨rfl, I.turned (t' := s.toks) (fun b o hb q => he' b o hb q) f0 f1 f3 f4 f5⟩
  self := fun A i s Q E st h => let ⟨⟨_, he⟩, _⟩ := st; wpAny_pyIter_enum he h
def iEnumA (K : PySem.W.Frag) (ta : TA) : TI := fun σ H R => ta σ H fun vs H1 => ∃ a, vs = [.ref a] ∧ (((∃ xs, SqL K H1 a xs) ∧ R (Ite K a) H1) ∨ ((∃ xs, SqT K H1 a xs) ∧ R (IteT K a) H1))
theorem pi_enumA {X : Cx} {e : Expr} {ta : TA} {p pos tpos : Pos} {elts : List Expr} {kk : Nat} (hg : Gl X "enumerate") (hm : X.mg "enumerate" = none) (ha : PA X [e] ta) (hs : starEach [e] X.env = [(false, eval e X.env)] := by rfl) :
    PI X (.Tuple elts kk tpos) (.Call (.Name "enumerate" p) [e] [] pos) (iEnumA X.K ta) := by
  refine ⟨fun pins s σ H R I h => ?_⟩
  refine Call_ (ld_blt I hg hm boot_enumerate (PyProof.Rows.callWith_type1 (thn (ha.run pos pins s σ H _ I h) fun us s1 ⟨vs, H1, I1, r1, q1⟩ => ?_) hs rfl))
  obtain ⟨a, ex, q1⟩ := q1
  subst ex
  have fr : ∀ b ∈ [s1.heap.objs.size + 1, s1.heap.objs.size], FpOk X pins H1 b := fun b hb => by
    have e' : b = s1.heap.objs.size + 1 ∨ b = s1.heap.objs.size := by simpa using hb
    have hle : s1.heap.objs.size ≤ b := by
      rcases e' with z | z
      · rw [z]; exact Nat.le_succ _
      · rw [z]; exact Nat.le_refl _
    exact I1.fpOk hle (I1.hok.fresh hle)
  cases r1 with
  | cons r rr =>
    cases rr
    cases r
    rcases q1 with ⟨⟨xs, hq⟩, q⟩ | ⟨⟨xs, hq⟩, q⟩
    · obtain ⟨its, rv, p', hz⟩ := I1.list hq
      refine call_enumerate_list p'.isList fun h' he hit hsz hk => wpAny_pyIter_enum he ?_
      have I2 : Inv X pins σ H1 { s1 with heap := h' } := I1.kept (t' := s1.toks) hk
      exact ⟨s1.heap.objs.size + 1, [s1.heap.objs.size + 1, s1.heap.objs.size], _, _, H1, rfl, I2, turn_enum a (s1.heap.objs.size + 1) s1.heap.objs.size, ⟨⟨.none, he⟩, hit, Nat.succ_ne_self _⟩, fr, q⟩
    · obtain ⟨its, rv, p', hz⟩ := I1.tuple hq
      refine call_enumerate_tuple (show s1.heap.IsTuple a its.toArray from p') fun h' he hit hsz hk => wpAny_pyIter_enum he ?_
      have I2 : Inv X pins σ H1 { s1 with heap := h' } := I1.kept (t' := s1.toks) hk
      exact ⟨s1.heap.objs.size + 1, [s1.heap.objs.size + 1, s1.heap.objs.size], _, _, H1, rfl, I2, turn_enumT a (s1.heap.objs.size + 1) s1.heap.objs.size, ⟨⟨.none, he⟩, hit, Nat.succ_ne_self _⟩, fr, q⟩
def enumD : Nat → List D → List D
  | _, [] => []
  | n, d :: ds => .tup [.int (n : Nat), d] :: enumD (n + 1) ds
theorem enum_len : ∀ (n : Nat) (ds : List D), (enumD n ds).length = ds.length
  | _, [] => rfl
  | n, d :: ds => by unfold enumD; rw [List.length_cons, List.length_cons, enum_len (n + 1) ds]
theorem enum_at : ∀ (n : Nat) (ds : List D) (i : Nat) (d : D), ds[i]? = some d → (enumD n ds)[i]? = some (.tup [.int ((n + i : Nat) : Int), d])
  | _, [], i, d, h => by simp at h
  | n, x :: ds, 0, d, h => by simp at h; subst h; rfl
  | n, x :: ds, i + 1, d, h => by
    unfold enumD
    rw [List.getElem?_cons_succ]
    have := enum_at (n + 1) ds i d (by simpa using h)
    rw [this]
    congr 5
    omega
def gEnum (gs : Rho → Option (List D)) : Rho → Option (List D) := fun ρ => match gs ρ with | some [.lst ds] => some (enumD 0 ds) | some [.tup ds] => some (enumD 0 ds) | _ => none
theorem di_enum {X : Cx} {cl : Cl} {e : Expr} {gs : Rho → Option (List D)} {p pos tpos : Pos} {elts : List Expr} {kk : Nat} (hg : Gl X "enumerate") (hm : X.mg "enumerate" = none) (ha : PA X [e] (tDs X.K cl gs)) (hs : starEach [e] X.env = [(false, eval e X.env)] := by rfl) :
    PI X (.Tuple elts kk tpos) (.Call (.Name "enumerate" p) [e] [] pos) (tI X.K cl (gEnum gs)) := pi_mono (pi_enumA hg hm ha hs) fun σ H R ⟨H0, B, ρ, ds, hB, s, hgi, q⟩ => by
  unfold gEnum at hgi
  split at hgi
  · rename_i ds' e1
    cases hgi
    refine ⟨H0, B, ρ, _, hB, s, e1, fun B' H' vs x r => ?_⟩
    obtain ⟨v, rfl, r1⟩ := reps1 r
    cases r1 with
    | lst h1 h2 =>
      refine ⟨_, rfl, .inl ⟨⟨_, SqL.of (x.bh _ _ h1)⟩, q _ B' H' x fun B2 H2 i s1 s2 => ⟨fun hi => ?_, fun hi => ⟨_, SqL.of (s2 _ _ (s1 _ _ h1)), by rw [h2.len]; rw [enum_len] at hi; exact hi⟩⟩⟩⟩
      rw [enum_len] at hi
      obtain ⟨w, hw, rw'⟩ := (h2.mono s1).get (List.getElem?_eq_getElem hi)
      refine ⟨⟨_, w, SqL.of (s2 _ _ (s1 _ _ h1)), hw⟩, fun y H3 ⟨T, z, ey, nT, eH, hz⟩ => ?_⟩
      have := hz _ (SqL.of (s2 _ _ (s1 _ _ h1)))
      rw [hw] at this
      cases this
      subst eH
      subst ey
      refine ⟨_, _, Ext.new s2 nT, enum_at 0 _ i _ (List.getElem?_eq_getElem hi), .tup upd_same (.cons ?_ (.one (rw'.mono (same_new (s2.free nT)))))⟩
      rw [Nat.zero_add]
      exact .int _
  · rename_i ds' e1
    cases hgi
    refine ⟨H0, B, ρ, _, hB, s, e1, fun B' H' vs x r => ?_⟩
    obtain ⟨v, rfl, r1⟩ := reps1 r
    cases r1 with
    | tup h1 h2 =>
      refine ⟨_, rfl, .inr ⟨⟨_, SqT.of (x.bh _ _ h1)⟩, q _ B' H' x fun B2 H2 i s1 s2 => ⟨fun hi => ?_, fun hi => ⟨_, SqT.of (s2 _ _ (s1 _ _ h1)), by rw [h2.len]; rw [enum_len] at hi; exact hi⟩⟩⟩⟩
      rw [enum_len] at hi
      obtain ⟨w, hw, rw'⟩ := (h2.mono s1).get (List.getElem?_eq_getElem hi)
      refine ⟨⟨_, w, SqT.of (s2 _ _ (s1 _ _ h1)), hw⟩, fun y H3 ⟨T, z, ey, nT, eH, hz⟩ => ?_⟩
      have := hz _ (SqT.of (s2 _ _ (s1 _ _ h1)))
      rw [hw] at this
      cases this
      subst eH
      subst ey
      refine ⟨_, _, Ext.new s2 nT, enum_at 0 _ i _ (List.getElem?_eq_getElem hi), .tup upd_same (.cons ?_ (.one (rw'.mono (same_new (s2.free nT)))))⟩
      rw [Nat.zero_add]
      exact .int _
  · cases hgi
end Dl
set_option maxRecDepth 100000
set_option maxHeartbeats 4000000
namespace Dl
open PySem PySem.Spec PyProof.Rows L2

/-! ### defs -/
/-- called with the data ds it returns m ds, and changes nothing that stood -/
def spD (K : PySem.W.Frag) (cl : Cl) (m : List D → Option D) : Sp := fun vs H Q _ => ∃ B ds d, Cln B H ∧ LamX.Tabs cl.tabs H ∧ Reps K cl B vs ds ∧ m ds = some d ∧ ∀ B' H' v, Ext cl.tabs B H B' H' → Rep K cl B' v d → Q v H'
/-- a body as a function of its arguments: k of them, n further slots -/
def mFun (k n : Nat) (body : M) (ds : List D) : Option D := if ds.length = k then (body (ds.map SV.val ++ List.replicate n .un)).bind fun o => match o with
  | .rt d => some d
  | .nx _ => some .non
  | _ => none else none
/-- .. it returns a new list -/
def spF (K : PySem.W.Frag) (cl : Cl) (m : List D → Option (List D)) : Sp := fun vs H Q _ => ∃ B ds es, Cln B H ∧ LamX.Tabs cl.tabs H ∧ Reps K cl B vs ds ∧ m ds = some es ∧ ∀ B' H' p xs, Ext cl.tabs B H B' H' → H' p = some (.lst xs) → B' p = none → H p = none → Reps K cl B' xs es → Q (.ref p) H'
def nFun (k n : Nat) (body : M) (ds : List D) : Option (List D) := if ds.length = k then (body (ds.map SV.val ++ List.replicate n .un)).bind fun o => match o with
  | .ro es => some es
  | _ => none else none
section
variable {K : PySem.W.Frag} {cl : Cl} {B H : Hp}
theorem slots_start {vs : List V} {ds : List D} (n : Nat) (r : Reps K cl B vs ds) (ht : LamX.Tabs cl.tabs H) (z : Addr) : Slots K cl ⟨H, z⟩ B H (vs.map some ++ List.replicate n none) (ds.map SV.val ++ List.replicate n .un) := by
  have own : ∀ (j : Nat) (t : SV), (ds.map SV.val ++ List.replicate n SV.un)[j]? = some t → t.owned = true → False := fun j t e o => by
    have hm := List.mem_of_getElem? e
    rw [List.mem_append] at hm
    rcases hm with hm | hm
    · obtain ⟨d, _, rfl⟩ := List.mem_map.mp hm
      cases o
    · rw [List.eq_of_mem_replicate hm] at o
      cases o
  refine ⟨?_, fun i s e => ?_, fun i j s t a e1 _ o1 _ _ _ => (own i s e1 o1).elim, ht⟩
  · rw [List.length_append, List.length_append, List.length_map, List.length_map, List.length_replicate, List.length_replicate, r.len]
  · by_cases hi : i < ds.length
    · rw [List.getElem?_append_left (by rw [List.length_map]; exact hi), List.getElem?_map, List.getElem?_eq_getElem hi] at e
      cases e
      obtain ⟨v, hv, rv⟩ := r.get (List.getElem?_eq_getElem hi)
      refine ⟨v, ?_, rv⟩
      rw [List.getElem?_append_left (by rw [List.length_map, r.len]; exact hi), List.getElem?_map, hv]
      rfl
    · rw [List.getElem?_append_right (by rw [List.length_map]; omega)] at e
      have := List.eq_of_mem_replicate (List.mem_of_getElem? e)
      subst this
      trivial
theorem mFun_some {k n : Nat} {body : M} {ds : List D} {d : D} (h : mFun k n body ds = some d) : ds.length = k ∧ ∃ o, body (ds.map SV.val ++ List.replicate n .un) = some o ∧ (o = .rt d ∨ (d = .non ∧ ∃ ρ, o = .nx ρ)) := by
  unfold mFun at h
  split at h
  · rename_i hk
    refine ⟨hk, ?_⟩
    cases e : body (ds.map SV.val ++ List.replicate n .un) with
    | none => rw [e] at h; cases h
    | some o =>
      rw [e] at h
      cases o with
      | ro ds => cases h
      | rt d' => cases h; exact ⟨_, rfl, .inl rfl⟩
      | nx ρ => cases h; exact ⟨_, rfl, .inr ⟨rfl, ρ, rfl⟩⟩
      | bk ρ => cases h
      | ct ρ => cases h
  · cases h
theorem spD_len {k n : Nat} {body : M} (vs : List V) (H : Hp) (Q : VK) (E : XK) (h : spD K cl (mFun k n body) vs H Q E) : vs.length = k := by
  obtain ⟨B, ds, d, hB, hT, r, hm, q⟩ := h
  rw [r.len]
  exact (mFun_some hm).1
/-- the reading of a body at its entry -/
theorem fun_of {k n : Nat} {body : M} {N : List Str} (hN : N.length = k + n) {vs : List V} {H : Hp} {Q : VK} {E : XK} (h : spD K cl (mFun k n body) vs H Q E) : tS K cl body { nx := fun _ H' => Q .non H', rt := Q } (L2.start N vs) H := by
  obtain ⟨B, ds, d, hB, hT, r, hm, q⟩ := h
  obtain ⟨hk, o, ho, hd⟩ := mFun_some hm
  have hn : N.length - vs.length = n := by rw [r.len]; omega
  refine ⟨⟨H, 0⟩, B, B, _, o, Ext.refl hB, ?_, ho, ?_⟩
  · unfold L2.start
    rw [hn]
    exact slots_start n r hT 0
  · rcases hd with rfl | ⟨rfl, ρ, rfl⟩
    · exact fun B' H' v x rv => q B' H' v x rv
    · exact fun B' H' σ' x _ _ => q B' H' _ x .non
theorem nFun_some {k n : Nat} {body : M} {ds es : List D} (h : nFun k n body ds = some es) : ds.length = k ∧ body (ds.map SV.val ++ List.replicate n .un) = some (.ro es) := by
  unfold nFun at h
  split at h
  · rename_i hk
    refine ⟨hk, ?_⟩
    cases e : body (ds.map SV.val ++ List.replicate n .un) with
    | none => rw [e] at h; cases h
    | some o =>
      rw [e] at h
      cases o with
      | ro es' => cases h; rfl
      | _ => cases h
  · cases h
theorem spF_len {k n : Nat} {body : M} (vs : List V) (H : Hp) (Q : VK) (E : XK) (h : spF K cl (nFun k n body) vs H Q E) : vs.length = k := by
  obtain ⟨B, ds, d, hB, hT, r, hm, q⟩ := h
  rw [r.len]
  exact (nFun_some hm).1
theorem newfun_of {k n : Nat} {body : M} {N : List Str} (hN : N.length = k + n) {vs : List V} {H : Hp} {Q : VK} {E : XK} (h : spF K cl (nFun k n body) vs H Q E) : tS K cl body { nx := fun _ H' => Q .non H', rt := Q } (L2.start N vs) H := by
  obtain ⟨B, ds, d, hB, hT, r, hm, q⟩ := h
  obtain ⟨hk, ho⟩ := nFun_some hm
  have hn : N.length - vs.length = n := by rw [r.len]; omega
  refine ⟨⟨H, 0⟩, B, B, _, _, Ext.refl hB, ?_, ho, ?_⟩
  · unfold L2.start
    rw [hn]
    exact slots_start n r hT 0
  · exact fun B' H' p xs x h1 h2 h3 h4 => q B' H' p xs x h1 h2 h3 h4
end
section
variable {X : Cx} {cl : Cl} {K : PySem.W.Frag} {e : Expr} {g h : Rho → Option D} {gs : Rho → Option (List D)} {m : List D → Option D}
/-- f(..) -/
theorem d_call {f : List D → Option D} (hp : PE X e (tCall (spD X.K cl f) [] E0 (tDs X.K cl gs))) : PE X e (tD X.K cl (gDs f gs)) := pe_mono hp fun σ H Q ⟨H0, B, ρ, c, hB, hs, hg, q⟩ => by
  unfold gDs at hg
  cases e1 : gs ρ with
  | none => rw [e1] at hg; cases hg
  | some ds =>
    rw [e1] at hg
    refine ⟨H0, B, ρ, ds, hB, hs, e1, fun B' H' vs x r => ?_⟩
    simp only [List.append_nil]
    exact ⟨B', ds, c, x.bh, (hs.ext x).tabs, r, hg, fun B2 H2 v x2 rv => q B2 H2 v (x.trans x2) rv⟩
/-- f(..), a new list, as data -/
def asLst (f : List D → Option (List D)) (ds : List D) : Option D := (f ds).map D.lst
theorem d_callF {f : List D → Option (List D)} (hp : PE X e (tCall (spF X.K cl f) [] E0 (tDs X.K cl gs))) : PE X e (tD X.K cl (gDs (asLst f) gs)) := pe_mono hp fun σ H Q ⟨H0, B, ρ, c, hB, hs, hg, q⟩ => by
  unfold gDs at hg
  cases e1 : gs ρ with
  | none => rw [e1] at hg; cases hg
  | some ds =>
    rw [e1] at hg
    replace hg : (f ds).map D.lst = some c := hg
    cases e2 : f ds with
    | none => rw [e2] at hg; cases hg
    | some es =>
      rw [e2] at hg
      cases hg
      refine ⟨H0, B, ρ, ds, hB, hs, e1, fun B' H' vs x r => ?_⟩
      simp only [List.append_nil]
      exact ⟨B', ds, es, x.bh, (hs.ext x).tabs, r, e2, fun B2 H2 p xs x2 h1 h2 h3 rv => q _ H2 (.ref p) (x.trans (x2.join h1 h2 h3)) (.lst upd_same (rv.mono (same_new h2)))⟩
/-- return f(..), a new list -/
def mRetCall (f : List D → Option (List D)) (gs : Rho → Option (List D)) : M := fun ρ => (gs ρ).bind fun ds => (f ds).map Out.ro
theorem s_retCall {f : List D → Option (List D)} {pos : Pos} (hp : PE X e (tCall (spF X.K cl f) [] E0 (tDs X.K cl gs))) : PS X (.Return (some e) pos) (tS X.K cl (mRetCall f gs)) := ps_mono (ps_ret hp) fun E σ H ⟨H0, B0, B, ρ, out, x, s, hm, q⟩ => by
  unfold mRetCall at hm
  cases e1 : gs ρ with
  | none => rw [e1] at hm; cases hm
  | some ds =>
    rw [e1] at hm
    replace hm : (f ds).map Out.ro = some out := hm
    cases e2 : f ds with
    | none => rw [e2] at hm; cases hm
    | some es =>
      rw [e2] at hm
      cases hm
      refine ⟨H0, B, ρ, ds, x.bh, s, e1, fun B' H' vs x' r => ?_⟩
      simp only [List.append_nil]
      have xx := x.trans x'
      exact ⟨B', ds, es, x'.bh, (s.ext x').tabs, r, e2, fun B2 H2 p xs x2 h1 h2 h3 rv => q B2 H2 p xs (xx.trans x2) h1 h2 (xx.hh.free h3) rv⟩
/-- o.m(..): o an instance of class number c, which has no field m -/
def gMeth (c : Nat) (mn : Str) (f : List D → Option D) (g : Rho → Option D) (gs : Rho → Option (List D)) : Rho → Option D := fun ρ => (g ρ).bind fun o => match o with
  | .obj c' ns xs => if c' = c ∧ (ns.contains mn) = false then (gs ρ).bind fun ds => f (.obj c' ns xs :: ds) else none
  | _ => none
theorem lookup_none {mn : Str} : ∀ {fs : List (Str × V)}, (fs.map (·.1)).contains mn = false → fs.lookup mn = none
  | [], _ => rfl
  | (k, v) :: fs, h => by
    rw [List.map_cons, List.contains_cons, Bool.or_eq_false_iff] at h
    rw [List.lookup_cons]
    have e : (mn == k) = false := h.1
    rw [e]
    exact lookup_none h.2
theorem d_meth {c : Nat} {mn : Str} {f : List D → Option D} (hp : PE X e (tMeth (cl c) mn (spD X.K cl f) [] E0 (tD X.K cl g) (tDs X.K cl gs))) : PE X e (tD X.K cl (gMeth c mn f g gs)) := pe_mono hp fun σ H Q ⟨H0, B, ρ, d, hB, hs, hg, q⟩ => by
  unfold gMeth at hg
  cases e1 : g ρ with
  | none => rw [e1] at hg; cases hg
  | some o =>
    rw [e1] at hg
    cases o with
    | obj c' ns xs =>
      replace hg : (if c' = c ∧ (ns.contains mn) = false then (gs ρ).bind fun ds => f (.obj c' ns xs :: ds) else none) = some d := hg
      split at hg
      · rename_i hc
        obtain ⟨rfl, hm⟩ := hc
        cases e2 : gs ρ with
        | none => rw [e2] at hg; cases hg
        | some ds =>
          rw [e2] at hg
          refine ⟨H0, B, ρ, _, hB, hs, e1, fun B1 H1 v x1 r1 => ?_⟩
          cases r1 with
          | obj h1 h2 h3 =>
            refine ⟨_, _, _, rfl, x1.bh _ _ h1, lookup_none (by rw [h2]; exact hm), ⟨H0, B1, ρ, ds, x1.bh, hs.ext x1, e2, fun B2 H2 vs x2 r2 => ?_⟩⟩
            simp only [List.append_nil]
            exact ⟨B2, _ :: ds, d, x2.bh, ((hs.ext x1).ext x2).tabs, .cons (.obj (x2.bb _ _ h1) h2 (h3.mono x2.bb)) r2, hg, fun B3 H3 w x3 rv => q B3 H3 w ((x1.trans x2).trans x3) rv⟩
      · cases hg
    | _ => cases hg
/-- o.f -/
def fldAt : List Str → List D → Str → Option D
  | n :: ns, x :: xs, f => if f = n then some x else fldAt ns xs f
  | _, _, _ => none
def gFld (c : Nat) (f : Str) (g : Rho → Option D) : Rho → Option D := fun ρ => (g ρ).bind fun o => match o with
  | .obj c' ns xs => if c' = c then fldAt ns xs f else none
  | _ => none
theorem fld_at {B : Hp} {f : Str} {d : D} : ∀ {fs : List (Str × V)} {ds : List D}, Reps K cl B (fs.map (·.2)) ds → fldAt (fs.map (·.1)) ds f = some d → ∃ v, fs.lookup f = some v ∧ Rep K cl B v d
  | [], _, r, h => by cases r; simp [fldAt] at h
  | (k, v) :: fs, _, r, h => by
    cases r with
    | cons r t =>
      simp only [List.map_cons, fldAt] at h
      rw [List.lookup_cons]
      by_cases e : f = k
      · rw [if_pos e] at h
        cases h
        have : (f == k) = true := by rw [e]; exact beq_self_eq_true k
        rw [this]
        exact ⟨v, rfl, r⟩
      · rw [if_neg e] at h
        have : (f == k) = false := beq_eq_false_iff_ne.mpr e
        rw [this]
        exact fld_at t h
theorem d_fld {c : Nat} {f : Str} {pos : Pos} (ha : PE X e (tD X.K cl g)) (hc : Cls X.K (cl c)) (hn : NoAttr X.K (cl c) f) (hb : attributeBase e f X.env (eval e X.env) = eval e X.env := by rfl) : PE X (.Attribute e f pos) (tD X.K cl (gFld c f g)) := pe_mono (pe_fld ha hb) fun σ H Q ⟨H0, B, ρ, d, hB, hs, hg, q⟩ => by
  unfold gFld at hg
  cases e1 : g ρ with
  | none => rw [e1] at hg; cases hg
  | some o =>
    rw [e1] at hg
    cases o with
    | obj c' ns xs =>
      replace hg : (if c' = c then fldAt ns xs f else none) = some d := hg
      split at hg
      · rename_i hc'
        subst hc'
        refine ⟨H0, B, ρ, _, hB, hs, e1, fun B1 H1 v x1 r1 => ?_⟩
        cases r1 with
        | obj h1 h2 h3 =>
          subst h2
          obtain ⟨w, hw, rw'⟩ := fld_at h3 hg
          exact ⟨_, _, _, _, w, rfl, x1.bh _ _ h1, hc, hn, hw, q B1 H1 w x1 rw'⟩
      · cases hg
    | _ => cases hg
/-! ### built-in calls -/
def onSeq (f : List D → Option D) : List D → Option D
  | [.lst ds] => f ds
  | [.tup ds] => f ds
  | _ => none
def onLst (f : List D → Option D) : List D → Option D
  | [.lst ds] => f ds
  | _ => none
/-- over a list that is read, also an own one -/
def CaS (K : PySem.W.Frag) (cl : Cl) (r : List V → Hp → VK → Prop) (f : List D → Option D) : Prop := ∀ (B H : Hp) (a : Addr) (xs : List V) (ds : List D) (c : D) (Q : VK), Cln B H → H a = some (.lst xs) → Reps K cl B xs ds → f ds = some c → (∀ B' H' w, Ext cl.tabs B H B' H' → Rep K cl B' w c → Q w H') → r [.ref a] H Q
def CaT (K : PySem.W.Frag) (cl : Cl) (r : List V → Hp → VK → Prop) (f : List D → Option D) : Prop := ∀ (B H : Hp) (a : Addr) (xs : List V) (ds : List D) (c : D) (Q : VK), Cln B H → B a = some (.tup xs) → Reps K cl B xs ds → f ds = some c → (∀ B' H' w, Ext cl.tabs B H B' H' → Rep K cl B' w c → Q w H') → r [.ref a] H Q
theorem CaS.lst {r : List V → Hp → VK → Prop} {f : List D → Option D} (h : CaS K cl r f) : CaD K cl r (onLst f) := fun B H vs ds c Q hB rr hf q => by
  unfold onLst at hf
  split at hf
  · obtain ⟨v, rfl, r1⟩ := reps1 rr
    cases r1 with
    | lst h1 h2 => exact h B H _ _ _ c Q hB (hB _ _ h1) h2 hf q
  · cases hf
theorem CaS.seq {r : List V → Hp → VK → Prop} {f : List D → Option D} (h : CaS K cl r f) (t : CaT K cl r f) : CaD K cl r (onSeq f) := fun B H vs ds c Q hB rr hf q => by
  unfold onSeq at hf
  split at hf
  · obtain ⟨v, rfl, r1⟩ := reps1 rr
    cases r1 with
    | lst h1 h2 => exact h B H _ _ _ c Q hB (hB _ _ h1) h2 hf q
  · obtain ⟨v, rfl, r1⟩ := reps1 rr
    cases r1 with
    | tup h1 h2 => exact t B H _ _ _ c Q hB h1 h2 hf q
  · cases hf
def gS1 (f : List D → Option D) (g : Rho → Option (List D)) : Rho → Option D := fun ρ => (g ρ).bind f
theorem d_s1 {r : List V → Hp → VK → Prop} {f : List D → Option D} {g : Rho → Option (List D)} (hp : PE X e (tCB r (tCons (tSq X.K cl g) tNil))) (h : CaS X.K cl r f) : PE X e (tD X.K cl (gS1 f g)) := pe_mono hp fun σ H Q ⟨H0, B, ρ, c, hB, hs, hg, q⟩ => by
  unfold gS1 at hg
  cases e1 : g ρ with
  | none => rw [e1] at hg; cases hg
  | some ds =>
    rw [e1] at hg
    exact ⟨H0, B, ρ, ds, hB, hs, e1, fun B' H' a xs x hl _ r => h B' H' a xs ds c Q x.bh hl r hg fun B2 H2 w x2 r2 => q B2 H2 w (x.trans x2) r2⟩
def fLen (ds : List D) : Option D := some (.int (ds.length : Nat))
theorem cs_len : CaS K cl (fun xs H Q => ∃ p ys, xs = [.ref p] ∧ (SqL K H p ys ∨ SqT K H p ys) ∧ Q (.int (ys.length : Nat)) H) fLen := fun B H a xs ds c Q hB hl r hf q => by
  cases hf
  exact ⟨a, xs, rfl, .inl (SqL.of hl), by rw [r.len]; exact q B H _ (Ext.refl hB) (.int _)⟩
theorem ct_len : CaT K cl (fun xs H Q => ∃ p ys, xs = [.ref p] ∧ (SqL K H p ys ∨ SqT K H p ys) ∧ Q (.int (ys.length : Nat)) H) fLen := fun B H a xs ds c Q hB hl r hf q => by
  cases hf
  exact ⟨a, xs, rfl, .inr (SqT.of (hB _ _ hl)), by rw [r.len]; exact q B H _ (Ext.refl hB) (.int _)⟩
def fList (ds : List D) : Option D := some (.lst ds)
theorem cs_list : CaS K cl (fun xs H Q => ∃ p ys, xs = [.ref p] ∧ (SqL K H p ys ∨ SqT K H p ys) ∧ ∀ l, H l = none → Q (.ref l) (upd H l (.lst ys))) fList := fun B H a xs ds c Q hB hl r hf q => by
  cases hf
  exact ⟨a, xs, rfl, .inl (SqL.of hl), fun l nl => q _ _ _ (Ext.new hB nl) (.lst upd_same (r.mono (same_new (hB.free nl))))⟩
theorem ct_list : CaT K cl (fun xs H Q => ∃ p ys, xs = [.ref p] ∧ (SqL K H p ys ∨ SqT K H p ys) ∧ ∀ l, H l = none → Q (.ref l) (upd H l (.lst ys))) fList := fun B H a xs ds c Q hB hl r hf q => by
  cases hf
  exact ⟨a, xs, rfl, .inr (SqT.of (hB _ _ hl)), fun l nl => q _ _ _ (Ext.new hB nl) (.lst upd_same (r.mono (same_new (hB.free nl))))⟩
def fTuple (ds : List D) : Option D := some (.tup ds)
theorem cs_tuple : CaS K cl (fun xs H Q => ∃ p ys, xs = [.ref p] ∧ ((SqL K H p ys ∧ ∀ l, H l = none → Q (.ref l) (upd H l (.tup ys))) ∨ (SqT K H p ys ∧ Q (.ref p) H))) fTuple := fun B H a xs ds c Q hB hl r hf q => by
  cases hf
  exact ⟨a, xs, rfl, .inl ⟨SqL.of hl, fun l nl => q _ _ _ (Ext.new hB nl) (.tup upd_same (r.mono (same_new (hB.free nl))))⟩⟩
theorem ct_tuple : CaT K cl (fun xs H Q => ∃ p ys, xs = [.ref p] ∧ ((SqL K H p ys ∧ ∀ l, H l = none → Q (.ref l) (upd H l (.tup ys))) ∨ (SqT K H p ys ∧ Q (.ref p) H))) fTuple := fun B H a xs ds c Q hB hl r hf q => by
  cases hf
  exact ⟨a, xs, rfl, .inr ⟨SqT.of (hB _ _ hl), q B H _ (Ext.refl hB) (.tup hl r)⟩⟩
def toInts : List D → Option (List Int)
  | [] => some []
  | .int i :: ds => (toInts ds).map (i :: ·)
  | _ :: _ => none
theorem toInts_some : ∀ {ds : List D} {ns : List Int}, toInts ds = some ns → ds = ns.map D.int
  | [], ns, h => by cases h; rfl
  | .int i :: ds, ns, h => by
    unfold toInts at h
    cases e : toInts ds with
    | none => rw [e] at h; cases h
    | some ms =>
      rw [e] at h
      cases h
      rw [List.map_cons, toInts_some e]
theorem ints_of {B : Hp} {xs : List V} {ds : List D} {ns : List Int} (r : Reps K cl B xs ds) (h : toInts ds = some ns) : xs = ns.map V.int := by
  rw [toInts_some h] at r
  exact r.ints
def least : List Int → Option Int
  | [] => none
  | i :: is => match least is with
    | none => some i
    | some m => some (if i ≤ m then i else m)
theorem least_spec : ∀ {ns : List Int} {m : Int}, least ns = some m → m ∈ ns ∧ ∀ y, y ∈ ns → m ≤ y
  | i :: is, m, h => by
    unfold least at h
    cases e : least is with
    | none =>
      rw [e] at h
      cases h
      cases is with
      | nil => exact ⟨List.mem_cons_self, fun y hy => by simp at hy; omega⟩
      | cons j js =>
        unfold least at e
        split at e <;> cases e
    | some k =>
      rw [e] at h
      obtain ⟨h1, h2⟩ := least_spec e
      replace h : some (if i ≤ k then i else k) = some m := h
      cases h
      by_cases hik : i ≤ k
      · rw [if_pos hik]
        exact ⟨List.mem_cons_self, fun y hy => by
          rcases List.mem_cons.mp hy with rfl | hy
          · exact Int.le_refl _
          · exact Int.le_trans hik (h2 y hy)⟩
      · rw [if_neg hik]
        exact ⟨List.mem_cons_of_mem _ h1, fun y hy => by
          rcases List.mem_cons.mp hy with rfl | hy
          · omega
          · exact h2 y hy⟩
def fMin (ds : List D) : Option D := (toInts ds).bind fun ns => (least ns).map D.int
theorem cs_min : CaS K cl (rMin K) fMin := fun B H a xs ds c Q hB hl r hf q => by
  unfold fMin at hf
  cases e : toInts ds with
  | none => rw [e] at hf; cases hf
  | some ns =>
    simp only [e, Option.bind_some] at hf
    cases e2 : least ns with
    | none => rw [e2] at hf; cases hf
    | some m =>
      rw [e2] at hf
      cases hf
      obtain ⟨h1, h2⟩ := least_spec e2
      have hx := ints_of r e
      subst hx
      refine ⟨a, ns, rfl, SqL.of hl, List.length_pos_of_mem h1, fun m' h3 h4 => ?_⟩
      have : m' = m := Int.le_antisymm (h4 m h1) (h2 m' h3)
      subst this
      exact q B H _ (Ext.refl hB) (.int _)
def fSum (ds : List D) : Option D := (toInts ds).map fun ns => D.int ns.sum
theorem cs_sum : CaS K cl (rSum K) fSum := fun B H a xs ds c Q hB hl r hf q => by
  unfold fSum at hf
  cases e : toInts ds with
  | none => rw [e] at hf; cases hf
  | some ns =>
    rw [e] at hf
    cases hf
    have hx := ints_of r e
    subst hx
    exact ⟨a, ns, rfl, SqL.of hl, q B H _ (Ext.refl hB) (.int _)⟩
def insI (i : Int) : List Int → List Int
  | [] => [i]
  | j :: js => if i ≤ j then i :: j :: js else j :: insI i js
def isort : List Int → List Int
  | [] => []
  | i :: is => insI i (isort is)
theorem insI_perm (i : Int) : ∀ js : List Int, (insI i js).Perm (i :: js)
  | [] => .refl _
  | j :: js => by
    unfold insI
    split
    · exact .refl _
    · exact ((insI_perm i js).cons j).trans (List.Perm.swap i j js)
theorem isort_perm : ∀ is : List Int, (isort is).Perm is
  | [] => .refl _
  | i :: is => (insI_perm i (isort is)).trans ((isort_perm is).cons i)
theorem insI_sorted (i : Int) : ∀ js : List Int, js.Pairwise (· ≤ ·) → (insI i js).Pairwise (· ≤ ·)
  | [], _ => by unfold insI; exact List.pairwise_singleton _ _
  | j :: js, h => by
    unfold insI
    rw [List.pairwise_cons] at h
    split
    · rename_i hij
      refine List.pairwise_cons.mpr ⟨fun y hy => ?_, List.pairwise_cons.mpr h⟩
      rcases List.mem_cons.mp hy with rfl | hy
      · exact hij
      · exact Int.le_trans hij (h.1 y hy)
    · rename_i hij
      refine List.pairwise_cons.mpr ⟨fun y hy => ?_, insI_sorted i js h.2⟩
      rcases List.mem_cons.mp ((insI_perm i js).mem_iff.mp hy) with rfl | hy
      · omega
      · exact h.1 y hy
theorem isort_sorted : ∀ is : List Int, (isort is).Pairwise (· ≤ ·)
  | [] => .nil
  | i :: is => insI_sorted i _ (isort_sorted is)
theorem sorted_eq : ∀ {as bs : List Int}, as.Perm bs → as.Pairwise (· ≤ ·) → bs.Pairwise (· ≤ ·) → as = bs
  | [], bs, p, _, _ => by rw [List.nil_perm.mp p]
  | a :: as, [], p, _, _ => absurd p.length_eq (by simp)
  | a :: as, b :: bs, p, h1, h2 => by
    rw [List.pairwise_cons] at h1 h2
    have e : a = b := by
      have ha : a ∈ b :: bs := p.mem_iff.mp List.mem_cons_self
      have hb : b ∈ a :: as := p.mem_iff.mpr List.mem_cons_self
      rcases List.mem_cons.mp ha with z | z
      · exact z
      · rcases List.mem_cons.mp hb with y | y
        · exact y.symm
        · exact Int.le_antisymm (h1.1 b y) (h2.1 a z)
    subst e
    rw [sorted_eq ((List.perm_cons a).mp p) h1.2 h2.2]
def fSorted (ds : List D) : Option D := (toInts ds).map fun ns => D.lst ((isort ns).map D.int)
theorem cs_sorted : CaS K cl (rSortedI K) fSorted := fun B H a xs ds c Q hB hl r hf q => by
  unfold fSorted at hf
  cases e : toInts ds with
  | none => rw [e] at hf; cases hf
  | some ns =>
    rw [e] at hf
    cases hf
    have hx := ints_of r e
    subst hx
    refine ⟨a, ns, rfl, SqL.of hl, fun ns' p h1 h2 np => ?_⟩
    rw [sorted_eq (h1.trans (isort_perm ns).symm) h2 (isort_sorted ns)]
    exact q _ _ _ (Ext.new hB np) (.lst upd_same (Reps.ofInts _))
def toBools : List D → Option (List Bool)
  | [] => some []
  | .bl i :: ds => (toBools ds).map (i :: ·)
  | _ :: _ => none
theorem toBools_some {B : Hp} : ∀ {xs : List V} {ds : List D} {ns : List Bool}, Reps K cl B xs ds → toBools ds = some ns → xs = ns.map V.bl
  | _, [], ns, r, h => by cases r; cases h; rfl
  | _, .bl i :: ds, ns, .cons r t, h => by
    unfold toBools at h
    cases e : toBools ds with
    | none => rw [e] at h; cases h
    | some ms =>
      rw [e] at h
      cases h
      cases r
      rw [List.map_cons, toBools_some t e]
def fAll (ds : List D) : Option D := (toBools ds).map fun ns => D.bl (ns.all id)
theorem cs_all : CaS K cl (rAll K) fAll := fun B H a xs ds c Q hB hl r hf q => by
  unfold fAll at hf
  cases e : toBools ds with
  | none => rw [e] at hf; cases hf
  | some ns =>
    rw [e] at hf
    cases hf
    have hx := toBools_some r e
    subst hx
    exact ⟨a, ns, rfl, SqL.of hl, q B H _ (Ext.refl hB) (.bl _)⟩
/-! list(range(..)) -/
def gLRg1 (g : Rho → Option D) : Rho → Option D := fun ρ => match g ρ with | some (.int j) => if -big < j ∧ j < big then some (.lst (rngD 0 j.toNat)) else none | _ => none
def gLRg2 (g h : Rho → Option D) : Rho → Option D := fun ρ => match g ρ, h ρ with | some (.int i), some (.int j) => if -big < i ∧ i < big ∧ -big < j ∧ j < big then some (.lst (rngD i (j - i).toNat)) else none | _, _ => none
theorem rng_reps {B : Hp} (a b : Int) : Reps K cl B (rgV a b) (rngD a (b - a).toNat) := by
  unfold rgV rngD
  generalize (List.range (b - a).toNat) = l
  induction l with
  | nil => exact .nil
  | cons x l ih => exact .cons (.int _) ih
theorem d_lrg1 {a : Expr} {p p2 pos pos2 : Pos} (hc : X.calm = true) (hl : Gl X "list") (hlm : X.mg "list" = none) (hr : Gl X "range") (hrm : X.mg "range" = none) (ha : PE X a (tD X.K cl g)) (na : starEach [.Call (.Name "range" p2) [a] [] pos2] X.env = (false, eval (.Call (.Name "range" p2) [a] [] pos2) X.env) :: starEach [] X.env := by rfl) (nb : starEach [a] X.env = (false, eval a X.env) :: starEach [] X.env := by rfl) :
    PE X (.Call (.Name "list" p) [.Call (.Name "range" p2) [a] [] pos2] [] pos) (tD X.K cl (gLRg1 g)) := pe_mono (pe_listRg hc hl hlm (prg_1 hr hrm ha nb) na) fun σ H Q ⟨H0, B, ρ, c, hB, hs, hg, q⟩ => by
  unfold gLRg1 at hg
  split at hg
  · rename_i j e1
    split at hg
    · rename_i hj
      cases hg
      refine ⟨H0, B, ρ, _, hB, hs, e1, fun B1 H1 v x1 r1 => ?_⟩
      cases r1
      unfold big at hj
      refine ⟨j, rfl, ⟨by omega, by omega, by omega, by omega, by omega⟩, fun p np => q _ _ _ (x1.trans (Ext.new x1.bh np)) (.lst upd_same ?_)⟩
      have := rng_reps (K := X.K) (cl := cl) (B := upd B1 p (.lst (rgV 0 j))) 0 j
      rwa [Int.sub_zero] at this
    · cases hg
  · cases hg
theorem d_lrg2 {a b : Expr} {p p2 pos pos2 : Pos} (hc : X.calm = true) (hl : Gl X "list") (hlm : X.mg "list" = none) (hr : Gl X "range") (hrm : X.mg "range" = none) (ha : PE X a (tD X.K cl g)) (hb : PE X b (tD X.K cl h)) (na : starEach [.Call (.Name "range" p2) [a, b] [] pos2] X.env = (false, eval (.Call (.Name "range" p2) [a, b] [] pos2) X.env) :: starEach [] X.env := by rfl) (nb : starEach [a, b] X.env = (false, eval a X.env) :: starEach [b] X.env := by rfl) (nc : starEach [b] X.env = (false, eval b X.env) :: starEach [] X.env := by rfl) (nd : (backTo pos2 (starEach [b] X.env)).any (·.1) = false := by rfl) :
    PE X (.Call (.Name "list" p) [.Call (.Name "range" p2) [a, b] [] pos2] [] pos) (tD X.K cl (gLRg2 g h)) := pe_mono (pe_listRg hc hl hlm (prg_2 hr hrm ha hb nb nc nd) na) fun σ H Q ⟨H0, B, ρ, c, hB, hs, hg, q⟩ => by
  unfold gLRg2 at hg
  split at hg
  · rename_i i j e1 e2
    split at hg
    · rename_i hj
      cases hg
      refine ⟨H0, B, ρ, _, hB, hs, e1, fun B1 H1 v x1 r1 => ⟨H0, B1, ρ, _, x1.bh, hs.ext x1, e2, fun B2 H2 u x2 r2 => ?_⟩⟩
      cases r1
      cases r2
      unfold big at hj
      have x12 := x1.trans x2
      exact ⟨i, j, rfl, rfl, ⟨by omega, by omega, by omega, by omega, by omega⟩, fun p np => q _ _ _ (x12.trans (Ext.new x2.bh np)) (.lst upd_same (rng_reps i j))⟩
    · cases hg
  · cases hg
/-! ### comprehensions, as written -/
abbrev DG (X : Cx) (cl : Cl) (scope : Scope) (tg : Expr) (is : List Nat) (bind : D → Rho → Option Rho) : Prop := ∀ (s : Shared) (H : Hp) (C : Addr) (l : List (Str × Addr)) (fp : List Addr), PG (X.blk s H scope (compEnvC scope l C X.env) fp) tg (tG X.K cl is bind)
theorem d_lc {elt tg iter : Expr} {ifs : List Expr} {scope : Scope} {own : List (Str × Nat)} {pos : Pos} {gi : Rho → Option (List D)} {is : List Nat} {bind : D → Rho → Option Rho} {tt : Rho → Option Bool} {te : Rho → Option D}
    (hp : PE X (.ListComp elt [⟨tg, iter, ifs, 0⟩] scope pos) (tLc (tI X.K cl gi) (tG X.K cl is bind) (tDT X.K cl tt) (tD X.K cl te) (own.map (·.2)))) (hv : ∀ i ∈ is, i ∈ own.map (·.2) := by decide) :
    PE X (.ListComp elt [⟨tg, iter, ifs, 0⟩] scope pos) (tD X.K cl (gLc gi bind tt te (own.map (·.2)))) := pe_mono hp (lc_of hv)
theorem s_setLc {i : Nat} {st : Stmt} {vs : List Nat} {gi : Rho → Option (List D)} {is : List Nat} {bind : D → Rho → Option Rho} {tt : Rho → Option Bool} {te : Rho → Option D}
    (hp : PS X st (tAsg (tLc (tI X.K cl gi) (tG X.K cl is bind) (tDT X.K cl tt) (tD X.K cl te) vs) (gName i))) (hv : ∀ i ∈ is, i ∈ vs := by decide) :
    PS X st (tS X.K cl (mSet i (gLc gi bind tt te vs))) := ps_mono hp (set_of (lc_of hv))
end
end Dl
set_option maxRecDepth 100000
set_option maxHeartbeats 4000000
namespace Dl
open PySem PySem.Spec PyProof.Rows L2
section
variable {X : Cx} {cl : Cl} {K : PySem.W.Frag} {e : Expr} {g h : Rho → Option D} {gs : Rho → Option (List D)}
/-! ### xs.index(y) -/
def idxD (x : D) : Nat → List D → Option Nat
  | _, [] => none
  | n, d :: ds => if PyData.eqv d.py x.py = true then some n else idxD x (n + 1) ds
def fIndex : D → D → Option D
  | .lst ds, x => if D.ok 8 x = true ∧ D.oks 8 ds = true then (idxD x 0 ds).map fun n => .int (n : Nat) else none
  | _, _ => none
theorem idx_spec {x : D} : ∀ {n : Nat} {ds : List D} {k : Nat}, idxD x n ds = some k → ∃ j z, k = n + j ∧ (D.pys ds)[j]? = some z ∧ PyData.eqv z x.py = true ∧ ∀ (m : Nat) (z' : PyData), m < j → (D.pys ds)[m]? = some z' → PyData.eqv z' x.py = false
  | n, [], k, h => by cases h
  | n, d :: ds, k, h => by
    unfold idxD at h
    split at h
    · rename_i hd
      cases h
      exact ⟨0, d.py, rfl, by rw [pys_map]; rfl, hd, fun m _ hm _ => absurd hm (Nat.not_lt_zero _)⟩
    · rename_i hd
      obtain ⟨j, z, e1, e2, e3, e4⟩ := idx_spec h
      refine ⟨j + 1, z, by omega, ?_, e3, fun m z' hm hz => ?_⟩
      · rw [pys_map] at e2 ⊢
        simpa using e2
      · rw [pys_map] at hz
        cases m with
        | zero =>
          simp at hz
          subst hz
          exact Bool.eq_false_iff.mpr hd
        | succ m =>
          refine e4 m z' (by omega) ?_
          rw [pys_map]
          simpa using hz
theorem d_index (hp : PE X e (tBM X.K "list" (rIndexD X.K) (tD X.K cl g) (tCons (tD X.K cl h) tNil))) : PE X e (tD X.K cl (gBin fIndex g h)) := pe_mono hp fun σ H Q ⟨H0, B, ρ, c, hB, hs, hg, q⟩ => by
  unfold gBin at hg
  cases e1 : g ρ with
  | none => rw [e1] at hg; cases hg
  | some a =>
    cases e2 : h ρ with
    | none => rw [e1, e2] at hg; cases hg
    | some b =>
      rw [e1, e2] at hg
      cases a with
      | lst ds =>
        replace hg : (if D.ok 8 b = true ∧ D.oks 8 ds = true then (idxD b 0 ds).map fun n => D.int (n : Nat) else none) = some c := hg
        split at hg
        · rename_i hz
          cases e3 : idxD b 0 ds with
          | none => rw [e3] at hg; cases hg
          | some k =>
            rw [e3] at hg
            cases hg
            refine ⟨H0, B, ρ, _, hB, hs, e1, fun B1 H1 v x1 r1 => ?_⟩
            cases r1 with
            | lst h1 h2 =>
              refine ⟨.inl ⟨rfl, _, SqL.of (x1.bh _ _ h1)⟩, ⟨H0, B1, ρ, b, x1.bh, hs.ext x1, e2, fun B2 H2 u x2 r2 => ?_⟩⟩
              obtain ⟨j, z, ek, ez, eq, en⟩ := idx_spec e3
              have d2 : Dp X.K H2 _ (.list (D.pys ds)) := .lst (SqL.of (x2.bh _ _ (x2.bb _ _ h1))) ((h2.mono x2.bb).dp x2.bh 8 hz.2)
              have s2 : SeqAt.shaped (.list (D.pys ds)) = true := by
                have z := oks_shape 8 ds hz.2
                unfold SeqAt.shaped
                rw [Bool.and_eq_true]
                refine ⟨by simpa [PyData.canLay0] using z.1, decide_eq_true ?_⟩
                simp only [PyData.depth]
                omega
              refine ⟨_, u, b.py, D.pys ds, j, z, rfl, rfl, d2, r2.dp x2.bh 8 hz.1, s2, ok_shaped hz.1, ez, eq, en, ?_⟩
              have : k = j := by omega
              subst this
              exact q B2 H2 _ (x1.trans x2) (.int _)
        · cases hg
      | _ => cases hg
/-! ### sum of a list, a tuple -/
def rSumA (K : PySem.W.Frag) : List V → Hp → VK → Prop := fun vs H Q => ∃ (a : Addr) (ns : List Int), vs = [V.ref a] ∧ (SqL K H a (ns.map V.int) ∨ SqT K H a (ns.map V.int)) ∧ Q (.int ns.sum) H
theorem cr_sumA (hc : X.calm = true) : CallR X (.builtin "sum") (rSumA X.K) := by
  intro pins s σ H vs us Q I r h
  obtain ⟨a, ns, rfl, hs, q⟩ := h
  rcases hs with hs | hs
  · exact cr_sum hc pins s σ H _ us Q I r ⟨a, ns, rfl, hs, q⟩
  · obtain ⟨its, rv, pt, _⟩ := I.tuple hs
    rw [Vals.ref1 r]
    have hi : IntsAre its.toArray.toList ns := ints_of_vals rv
    obtain ⟨xs, hx⟩ := hi.allInts.items
    have hn : numsOf its.toArray.toList = ns := hi.numsOf
    have pt' : s.heap.IsTuple a its.toArray := pt
    rw [hx] at pt' hn
    rw [nums_intItems] at hn
    refine PySem.W.ktm_sumG (I.ok.hd hc) pt' fun h' tk t' hk => ?_
    rw [preSum_eq, List.take_of_length_le (by simp), hn]
    exact ⟨.int _, H, I.kept hk, ⟨_, rfl⟩, q⟩
theorem cs_sumA : CaS K cl (rSumA K) fSum := fun B H a xs ds c Q hB hl r hf q => by
  unfold fSum at hf
  cases e : toInts ds with
  | none => rw [e] at hf; cases hf
  | some ns =>
    rw [e] at hf
    cases hf
    have hx := ints_of r e
    subst hx
    exact ⟨a, ns, rfl, .inl (SqL.of hl), q B H _ (Ext.refl hB) (.int _)⟩
theorem ct_sumA : CaT K cl (rSumA K) fSum := fun B H a xs ds c Q hB hl r hf q => by
  unfold fSum at hf
  cases e : toInts ds with
  | none => rw [e] at hf; cases hf
  | some ns =>
    rw [e] at hf
    cases hf
    have hx := ints_of r e
    subst hx
    exact ⟨a, ns, rfl, .inr (SqT.of (hB _ _ hl)), q B H _ (Ext.refl hB) (.int _)⟩
end
end Dl
set_option maxRecDepth 100000
set_option maxHeartbeats 4000000
namespace Dl
open PySem PySem.Spec PyProof.Rows L2
section
variable {X : Cx} {cl : Cl} {K : PySem.W.Frag} {e : Expr} {st : Stmt} {g h : Rho → Option D} {gs : Rho → Option (List D)}
/-! ### two clauses -/
theorem SlotOk.hide {H0 : HG} {B H : Hp} {o : Option (Option V)} {s : SV} {p : Addr} {u : HO} (np : H p = none) (h : SlotOk K cl H0 B H o s) : SlotOk K cl ⟨upd H0.h p u, H0.self⟩ B H o s := by
  cases s with
  | un => trivial
  | val d => exact h
  | exc c d => exact h
  | own ds => obtain ⟨a, xs, h1, h2, h3, h4, h5⟩ := h; exact ⟨a, xs, h1, h2, h3, (upd_ne (ne_of_none h2 np)).trans h4, h5⟩
  | ownT ks ds => obtain ⟨a, xs, h1, h2, h3, h4, h5⟩ := h; exact ⟨a, xs, h1, h2, h3, (upd_ne (ne_of_none h2 np)).trans h4, h5⟩
  | ownK ks ds => obtain ⟨a, xs, h1, h2, h3, h4, h5⟩ := h; exact ⟨a, xs, h1, h2, h3, (upd_ne (ne_of_none h2 np)).trans h4, h5⟩
  | ownO c ns ds => obtain ⟨a, dx, xs, h1, h2, h3, h4, h5⟩ := h; exact ⟨a, dx, xs, h1, h2, h3, (upd_ne (ne_of_none h2 np)).trans h4, h5⟩
theorem Slots.hide {H0 : HG} {B H : Hp} {σ : L2.St} {ρ : Rho} {p : Addr} {u : HO} (h : Slots K cl H0 B H σ ρ) (np : H p = none) : Slots K cl ⟨upd H0.h p u, H0.self⟩ B H σ ρ := ⟨h.len, fun i t e => (h.at_ i t e).hide np, h.inj, h.tabs⟩
theorem SlotOk.poke {H0 : HG} {B H : Hp} {o : Option (Option V)} {s : SV} {p : Addr} {u : HO} (n0 : H0 p ≠ none) (h : SlotOk K cl H0 B H o s) : SlotOk K cl H0 B (upd H p u) o s := by
  have ne : ∀ a, H0 a = none → a ≠ p := fun a e z => by subst z; exact n0 e
  cases s with
  | un => trivial
  | val d => exact h
  | exc c d => exact h
  | own ds => obtain ⟨a, xs, h1, h2, h3, h4, h5⟩ := h; exact ⟨a, xs, h1, by rw [upd_ne (ne a h4)]; exact h2, h3, h4, h5⟩
  | ownT ks ds => obtain ⟨a, xs, h1, h2, h3, h4, h5⟩ := h; exact ⟨a, xs, h1, by rw [upd_ne (ne a h4)]; exact h2, h3, h4, h5⟩
  | ownK ks ds => obtain ⟨a, xs, h1, h2, h3, h4, h5⟩ := h; exact ⟨a, xs, h1, by rw [upd_ne (ne a h4)]; exact h2, h3, h4, h5⟩
  | ownO c ns ds => obtain ⟨a, dx, xs, h1, h2, h3, h4, h5⟩ := h; exact ⟨a, dx, xs, h1, by rw [upd_ne (ne a h4)]; exact h2, h3, h4, h5⟩
theorem Slots.poke {H0 : HG} {B H : Hp} {σ : L2.St} {ρ : Rho} {p : Addr} {u : HO} (h : Slots K cl H0 B H σ ρ) (n0 : H0 p ≠ none) {o : HO} (ho : H p = some o) (hp : Plain o := by exact ⟨(fun _ z => nomatch z), (fun _ z => nomatch z)⟩) : Slots K cl H0 B (upd H p u) σ ρ := ⟨h.len, fun i t e => (h.at_ i t e).poke n0, h.inj, tabs_upd ho hp h.tabs⟩
def lc2Run (bind : D → Rho → Option Rho) (tt : Rho → Option Bool) (gi1 : Rho → Option (List D)) (bind1 : D → Rho → Option Rho) (tt1 : Rho → Option Bool) (te : Rho → Option D) (vs1 : List Nat) (ρ : Rho) : List D → Option (List D)
  | [] => some []
  | d :: ds => (bind d ρ).bind fun ρ1 => (tt ρ1).bind fun b => if b = true then (gi1 ρ1).bind fun ds1 => (lcRun bind1 tt1 te (wipeR ρ1 vs1) ds1).bind fun ys => (lc2Run bind tt gi1 bind1 tt1 te vs1 ρ ds).bind fun r => some (ys ++ r)
    else lc2Run bind tt gi1 bind1 tt1 te vs1 ρ ds
def gLc2 (gi : Rho → Option (List D)) (bind : D → Rho → Option Rho) (tt : Rho → Option Bool) (gi1 : Rho → Option (List D)) (bind1 : D → Rho → Option Rho) (tt1 : Rho → Option Bool) (te : Rho → Option D) (vs vs1 : List Nat) : Rho → Option D := fun ρ => (gi ρ).bind fun ds => (lc2Run bind tt gi1 bind1 tt1 te vs1 (wipeR ρ vs) ds).bind fun out => if out.length ≤ top then some (.lst out) else none
theorem lc2_of {gi gi1 : Rho → Option (List D)} {is is1 vs vs1 : List Nat} {bind bind1 : D → Rho → Option Rho} {tt tt1 : Rho → Option Bool} {te : Rho → Option D} (hv : ∀ i ∈ is, i ∈ vs) (hv1 : ∀ i ∈ is1, i ∈ vs1) : ∀ σ H Q, tD K cl (gLc2 gi bind tt gi1 bind1 tt1 te vs vs1) σ H Q →
    tLc2 (tI K cl gi) (tG K cl is bind) (tDT K cl tt) (tI K cl gi1) (tG K cl is1 bind1) (tDT K cl tt1) (tD K cl te) vs vs1 σ H Q := fun σ H Q ⟨H0, B, ρ, c, hB, s, hg, q⟩ => by
  unfold gLc2 at hg
  cases e1 : gi ρ with
  | none => rw [e1] at hg; cases hg
  | some ds =>
    simp only [e1, Option.bind_some] at hg
    cases e2 : lc2Run bind tt gi1 bind1 tt1 te vs1 (wipeR ρ vs) ds with
    | none => rw [e2] at hg; cases hg
    | some out =>
      simp only [e2, Option.bind_some] at hg
      split at hg
      · rename_i hz
        cases hg
        refine ⟨H0, B, ρ, ds, hB, s, e1, fun J B1 H1 x1 wk Dd nD => ?_⟩
        have nB1 : B1 Dd = none := x1.bh.free nD
        replace s := s.hide (u := .lst []) (x1.hh.free nD)
        generalize eH0 : HG.mk (upd H0.h Dd (.lst [])) H0.self = H0' at s
        have hH0 : H0'.h Dd ≠ none := by
          rw [← eH0]
          show upd H0.h Dd _ Dd ≠ none
          rw [upd_same]
          exact fun z => nomatch z
        refine ⟨fun i k H => k = ds.length - i ∧ i ≤ ds.length ∧ ∃ B2 acc ys rest, Ext cl.tabs B1 H1 B2 H ∧ B2 Dd = none ∧ H Dd = some (.lst acc) ∧ Reps K cl B2 acc ys ∧ lc2Run bind tt gi1 bind1 tt1 te vs1 (wipeR ρ vs) (ds.drop i) = some rest ∧ out = ys ++ rest,
          ⟨_, rfl, Nat.zero_le _, B1, [], [], out, (Ext.refl x1.bh).side nD, nB1, upd_same, .nil, e2, rfl⟩, ?_⟩
        rintro i k H2 ⟨rfl, hi, B2, acc, ys, rest, x2, nD2, hD2, ra, hr, eo⟩
        have wki := wk B2 H2 i x2.bb x2.bh
        by_cases hlt : i < ds.length
        · obtain ⟨hgo, hyl⟩ := wki.1 hlt
          refine .inr ⟨hgo, fun H' => i + 1 ≤ ds.length ∧ ∃ B2 acc ys rest, Ext cl.tabs B1 H1 B2 H' ∧ B2 Dd = none ∧ H' Dd = some (.lst acc) ∧ Reps K cl B2 acc ys ∧ lc2Run bind tt gi1 bind1 tt1 te vs1 (wipeR ρ vs) (ds.drop (i + 1)) = some rest ∧ out = ys ++ rest,
            fun H' w => ⟨ds.length - (i + 1), by omega, rfl, w⟩, fun v H3 hv3 => ?_⟩
          obtain ⟨B3, d, x3, hd, rv⟩ := hyl v H3 hv3
          rw [List.getElem?_eq_getElem hlt] at hd
          cases hd
          rw [List.drop_eq_getElem_cons hlt] at hr
          unfold lc2Run at hr
          have x23 := x1.trans (x2.trans x3)
          cases e3 : bind ds[i] (wipeR ρ vs) with
          | none => rw [e3] at hr; cases hr
          | some ρ1 =>
            simp only [e3, Option.bind_some] at hr
            refine ⟨H0', B3, wipeR ρ vs, _, ρ1, x3.bh, (s.ext x23).wipe vs, rv, e3, fun σ3 l3 f3 s3 => ⟨?_, ?_⟩⟩
            · rw [← wipe_wipe (σ := σ)]
              exact wipe_eq l3 fun j hj => f3 j fun z => hj (hv j z)
            · cases e4 : tt ρ1 with
              | none => rw [e4] at hr; cases hr
              | some b =>
                simp only [e4, Option.bind_some] at hr
                refine ⟨H0', B3, ρ1, b, x3.bh, s3, e4, fun B4 H4 x4 => ?_⟩
                have x24 := x3.trans x4
                have x14 := x2.trans x24
                have hD4 : H4 Dd = some (.lst acc) := x24.get hD2 nD2
                have nD4 : B4 Dd = none := (x24.out _ _ hD2 (fun _ z => nomatch z) (fun _ z => nomatch z)).trans nD2
                cases b with
                | false =>
                  simp only [Bool.false_eq_true, if_false] at hr
                  exact iteF ⟨hlt, B4, acc, ys, rest, x14, nD4, hD4, ra.mono x24.bb, hr, eo⟩
                | true =>
                  simp only [if_true] at hr
                  cases e5 : gi1 ρ1 with
                  | none => rw [e5] at hr; cases hr
                  | some ds1 =>
                    simp only [e5, Option.bind_some] at hr
                    cases e6 : lcRun bind1 tt1 te (wipeR ρ1 vs1) ds1 with
                    | none => rw [e6] at hr; cases hr
                    | some mid =>
                      simp only [e6, Option.bind_some] at hr
                      cases e7 : lc2Run bind tt gi1 bind1 tt1 te vs1 (wipeR ρ vs) (ds.drop (i + 1)) with
                      | none => rw [e7] at hr; cases hr
                      | some r' =>
                        simp only [e7, Option.bind_some] at hr
                        cases hr
                        refine iteT ⟨H0', B4, ρ1, ds1, x4.bh, s3.ext x4, e5, fun J1 B5 H5 x5 wk1 => ?_⟩
                        have x15 := x14.trans x5
                        have hD5 : H5 Dd = some (.lst acc) := x5.get hD4 nD4
                        have nD5 : B5 Dd = none := (x5.out _ _ hD4 (fun _ z => nomatch z) (fun _ z => nomatch z)).trans nD4
                        have s5 := (s3.ext x4).ext x5
                        have nin : H1 Dd = none := nD
                        refine ⟨fun j k H => k = ds1.length - j ∧ j ≤ ds1.length ∧ ∃ B6 acc6 ys6 rest6, Ext cl.tabs B1 H1 B6 H ∧ Same B5 B6 ∧ B6 Dd = none ∧ H Dd = some (.lst acc6) ∧ Reps K cl B6 acc6 (ys ++ ys6) ∧ lcRun bind1 tt1 te (wipeR ρ1 vs1) (ds1.drop j) = some rest6 ∧ mid = ys6 ++ rest6 ∧ Slots K cl H0' B6 H σ3 ρ1,
                          ⟨_, rfl, Nat.zero_le _, B5, acc, [], mid, x15, Same.refl _, nD5, hD5, by rw [List.append_nil]; exact ra.mono (x24.trans x5).bb, e6, rfl, s5⟩, ?_⟩
                        rintro j k6 H6 ⟨rfl, hj, B6, acc6, ys6, rest6, x6, s56, nD6, hD6, ra6, hr6, em, sl6⟩
                        have wkj := wk1 B6 H6 j s56 x6.bh
                        by_cases hjt : j < ds1.length
                        · obtain ⟨hgo1, hyl1⟩ := wkj.1 hjt
                          refine .inr ⟨hgo1, fun H' => j + 1 ≤ ds1.length ∧ ∃ B6 acc6 ys6 rest6, Ext cl.tabs B1 H1 B6 H' ∧ Same B5 B6 ∧ B6 Dd = none ∧ H' Dd = some (.lst acc6) ∧ Reps K cl B6 acc6 (ys ++ ys6) ∧ lcRun bind1 tt1 te (wipeR ρ1 vs1) (ds1.drop (j + 1)) = some rest6 ∧ mid = ys6 ++ rest6 ∧ Slots K cl H0' B6 H' σ3 ρ1,
                            fun H' w => ⟨ds1.length - (j + 1), by omega, rfl, w⟩, fun u H7 hu => ?_⟩
                          obtain ⟨B7, d7, x7, hd7, rv7⟩ := hyl1 u H7 hu
                          rw [List.getElem?_eq_getElem hjt] at hd7
                          cases hd7
                          rw [List.drop_eq_getElem_cons hjt] at hr6
                          unfold lcRun at hr6
                          cases e8 : bind1 ds1[j] (wipeR ρ1 vs1) with
                          | none => rw [e8] at hr6; cases hr6
                          | some ρ8 =>
                            simp only [e8, Option.bind_some] at hr6
                            refine ⟨H0', B7, wipeR ρ1 vs1, _, ρ8, x7.bh, (sl6.ext x7).wipe vs1, rv7, e8, fun σ8 l8 f8 s8 => ⟨?_, ?_⟩⟩
                            · rw [← wipe_wipe (σ := σ3)]
                              exact wipe_eq l8 fun m hm => f8 m fun z => hm (hv1 m z)
                            · cases e9 : tt1 ρ8 with
                              | none => rw [e9] at hr6; cases hr6
                              | some b9 =>
                                simp only [e9, Option.bind_some] at hr6
                                refine ⟨H0', B7, ρ8, b9, x7.bh, s8, e9, fun B9 H9 x9 => ?_⟩
                                have x79 := x7.trans x9
                                have x19 := x6.trans x79
                                have hD9 : H9 Dd = some (.lst acc6) := x79.get hD6 nD6
                                have nD9 : B9 Dd = none := (x79.out _ _ hD6 (fun _ z => nomatch z) (fun _ z => nomatch z)).trans nD6
                                cases b9 with
                                | false =>
                                  simp only [Bool.false_eq_true, if_false] at hr6
                                  exact iteF ⟨hjt, B9, acc6, ys6, rest6, x19, s56.trans x79.bb, nD9, hD9, ra6.mono x79.bb, hr6, em, sl6.ext x79⟩
                                | true =>
                                  simp only [if_true] at hr6
                                  cases e10 : te ρ8 with
                                  | none => rw [e10] at hr6; cases hr6
                                  | some y =>
                                    simp only [e10, Option.bind_some] at hr6
                                    cases e11 : lcRun bind1 tt1 te (wipeR ρ1 vs1) (ds1.drop (j + 1)) with
                                    | none => rw [e11] at hr6; cases hr6
                                    | some r11 =>
                                      simp only [e11, Option.bind_some] at hr6
                                      cases hr6
                                      refine iteT ⟨H0', B9, ρ8, y, x9.bh, s8.ext x9, e10, fun B12 H12 w x12 rw' => ?_⟩
                                      have x712 := x79.trans x12
                                      have x112 := x6.trans x712
                                      have hD12 : H12 Dd = some (.lst acc6) := x712.get hD6 nD6
                                      have nD12 : B12 Dd = none := (x712.out _ _ hD6 (fun _ z => nomatch z) (fun _ z => nomatch z)).trans nD6
                                      have hlen : acc6.length < sizeLine := by
                                        rw [ra6.len]
                                        refine Nat.lt_of_lt_of_le ?_ (top_le hz)
                                        rw [eo, em]
                                        simp only [List.length_append, List.length_cons]
                                        omega
                                      have xf := ext_own (u := .lst (acc6 ++ [w])) x112 nD12 nin hD12
                                      refine ⟨acc6, hD12, hlen, hjt, B12, acc6 ++ [w], ys6 ++ [y], r11, xf, s56.trans x712.bb, nD12, upd_same, ?_, rfl, by rw [em, List.append_assoc]; rfl, ?_⟩
                                      · rw [← List.append_assoc]
                                        exact (ra6.mono x712.bb).append (.one rw')
                                      · exact (sl6.ext x712).poke hH0 hD12
                        · have ej : j = ds1.length := by omega
                          subst ej
                          rw [List.drop_length] at hr6
                          cases hr6
                          rw [List.append_nil] at em
                          subst em
                          exact .inl ⟨wkj.2 (Nat.le_refl _), hlt, B6, acc6, ys ++ mid, r', x6, nD6, hD6, ra6, rfl, by rw [eo, List.append_assoc]⟩
        · have e : i = ds.length := by omega
          subst e
          rw [List.drop_length] at hr
          cases hr
          rw [List.append_nil] at eo
          subst eo
          exact .inl ⟨wki.2 (Nat.le_refl _), q (upd B2 Dd (.lst acc)) H2 _ (x1.trans (x2.join hD2 nD2 nD)) (.lst upd_same (ra.mono (same_new nD2)))⟩
      · cases hg
end
end Dl
set_option maxRecDepth 100000
set_option maxHeartbeats 4000000
namespace Dl
open PySem PySem.Spec PyProof.Rows L2
section
variable {X : Cx} {cl : Cl} {K : PySem.W.Frag} {e : Expr} {st : Stmt} {g h : Rho → Option D} {gs : Rho → Option (List D)}
/-! ### own dicts with tuple keys -/
def putT {κ : Type} [DecidableEq κ] : List κ → List D → κ → D → List κ × List D
  | k :: ks, x :: xs, y, d => if k = y then (k :: ks, d :: xs) else let r := putT ks xs y d; (k :: r.1, x :: r.2)
  | _, _, y, d => ([y], [d])
def keyT : D → Option (List Key)
  | .tup ys => D.keys ys
  | _ => none
theorem keyT_at {B H : Hp} {v : V} {d : D} {k : List Key} (hB : Cln B H) (r : Rep K cl B v d) (e : keyT d = some k) : ∃ b, v = .ref b ∧ H b = some (.tup (k.map kV)) := by
  cases r with
  | tup h1 h2 =>
    replace e : D.keys _ = some k := e
    exact ⟨_, rfl, by rw [← keys_of h2 e]; exact hB _ _ h1⟩
  | _ => cases e
theorem nodup_map {κ : Type} [DecidableEq κ] {kvs : List (κ × V)} {y : κ} {v : V} (hn : (kvs.map (·.1)).Nodup) (hm : (kvs.any fun kv => decide (kv.1 = y)) = true) {B : Hp} {ds : List D} {d : D} (r : Reps K cl B (kvs.map (·.2)) ds) (rv : Rep K cl B v d) :
    (kvs.map fun kv => if kv.1 = y then (kv.1, v) else kv).map (·.1) = (putT (kvs.map (·.1)) ds y d).1 ∧ Reps K cl B ((kvs.map fun kv => if kv.1 = y then (kv.1, v) else kv).map (·.2)) (putT (kvs.map (·.1)) ds y d).2 := by
  induction kvs generalizing ds with
  | nil => cases hm
  | cons p kvs ih =>
    obtain ⟨k, w⟩ := p
    cases r with
    | cons r t =>
      rw [List.map_cons, List.nodup_cons] at hn
      by_cases ek : k = y
      · subst ek
        have nin : ∀ q ∈ kvs, ¬ q.1 = k := fun q hq z => hn.1 (List.mem_map.mpr ⟨q, hq, z⟩)
        have same : (kvs.map fun kv => if kv.1 = k then (kv.1, v) else kv) = kvs := by
          rw [List.map_congr_left (g := id) fun q hq => by rw [if_neg (nin q hq)]; rfl, List.map_id]
        simp only [List.map_cons, putT, if_pos, same]
        exact ⟨trivial, .cons rv t⟩
      · have hm2 : (kvs.any fun kv => decide (kv.1 = y)) = true := by
          rw [List.any_cons, decide_eq_false ek, Bool.false_or] at hm
          exact hm
        obtain ⟨i1, i2⟩ := ih hn.2 hm2 t
        simp only [List.map_cons, putT, if_neg ek]
        exact ⟨by rw [i1], .cons r i2⟩
theorem putK_rep {κ : Type} [DecidableEq κ] {kvs : List (κ × V)} {y : κ} {v : V} (hn : (kvs.map (·.1)).Nodup) {B : Hp} {ds : List D} {d : D} (r : Reps K cl B (kvs.map (·.2)) ds) (rv : Rep K cl B v d) :
    (putK kvs y v).map (·.1) = (putT (kvs.map (·.1)) ds y d).1 ∧ Reps K cl B ((putK kvs y v).map (·.2)) (putT (kvs.map (·.1)) ds y d).2 := by
  unfold putK
  by_cases hm : (kvs.any fun kv => decide (kv.1 = y)) = true
  · rw [if_pos hm]
    exact nodup_map hn hm r rv
  · rw [if_neg hm]
    clear hn
    induction kvs generalizing ds with
    | nil => cases r; exact ⟨rfl, .one rv⟩
    | cons p kvs ih =>
      obtain ⟨k, w⟩ := p
      cases r with
      | cons r t =>
        rw [List.any_cons, Bool.or_eq_true, not_or] at hm
        have ek : ¬ k = y := fun z => hm.1 (decide_eq_true z)
        obtain ⟨i1, i2⟩ := ih t hm.2
        simp only [List.cons_append, List.map_cons, putT, if_neg ek]
        exact ⟨by rw [i1], .cons r i2⟩
/-- d[k] = v -/
def mPut (i : Nat) (kg vg : Rho → Option D) : M := fun ρ => match ρ[i]? with
  | some (.ownT ks ds) => (vg ρ).bind fun d => (kg ρ).bind fun y => (keyT y).bind fun k => if ks.Nodup ∧ ks.length < top then some (.nx (ρ.set i (.ownT (putT ks ds k d).1 (putT ks ds k d).2))) else none
  | some (.ownK ks ds) => (vg ρ).bind fun d => (kg ρ).bind fun y => (y.key).bind fun k => if ks.Nodup ∧ ks.length < top then some (.nx (ρ.set i (.ownK (putT ks ds k d).1 (putT ks ds k d).2))) else none
  | _ => none
theorem s_put {i : Nat} (hp : PS X st (sDPut (tVar i) (tD X.K cl g) (tD X.K cl h))) : PS X st (tS X.K cl (mPut i g h)) := ps_mono hp fun E σ H ⟨H0, B0, B, ρ, out, x, s, hm, q⟩ => by
  unfold mPut at hm
  cases e1 : ρ[i]? with
  | none => rw [e1] at hm; cases hm
  | some sv =>
    rw [e1] at hm
    cases sv with
    | ownT ks ds =>
      cases e2 : h ρ with
      | none => simp only [e2] at hm; cases hm
      | some d =>
        cases e3 : g ρ with
        | none => simp only [e2, e3, Option.bind_some] at hm; cases hm
        | some y =>
          cases e4 : keyT y with
          | none => simp only [e2, e3, e4, Option.bind_some] at hm; cases hm
          | some k =>
            simp only [e2, e3, e4, Option.bind_some] at hm
            split at hm
            · rename_i hz
              cases hm
              refine ⟨H0, B, ρ, d, x.bh, s, e2, fun B1 H1 v x1 r1 => ?_⟩
              obtain ⟨a, kvs, h1, h2, h3, h4, h5, h6⟩ := (s.ext x1).at_ i _ e1
              refine ⟨.ref a, h1, H0, B1, ρ, y, x1.bh, s.ext x1, e3, fun B2 H2 u x2 r2 => ?_⟩
              have xx := x.trans (x1.trans x2)
              have s2 := (s.ext x1).ext x2
              obtain ⟨b, rfl, hb⟩ := keyT_at x2.bh r2 e4
              have g2 : H2 a = some (.dT kvs) := x2.get h2 h3
              have g3 : B2 a = none := (x2.out _ _ h2 (fun _ z => nomatch z) (fun _ z => nomatch z)).trans h3
              have hlen : kvs.length < sizeLine := by
                have := hz.2
                rw [← h5, List.length_map] at this
                exact Nat.lt_of_lt_of_le this (top_le (Nat.le_refl _))
              refine ⟨a, _, rfl, DPut.t g2 hb hlen, ?_⟩
              have pk := putK_rep (v := v) (y := k) (by rw [h5]; exact hz.1) (h6.mono x2.bb) (r1.mono x2.bb)
              rw [h5] at pk
              exact q B2 _ σ (ext_own xx g3 h4 g2) (x1.bb.trans x2.bb) (slots_own s2 e1 rfl h1 ⟨a, _, rfl, upd_same, g3, h4, pk.1, pk.2⟩ rfl)
            · cases hm
    | ownK ks ds =>
      cases e2 : h ρ with
      | none => simp only [e2] at hm; cases hm
      | some d =>
        cases e3 : g ρ with
        | none => simp only [e2, e3, Option.bind_some] at hm; cases hm
        | some y =>
          cases e4 : y.key with
          | none => simp only [e2, e3, e4, Option.bind_some] at hm; cases hm
          | some k =>
            simp only [e2, e3, e4, Option.bind_some] at hm
            split at hm
            · rename_i hz
              cases hm
              refine ⟨H0, B, ρ, d, x.bh, s, e2, fun B1 H1 v x1 r1 => ?_⟩
              obtain ⟨a, kvs, h1, h2, h3, h4, h5, h6⟩ := (s.ext x1).at_ i _ e1
              refine ⟨.ref a, h1, H0, B1, ρ, y, x1.bh, s.ext x1, e3, fun B2 H2 u x2 r2 => ?_⟩
              have xx := x.trans (x1.trans x2)
              have s2 := (s.ext x1).ext x2
              have eu := key_of r2 e4
              subst eu
              have g2 : H2 a = some (.dK kvs) := x2.get h2 h3
              have g3 : B2 a = none := (x2.out _ _ h2 (fun _ z => nomatch z) (fun _ z => nomatch z)).trans h3
              have hlen : kvs.length < sizeLine := by
                have := hz.2
                rw [← h5, List.length_map] at this
                exact Nat.lt_of_lt_of_le this (top_le (Nat.le_refl _))
              refine ⟨a, _, rfl, DPut.k g2 hlen, ?_⟩
              have pk := putK_rep (v := v) (y := k) (by rw [h5]; exact hz.1) (h6.mono x2.bb) (r1.mono x2.bb)
              rw [h5] at pk
              exact q B2 _ σ (ext_own xx g3 h4 g2) (x1.bb.trans x2.bb) (slots_own s2 e1 rfl h1 ⟨a, _, rfl, upd_same, g3, h4, pk.1, pk.2⟩ rfl)
            · cases hm
    | _ => cases hm
/-- k in d, k not in d -/
def gInO (neg : Bool) (g : Rho → Option D) (i : Nat) : Rho → Option D := fun ρ => match ρ[i]? with
  | some (.ownT ks _) => (g ρ).bind fun y => (keyT y).map fun k => .bl (if neg then !(ks.any fun z => decide (z = k)) else (ks.any fun z => decide (z = k)))
  | some (.ownK ks _) => (g ρ).bind fun y => (y.key).map fun k => .bl (if neg then !(ks.any fun z => decide (z = k)) else (ks.any fun z => decide (z = k)))
  | _ => none
theorem valV_isSome {κ : Type} [DecidableEq κ] {k : κ} : ∀ kvs : List (κ × V), (valV kvs k).isSome = ((kvs.map (·.1)).any fun z => decide (z = k))
  | [] => rfl
  | (y, v) :: kvs => by
    unfold valV
    rw [List.find?_cons, List.map_cons, List.any_cons]
    by_cases e : y = k
    · rw [decide_eq_true e]; rfl
    · rw [decide_eq_false e, Bool.false_or]
      exact valV_isSome kvs
theorem inO_of {i : Nat} (neg : Bool) : ∀ σ H Q, tD K cl (gInO neg g i) σ H Q → (if neg then tDNotIn else tDIn) (tD K cl g) (tVar i) σ H Q := fun σ H Q ⟨H0, B, ρ, c, hB, hs, hg, q⟩ => by
  unfold gInO at hg
  cases e1 : ρ[i]? with
  | none => rw [e1] at hg; cases hg
  | some sv =>
    rw [e1] at hg
    cases sv with
    | ownT ks ds =>
      cases e2 : g ρ with
      | none => simp only [e2] at hg; cases hg
      | some y =>
        cases e3 : keyT y with
        | none => simp only [e2, e3, Option.bind_some] at hg; cases hg
        | some k =>
          simp only [e2, e3, Option.bind_some, Option.map_some] at hg
          cases hg
          have key : ∀ B' H' v, Ext cl.tabs B H B' H' → Rep K cl B' v y → ∃ a o, σ[i]? = some (some (.ref a)) ∧ DGet H' a v o ∧ o.isSome = (ks.any fun z => decide (z = k)) := fun B' H' v x r => by
            obtain ⟨a, kvs, h1, h2, h3, h4, h5, h6⟩ := (hs.ext x).at_ i _ e1
            obtain ⟨b, rfl, hb⟩ := keyT_at x.bh r e3
            exact ⟨a, _, h1, DGet.t h2 hb, by rw [← h5]; exact valV_isSome kvs⟩
          cases neg with
          | false =>
            refine ⟨H0, B, ρ, y, hB, hs, e2, fun B' H' v x r => ?_⟩
            obtain ⟨a, o, h1, h2, h3⟩ := key B' H' v x r
            exact ⟨_, h1, a, o, rfl, h2, by rw [h3]; exact q B' H' _ x (.bl _)⟩
          | true =>
            refine ⟨H0, B, ρ, y, hB, hs, e2, fun B' H' v x r => ?_⟩
            obtain ⟨a, o, h1, h2, h3⟩ := key B' H' v x r
            exact ⟨_, h1, a, o, rfl, h2, by rw [h3]; exact q B' H' _ x (.bl _)⟩
    | ownK ks ds =>
      cases e2 : g ρ with
      | none => simp only [e2] at hg; cases hg
      | some y =>
        cases e3 : y.key with
        | none => simp only [e2, e3, Option.bind_some] at hg; cases hg
        | some k =>
          simp only [e2, e3, Option.bind_some, Option.map_some] at hg
          cases hg
          have key : ∀ B' H' v, Ext cl.tabs B H B' H' → Rep K cl B' v y → ∃ a o, σ[i]? = some (some (.ref a)) ∧ DGet H' a v o ∧ o.isSome = (ks.any fun z => decide (z = k)) := fun B' H' v x r => by
            obtain ⟨a, kvs, h1, h2, h3, h4, h5, h6⟩ := (hs.ext x).at_ i _ e1
            have ev := key_of r e3
            subst ev
            exact ⟨a, _, h1, DGet.k h2, by rw [← h5]; exact valV_isSome kvs⟩
          cases neg with
          | false =>
            refine ⟨H0, B, ρ, y, hB, hs, e2, fun B' H' v x r => ?_⟩
            obtain ⟨a, o, h1, h2, h3⟩ := key B' H' v x r
            exact ⟨_, h1, a, o, rfl, h2, by rw [h3]; exact q B' H' _ x (.bl _)⟩
          | true =>
            refine ⟨H0, B, ρ, y, hB, hs, e2, fun B' H' v x r => ?_⟩
            obtain ⟨a, o, h1, h2, h3⟩ := key B' H' v x r
            exact ⟨_, h1, a, o, rfl, h2, by rw [h3]; exact q B' H' _ x (.bl _)⟩
    | _ => cases hg
theorem dt_inO {a : Expr} {i : Nat} (hp : PT X a (tB (tDIn (tD X.K cl g) (tVar i)))) : PT X a (tDT X.K cl (gTest (gInO false g i))) := dt_of (t := tDIn (tD X.K cl g) (tVar i)) ⟨hp.run⟩ (inO_of false)
theorem dt_inON {a : Expr} {i : Nat} (hp : PT X a (tB (tDNotIn (tD X.K cl g) (tVar i)))) : PT X a (tDT X.K cl (gTest (gInO true g i))) := dt_of (t := tDNotIn (tD X.K cl g) (tVar i)) ⟨hp.run⟩ (inO_of true)
/-- list(d), d an own dict with tuple keys -/
def Key.d : Key → D
  | .inl i => .int i
  | .inr x => .str x
def gKeysO (i : Nat) : Rho → Option D := fun ρ => match ρ[i]? with
  | some (.ownT ks _) => some (.lst (ks.map fun k => .tup (k.map Key.d)))
  | _ => none
theorem keys_reps {B : Hp} : ∀ k : List Key, Reps K cl B (k.map kV) (k.map Key.d)
  | [] => .nil
  | .inl i :: k => .cons (.int i) (keys_reps k)
  | .inr x :: k => .cons (.str x) (keys_reps k)
theorem d_keysO {i : Nat} {r : List V → Hp → VK → Prop} (hr : ∀ a kvs H Q, Rd H a (.dT kvs) → (∀ p bs, H p = none → IsKeys H kvs bs → Q (.ref p) (upd H p (.lst (bs.map V.ref)))) → r [.ref a] H Q) (hp : PE X e (tCB r (tCons (tVar i) tNil))) : PE X e (tD X.K cl (gKeysO i)) := pe_mono hp fun σ H Q ⟨H0, B, ρ, c, hB, hs, hg, q⟩ => by
  unfold gKeysO at hg
  cases e1 : ρ[i]? with
  | none => rw [e1] at hg; cases hg
  | some sv =>
    rw [e1] at hg
    cases sv with
    | ownT ks ds =>
      cases hg
      obtain ⟨a, kvs, h1, h2, h3, h4, h5, h6⟩ := hs.at_ i _ e1
      refine ⟨.ref a, h1, hr a kvs H Q (.inl h2) fun p bs np hk => ?_⟩
      have tupAt : ∀ b ∈ bs, ∃ xs, H b = some (.tup xs) := by
        intro b hb
        clear h5 h6 h2 q
        induction hk with
        | nil => cases hb
        | cons z _ ih =>
          rcases List.mem_cons.mp hb with rfl | hb
          · exact ⟨_, z⟩
          · exact ih hb
      have x : Ext cl.tabs B H (fun b => if b = p then some (.lst (bs.map V.ref)) else if b ∈ bs then H b else B b) (upd H p (.lst (bs.map V.ref))) := by
        refine ⟨Same.grow (same_new np), fun b o eb => ?_, ⟨fun b o eb nm => ?_, fun b i j eb => ?_, fun b ps eb => ?_⟩, fun b o eb nt _ => ?_⟩
        · show (if b = p then _ else if b ∈ bs then _ else _) = _
          have nb : b ≠ p := fun z => hB.ne_none eb (by rw [z]; exact np)
          rw [if_neg nb]
          by_cases hm : b ∈ bs
          · rw [if_pos hm]
            obtain ⟨xs, hx⟩ := tupAt b hm
            by_cases nk : NoMk (some o)
            · exact hB b o eb nk
            · have : ∃ i j, o = .rng i j := Classical.byContradiction fun z => nk fun i j e => z ⟨i, j, Option.some.inj e⟩
              obtain ⟨i, j, rfl⟩ := this
              obtain ⟨u, g1, g2⟩ := hB.v b i j eb
              rw [hx] at g1
              cases g1
              exact absurd rfl (g2.notTup xs)
          · rw [if_neg hm]; exact eb
        · replace eb : (if b = p then some (HO.lst (bs.map V.ref)) else if b ∈ bs then H b else B b) = some o := eb
          by_cases z : b = p
          · subst z
            rw [if_pos rfl] at eb
            rw [upd_same]
            exact eb
          · rw [if_neg z] at eb
            rw [upd_ne z]
            by_cases hm : b ∈ bs
            · rw [if_pos hm] at eb; exact eb
            · rw [if_neg hm] at eb; exact hB b o eb nm
        · replace eb : (if b = p then some (HO.lst (bs.map V.ref)) else if b ∈ bs then H b else B b) = some (.rng i j) := eb
          by_cases z : b = p
          · rw [if_pos z] at eb
            cases eb
          · rw [if_neg z] at eb
            rw [upd_ne z]
            by_cases hm : b ∈ bs
            · rw [if_pos hm] at eb
              obtain ⟨xs, hx⟩ := tupAt b hm
              rw [hx] at eb
              cases eb
            · rw [if_neg hm] at eb; exact hB.v b i j eb
        · replace eb : (if b = p then some (HO.lst (bs.map V.ref)) else if b ∈ bs then H b else B b) = some (.tbl ps) := eb
          by_cases z : b = p
          · rw [if_pos z] at eb
            cases eb
          · rw [if_neg z] at eb
            by_cases hm : b ∈ bs
            · rw [if_pos hm] at eb
              obtain ⟨xs, hx⟩ := tupAt b hm
              rw [hx] at eb
              cases eb
            · rw [if_neg hm] at eb
              exact hB.n b ps eb
        · show (if b = p then _ else if b ∈ bs then _ else _) = _
          rw [if_neg (ne_of_none eb np), if_neg fun hm => by
            obtain ⟨xs, hx⟩ := tupAt b hm
            rw [eb] at hx
            cases hx
            exact nt _ rfl]
      refine q _ _ _ x (.lst (by show (if p = p then _ else _) = _; rw [if_pos rfl]) ?_)
      subst h5
      have all : ∀ (kvs' : List (List Key × V)) (bs' : List Addr), IsKeys H kvs' bs' → (∀ b ∈ bs', b ∈ bs) → Reps X.K cl (fun b => if b = p then some (.lst (bs.map V.ref)) else if b ∈ bs then H b else B b) (bs'.map V.ref) ((kvs'.map (·.1)).map fun k => D.tup (k.map Key.d)) := by
        intro kvs' bs' hk'
        induction hk' with
        | nil => intro _; exact .nil
        | cons z t ih =>
          intro hin
          refine .cons ?_ (ih fun b hb => hin b (List.mem_cons_of_mem _ hb))
          have hm := hin _ List.mem_cons_self
          have hne := ne_of_none z np
          exact .tup (by show (if _ = p then _ else if _ ∈ bs then _ else _) = _; rw [if_neg hne, if_pos hm]; exact z) (keys_reps _)
      exact all kvs bs hk fun _ hb => hb
    | _ => cases hg
/-! ### small things -/
def fFac : List D → Option D
  | [.int i] => if 0 ≤ i ∧ i ≤ 20 then some (.int ((Builtin.Math.factorialNat i.toNat : Nat) : Int)) else none
  | _ => none
def rFac : List V → Hp → VK → Prop := fun vs H Q => ∃ i : Int, vs = [.int i] ∧ 0 ≤ i ∧ i ≤ 20 ∧ Q (.int ((Builtin.Math.factorialNat i.toNat : Nat) : Int)) H
theorem cr_fac : CallR X (.builtin "math.factorial") rFac := by
  intro pins s σ H vs us Q I r h
  obtain ⟨i, rfl, h0, h1, q⟩ := h
  cases r with
  | cons r t =>
    cases t
    obtain ⟨t, rfl⟩ := r
    exact PySem.W.mc_factorial h0 (by omega) fun _ => ⟨.int _, H, I.tok _, ⟨_, rfl⟩, q⟩
theorem ca_fac : CaD K cl rFac fFac := fun B H vs ds c Q hB r hf q => by
  unfold fFac at hf
  split at hf
  · split at hf
    · rename_i hz
      cases hf
      obtain ⟨v, rfl, r1⟩ := reps1 r
      cases r1
      exact ⟨_, rfl, hz.1, hz.2, q B H _ (Ext.refl hB) (.int _)⟩
    · cases hf
  · cases hf
/-- o.NAME, a constant of the class that is an int -/
def gConC (c : Nat) (f : Str) (d : D) (g : Rho → Option D) : Rho → Option D := fun ρ => (g ρ).bind fun o => match o with
  | .obj c' ns _ => if c' = c ∧ (ns.contains f) = false then some d else none
  | _ => none
theorem d_con {c : Nat} {f : Str} {i : Int} {pos : Pos} (ha : PE X e (tD X.K cl g)) (hc : Cls X.K (cl c)) (hk : ∃ t, Con X.K (cl c) f (.int i) (.int i t)) (hb : attributeBase e f X.env (eval e X.env) = eval e X.env := by rfl) : PE X (.Attribute e f pos) (tD X.K cl (gConC c f (.int i) g)) := pe_mono (pe_con ha hb) fun σ H Q ⟨H0, B, ρ, d, hB, hs, hg, q⟩ => by
  unfold gConC at hg
  cases e1 : g ρ with
  | none => rw [e1] at hg; cases hg
  | some o =>
    rw [e1] at hg
    cases o with
    | obj c' ns xs =>
      replace hg : (if c' = c ∧ (ns.contains f) = false then some (D.int i) else none) = some d := hg
      split at hg
      · rename_i hc'
        obtain ⟨rfl, hn⟩ := hc'
        cases hg
        obtain ⟨t, hk⟩ := hk
        refine ⟨H0, B, ρ, _, hB, hs, e1, fun B1 H1 v x1 r1 => ?_⟩
        cases r1 with
        | obj h1 h2 h3 => exact ⟨_, _, _, _, _, _, rfl, x1.bh _ _ h1, hc, hk, lookup_none (by rw [h2]; exact hn), q B1 H1 _ x1 (.int _)⟩
      · cases hg
    | _ => cases hg
/-- x += e, ints -/
def mAug (i : Nat) (g : Rho → Option D) : M := fun ρ => match ρ[i]? with
  | some (.val (.int a)) => match g ρ with
    | some (.int b) => some (.nx (ρ.set i (.val (.int (a + b)))))
    | _ => none
  | _ => none
theorem s_aug {i : Nat} (hp : PS X st (tAug i (tD X.K cl g) (ipI fun i j => i + j))) : PS X st (tS X.K cl (mAug i g)) := ps_mono hp fun E σ H ⟨H0, B0, B, ρ, out, x, s, hm, q⟩ => by
  unfold mAug at hm
  split at hm
  · rename_i a e1
    split at hm
    · rename_i b e2
      cases hm
      obtain ⟨v, h1, h2⟩ := s.at_ i _ e1
      cases h2
      refine ⟨.int a, h1, H0, B, ρ, _, x.bh, s, e2, fun B' H' w x' r => ?_⟩
      cases r
      exact ⟨a, b, rfl, rfl, q B' H' _ (x.trans x') x'.bb ((s.ext x').setVal (.int _))⟩
    · cases hm
  · cases hm
end
end Dl
set_option maxRecDepth 100000
set_option maxHeartbeats 4000000
/-! dict comprehensions of either kind of keys, with one clause and with two -/
namespace Dl
open PySem PySem.Spec PyProof.Rows L2

/-- an entry is stored by a comprehension -/
theorem dictSet_put {X : Cx} {pins : List (Addr × Obj)} {σ : L2.St} {H H' : Hp} {s : Shared} {E : Value → Shared → Prop} {a : Addr} {y v : V} {u r : Value} {Q : Unit → Shared → Prop} (hu : X.A.units < cLine) (I : Inv X pins σ H s)
    (g : DPut H a y v H') (ry : RelV y u) (rv : RelV v r) (h : ∀ s', Inv X pins σ H' s' → Q () s') : wpAny (model X.prog X.w) X.A (dictSet a u r) Q E s := by
  rcases g with ⟨kvs, k, e, rfl, l, rfl⟩ | ⟨kvs, k, b, e, rfl, eb, l, rfl⟩
  · exact d_dictSet I e l ry rv h
  · obtain rfl : u = Value.ref b := ry
    obtain ⟨z, hd, xs, rel, dd⟩ := L2.dt_of I.hok e
    have zl : xs.length ≤ sizeLine := (Paired.length rel) ▸ z
    have pl : (putK kvs k v).length ≤ sizeLine := by
      have := length_putK kvs k v
      omega
    refine wpAny_dictSet_heap (hsz := zl) hu (L2.key_of I.hok eb) dd fun h' new sb => h _ ?_
    obtain ⟨q, es, ep, hq, h2, h3, h4, _, h5⟩ := new
    have still : ∀ c ys, H c = some (HO.tup ys) → upd H a (.dT (putK kvs k v)) c = some (HO.tup ys) := fun c ys ec => by
      rw [upd_ne (ne_of ec e (fun z => nomatch z)), ec]
    exact d_write I (by rw [e]; exact trivial) sb ⟨q, hq⟩ ⟨pl, hd, _, (rel.put k eb rv).keeps fun c ys ec => still c ys ec, q, es, ep, hq, h2, h3, h4, h5⟩

section
variable {prog : Program} {w : World} {A : Around} {R : Result → Shared → Prop} {s : Shared} {kx vx t0 i0 t1 i1 : Expr} {f0 f1 : List Expr} {sc : Scope} {pos : Pos} {it : Value} {a : Addr} {env : Env}
/-- what a clause's tests say -/
abbrev testsOf (fs : List Expr) (env : Env) : Sem Bool := forIn fs true fun c r => if r = true then do let ok ← isTrue c env (eval c env); pure (ForInStep.yield ok) else pure (ForInStep.yield r)
theorem turn2_out : compTurn (.DictComp kx vx [⟨t0, i0, f0, 0⟩, ⟨t1, i1, f1, 0⟩] sc pos) 0 it (.ref a) env = (do
    standAt i0.pos
    match ← pyNext it with
    | none => pure (.done .next)
    | some v =>
      letOwnedTupleGo t0 it v
      assign t0 env v
      let mut ok := true
      for c in f0 do
        if ok then ok ← isTrue c env (eval c env)
      if ok then
        let x ← eval i1 env
        standAt i1.pos
        let x ← foldedSetIterable i1 env x
        let _ ← runOwn (.compStart (.DictComp kx vx [⟨t0, i0, f0, 0⟩, ⟨t1, i1, f1, 0⟩] sc pos) 1 (← holding [x] (pyIter x)) (.ref a) env) env
      again (.compLoop (.DictComp kx vx [⟨t0, i0, f0, 0⟩, ⟨t1, i1, f1, 0⟩] sc pos) 0 it (.ref a) env)) := by rfl
theorem turn2_in : compTurn (.DictComp kx vx [⟨t0, i0, f0, 0⟩, ⟨t1, i1, f1, 0⟩] sc pos) 1 it (.ref a) env = (do
    standAt i1.pos
    match ← pyNext it with
    | none => pure (.done .next)
    | some v =>
      letOwnedTupleGo t1 it v
      assign t1 env v
      let mut ok := true
      for c in f1 do
        if ok then ok ← isTrue c env (eval c env)
      if ok then
        (do
          let kv ← eval kx env
          let vv ← holding [kv] (eval vx env)
          standAt { kx.pos with endLine := vx.pos.endLine, endCol := vx.pos.endCol }
          holding [kv, vv] (dictSet a kv vv))
      again (.compLoop (.DictComp kx vx [⟨t0, i0, f0, 0⟩, ⟨t1, i1, f1, 0⟩] sc pos) 1 it (.ref a) env)) := by rfl
/-- the outer loop, by an invariant and its measure -/
theorem loop2_out (hs : ∀ x, foldedSetIterable i1 env x = pure x) (J : Nat → Shared → Prop) (turn : ∀ n s, J n s → wpAny (model prog w) A (pyNext it) (fun r s1 => match r with
      | none => R (.ok .next) s1
      | some v => wpAny (model prog w) A (letOwnedTupleGo t0 it v) (fun _ s2 => wpAny (model prog w) A (assign t0 env v) (fun _ s3 => wpAny (model prog w) A (testsOf f0 env) (fun ok s4 =>
          if ok = true then wpAny (model prog w) A (eval i1 env) (fun x s5 => wpAny (model prog w) A (pyIter x) (fun y s6 => codeAny (model prog w) A (.compStart (.DictComp kx vx [⟨t0, i0, f0, 0⟩, ⟨t1, i1, f1, 0⟩] sc pos) 1 y (.ref a) env) (fun r s' => match r with
              | .ok _ => ∃ m, m < n ∧ J m s'
              | .error _ => False) s6) (fun _ _ => False) s5) (fun _ _ => False) s4
          else ∃ m, m < n ∧ J m s4) (fun _ _ => False) s3) (fun _ _ => False) s2) (fun _ _ => False) s1) (fun _ _ => False) s) (n : Nat) (h : J n s) :
    codeAny (model prog w) A (.compLoop (.DictComp kx vx [⟨t0, i0, f0, 0⟩, ⟨t1, i1, f1, 0⟩] sc pos) 0 it (.ref a) env) R s := by
  have no : ∀ {α : Type} {m : Sem α} {Q : α → Shared → Prop} {E : Value → Shared → Prop} {s : Shared}, wpAny (model prog w) A m Q (fun _ _ => False) s → wpAny (model prog w) A m Q E s := fun h => thnF h fun _ _ z => z
  refine codeAny_loop rfl J (fun n s hJ => ?_) n h
  show wpAny _ A ((compTurn _ 0 it (.ref a) env).onRaise (fun x => do noteFrame x env; theTreesLotGoes x)) _ _ s
  refine wpAny_noted ?_
  rw [turn2_out]
  refine wpAny_bind (wpAny_standAt (wpAny_bind (no (thnF (turn n s hJ) fun r s1 h1 => ?_))))
  cases r with
  | none => exact wpAny_pure h1
  | some v =>
    refine wpAny_bind (no (thnF h1 fun _ s2 h2 => wpAny_bind (no (thnF h2 fun _ s3 h3 => wpAny_bind (no (thnF h3 fun ok s4 h4 => ?_))))))
    cases ok with
    | false => exact wpAny_pure ⟨rfl, h4⟩
    | true =>
      rw [if_pos rfl] at h4
      refine wpAny_bind (no (thnF h4 fun x s5 h5 => wpAny_bind (wpAny_standAt (wpAny_bind (wpAny_of_eq (hs x) (wpAny_bind (wpAny_holding (no (thnF h5 fun y s6 h6 => ?_)))))))))
      refine wpAny_bind (wpAny_runOwn ?_)
      rw [Around.mark_none]
      refine codeAny_mono h6 fun r s' hr => ?_
      cases r with
      | error e => exact hr.elim
      | ok f =>
        first
          | exact wpAny_pure ⟨rfl, hr⟩
          | exact wpAny_bind (wpAny_pure (wpAny_pure ⟨rfl, hr⟩))
/-- the inner loop -/
theorem loop2_in (J : Nat → Shared → Prop) (turn : ∀ n s, J n s → wpAny (model prog w) A (pyNext it) (fun r s1 => match r with
      | none => R (.ok .next) s1
      | some v => wpAny (model prog w) A (letOwnedTupleGo t1 it v) (fun _ s2 => wpAny (model prog w) A (assign t1 env v) (fun _ s3 => wpAny (model prog w) A (testsOf f1 env) (fun ok s4 =>
          if ok = true then wpAny (model prog w) A (eval kx env) (fun kv s5 => wpAny (model prog w) A (eval vx env) (fun vv s6 => wpAny (model prog w) A (dictSet a kv vv) (fun _ s7 => ∃ m, m < n ∧ J m s7) (fun _ _ => False) s6) (fun _ _ => False) s5) (fun _ _ => False) s4
          else ∃ m, m < n ∧ J m s4) (fun _ _ => False) s3) (fun _ _ => False) s2) (fun _ _ => False) s1) (fun _ _ => False) s) (n : Nat) (h : J n s) :
    codeAny (model prog w) A (.compLoop (.DictComp kx vx [⟨t0, i0, f0, 0⟩, ⟨t1, i1, f1, 0⟩] sc pos) 1 it (.ref a) env) R s := by
  have no : ∀ {α : Type} {m : Sem α} {Q : α → Shared → Prop} {E : Value → Shared → Prop} {s : Shared}, wpAny (model prog w) A m Q (fun _ _ => False) s → wpAny (model prog w) A m Q E s := fun h => thnF h fun _ _ z => z
  refine codeAny_loop rfl J (fun n s hJ => ?_) n h
  show wpAny _ A ((compTurn _ 1 it (.ref a) env).onRaise (fun x => do noteFrame x env; theTreesLotGoes x)) _ _ s
  refine wpAny_noted ?_
  rw [turn2_in]
  refine wpAny_bind (wpAny_standAt (wpAny_bind (no (thnF (turn n s hJ) fun r s1 h1 => ?_))))
  cases r with
  | none => exact wpAny_pure h1
  | some v =>
    refine wpAny_bind (no (thnF h1 fun _ s2 h2 => wpAny_bind (no (thnF h2 fun _ s3 h3 => wpAny_bind (no (thnF h3 fun ok s4 h4 => ?_))))))
    cases ok with
    | false => exact wpAny_pure ⟨rfl, h4⟩
    | true =>
      rw [if_pos rfl] at h4
      refine wpAny_bind (wpAny_bind (no (thnF h4 fun kv s5 h5 => wpAny_bind (wpAny_holding (no (thnF h5 fun vv s6 h6 => ?_))))))
      exact wpAny_bind (wpAny_standAt (wpAny_holding (no (thnF h6 fun _ s7 h7 => wpAny_pure ⟨rfl, h7⟩))))
theorem start2_in (h0 : codeAny (model prog w) A (.compLoop (.DictComp kx vx [⟨t0, i0, f0, 0⟩, ⟨t1, i1, f1, 0⟩] sc pos) 1 it (.ref a) env) R s)
    (h : wpAny (model prog w) A (pyIter it) (fun y s' => codeAny (model prog w) A (.compLoop (.DictComp kx vx [⟨t0, i0, f0, 0⟩, ⟨t1, i1, f1, 0⟩] sc pos) 1 y (.ref a) env) R s') (notedBy (model prog w) A env fun x s' => R (.error x) s') s) :
    codeAny (model prog w) A (.compStart (.DictComp kx vx [⟨t0, i0, f0, 0⟩, ⟨t1, i1, f1, 0⟩] sc pos) 1 it (.ref a) env) R s := by
  refine codeAny_of_tree ?_
  show wpAny _ A ((compStart _ 1 it (.ref a) env).onRaise (fun x => do noteFrame x env; standAt theWindowsPlace)) _ _ s
  refine wpAny_notedAt ?_
  unfold compStart
  refine wpAny_bind (m := ask) (wpAny_askSetting (wpAny_ite ?_))
  split
  · first
      | exact wpAny_pure ⟨rfl, h0⟩
      | exact wpAny_bind (wpAny_pure (wpAny_pure ⟨rfl, h0⟩))
  · refine wpAny_bind (wpAny_rule ?_)
    refine wpAny_bind (m := standAt i1.pos) (wpAny_standAt (wpAny_bind (wpAny_mono h (fun y s' h' => wpAny_pure ⟨rfl, h'⟩) fun _ _ z => z)))
end
end Dl
set_option maxRecDepth 100000
set_option maxHeartbeats 4000000
namespace Dl
open PySem PySem.Spec PyProof.Rows L2
section
variable {X : Cx}
/-- a new empty dict, whatever keys it will have -/
def Empty (X : Cx) (u0 : HO) : Prop := ∀ (H : Hp) (h : Heap), sysModules < h.objs.size → ObjOk X.prog X.w H (h.push { cls := .type "dict", data := .dict #[] }) h.objs.size u0
theorem emptyK : Empty X (.dK []) := fun _ h hb => dk_empty h hb
theorem emptyT : Empty X (.dT []) := fun _ h hb => dt_empty h hb
def tDcP (u0 : HO) (wi : TI) (g : TG) (tt : TT) (tk tv : TE) (vs : List Nat) : TE := fun σ H Q => wi σ H fun J H1 => ∀ D, H1 D = none → ∃ W : Nat → Nat → Hp → Prop, (∃ m, W 0 m (upd H1 D u0)) ∧ ∀ i m H, W i m H →
  (J.stop i H ∧ Q (.ref D) H) ∨ (J.go i H ∧ ∃ Nx : Hp → Prop, (∀ H', Nx H' → ∃ m', m' < m ∧ W (i + 1) m' H') ∧ ∀ x H', J.yld i H x H' → g x (wipe σ vs) H' fun σ2 H2 => wipe σ2 vs = wipe σ vs ∧ tt σ2 H2 fun b H3 =>
    if b = true then tk σ2 H3 fun y H4 => tv σ2 H4 fun z H5 => ∃ H6, DPut H5 D y z H6 ∧ Nx H6 else Nx H3)
def tDc2 (u0 : HO) (wi : TI) (g : TG) (tt : TT) (wi1 : TI) (g1 : TG) (tt1 : TT) (tk tv : TE) (vs vs1 : List Nat) : TE := fun σ H Q => wi σ H fun J H1 => ∀ D, H1 D = none → ∃ W : Nat → Nat → Hp → Prop, (∃ m, W 0 m (upd H1 D u0)) ∧ ∀ i m H, W i m H →
  (J.stop i H ∧ Q (.ref D) H) ∨ (J.go i H ∧ ∃ Nx : Hp → Prop, (∀ H', Nx H' → ∃ m', m' < m ∧ W (i + 1) m' H') ∧ ∀ x H', J.yld i H x H' → g x (wipe σ vs) H' fun σ2 H2 => wipe σ2 vs = wipe σ vs ∧ tt σ2 H2 fun b H3 =>
    if b = true then wi1 σ2 H3 fun J1 H4 => ∃ W1 : Nat → Nat → Hp → Prop, (∃ m, W1 0 m H4) ∧ ∀ j k H, W1 j k H →
      (J1.stop j H ∧ Nx H) ∨ (J1.go j H ∧ ∃ Nx1 : Hp → Prop, (∀ H', Nx1 H' → ∃ k', k' < k ∧ W1 (j + 1) k' H') ∧ ∀ x H', J1.yld j H x H' → g1 x (wipe σ2 vs1) H' fun σ3 H5 => wipe σ3 vs1 = wipe σ2 vs1 ∧ tt1 σ3 H5 fun b H6 =>
        if b = true then tk σ3 H6 fun y H7 => tv σ3 H7 fun z H8 => ∃ H9, DPut H8 D y z H9 ∧ Nx1 H9 else Nx1 H6)
    else Nx H3)
abbrev InBlk (X : Cx) (scope : Scope) (p : Cx → Prop) : Prop := ∀ (s : Shared) (H : Hp) (C : Addr) (cl : List (Str × Addr)) (fp : List Addr), p (X.blk s H scope (compEnvC scope cl C X.env) fp)
variable {kx vx tg iter tg1 iter1 : Expr} {ifs ifs1 : List Expr} {scope : Scope} {own : List (Str × Nat)} {vs1 : List Nat} {pos : Pos} {wi wi1 : TI} {g g1 : TG} {tt tt1 : TT} {tk tv : TE} {u0 : HO}
/-- a dict comprehension, entered: `loop` is what is to be shown of its first clause's loop -/
theorem dc_enter {rest : List Comprehension} {t : TE} {L : It → Addr → L2.St → Hp → VK → Prop} (hN : X.N.Nodup) (hi : PI X tg iter wi) (ok : BlkOk X.N X.env.scope scope own) (new : Empty X u0) (hs : ∀ x, foldedSetIterable iter X.env x = pure x)
    (ht : ∀ σ H Q, t σ H Q → wi σ H fun J H1 => ∀ D, H1 D = none → L J D σ (upd H1 D u0) Q)
    (loop : ∀ (σ : L2.St) (Q : VK) (D : Addr) (H3 : Hp) (s3 s4 : Shared) (C : Addr) (cl : List (Str × Addr)) (it : Addr) (fp : List Addr) (tn : Nat → Heap → Prop) (J : It) (R : Result → Shared → Prop),
      Inv (X.blk s3 H3 scope (compEnvC scope cl C X.env) fp) [] (wipe σ (List.map (fun p : Str × Nat => p.2) own)) H3 s4 → Turn X.prog X.w X.K tg J fp it tn → tn 0 s4.heap → (∀ b ∈ fp, H3 b = none) → L J D σ H3 Q →
      (∀ s' H', Inv (X.blk s3 H3 scope (compEnvC scope cl C X.env) fp) [] (wipe σ (List.map (fun p : Str × Nat => p.2) own)) H' s' → Q (.ref D) H' → R (.ok .next) s') →
      codeAny (model X.prog X.w) X.A (.compLoop (.DictComp kx vx (⟨tg, iter, ifs, 0⟩ :: rest) scope pos) 0 (.ref it) (.ref D) (compEnvC scope cl C X.env)) R s4) :
    PE X (.DictComp kx vx (⟨tg, iter, ifs, 0⟩ :: rest) scope pos) t := by
  refine ⟨fun pins s σ H Q I h => ?_⟩
  rw [arm_eval_DictComp]
  have capt : ∀ y ∈ scope.names, y.2 = .free → ∃ c, X.env.cells.lookup y.1 = some c := fun y hy e => (ok.free y hy e).elim (fun k => I.ok.has _ (.inl k)) fun k => I.ok.has _ (.inr k)
  refine wpAny_comprehension_free (use := none) rfl hs (closure_ok capt) ok.kind (fun y hy e => (ok.uniq y hy).trans (by rw [e])) (thn (hi.run pins s σ H _ I (ht σ H Q h)) fun xv s1 hx => thn hx fun itv s2 h2 => ?_)
  obtain ⟨it, fp, tn, J, H2, rfl, I2, T, st2, f2, q⟩ := h2
  refine wpAny_newObj_type (newEnv_comp ?_)
  have nD : H2 s2.heap.objs.size = none := I2.hok.fresh (Nat.le_refl _)
  have IA : Inv X pins σ (upd H2 s2.heap.objs.size u0) { s2 with heap := s2.heap.push { cls := .type "dict", data := .dict #[] } } := I2.laid (t' := s2.toks) (fun b o z => Heap.get?_push_of_some _ z) (Nat.le_refl _) (new _ _ I2.big)
  have old : ∀ b ∈ fp, b < s2.heap.objs.size := fun b hb => let ⟨_, z, _⟩ := T.obj _ _ st2 b hb; Heap.lt_size z
  have big : (s2.heap.push { cls := .type "dict", data := .dict #[] }).objs.size = s2.heap.objs.size + 1 := Heap.size_push ..
  have fA : ∀ b ∈ fp, FpOk X pins (upd H2 s2.heap.objs.size u0) b ∧ b < (s2.heap.push { cls := .type "dict", data := .dict #[] }).objs.size := fun b hb => by
    refine ⟨⟨?_, (f2 b hb).2⟩, by rw [big]; exact Nat.lt_succ_of_lt (old b hb)⟩
    rw [upd_ne (Nat.ne_of_lt (old b hb))]
    exact (f2 b hb).1
  have IB := block_start IA ok hN fA
  have stA : tn 0 (s2.heap.push { cls := .type "dict", data := .dict #[] }) := T.keep _ _ _ st2 fun b _ o z => Heap.get?_push_of_some _ z
  have run := loop σ Q s2.heap.objs.size (upd H2 s2.heap.objs.size u0) _ _ (s2.heap.push { cls := .type "dict", data := .dict #[] }).objs.size _ it fp tn J
    (compPost (model X.prog X.w) X.A X.xe none (EP X pins σ Q) (.ref s2.heap.objs.size) (s2.heap.push { cls := .type "dict", data := .dict #[] }).objs.size) IB T (T.keep _ _ _ stA fun b _ o z => pushCells_keeps _ _ _ _ (Heap.get?_push_of_some _ z)) (fun b hb => (fA b hb).1.1) (q _ nD) fun s' H' I' hq => ?_
  · exact codeAny_compStart_dict run (T.self X.A 0 _ _ _ (T.keep _ _ _ stA fun b _ o z => pushCells_keeps _ _ _ _ (Heap.get?_push_of_some _ z)) run)
  · -- back among the def's own names
    have IC : Inv X pins σ H' s' := IA.call' (ch := fp) I'.os I'.base I'.hok I'.bare fun b hb => ⟨(fA b hb).1.2.2.2.1, (fA b hb).1.2.1, (fA b hb).1.2.2.2.2.1, (fA b hb).1.2.2.2.2.2⟩
    obtain ⟨m, hn, _⟩ := I'.loc
    refine ⟨m, hn, fun h'' sb => ?_⟩
    obtain ⟨a0, a1, a2, a3, a4, a5⟩ := IA.fpOk (H' := H') (Nat.le_refl _) I'.free
    exact ⟨.ref _, H', IC.turned (t' := s'.toks) (fun b o hb z => (sb.2 b hb).trans z) a0 a1 a3 a4 a5, rfl, hq⟩
theorem pe_dcP (hc : X.calm = true) (hu : X.A.units < cLine) (hN : X.N.Nodup) (hi : PI X tg iter wi) (ok : BlkOk X.N X.env.scope scope own) (new : Empty X u0) (hg : InBlk X scope fun Y => PG Y tg g) (ht : InBlk X scope fun Y => PTs Y ifs tt)
    (hk : InBlk X scope fun Y => PE Y kx tk) (hv : InBlk X scope fun Y => PE Y vx tv) (hs : ∀ x, foldedSetIterable iter X.env x = pure x := by intro _; rfl) : PE X (.DictComp kx vx [⟨tg, iter, ifs, 0⟩] scope pos) (tDcP u0 wi g tt tk tv (List.map (fun p : Str × Nat => p.2) own)) := by
  refine dc_enter (L := fun J D σ H1 Q => ∃ W : Nat → Nat → Hp → Prop, (∃ m, W 0 m H1) ∧ ∀ i m H, W i m H →
    (J.stop i H ∧ Q (.ref D) H) ∨ (J.go i H ∧ ∃ Nx : Hp → Prop, (∀ H', Nx H' → ∃ m', m' < m ∧ W (i + 1) m' H') ∧ ∀ x H', J.yld i H x H' → g x (wipe σ (List.map (fun p : Str × Nat => p.2) own)) H' fun σ2 H2 => wipe σ2 (List.map (fun p : Str × Nat => p.2) own) = wipe σ (List.map (fun p : Str × Nat => p.2) own) ∧ tt σ2 H2 fun b H3 =>
      if b = true then tk σ2 H3 fun y H4 => tv σ2 H4 fun z H5 => ∃ H6, DPut H5 D y z H6 ∧ Nx H6 else Nx H3)) hN hi ok new hs (fun σ H Q h => h) ?_
  intro σ Q D H3 s3 s4 C cl it fp tn J R IB T st4 nfp ⟨W, ⟨m0, w0⟩, turn⟩ done
  have stat : ∀ {σ' : L2.St} {H' : Hp} {s' : Shared}, Inv (X.blk s3 H3 scope (compEnvC scope cl C X.env) fp) [] σ' H' s' → (∀ b ∈ fp, H' b = none) → ∀ b ∈ fp, FpOk (X.blk s3 H3 scope (compEnvC scope cl C X.env) fp) [] H' b := fun {σ' H' s'} I' hn b hb =>
    ⟨hn b hb, (I'.ok.exf b hb).1, I'.ok.exfs b hb, .inl hb, (I'.ok.exf b hb).2, fun p hp => by cases hp⟩
  refine compLoop_anyD (fun n s' => ∃ i H', Inv (X.blk s3 H3 scope (compEnvC scope cl C X.env) fp) [] (wipe σ (List.map (fun p : Str × Nat => p.2) own)) H' s' ∧ tn i s'.heap ∧ (∀ b ∈ fp, H' b = none) ∧ W i n H') ?_ m0 ⟨0, H3, IB, st4, nfp, w0⟩
  rintro n s5 ⟨i, H5, I5, st5, n5, w5⟩
  rcases turn i n H5 w5 with ⟨stop, qq⟩ | ⟨go, Nx, hNx, step⟩
  · refine thnF (T.done (X.blk s3 H3 scope (compEnvC scope cl C X.env) fp) rfl rfl rfl hc i [] s5 _ H5 (fun _ _ => False) I5 (stat I5 n5) st5 stop) fun r s6 ⟨hr, I6⟩ => ?_
    rw [hr]
    exact done s6 H5 I6 qq
  · refine thnF (T.item (X.blk s3 H3 scope (compEnvC scope cl C X.env) fp) rfl rfl rfl hc i [] s5 _ H5 (fun _ _ => False) I5 (stat I5 n5) st5 go) fun r s6 ⟨u, hr, h6⟩ => ?_
    rw [hr]
    refine thnF h6 fun _ s7 ⟨x, H7, I7, r7, y7, st7, n7⟩ => ?_
    refine thnF ((hg s3 H3 C cl fp).run _ s7 _ H7 x u _ (I7.pinned (stat I7 n7) (T.obj _ _ st7)) r7 (step x H7 y7)) fun _ s8 ⟨σ8, H8, I8, hw8, q8⟩ => ?_
    have fin : ∀ {s' : Shared} {H' : Hp}, Inv (X.blk s3 H3 scope (compEnvC scope cl C X.env) fp) ([] ++ pinsAt fp s7.heap) σ8 H' s' → Nx H' → ∃ m, m < n ∧ ∃ i H', Inv (X.blk s3 H3 scope (compEnvC scope cl C X.env) fp) [] (wipe σ (List.map (fun p : Str × Nat => p.2) own)) H' s' ∧ tn i s'.heap ∧ (∀ b ∈ fp, H' b = none) ∧ W i m H' := fun {s' H'} I' nx => by
      obtain ⟨m', hm, w'⟩ := hNx H' nx
      have kept : ∀ b ∈ fp, ∀ o, s7.heap.get? b = some o → s'.heap.get? b = some o ∧ H' b = none := fun b hb o z => let y := I'.pin (b, o) (List.mem_append_right _ (List.mem_append_right _ (mem_pinsAt hb z))); ⟨y.1, y.2.1⟩
      refine ⟨m', hm, i + 1, H', I'.unpinned.weak (by rw [← hw8, wipe_length]) (fun j v z => ?_), T.keep _ _ _ st7 fun b hb o z => (kept b hb o z).1, fun b hb => ?_, w'⟩
      · rw [← hw8] at z
        exact (wipe_some z).1
      · obtain ⟨o, z, _⟩ := T.obj _ _ st7 b hb
        exact (kept b hb o z).2
    refine thnF ((ht s3 H3 C cl fp).run _ s8 σ8 H8 _ I8 q8) fun b s9 ⟨H9, I9, q9⟩ => ?_
    cases b with
    | false => exact fin I9 q9
    | true =>
      refine thnF ((hk s3 H3 C cl fp).run _ s9 σ8 H9 _ I9 q9) fun z s10 ⟨yk, H10, I10, r10, q10⟩ => thnF ((hv s3 H3 C cl fp).run _ s10 σ8 H10 _ I10 q10) fun z2 s11 ⟨yv, H11, I11, r11, H12, dp, nx⟩ => ?_
      exact dictSet_put (X := X.blk s3 H3 scope (compEnvC scope cl C X.env) fp) hu I11 dp r10 r11 fun s12 I12 => fin I12 nx
theorem pe_dc2 (hc : X.calm = true) (hu : X.A.units < cLine) (hN : X.N.Nodup) (hi : PI X tg iter wi) (ok : BlkOk X.N X.env.scope scope own) (hsub : ∀ i ∈ vs1, i ∈ List.map (fun p : Str × Nat => p.2) own) (new : Empty X u0) (hg : InBlk X scope fun Y => PG Y tg g) (ht : InBlk X scope fun Y => PTs Y ifs tt) (hi1 : InBlk X scope fun Y => PI Y tg1 iter1 wi1)
    (hg1 : InBlk X scope fun Y => PG Y tg1 g1) (ht1 : InBlk X scope fun Y => PTs Y ifs1 tt1) (hk : InBlk X scope fun Y => PE Y kx tk) (hv : InBlk X scope fun Y => PE Y vx tv) (hs : ∀ x, foldedSetIterable iter X.env x = pure x := by intro _; rfl) (hs1 : ∀ env x, foldedSetIterable iter1 env x = pure x := by intro _ _; rfl) :
    PE X (.DictComp kx vx [⟨tg, iter, ifs, 0⟩, ⟨tg1, iter1, ifs1, 0⟩] scope pos) (tDc2 u0 wi g tt wi1 g1 tt1 tk tv (List.map (fun p : Str × Nat => p.2) own) vs1) := by
  refine dc_enter (L := fun J D σ H1 Q => ∃ W : Nat → Nat → Hp → Prop, (∃ m, W 0 m H1) ∧ ∀ i m H, W i m H →
    (J.stop i H ∧ Q (.ref D) H) ∨ (J.go i H ∧ ∃ Nx : Hp → Prop, (∀ H', Nx H' → ∃ m', m' < m ∧ W (i + 1) m' H') ∧ ∀ x H', J.yld i H x H' → g x (wipe σ (List.map (fun p : Str × Nat => p.2) own)) H' fun σ2 H2 => wipe σ2 (List.map (fun p : Str × Nat => p.2) own) = wipe σ (List.map (fun p : Str × Nat => p.2) own) ∧ tt σ2 H2 fun b H3 =>
      if b = true then wi1 σ2 H3 fun J1 H4 => ∃ W1 : Nat → Nat → Hp → Prop, (∃ m, W1 0 m H4) ∧ ∀ j k H, W1 j k H →
        (J1.stop j H ∧ Nx H) ∨ (J1.go j H ∧ ∃ Nx1 : Hp → Prop, (∀ H', Nx1 H' → ∃ k', k' < k ∧ W1 (j + 1) k' H') ∧ ∀ x H', J1.yld j H x H' → g1 x (wipe σ2 vs1) H' fun σ3 H5 => wipe σ3 vs1 = wipe σ2 vs1 ∧ tt1 σ3 H5 fun b H6 =>
          if b = true then tk σ3 H6 fun y H7 => tv σ3 H7 fun z H8 => ∃ H9, DPut H8 D y z H9 ∧ Nx1 H9 else Nx1 H6)
      else Nx H3)) hN hi ok new hs (fun σ H Q h => h) ?_
  intro σ Q D H3 s3 s4 C cl it fp tn J R IB T st4 nfp ⟨W, ⟨m0, w0⟩, turn⟩ done
  have stat : ∀ {σ' : L2.St} {H' : Hp} {s' : Shared}, Inv (X.blk s3 H3 scope (compEnvC scope cl C X.env) fp) [] σ' H' s' → (∀ b ∈ fp, H' b = none) → ∀ b ∈ fp, FpOk (X.blk s3 H3 scope (compEnvC scope cl C X.env) fp) [] H' b := fun {σ' H' s'} I' hn b hb =>
    ⟨hn b hb, (I'.ok.exf b hb).1, I'.ok.exfs b hb, .inl hb, (I'.ok.exf b hb).2, fun p hp => by cases hp⟩
  refine loop2_out (hs1 _) (fun n s' => ∃ i H', Inv (X.blk s3 H3 scope (compEnvC scope cl C X.env) fp) [] (wipe σ (List.map (fun p : Str × Nat => p.2) own)) H' s' ∧ tn i s'.heap ∧ (∀ b ∈ fp, H' b = none) ∧ W i n H') ?_ m0 ⟨0, H3, IB, st4, nfp, w0⟩
  rintro n s5 ⟨i, H5, I5, st5, n5, w5⟩
  rcases turn i n H5 w5 with ⟨stop, qq⟩ | ⟨go, Nx, hNx, step⟩
  · refine thnF (T.done (X.blk s3 H3 scope (compEnvC scope cl C X.env) fp) rfl rfl rfl hc i [] s5 _ H5 (fun _ _ => False) I5 (stat I5 n5) st5 stop) fun r s6 ⟨hr, I6⟩ => ?_
    rw [hr]
    exact done s6 H5 I6 qq
  · refine thnF (T.item (X.blk s3 H3 scope (compEnvC scope cl C X.env) fp) rfl rfl rfl hc i [] s5 _ H5 (fun _ _ => False) I5 (stat I5 n5) st5 go) fun r s6 ⟨u, hr, h6⟩ => ?_
    rw [hr]
    refine thnF h6 fun _ s7 ⟨x, H7, I7, r7, y7, st7, n7⟩ => ?_
    refine thnF ((hg s3 H3 C cl fp).run _ s7 _ H7 x u _ (I7.pinned (stat I7 n7) (T.obj _ _ st7)) r7 (step x H7 y7)) fun _ s8 ⟨σ8, H8, I8, hw8, q8⟩ => ?_
    have fin : ∀ {σ9 : L2.St} {s' : Shared} {H' : Hp}, Inv (X.blk s3 H3 scope (compEnvC scope cl C X.env) fp) ([] ++ pinsAt fp s7.heap) σ9 H' s' → (wipe σ (List.map (fun p : Str × Nat => p.2) own)).length = σ9.length → (∀ (j : Nat) v, (wipe σ (List.map (fun p : Str × Nat => p.2) own))[j]? = some (some v) → σ9[j]? = some (some v)) → Nx H' →
        ∃ m, m < n ∧ ∃ i H', Inv (X.blk s3 H3 scope (compEnvC scope cl C X.env) fp) [] (wipe σ (List.map (fun p : Str × Nat => p.2) own)) H' s' ∧ tn i s'.heap ∧ (∀ b ∈ fp, H' b = none) ∧ W i m H' := fun {σ9 s' H'} I' hl hw nx => by
      obtain ⟨m', hm, w'⟩ := hNx H' nx
      have kept : ∀ b ∈ fp, ∀ o, s7.heap.get? b = some o → s'.heap.get? b = some o ∧ H' b = none := fun b hb o z => let y := I'.pin (b, o) (List.mem_append_right _ (List.mem_append_right _ (mem_pinsAt hb z))); ⟨y.1, y.2.1⟩
      refine ⟨m', hm, i + 1, H', I'.unpinned.weak hl hw, T.keep _ _ _ st7 fun b hb o z => (kept b hb o z).1, fun b hb => ?_, w'⟩
      obtain ⟨o, z, _⟩ := T.obj _ _ st7 b hb
      exact (kept b hb o z).2
    have l8 : (wipe σ (List.map (fun p : Str × Nat => p.2) own)).length = σ8.length := by rw [← hw8, wipe_length]
    refine thnF ((ht s3 H3 C cl fp).run _ s8 σ8 H8 _ I8 q8) fun b s9 ⟨H9, I9, q9⟩ => ?_
    cases b with
    | false => exact fin I9 l8 (fun j v z => by rw [← hw8] at z; exact (wipe_some z).1) q9
    | true =>
      refine thnF ((hi1 s3 H3 C cl fp).run _ s9 σ8 H9 _ I9 q9) fun xv s10 hx => thnF hx fun itv s11 h11 => ?_
      obtain ⟨it1, fp1, tn1, J1, H11, rfl, I11, T1, st11, f11, W1, ⟨m1, w1⟩, turn1⟩ := h11
      have stat1 : ∀ {H' : Hp}, (∀ b ∈ fp1, H' b = none) → ∀ b ∈ fp1, FpOk (X.blk s3 H3 scope (compEnvC scope cl C X.env) fp) ([] ++ pinsAt fp s7.heap) H' b := fun hn b hb => ⟨hn b hb, (f11 b hb).2⟩
      have inner : codeAny (model X.prog X.w) X.A (.compLoop (.DictComp kx vx [⟨tg, iter, ifs, 0⟩, ⟨tg1, iter1, ifs1, 0⟩] scope pos) 1 (.ref it1) (.ref D) (compEnvC scope cl C X.env)) (fun r s' => match r with
          | .ok _ => ∃ m, m < n ∧ ∃ i H', Inv (X.blk s3 H3 scope (compEnvC scope cl C X.env) fp) [] (wipe σ (List.map (fun p : Str × Nat => p.2) own)) H' s' ∧ tn i s'.heap ∧ (∀ b ∈ fp, H' b = none) ∧ W i m H'
          | .error _ => False) s11 := by
        refine loop2_in (fun k s' => ∃ j H', Inv (X.blk s3 H3 scope (compEnvC scope cl C X.env) fp) ([] ++ pinsAt fp s7.heap) (wipe σ8 vs1) H' s' ∧ tn1 j s'.heap ∧ (∀ b ∈ fp1, H' b = none) ∧ W1 j k H') ?_ m1 ⟨0, H11, I11.weak (wipe_length _ _) (fun j v z => (wipe_some z).1), st11, fun b hb => (f11 b hb).1, w1⟩
        rintro k sA ⟨j, HA, IA, stA, nA, wA⟩
        rcases turn1 j k HA wA with ⟨stop1, nx1⟩ | ⟨go1, Nx1, hNx1, step1⟩
        · refine thnF (T1.done (X.blk s3 H3 scope (compEnvC scope cl C X.env) fp) rfl rfl rfl hc j _ sA (wipe σ8 vs1) HA (fun _ _ => False) IA (stat1 nA) stA stop1) fun r sB ⟨hr, IB'⟩ => ?_
          rw [hr]
          refine fin IB' (l8.trans (wipe_length σ8 vs1).symm) (fun j v z => ?_) nx1
          rw [← hw8] at z
          obtain ⟨z1, z2⟩ := wipe_some z
          rw [wipe_out fun y => z2 (hsub j y)]
          exact z1
        · refine thnF (T1.item (X.blk s3 H3 scope (compEnvC scope cl C X.env) fp) rfl rfl rfl hc j _ sA (wipe σ8 vs1) HA (fun _ _ => False) IA (stat1 nA) stA go1) fun r sB ⟨u1, hr, hB⟩ => ?_
          rw [hr]
          refine thnF hB fun _ sC ⟨x1, HC, IC, rC, yC, stC, nC⟩ => ?_
          refine thnF ((hg1 s3 H3 C cl fp).run _ sC (wipe σ8 vs1) HC x1 u1 _ (IC.pinned (stat1 nC) (T1.obj _ _ stC)) rC (step1 x1 HC yC)) fun _ sD ⟨σD, HD, ID, hwD, qD⟩ => ?_
          have fin1 : ∀ {s' : Shared} {H' : Hp}, Inv (X.blk s3 H3 scope (compEnvC scope cl C X.env) fp) (([] ++ pinsAt fp s7.heap) ++ pinsAt fp1 sC.heap) σD H' s' → Nx1 H' → ∃ m, m < k ∧ ∃ j H', Inv (X.blk s3 H3 scope (compEnvC scope cl C X.env) fp) ([] ++ pinsAt fp s7.heap) (wipe σ8 vs1) H' s' ∧ tn1 j s'.heap ∧ (∀ b ∈ fp1, H' b = none) ∧ W1 j m H' := fun {s' H'} I' nx => by
            obtain ⟨m', hm, w'⟩ := hNx1 H' nx
            have kept : ∀ b ∈ fp1, ∀ o, sC.heap.get? b = some o → s'.heap.get? b = some o ∧ H' b = none := fun b hb o z => let y := I'.pin (b, o) (List.mem_append_right _ (List.mem_append_right _ (mem_pinsAt hb z))); ⟨y.1, y.2.1⟩
            refine ⟨m', hm, j + 1, H', I'.unpinned.weak (by rw [← hwD, wipe_length]) (fun j v z => by rw [← hwD] at z; exact (wipe_some z).1), T1.keep _ _ _ stC fun b hb o z => (kept b hb o z).1, fun b hb => ?_, w'⟩
            obtain ⟨o, z, _⟩ := T1.obj _ _ stC b hb
            exact (kept b hb o z).2
          refine thnF ((ht1 s3 H3 C cl fp).run _ sD σD HD _ ID qD) fun b1 sE ⟨HE, IE, qE⟩ => ?_
          cases b1 with
          | false => exact fin1 IE qE
          | true =>
            refine thnF ((hk s3 H3 C cl fp).run _ sE σD HE _ IE qE) fun z sF ⟨yk, HF, IF, rF, qF⟩ => thnF ((hv s3 H3 C cl fp).run _ sF σD HF _ IF qF) fun z2 sG ⟨yv, HG, IG, rG, HP, dp, nx⟩ => ?_
            exact dictSet_put (X := X.blk s3 H3 scope (compEnvC scope cl C X.env) fp) hu IG dp rF rG fun sH IH => fin1 IH nx
      exact start2_in inner (T1.self X.A 0 _ _ _ st11 inner)
end
end Dl
set_option maxRecDepth 100000
set_option maxHeartbeats 4000000
/-! sorted(xs, key=lambda x: (len(x), x)), x a tuple of ints -/
namespace Dl
open PySem PySem.Spec PyProof.Rows L2
section
variable {prog : Program} {w : World} {A : Around} {s : Shared} {f b c' : Addr} {x q : Str} {params : Arguments} {scope : Scope} {clos : List (Str × Addr)} {pm ctv : Value} {k : Nat} {p1 p2 p3 p4 p5 : Pos} {mg mb : Str → Option Value} {its : List Value} {n : Nat} {ns : List Int}
abbrev lenPair (x : Str) (k : Nat) (p1 p2 p3 p4 p5 : Pos) : Expr := .Tuple [.Call (.Name "len" p1) [.Name x p2] [] p3, .Name x p4] k p5
theorem key_call (hroom : A.depth < recursionLimit) (ho : s.heap.get? f = some (PySem.W.kla_obj "<lambda>" q params (lenPair x k p1 p2 p3 p4 p5) scope clos pm c' ctv)) (hrec : s.heap.CodeRec (.ref c') q)
    (hk : scope.kind = .function) (hco : scope.isCoroutine = false) (hgen : scope.isGenerator = false) (hc : ∀ y ∈ scope.names, y.2 ≠ .cell) (hx : scope.names.lookup x = some .local) (hl : scope.names.lookup ("len" : Str) = some .globalImplicit)
    (hd : (x == ("__debug__" : Str)) = false) (hbind : bindArgs (PySem.W.kla_fn "<lambda>" q params (lenPair x k p1 p2 p3 p4 p5) scope clos pm (.ref c') ctv) ⟨[.ref b], []⟩ = pure [(x, .ref b)])
    (hg : s.heap.Ns mainGlobals mg) (hb : s.heap.Ns builtinsNs mb) (hm : mg "len" = none) (hv : mb "len" = some (.builtin "len")) (lim : s.heap.NoLimit)
    (ht : s.heap.IsTuple b its.toArray) (hi : IntsAre its ns) (hz : its.length ≤ sizeLine) :
    wpAny (model prog w) A (call (.ref f) [.ref b]) (PySem.W.KeyPure (.tuple [.int ns.length, .tuple (ns.map .int)]) s) (fun _ _ => False) s := by
  refine wpAny_call (PySem.W.kla_callFunE hroom ho rfl hco hgen rfl hrec ?_)
  rw [hbind]
  refine wpAny_pure (wpAny_newFunctionEnv hc (fun y hy => by rw [List.mem_singleton.mp hy]; exact hx) (fun h₁ hns hsb => ⟨lim.fresh _ hsb, ?_⟩) hk)
  have kp : ∀ a o, s.heap.get? a = some o → h₁.get? a = some o := fun a o e => hsb.extBut a o (Nat.ne_of_lt (Heap.lt_size e)) (Heap.get?_push_of_some _ e)
  refine PySem.W.kla_codeExpr ?_
  generalize eE : newEnv scope s.heap.objs.size _ _ _ _ _ _ _ = env
  have k1 : env.scope.kind = .function := by rw [← eE]; exact hk
  have k2 : env.kindOf "len" = some .globalImplicit := by rw [← eE]; exact hl
  have k3 : env.kindOf x = some .local := by rw [← eE]; exact hx
  have k4 : env.globals = mainGlobals := by rw [← eE]; rfl
  have k5 : env.builtins = builtinsNs := by rw [← eE]; rfl
  have k6 : env.locals = s.heap.objs.size := by rw [← eE]; rfl
  have var : ∀ {A' : Around} {E : Value → Shared → Prop} {Q : Value → Shared → Prop} {tk : Nat} {p : Pos}, Q (.ref b) { s with heap := h₁, toks := tk } → wpAny (model prog w) A' (eval (.Name x p) env) Q E { s with heap := h₁, toks := tk } := fun {A' E Q tk p} hq =>
    wpAny_Name (wpAny_loadName_local k1 k3 (by rw [k6]; exact hns) (by simp) hq) hd
  refine wpAny_Tuple_spliced ?_
  show wpAny _ _ (spliced [(false, eval (.Call (.Name "len" p1) [.Name x p2] [] p3) env), (false, eval (.Name x p4) env)]) _ _ _
  refine Calls.spliced_cons (Call_ (Calls.Name_function_global k1 k2 (Calls.loadGlobal_builtin (by rw [k4]; exact hg.keeps kp) hm (by rw [k5]; exact hb.keeps kp) hv ?_)))
  refine PyProof.Rows.callWith_builtin1 ?_
  show wpAny _ _ (spliced [(false, eval (.Name x p2) env)]) _ _ _
  refine Calls.spliced_cons (var (Calls.spliced_nil ?_))
  have hlen := hi.length
  have ht1 : h₁.IsTuple b its.toArray := let ⟨o, e1, e2⟩ := ht; ⟨o, kp _ _ e1, e2⟩
  refine PyProof.Rows.len_tuple (show IsTup h₁ b its.toArray from ht1) (by have := line63; simp only [List.size_toArray]; omega) ?_
  refine Calls.spliced_cons (var (Calls.spliced_nil ⟨by show 2 ≤ sizeLine; decide, ?_⟩))
  obtain ⟨o, e1, e2, m, e3⟩ := ht1
  refine ⟨_, _, rfl, fun a o e => Heap.get?_push_of_some _ (kp a o e), .tuple (Heap.get?_push_size _ rfl) rfl rfl ?_⟩
  have r2 : Reads (h₁.push { cls := .type "tuple", data := .seq (#[Value.int (its.toArray.size : Nat) (s.toks + [(x, Value.ref b)].length + 1), .ref b]) }) (.ref b) (.tuple (ns.map .int)) [] :=
    .tuple (Heap.get?_push_of_some _ e1) e2 e3 (hi.reads _)
  have e4 : (its.toArray.size : Int) = (ns.length : Int) := by rw [List.size_toArray, hlen]
  rw [← e4]
  exact .cons (as := []) (bs := []) (.int _ _) (.cons (as := []) (bs := []) r2 .nil)
end
end Dl
set_option maxRecDepth 100000
set_option maxHeartbeats 4000000
namespace Dl
open PySem PySem.Spec PyProof.Rows L2
section
variable {X : Cx} {pins : List (Addr × Obj)} {σ : L2.St} {H : Hp} {s : Shared}
abbrev lamName (X : Cx) : Str := X.env.qual ++ "<lambda>"
abbrev lamObj (X : Cx) (params : Arguments) (body : Expr) (scope : Scope) (pm ctv : Value) (d : Addr) : Obj := PySem.W.kla_obj "<lambda>" (lamName X) params body scope (cloFrom X.env.cells scope.names []) pm d ctv
/-- a lambda is made; the heap's own growth is told whole -/
theorem lam_grow {T : List (Addr × Str)} {c P : Addr} {params : Arguments} {body : Expr} {scope : Scope} {pos : Pos} {E Q : Value → Shared → Prop} (I : Inv X pins σ H s) (TB : LamX.TabB X.base X.mg c P) (hcd : X.env.code = .ref c)
    (hin : (P, lamName X) ∈ T) (one : ∀ p ∈ T, p.1 = P → p.2 = lamName X) (hT : LamX.Tabs T H) (nodef : defaultsOf params X.env = ([], [])) (fre : ∀ y ∈ scope.names, y.2 = .free → ∃ c, X.env.cells.lookup y.1 = some c)
    (go : ∀ (f d : Addr) (pm ctv : Value) (H1 : Hp) (s' : Shared), Inv X pins σ H1 s' → Grow0 T H H1 → s'.heap.get? f = some (lamObj X params body scope pm ctv d) → H1 d = some (LamX.CodeO d (lamName X)) → Q (.ref f) s') :
    wpAny (model X.prog X.w) X.A (eval (.Lambda params body scope pos) X.env) Q E s := by
  obtain ⟨ps, atP, trip, known⟩ := hT _ hin
  have atP' := I.hok P _ atP
  have blt := TB.bm.keeps I.bk
  refine PySem.W.kla_eval nodef ?_
  cases found : codeAmong pos ps.toList with
  | some cv =>
    obtain ⟨d, rfl, hd⟩ := known pos cv found
    exact PySem.W.kla_makeFunctionHit (closure_ok fre) I.ok.glob (I.mod.glob.keeps I.bk) hcd (TB.code.keeps I.bk) atP' trip found blt fun ctv h2 tk kp _ =>
      go _ d _ ctv H _ (I.kept fun b o e => Heap.get?_push_of_some _ (kp b o e)) (Same.grow0 (Same.refl _)) (Heap.get?_push_size _ rfl) hd
  | none =>
    refine PySem.W.kla_makeFunction (closure_ok fre) I.ok.glob (I.mod.glob.keeps I.bk) hcd (TB.code.keeps I.bk) atP' trip found TB.gP blt fun d ctv h2 tk kp lo hi rec tab => ?_
    obtain ⟨d2, oc, vs, t, e2, r1, r2, r3⟩ := rec
    obtain rfl : d = d2 := by injection e2
    have nd : H d = none := I.hok.fresh lo
    have neP : P ≠ d := ne_of_none atP nd
    have I1 := LamX.inv_table (t' := tk) (more := #[rawInt pos.line, rawInt pos.col, .ref d]) (h' := h2.push (lamObj X params body scope ((X.mg "__name__").getD .none) ctv d)) I atP (fun b o hb e => Heap.get?_push_of_some _ (kp b o hb e)) (Heap.get?_push_of_some _ tab) lo ⟨oc, vs, t, Heap.get?_push_of_some _ r1, r2, r3⟩
    have keep : LamX.ExtN H (upd (upd H P (.tbl (ps ++ #[rawInt pos.line, rawInt pos.col, .ref d]))) d (LamX.CodeO d (lamName X))) := fun b o e n => by
      have b1 : b ≠ P := fun z => by rw [z, atP] at e; cases e; exact n ps rfl
      rw [upd_ne (ne_of_none e nd), upd_ne b1, e]
    refine go _ d _ ctv _ _ I1 ⟨keep, fun b e => ?_, fun _ p hp => ?_⟩ (Heap.get?_push_size _ rfl) upd_same
    · by_cases b2 : b = d
      · rw [b2]; exact nd
      · rw [upd_ne b2] at e
        by_cases b1 : b = P
        · rw [b1, upd_same] at e; cases e
        · rwa [upd_ne b1] at e
    · by_cases hb : p.1 = P
      · refine ⟨_, by rw [hb, upd_ne neP, upd_same], by rw [Array.toList_append]; exact PySem.TriplesOk_snoc _ _ _ _ trip, fun p' cv hcv => ?_⟩
        rw [Array.toList_append] at hcv
        rw [one p hp hb]
        rcases LamX.among_app _ trip hcv with z | z
        · obtain ⟨c0, e1, e3⟩ := known p' cv z
          exact ⟨c0, e1, keep _ _ e3 LamX.codeO_ne⟩
        · exact ⟨d, z, upd_same⟩
      · obtain ⟨ps', a1, a2, a3⟩ := hT p hp
        refine ⟨ps', by rw [upd_ne (ne_of_none a1 nd), upd_ne hb]; exact a1, a2, fun p' cv hcv => ?_⟩
        obtain ⟨c0, e1, e3⟩ := a3 p' cv hcv
        exact ⟨c0, e1, keep _ _ e3 LamX.codeO_ne⟩
end
end Dl
set_option maxRecDepth 100000
set_option maxHeartbeats 4000000
namespace Dl
open PySem PySem.Spec PyProof.Rows L2
abbrev lenKey (ns : List Int) : PyData := .tuple [.int ns.length, .tuple (ns.map .int)]
/-- the names of the lambda of one parameter x -/
structure LamX1 (x : Str) (scope : Scope) : Prop where
  kind : scope.kind = .function
  co : scope.isCoroutine = false
  gen : scope.isGenerator = false
  noc : ∀ y ∈ scope.names, y.2 ≠ .cell ∧ y.2 ≠ .free
  lx : scope.names.lookup x = some .local
  ll : scope.names.lookup ("len" : Str) = some .globalImplicit
  db : (x == ("__debug__" : Str)) = false
/-- sorted(e, key=lambda ..): the items xs are tuples of ints, in the clean part of the heap -/
def tSortL (T : List (Addr × Str)) (t : TA) : TE := fun σ H Q => t σ H fun vs H1 => LamX.Tabs T H1 ∧ ∃ (a : Addr) (bs : List (V × List Int)), vs = [.ref a] ∧ H1 a = some (.lst (bs.map (·.1))) ∧ (∀ x ∈ bs, ∃ b, x.1 = .ref b ∧ H1 b = some (.tup (x.2.map V.int))) ∧
  ∀ H2 p, Grow0 T H1 H2 → H2 p = none → Q (.ref p) (upd H2 p (.lst ((bs.mergeSort (PySem.W.dataLe false fun x => lenKey x.2)).map (·.1))))
theorem vals_zip {h : Heap} {bs : List (V × List Int)} : ∀ {its : List Value}, Vals (bs.map (·.1)) its → PySem.W.EachIs (fun (u : Value) (x : V × List Int) => RelV x.1 u) its bs := by
  induction bs with
  | nil => intro its r; cases r; exact .nil
  | cons b bs ih =>
    intro its r
    cases r with
    | cons r t => exact .cons r (ih t)
theorem each_and {α β : Type} {R S : α → β → Prop} : ∀ {as : List α} {bs : List β}, PySem.W.EachIs R as bs → (∀ a b, b ∈ bs → R a b → S a b) → PySem.W.EachIs S as bs
  | _, _, .nil, _ => .nil
  | _, _, .cons r t, h => .cons (h _ _ List.mem_cons_self r) (each_and t fun a b m => h a b (List.mem_cons_of_mem _ m))
theorem each_vals : ∀ {its : List Value} {bs : List (V × List Int)}, PySem.W.EachIs (fun (u : Value) (x : V × List Int) => RelV x.1 u) its bs → Vals (bs.map (·.1)) its
  | _, _, .nil => .nil
  | _, _, .cons r t => .cons r (each_vals t)
theorem key_depth (ns : List Int) : (lenKey ns).depth ≤ 2 := by
  have z : ∀ l : List Int, PyData.depthAll (l.map .int) = 0 := fun l => by
    induction l with
    | nil => simp [PyData.depthAll]
    | cons i l ih => simp [PyData.depthAll, PyData.depth, ih]
  simp [lenKey, PyData.depth, PyData.depthAll, z]
theorem ints_alike : ∀ l m : List Int, PySem.W.alikeAll (l.map .int) (m.map .int) = true
  | [], _ => by simp [PySem.W.alikeAll]
  | _ :: _, [] => by simp [PySem.W.alikeAll]
  | i :: l, j :: m => by simp [PySem.W.alikeAll, PySem.W.alike, ints_alike l m]
theorem keys_alike (l m : List Int) : PySem.W.alike (lenKey l) (lenKey m) = true := by simp [lenKey, PySem.W.alike, PySem.W.alikeAll, ints_alike]
theorem boot_sort : bootBuiltins "sorted" = some (.builtin "sorted") := by first | exact PyProof.Rows.boot_sorted | rfl
theorem boot_ln : bootBuiltins "len" = some (.builtin "len") := by first | exact PySem.boot_len | rfl
section
variable {X : Cx}
theorem pe_sortL {T : List (Addr × Str)} {t : TA} {e : Expr} {c P : Addr} {n k : Nat} {x : Str} {params : Arguments} {scope : Scope} {p pos lpos kpos p1 p2 p3 p4 p5 : Pos} (hg : Gl X "sorted") (hm : X.mg "sorted" = none) (hml : X.mg "len" = none) (ha : PA X [e] t)
    (TB : LamX.TabB X.base X.mg c P) (hcd : X.env.code = .ref c) (hin : (P, lamName X) ∈ T) (one : ∀ p ∈ T, p.1 = P → p.2 = lamName X) (nodef : defaultsOf params X.env = ([], [])) (L : LamX1 x scope) (hr : Room (n + 3) X.A)
    (hbind : ∀ (q : Str) (cl : List (Str × Addr)) (pm cv ctv v : Value), bindArgs (PySem.W.kla_fn "<lambda>" q params (lenPair x k p1 p2 p3 p4 p5) scope cl pm cv ctv) ⟨[v], []⟩ = pure [(x, v)])
    (he : backTo pos (starEach [e] X.env) = (false, eval e X.env) :: backTo pos (starEach [] X.env) := by rfl) (hpl : (backTo pos (starEach [e] X.env)).any (·.1) = false := by rfl) :
    PE X (.Call (.Name "sorted" p) [e] [⟨some "key", .Lambda params (lenPair x k p1 p2 p3 p4 p5) scope lpos, kpos⟩] pos) (tSortL T t) := by
  refine ⟨fun pins s σ H Q I h => ?_⟩
  refine wpAny_Call_Name_kw (ld_blt I hg hm boot_sort ?_)
  refine PyProof.Rows.callWith_kw (thn (ha.run pos pins s σ H _ I h) fun us s1 ⟨vs, H1, I1, r1, hT, a, bs, ev, hl, hx, q⟩ => ?_) he hpl (by rfl) (by rfl)
  subst ev
  refine PyProof.Rows.kwAll_cons (lam_grow I1 TB hcd hin one hT nodef (fun y hy ey => absurd ey (L.noc y hy).2) fun f d pm ctv H2 s2 I2 gr hf hd => PyProof.Rows.kwAll_nil ?_)
  obtain rfl : us = [Value.ref a] := Vals.ref1 r1
  show wpAny _ _ (call (.builtin "sorted") [.ref a] [(Str.ofString "key", .ref f)]) _ _ _
  have hl2 : H2 a = some (.lst (bs.map (·.1))) := gr.get hl
  obtain ⟨its, rv, pl, hz⟩ := I2.list (SqL.of (K := X.K) hl2)
  obtain ⟨mb, hb1, hb2⟩ := I2.mod.blt
  obtain ⟨⟨oc, ws, t0, hoc, hdc, hvc⟩, _, _⟩ := I2.hok d _ hd
  have E0 := each_and (vals_zip (h := s2.heap) rv) (S := fun (u : Value) (x : V × List Int) => RelV x.1 u ∧ ∃ b its, u = .ref b ∧ s2.heap.IsTuple b its.toArray ∧ IntsAre its x.2 ∧ its.length ≤ sizeLine) fun u y hy ru => by
    obtain ⟨b, e1, e2⟩ := hx y hy
    rw [e1] at ru
    obtain ⟨its2, rv2, pt, hz2⟩ := I2.tuple (SqT.of (K := X.K) (gr.get e2))
    refine ⟨by rw [e1]; exact ru, b, its2, ru, pt, rv2.ints, ?_⟩
    rw [← rv2.length]
    exact hz2
  refine PySem.W.sorted_key_data (b := false) (β := V × List Int) (fun y => lenKey y.2) pl.isList E0 (fun d1 h1 d2 h2 => ?_) (.inl fun d1 h1 => ?_) (by rw [List.length_map] at hz; exact hz) (fun y _ => ?_) (PyProof.Rows.ksk_s1 _ _) (fun _ => PyProof.Rows.ksk_l1 _ _) (fun _ => PyProof.Rows.ksk_t1 _ _) (fun u y ry hy h tk kp => ?_) fun out cc h' tk kp nf hD hlen eo => ?_
  · obtain ⟨y1, _, rfl⟩ := List.mem_map.mp h1
    obtain ⟨y2, _, rfl⟩ := List.mem_map.mp h2
    exact keys_alike _ _
  · obtain ⟨y1, _, rfl⟩ := List.mem_map.mp h1
    exact ⟨_, _, rfl⟩
  · have := hr.units
    have := key_depth y.2
    omega
  · obtain ⟨_, b, its2, rfl, pt, hi, hz2⟩ := ry
    have pt' : h.IsTuple b its2.toArray := let ⟨o, e1, e2⟩ := pt; ⟨o, kp _ _ e1, e2⟩
    exact key_call (mg := X.mg) (mb := mb) (s := { s2 with heap := h, toks := tk }) (hr.in1.in1.depth) (kp _ _ hf) ⟨d, oc, ws, t0, rfl, kp _ _ hoc, hdc, hvc⟩ L.kind L.co L.gen (fun y hy => (L.noc y hy).1) L.lx L.ll L.db (hbind _ _ _ _ _ _) ((I2.mod.glob.keeps I2.bk).keeps kp) ((hb1.keeps I2.bk).keeps kp) hml ((hb2 "len" (by decide)).trans boot_ln) (I2.nolimit.keeps kp) pt' hi hz2
  · have eo' := each_vals (each_and eo (S := fun (u : Value) (x : V × List Int) => RelV x.1 u) fun u y _ r => r.1)
    have lo : ((bs.mergeSort (PySem.W.dataLe false fun x => lenKey x.2)).map (·.1)).length ≤ sizeLine := by
      rw [List.length_map, List.length_mergeSort]
      rw [List.length_map] at hz
      exact hz
    exact ⟨.ref _, upd H2 (s2.heap.objs.size + 1) (.lst _), I2.laid (t' := tk) kp (Nat.le_succ _) ⟨lo, out, cc, eo', hD⟩, rfl, q H2 _ gr (I2.hok.fresh (Nat.le_succ _))⟩
end
end Dl
set_option maxRecDepth 100000
set_option maxHeartbeats 4000000
namespace Dl
open PySem PySem.Spec PyProof.Rows L2
/-- by number of members, then by the members: strictly less -/
def ltK (m n : List Int) : Bool := PySem.W.dataLt (lenKey m) (lenKey n)
def insK (m : List Int) : List (List Int) → List (List Int)
  | [] => [m]
  | n :: ns => if ltK n m = true then n :: insK m ns else m :: n :: ns
def sortK : List (List Int) → List (List Int)
  | [] => []
  | n :: ns => insK n (sortK ns)
def chainK : List (List Int) → Bool
  | [] => true
  | [_] => true
  | m :: n :: r => ltK m n && chainK (n :: r)
theorem insK_perm (i : List Int) : ∀ js, (insK i js).Perm (i :: js)
  | [] => .refl _
  | j :: js => by
    unfold insK
    split
    · exact ((insK_perm i js).cons j).trans (List.Perm.swap i j js)
    · exact .refl _
theorem sortK_perm : ∀ is, (sortK is).Perm is
  | [] => .refl _
  | i :: is => (insK_perm i (sortK is)).trans ((sortK_perm is).cons i)
theorem ltK_trans {a b c : List Int} (h1 : ltK a b = true) (h2 : ltK b c = true) : ltK a c = true := PyProof.Rows.lex_trans (O := itemOrd) _ _ _ h1 h2
theorem chain_pw : ∀ {l}, chainK l = true → l.Pairwise fun m n => ltK m n = true
  | [], _ => .nil
  | [_], _ => List.pairwise_singleton _ _
  | m :: n :: r, h => by
    unfold chainK at h
    rw [Bool.and_eq_true] at h
    have ih := chain_pw h.2
    refine List.pairwise_cons.mpr ⟨fun y hy => ?_, ih⟩
    rcases List.mem_cons.mp hy with rfl | hy
    · exact h.1
    · exact ltK_trans h.1 ((List.pairwise_cons.mp ih).1 y hy)
theorem pw_eq : ∀ {as bs : List (List Int)}, as.Perm bs → (as.Pairwise fun m n => ltK n m = false) → (bs.Pairwise fun m n => ltK m n = true) → as = bs
  | [], bs, p, _, _ => by rw [List.nil_perm.mp p]
  | a :: as, [], p, _, _ => absurd p.length_eq (by simp)
  | a :: as, b :: bs, p, h1, h2 => by
    rw [List.pairwise_cons] at h1 h2
    have e : a = b := by
      have ha : a ∈ b :: bs := p.mem_iff.mp List.mem_cons_self
      have hb : b ∈ a :: as := p.mem_iff.mpr List.mem_cons_self
      rcases List.mem_cons.mp ha with z | z
      · exact z
      · rcases List.mem_cons.mp hb with y | y
        · exact y.symm
        · have q1 := h1.1 b y
          rw [h2.1 a z] at q1
          cases q1
    subst e
    rw [pw_eq ((List.perm_cons a).mp p) h1.2 h2.2]
def toNss : List D → Option (List (List Int))
  | [] => some []
  | .tup xs :: ds => (toInts xs).bind fun ns => (toNss ds).bind fun r => some (ns :: r)
  | _ :: _ => none
def ofNss (l : List (List Int)) : List D := l.map fun ns => .tup (ns.map D.int)
theorem toNss_some : ∀ {ds : List D} {l}, toNss ds = some l → ds = ofNss l
  | [], l, h => by cases h; rfl
  | .tup xs :: ds, l, h => by
    unfold toNss at h
    cases e1 : toInts xs with
    | none => rw [e1] at h; cases h
    | some ns =>
      cases e2 : toNss ds with
      | none => rw [e1, e2] at h; cases h
      | some r =>
        rw [e1, e2] at h
        cases h
        rw [toNss_some e2, toInts_some e1]
        rfl
def fSortL (ds : List D) : Option D := (toNss ds).bind fun l => if chainK (sortK l) = true then some (.lst (ofNss (sortK l))) else none
section
variable {X : Cx} {cl : Cl} {K : PySem.W.Frag} {e : Expr} {g h : Rho → Option D} {gs : Rho → Option (List D)}
theorem nss_bs {B : Hp} : ∀ {xs : List V} {l : List (List Int)}, Reps K cl B xs (ofNss l) → ∃ bs : List (V × List Int), bs.map (·.1) = xs ∧ bs.map (·.2) = l ∧ ∀ x ∈ bs, ∃ b, x.1 = .ref b ∧ B b = some (.tup (x.2.map V.int))
  | [], [], _ => ⟨[], rfl, rfl, fun _ m => nomatch m⟩
  | _ :: _, [], r => nomatch r
  | [], _ :: _, r => nomatch r
  | x :: xs, n :: l, r => by
    cases r with
    | cons r t =>
      obtain ⟨bs, e1, e2, e3⟩ := nss_bs t
      cases r with
      | tup h1 h2 =>
        have ei := Reps.ints h2
        subst ei
        refine ⟨(.ref _, n) :: bs, by rw [List.map_cons, e1], by rw [List.map_cons, e2], fun y hy => ?_⟩
        rcases List.mem_cons.mp hy with rfl | hy
        · exact ⟨_, rfl, h1⟩
        · exact e3 y hy
theorem bs_nss {B : Hp} : ∀ {bs : List (V × List Int)}, (∀ x ∈ bs, ∃ b, x.1 = .ref b ∧ B b = some (.tup (x.2.map V.int))) → Reps K cl B (bs.map (·.1)) (ofNss (bs.map (·.2)))
  | [], _ => .nil
  | b :: bs, h => by
    obtain ⟨a, e1, e2⟩ := h b List.mem_cons_self
    refine .cons ?_ (bs_nss fun x m => h x (List.mem_cons_of_mem _ m))
    show Rep K cl B b.1 (.tup (b.2.map D.int))
    rw [e1]
    exact .tup e2 (Reps.ofInts _)
theorem sort_bs (bs : List (V × List Int)) (hc : chainK (sortK (bs.map (·.2))) = true) : (bs.mergeSort (PySem.W.dataLe false fun x => lenKey x.2)).map (·.2) = sortK (bs.map (·.2)) := by
  have tl := PySem.W.sortLe_total (listOrd itemOrd) false (fun x : V × List Int => PySem.W.keyToks (lenKey x.2))
  refine pw_eq (((List.mergeSort_perm bs _).map _).trans (sortK_perm _).symm) ?_ (chain_pw hc)
  rw [List.pairwise_map]
  refine (List.pairwise_mergeSort (le := PySem.W.dataLe false fun x : V × List Int => lenKey x.2) (fun a b c => tl.trans a b c) (fun a b => ?_) bs).imp fun {a b} hab => ?_
  · rcases tl.total a b with z | z
    · exact Bool.or_eq_true_iff.mpr (.inl z)
    · exact Bool.or_eq_true_iff.mpr (.inr z)
  · exact Bool.not_eq_true' _ ▸ hab
theorem sortL_of {B H B1 H1 : Hp} {a : Addr} {xs : List V} {ds : List D} {c : D} {Q : VK} (x1 : Ext cl.tabs B H B1 H1) (ht : LamX.Tabs cl.tabs H1) (hl : H1 a = some (.lst xs)) (r : Reps K cl B1 xs ds) (hf : fSortL ds = some c) (q : ∀ B' H' v, Ext cl.tabs B H B' H' → Rep K cl B' v c → Q v H') :
    LamX.Tabs cl.tabs H1 ∧ ∃ (b : Addr) (bs : List (V × List Int)), [V.ref a] = [.ref b] ∧ H1 b = some (.lst (bs.map (·.1))) ∧ (∀ x ∈ bs, ∃ b, x.1 = .ref b ∧ H1 b = some (.tup (x.2.map V.int))) ∧
      ∀ H2 p, Grow0 cl.tabs H1 H2 → H2 p = none → Q (.ref p) (upd H2 p (.lst ((bs.mergeSort (PySem.W.dataLe false fun x => lenKey x.2)).map (·.1)))) := by
  unfold fSortL at hf
  cases e1 : toNss ds with
  | none => rw [e1] at hf; cases hf
  | some l =>
    rw [e1] at hf
    replace hf : (if chainK (sortK l) = true then some (D.lst (ofNss (sortK l))) else none) = some c := hf
    split at hf
    · rename_i hch
      cases hf
      rw [toNss_some e1] at r
      obtain ⟨bs, b1, b2, b3⟩ := nss_bs r
      refine ⟨ht, a, bs, rfl, by rw [b1]; exact hl, fun x m => ?_, fun H2 p gr np => ?_⟩
      · obtain ⟨b, z1, z2⟩ := b3 x m
        exact ⟨b, z1, x1.bh _ _ z2⟩
      · have x2 : Ext cl.tabs B1 H1 B1 H2 := (let ⟨c', g'⟩ := gr.ext x1.bh; ⟨g', Same.refl _, c', fun _ _ _ _ _ => rfl⟩)
        have nB : B1 p = none := x2.bh.free np
        refine q _ _ _ (x1.trans (x2.trans (Ext.new x2.bh np))) (.lst upd_same ?_)
        have hs := sort_bs bs (by rw [b2]; exact hch)
        have rr := bs_nss (K := K) (cl := cl) (B := B1) (bs := bs.mergeSort (PySem.W.dataLe false fun x => lenKey x.2)) fun x m => b3 x ((List.mergeSort_perm bs _).mem_iff.mp m)
        rw [hs, b2] at rr
        exact rr.mono (same_new nB)
    · cases hf
theorem d_sortL (hp : PE X e (tSortL cl.tabs (tDs X.K cl gs))) : PE X e (tD X.K cl (gDs (onLst fSortL) gs)) := pe_mono hp fun σ H Q ⟨H0, B, ρ, c, hB, hs, hg, q⟩ => by
  unfold gDs at hg
  cases e1 : gs ρ with
  | none => rw [e1] at hg; cases hg
  | some ds =>
    rw [e1] at hg
    replace hg : onLst fSortL ds = some c := hg
    unfold onLst at hg
    split at hg
    · refine ⟨H0, B, ρ, _, hB, hs, e1, fun B' H' vs x r => ?_⟩
      obtain ⟨v, rfl, r1⟩ := reps1 r
      cases r1 with
      | lst h1 h2 => exact sortL_of x (hs.ext x).tabs (x.bh _ _ h1) h2 hg q
    · cases hg
theorem d_sortLS {g : Rho → Option (List D)} (hp : PE X e (tSortL cl.tabs (tCons (tSq X.K cl g) tNil))) : PE X e (tD X.K cl (gS1 fSortL g)) := pe_mono hp fun σ H Q ⟨H0, B, ρ, c, hB, hs, hg, q⟩ => by
  unfold gS1 at hg
  cases e1 : g ρ with
  | none => rw [e1] at hg; cases hg
  | some ds =>
    rw [e1] at hg
    exact ⟨H0, B, ρ, ds, hB, hs, e1, fun B' H' a xs x hl _ r2 => sortL_of x (hs.ext x).tabs hl r2 hg q⟩
end
end Dl
set_option maxRecDepth 100000
set_option maxHeartbeats 4000000
/-! dict comprehensions, their data -/
namespace Dl
open PySem PySem.Spec PyProof.Rows L2
theorem putK_nodup {κ : Type} [DecidableEq κ] {kvs : List (κ × V)} {y : κ} {v : V} (hn : (kvs.map (·.1)).Nodup) : ((putK kvs y v).map (·.1)).Nodup := by
  unfold putK
  split
  · have e : (kvs.map fun kv => if kv.1 = y then (kv.1, v) else kv).map (·.1) = kvs.map (·.1) := by
      rw [List.map_map]
      refine List.map_congr_left fun a _ => ?_
      show (if a.1 = y then (a.1, v) else a).1 = a.1
      split <;> rfl
    rw [e]
    exact hn
  · rename_i h
    rw [List.map_append, List.nodup_append]
    refine ⟨hn, List.nodup_cons.mpr ⟨(fun z => nomatch z), List.nodup_nil⟩, fun a ha b hb e => h ?_⟩
    obtain rfl : b = y := by simpa using hb
    obtain ⟨p, hp, ep⟩ := List.mem_map.mp ha
    exact List.any_eq_true.mpr ⟨p, hp, decide_eq_true (ep.trans e)⟩
def dcT (bind : D → Rho → Option Rho) (tt : Rho → Option Bool) (kg vg : Rho → Option D) (ρ : Rho) : List D → List (List Key) → List D → Option (List (List Key) × List D)
  | [], ks, xs => some (ks, xs)
  | d :: ds, ks, xs => (bind d ρ).bind fun ρ1 => (tt ρ1).bind fun b => if b = true then (kg ρ1).bind fun y => (vg ρ1).bind fun z => (keyT y).bind fun k => dcT bind tt kg vg ρ ds (putT ks xs k z).1 (putT ks xs k z).2 else dcT bind tt kg vg ρ ds ks xs
def gDcT (gi : Rho → Option (List D)) (bind : D → Rho → Option Rho) (tt : Rho → Option Bool) (kg vg : Rho → Option D) (vs : List Nat) : Rho → Option D := fun ρ => (gi ρ).bind fun ds => if ds.length ≤ top then (dcT bind tt kg vg (wipeR ρ vs) ds [] []).map fun r => D.dT r.1 r.2 else none
section
variable {X : Cx} {cl : Cl} {K : PySem.W.Frag}
theorem dcT_of {gi : Rho → Option (List D)} {is vs : List Nat} {bind : D → Rho → Option Rho} {tt : Rho → Option Bool} {kg vg : Rho → Option D} (hv : ∀ i ∈ is, i ∈ vs) : ∀ σ H Q, tD K cl (gDcT gi bind tt kg vg vs) σ H Q → tDcP (.dT []) (tI K cl gi) (tG K cl is bind) (tDT K cl tt) (tD K cl kg) (tD K cl vg) vs σ H Q := fun σ H Q ⟨H0, B, ρ, c, hB, s, hg, q⟩ => by
  unfold gDcT at hg
  cases e1 : gi ρ with
  | none => rw [e1] at hg; cases hg
  | some ds =>
    rw [e1] at hg
    replace hg : (if ds.length ≤ top then (dcT bind tt kg vg (wipeR ρ vs) ds [] []).map fun r => D.dT r.1 r.2 else none) = some c := hg
    split at hg
    · rename_i hz
      cases e2 : dcT bind tt kg vg (wipeR ρ vs) ds [] [] with
      | none => rw [e2] at hg; cases hg
      | some out =>
        rw [e2] at hg
        cases hg
        refine ⟨H0, B, ρ, ds, hB, s, e1, fun J B1 H1 x1 wk Dd nD => ?_⟩
        have nB1 : B1 Dd = none := x1.bh.free nD
        refine ⟨fun i k H => k = ds.length - i ∧ i ≤ ds.length ∧ ∃ B2 kvs xs, Ext cl.tabs B1 H1 B2 H ∧ B2 Dd = none ∧ H Dd = some (.dT kvs) ∧ Reps K cl B2 (kvs.map (·.2)) xs ∧ (kvs.map (·.1)).Nodup ∧ dcT bind tt kg vg (wipeR ρ vs) (ds.drop i) (kvs.map (·.1)) xs = some out ∧ kvs.length ≤ i,
          ⟨_, rfl, Nat.zero_le _, B1, [], [], (Ext.refl x1.bh).side nD, nB1, upd_same, .nil, List.nodup_nil, e2, Nat.le_refl _⟩, ?_⟩
        rintro i k H2 ⟨rfl, hi, B2, kvs, xs, x2, nD2, hD2, ra, hn, hr, hy⟩
        have wki := wk B2 H2 i x2.bb x2.bh
        by_cases hlt : i < ds.length
        · obtain ⟨hgo, hyl⟩ := wki.1 hlt
          refine .inr ⟨hgo, fun H' => i + 1 ≤ ds.length ∧ ∃ B2 kvs xs, Ext cl.tabs B1 H1 B2 H' ∧ B2 Dd = none ∧ H' Dd = some (.dT kvs) ∧ Reps K cl B2 (kvs.map (·.2)) xs ∧ (kvs.map (·.1)).Nodup ∧ dcT bind tt kg vg (wipeR ρ vs) (ds.drop (i + 1)) (kvs.map (·.1)) xs = some out ∧ kvs.length ≤ i + 1,
            fun H' w => ⟨ds.length - (i + 1), by omega, rfl, w⟩, fun v H3 hv3 => ?_⟩
          obtain ⟨B3, d, x3, hd, rv⟩ := hyl v H3 hv3
          rw [List.getElem?_eq_getElem hlt] at hd
          cases hd
          rw [List.drop_eq_getElem_cons hlt] at hr
          unfold dcT at hr
          have x23 := x1.trans (x2.trans x3)
          cases e3 : bind ds[i] (wipeR ρ vs) with
          | none => rw [e3] at hr; cases hr
          | some ρ1 =>
            simp only [e3, Option.bind_some] at hr
            refine ⟨H0, B3, wipeR ρ vs, _, ρ1, x3.bh, (s.ext x23).wipe vs, rv, e3, fun σ3 l3 f3 s3 => ⟨?_, ?_⟩⟩
            · rw [← wipe_wipe (σ := σ)]
              exact wipe_eq l3 fun j hj => f3 j fun z => hj (hv j z)
            · cases e4 : tt ρ1 with
              | none => rw [e4] at hr; cases hr
              | some b =>
                simp only [e4, Option.bind_some] at hr
                refine ⟨H0, B3, ρ1, b, x3.bh, s3, e4, fun B4 H4 x4 => ?_⟩
                have x24 := x3.trans x4
                have x14 := x2.trans x24
                have hD4 : H4 Dd = some (.dT kvs) := x24.get hD2 nD2
                have nD4 : B4 Dd = none := (x24.out _ _ hD2 (fun _ z => nomatch z) (fun _ z => nomatch z)).trans nD2
                cases b with
                | false =>
                  simp only [Bool.false_eq_true, if_false] at hr
                  exact iteF ⟨hlt, B4, kvs, xs, x14, nD4, hD4, ra.mono x24.bb, hn, hr, Nat.le_succ_of_le hy⟩
                | true =>
                  simp only [if_true] at hr
                  cases e5 : kg ρ1 with
                  | none => rw [e5] at hr; cases hr
                  | some y =>
                    simp only [e5, Option.bind_some] at hr
                    cases e6 : vg ρ1 with
                    | none => rw [e6] at hr; cases hr
                    | some z =>
                      simp only [e6, Option.bind_some] at hr
                      cases e7 : keyT y with
                      | none => rw [e7] at hr; cases hr
                      | some ky =>
                        simp only [e7, Option.bind_some] at hr
                        refine iteT ⟨H0, B4, ρ1, y, x4.bh, s3.ext x4, e5, fun B5 H5 u x5 ru => ⟨H0, B5, ρ1, z, x5.bh, (s3.ext x4).ext x5, e6, fun B6 H6 w x6 rw' => ?_⟩⟩
                        have x26 := (x24.trans x5).trans x6
                        have x16 := x2.trans x26
                        have hD6 : H6 Dd = some (.dT kvs) := x26.get hD2 nD2
                        have nD6 : B6 Dd = none := (x26.out _ _ hD2 (fun _ z => nomatch z) (fun _ z => nomatch z)).trans nD2
                        have n1 : H1 Dd = none := nD
                        obtain ⟨kb, rfl, hkb⟩ := keyT_at x6.bh (ru.mono x6.bb) e7
                        have pk := putK_rep (v := w) (y := ky) hn (ra.mono x26.bb) rw'
                        have lp := length_putK kvs ky w
                        refine ⟨_, DPut.t hD6 hkb (Nat.lt_of_le_of_lt hy (Nat.lt_of_lt_of_le hlt (top_le hz))), hlt, B6, putK kvs ky w, _, ext_own x16 nD6 n1 hD6, nD6, upd_same, pk.2, putK_nodup hn, by rw [pk.1]; exact hr, by omega⟩
        · have e : i = ds.length := by omega
          subst e
          rw [List.drop_length] at hr
          cases hr
          exact .inl ⟨wki.2 (Nat.le_refl _), q (upd B2 Dd (.dT kvs)) H2 _ (x1.trans (x2.join hD2 nD2 nD)) (.dT upd_same rfl (ra.mono (same_new nD2)))⟩
    · cases hg
theorem d_dcT {kx vx tg iter : Expr} {ifs : List Expr} {scope : Scope} {own : List (Str × Nat)} {pos : Pos} {gi : Rho → Option (List D)} {is : List Nat} {bind : D → Rho → Option Rho} {tt : Rho → Option Bool} {kg vg : Rho → Option D}
    (hp : PE X (.DictComp kx vx [⟨tg, iter, ifs, 0⟩] scope pos) (tDcP (.dT []) (tI X.K cl gi) (tG X.K cl is bind) (tDT X.K cl tt) (tD X.K cl kg) (tD X.K cl vg) (List.map (fun p : Str × Nat => p.2) own))) (hv : ∀ i ∈ is, i ∈ List.map (fun p : Str × Nat => p.2) own := by decide) :
    PE X (.DictComp kx vx [⟨tg, iter, ifs, 0⟩] scope pos) (tD X.K cl (gDcT gi bind tt kg vg (List.map (fun p : Str × Nat => p.2) own))) := pe_mono hp (dcT_of hv)
end
end Dl
set_option maxRecDepth 100000
set_option maxHeartbeats 4000000
namespace Dl
open PySem PySem.Spec PyProof.Rows L2
/-- the inner clause of a dict comprehension, keys ints or texts -/
def dcKin (bind : D → Rho → Option Rho) (tt : Rho → Option Bool) (kg vg : Rho → Option D) (ρ : Rho) : List D → List Key → List D → Option (List Key × List D)
  | [], ks, xs => some (ks, xs)
  | d :: ds, ks, xs => (bind d ρ).bind fun ρ1 => (tt ρ1).bind fun b => if b = true then (kg ρ1).bind fun y => (vg ρ1).bind fun z => (y.key).bind fun k => if ks.length < top then dcKin bind tt kg vg ρ ds (putT ks xs k z).1 (putT ks xs k z).2 else none else dcKin bind tt kg vg ρ ds ks xs
def dcKout (bind : D → Rho → Option Rho) (tt : Rho → Option Bool) (gi1 : Rho → Option (List D)) (bind1 : D → Rho → Option Rho) (tt1 : Rho → Option Bool) (kg vg : Rho → Option D) (vs1 : List Nat) (ρ : Rho) : List D → List Key → List D → Option (List Key × List D)
  | [], ks, xs => some (ks, xs)
  | d :: ds, ks, xs => (bind d ρ).bind fun ρ1 => (tt ρ1).bind fun b => if b = true then (gi1 ρ1).bind fun ds1 => (dcKin bind1 tt1 kg vg (wipeR ρ1 vs1) ds1 ks xs).bind fun r => dcKout bind tt gi1 bind1 tt1 kg vg vs1 ρ ds r.1 r.2
    else dcKout bind tt gi1 bind1 tt1 kg vg vs1 ρ ds ks xs
def gDcK2 (gi : Rho → Option (List D)) (bind : D → Rho → Option Rho) (tt : Rho → Option Bool) (gi1 : Rho → Option (List D)) (bind1 : D → Rho → Option Rho) (tt1 : Rho → Option Bool) (kg vg : Rho → Option D) (vs vs1 : List Nat) : Rho → Option D := fun ρ => (gi ρ).bind fun ds => (dcKout bind tt gi1 bind1 tt1 kg vg vs1 (wipeR ρ vs) ds [] []).map fun r => D.dK r.1 r.2
section
variable {X : Cx} {cl : Cl} {K : PySem.W.Frag}
theorem dcK2_of {gi gi1 : Rho → Option (List D)} {is is1 vs vs1 : List Nat} {bind bind1 : D → Rho → Option Rho} {tt tt1 : Rho → Option Bool} {kg vg : Rho → Option D} (hv : ∀ i ∈ is, i ∈ vs) (hv1 : ∀ i ∈ is1, i ∈ vs1) : ∀ σ H Q, tD K cl (gDcK2 gi bind tt gi1 bind1 tt1 kg vg vs vs1) σ H Q →
    tDc2 (.dK []) (tI K cl gi) (tG K cl is bind) (tDT K cl tt) (tI K cl gi1) (tG K cl is1 bind1) (tDT K cl tt1) (tD K cl kg) (tD K cl vg) vs vs1 σ H Q := fun σ H Q ⟨H0, B, ρ, c, hB, s, hg, q⟩ => by
  unfold gDcK2 at hg
  cases e1 : gi ρ with
  | none => rw [e1] at hg; cases hg
  | some ds =>
    simp only [e1, Option.bind_some] at hg
    cases e2 : dcKout bind tt gi1 bind1 tt1 kg vg vs1 (wipeR ρ vs) ds [] [] with
    | none => rw [e2] at hg; cases hg
    | some out =>
      rw [e2] at hg
      cases hg
      refine ⟨H0, B, ρ, ds, hB, s, e1, fun J B1 H1 x1 wk Dd nD => ?_⟩
      have nB1 : B1 Dd = none := x1.bh.free nD
      replace s := s.hide (u := .dK []) (x1.hh.free nD)
      generalize eH0 : HG.mk (upd H0.h Dd (.dK [])) H0.self = H0' at s
      have hH0 : H0'.h Dd ≠ none := by
          rw [← eH0]
          show upd H0.h Dd _ Dd ≠ none
          rw [upd_same]
          exact fun z => nomatch z
      refine ⟨fun i k H => k = ds.length - i ∧ i ≤ ds.length ∧ ∃ B2 kvs xs, Ext cl.tabs B1 H1 B2 H ∧ B2 Dd = none ∧ H Dd = some (.dK kvs) ∧ Reps K cl B2 (kvs.map (·.2)) xs ∧ (kvs.map (·.1)).Nodup ∧ dcKout bind tt gi1 bind1 tt1 kg vg vs1 (wipeR ρ vs) (ds.drop i) (kvs.map (·.1)) xs = some out,
        ⟨_, rfl, Nat.zero_le _, B1, [], [], (Ext.refl x1.bh).side nD, nB1, upd_same, .nil, List.nodup_nil, e2⟩, ?_⟩
      rintro i k H2 ⟨rfl, hi, B2, kvs, xs, x2, nD2, hD2, ra, hn, hr⟩
      have wki := wk B2 H2 i x2.bb x2.bh
      by_cases hlt : i < ds.length
      · obtain ⟨hgo, hyl⟩ := wki.1 hlt
        refine .inr ⟨hgo, fun H' => i + 1 ≤ ds.length ∧ ∃ B2 kvs xs, Ext cl.tabs B1 H1 B2 H' ∧ B2 Dd = none ∧ H' Dd = some (.dK kvs) ∧ Reps K cl B2 (kvs.map (·.2)) xs ∧ (kvs.map (·.1)).Nodup ∧ dcKout bind tt gi1 bind1 tt1 kg vg vs1 (wipeR ρ vs) (ds.drop (i + 1)) (kvs.map (·.1)) xs = some out,
          fun H' w => ⟨ds.length - (i + 1), by omega, rfl, w⟩, fun v H3 hv3 => ?_⟩
        obtain ⟨B3, d, x3, hd, rv⟩ := hyl v H3 hv3
        rw [List.getElem?_eq_getElem hlt] at hd
        cases hd
        rw [List.drop_eq_getElem_cons hlt] at hr
        unfold dcKout at hr
        have x23 := x1.trans (x2.trans x3)
        cases e3 : bind ds[i] (wipeR ρ vs) with
        | none => rw [e3] at hr; cases hr
        | some ρ1 =>
          simp only [e3, Option.bind_some] at hr
          refine ⟨H0', B3, wipeR ρ vs, _, ρ1, x3.bh, (s.ext x23).wipe vs, rv, e3, fun σ3 l3 f3 s3 => ⟨?_, ?_⟩⟩
          · rw [← wipe_wipe (σ := σ)]
            exact wipe_eq l3 fun j hj => f3 j fun z => hj (hv j z)
          · cases e4 : tt ρ1 with
            | none => rw [e4] at hr; cases hr
            | some b =>
              simp only [e4, Option.bind_some] at hr
              refine ⟨H0', B3, ρ1, b, x3.bh, s3, e4, fun B4 H4 x4 => ?_⟩
              have x24 := x3.trans x4
              have x14 := x2.trans x24
              have hD4 : H4 Dd = some (.dK kvs) := x24.get hD2 nD2
              have nD4 : B4 Dd = none := (x24.out _ _ hD2 (fun _ z => nomatch z) (fun _ z => nomatch z)).trans nD2
              cases b with
              | false =>
                simp only [Bool.false_eq_true, if_false] at hr
                exact iteF ⟨hlt, B4, kvs, xs, x14, nD4, hD4, ra.mono x24.bb, hn, hr⟩
              | true =>
                simp only [if_true] at hr
                cases e5 : gi1 ρ1 with
                | none => rw [e5] at hr; cases hr
                | some ds1 =>
                  simp only [e5, Option.bind_some] at hr
                  cases e6 : dcKin bind1 tt1 kg vg (wipeR ρ1 vs1) ds1 (kvs.map (·.1)) xs with
                  | none => rw [e6] at hr; cases hr
                  | some mid =>
                    simp only [e6, Option.bind_some] at hr
                    refine iteT ⟨H0', B4, ρ1, ds1, x4.bh, s3.ext x4, e5, fun J1 B5 H5 x5 wk1 => ?_⟩
                    have x15 := x14.trans x5
                    have hD5 : H5 Dd = some (.dK kvs) := x5.get hD4 nD4
                    have nD5 : B5 Dd = none := (x5.out _ _ hD4 (fun _ z => nomatch z) (fun _ z => nomatch z)).trans nD4
                    have s5 := (s3.ext x4).ext x5
                    have nin : H1 Dd = none := nD
                    refine ⟨fun j k H => k = ds1.length - j ∧ j ≤ ds1.length ∧ ∃ B6 kvs6 xs6, Ext cl.tabs B1 H1 B6 H ∧ Same B5 B6 ∧ B6 Dd = none ∧ H Dd = some (.dK kvs6) ∧ Reps K cl B6 (kvs6.map (·.2)) xs6 ∧ (kvs6.map (·.1)).Nodup ∧ dcKin bind1 tt1 kg vg (wipeR ρ1 vs1) (ds1.drop j) (kvs6.map (·.1)) xs6 = some mid ∧ Slots K cl H0' B6 H σ3 ρ1,
                      ⟨_, rfl, Nat.zero_le _, B5, kvs, xs, x15, Same.refl _, nD5, hD5, ra.mono (x24.trans x5).bb, hn, e6, s5⟩, ?_⟩
                    rintro j k6 H6 ⟨rfl, hj, B6, kvs6, xs6, x6, s56, nD6, hD6, ra6, hn6, hr6, sl6⟩
                    have wkj := wk1 B6 H6 j s56 x6.bh
                    by_cases hjt : j < ds1.length
                    · obtain ⟨hgo1, hyl1⟩ := wkj.1 hjt
                      refine .inr ⟨hgo1, fun H' => j + 1 ≤ ds1.length ∧ ∃ B6 kvs6 xs6, Ext cl.tabs B1 H1 B6 H' ∧ Same B5 B6 ∧ B6 Dd = none ∧ H' Dd = some (.dK kvs6) ∧ Reps K cl B6 (kvs6.map (·.2)) xs6 ∧ (kvs6.map (·.1)).Nodup ∧ dcKin bind1 tt1 kg vg (wipeR ρ1 vs1) (ds1.drop (j + 1)) (kvs6.map (·.1)) xs6 = some mid ∧ Slots K cl H0' B6 H' σ3 ρ1,
                        fun H' w => ⟨ds1.length - (j + 1), by omega, rfl, w⟩, fun u H7 hu => ?_⟩
                      obtain ⟨B7, d7, x7, hd7, rv7⟩ := hyl1 u H7 hu
                      rw [List.getElem?_eq_getElem hjt] at hd7
                      cases hd7
                      rw [List.drop_eq_getElem_cons hjt] at hr6
                      unfold dcKin at hr6
                      cases e8 : bind1 ds1[j] (wipeR ρ1 vs1) with
                      | none => rw [e8] at hr6; cases hr6
                      | some ρ8 =>
                        simp only [e8, Option.bind_some] at hr6
                        refine ⟨H0', B7, wipeR ρ1 vs1, _, ρ8, x7.bh, (sl6.ext x7).wipe vs1, rv7, e8, fun σ8 l8 f8 s8 => ⟨?_, ?_⟩⟩
                        · rw [← wipe_wipe (σ := σ3)]
                          exact wipe_eq l8 fun m hm => f8 m fun z => hm (hv1 m z)
                        · cases e9 : tt1 ρ8 with
                          | none => rw [e9] at hr6; cases hr6
                          | some b9 =>
                            simp only [e9, Option.bind_some] at hr6
                            refine ⟨H0', B7, ρ8, b9, x7.bh, s8, e9, fun B9 H9 x9 => ?_⟩
                            have x79 := x7.trans x9
                            have x19 := x6.trans x79
                            have hD9 : H9 Dd = some (.dK kvs6) := x79.get hD6 nD6
                            have nD9 : B9 Dd = none := (x79.out _ _ hD6 (fun _ z => nomatch z) (fun _ z => nomatch z)).trans nD6
                            cases b9 with
                            | false =>
                              simp only [Bool.false_eq_true, if_false] at hr6
                              exact iteF ⟨hjt, B9, kvs6, xs6, x19, s56.trans x79.bb, nD9, hD9, ra6.mono x79.bb, hn6, hr6, sl6.ext x79⟩
                            | true =>
                              simp only [if_true] at hr6
                              cases e10 : kg ρ8 with
                              | none => rw [e10] at hr6; cases hr6
                              | some y =>
                                simp only [e10, Option.bind_some] at hr6
                                cases e11 : vg ρ8 with
                                | none => rw [e11] at hr6; cases hr6
                                | some z =>
                                  simp only [e11, Option.bind_some] at hr6
                                  cases e12 : y.key with
                                  | none => rw [e12] at hr6; cases hr6
                                  | some ky =>
                                    simp only [e12, Option.bind_some] at hr6
                                    split at hr6
                                    · rename_i hz
                                      rw [List.length_map] at hz
                                      refine iteT ⟨H0', B9, ρ8, y, x9.bh, s8.ext x9, e10, fun B11 H11 u x11 ru => ⟨H0', B11, ρ8, z, x11.bh, (s8.ext x9).ext x11, e11, fun B12 H12 w x12 rw' => ?_⟩⟩
                                      have x712 := (x79.trans x11).trans x12
                                      have x112 := x6.trans x712
                                      have hD12 : H12 Dd = some (.dK kvs6) := x712.get hD6 nD6
                                      have nD12 : B12 Dd = none := (x712.out _ _ hD6 (fun _ z => nomatch z) (fun _ z => nomatch z)).trans nD6
                                      have eu := key_of (ru.mono x12.bb) e12
                                      subst eu
                                      have pk := putK_rep (v := w) (y := ky) hn6 (ra6.mono x712.bb) rw'
                                      have xf := ext_own (u := .dK (putK kvs6 ky w)) x112 nD12 nin hD12
                                      exact ⟨_, DPut.k hD12 (Nat.lt_of_lt_of_le hz (top_le (Nat.le_refl _))), hjt, B12, putK kvs6 ky w, _, xf, s56.trans x712.bb, nD12, upd_same, pk.2, putK_nodup hn6, by rw [pk.1]; exact hr6, (sl6.ext x712).poke hH0 hD12⟩
                                    · cases hr6
                    · have ej : j = ds1.length := by omega
                      subst ej
                      rw [List.drop_length] at hr6
                      cases hr6
                      exact .inl ⟨wkj.2 (Nat.le_refl _), hlt, B6, kvs6, xs6, x6, nD6, hD6, ra6, hn6, hr⟩
      · have e : i = ds.length := by omega
        subst e
        rw [List.drop_length] at hr
        cases hr
        exact .inl ⟨wki.2 (Nat.le_refl _), q (upd B2 Dd (.dK kvs)) H2 _ (x1.trans (x2.join hD2 nD2 nD)) (.dK upd_same rfl (ra.mono (same_new nD2)))⟩
theorem d_dcK2 {kx vx tg iter tg1 iter1 : Expr} {ifs ifs1 : List Expr} {scope : Scope} {own : List (Str × Nat)} {vs1 : List Nat} {pos : Pos} {gi gi1 : Rho → Option (List D)} {is is1 : List Nat} {bind bind1 : D → Rho → Option Rho} {tt tt1 : Rho → Option Bool} {kg vg : Rho → Option D}
    (hp : PE X (.DictComp kx vx [⟨tg, iter, ifs, 0⟩, ⟨tg1, iter1, ifs1, 0⟩] scope pos) (tDc2 (.dK []) (tI X.K cl gi) (tG X.K cl is bind) (tDT X.K cl tt) (tI X.K cl gi1) (tG X.K cl is1 bind1) (tDT X.K cl tt1) (tD X.K cl kg) (tD X.K cl vg) (List.map (fun p : Str × Nat => p.2) own) vs1))
    (hv : ∀ i ∈ is, i ∈ List.map (fun p : Str × Nat => p.2) own := by decide) (hv1 : ∀ i ∈ is1, i ∈ vs1 := by decide) :
    PE X (.DictComp kx vx [⟨tg, iter, ifs, 0⟩, ⟨tg1, iter1, ifs1, 0⟩] scope pos) (tD X.K cl (gDcK2 gi bind tt gi1 bind1 tt1 kg vg (List.map (fun p : Str × Nat => p.2) own) vs1)) := pe_mono hp (dcK2_of hv hv1)
theorem d_lc2 {elt tg iter tg1 iter1 : Expr} {ifs ifs1 : List Expr} {scope : Scope} {own : List (Str × Nat)} {vs1 : List Nat} {pos : Pos} {gi gi1 : Rho → Option (List D)} {is is1 : List Nat} {bind bind1 : D → Rho → Option Rho} {tt tt1 : Rho → Option Bool} {te : Rho → Option D}
    (hp : PE X (.ListComp elt [⟨tg, iter, ifs, 0⟩, ⟨tg1, iter1, ifs1, 0⟩] scope pos) (tLc2 (tI X.K cl gi) (tG X.K cl is bind) (tDT X.K cl tt) (tI X.K cl gi1) (tG X.K cl is1 bind1) (tDT X.K cl tt1) (tD X.K cl te) (own.map (·.2)) vs1))
    (hv : ∀ i ∈ is, i ∈ own.map (·.2) := by decide) (hv1 : ∀ i ∈ is1, i ∈ vs1 := by decide) :
    PE X (.ListComp elt [⟨tg, iter, ifs, 0⟩, ⟨tg1, iter1, ifs1, 0⟩] scope pos) (tD X.K cl (gLc2 gi bind tt gi1 bind1 tt1 te (own.map (·.2)) vs1)) := pe_mono hp (lc2_of hv hv1)
end
end Dl
set_option maxRecDepth 100000
set_option maxHeartbeats 4000000
/-! sorted(set(xs)), xs a list of ints -/
namespace Dl
open PySem PySem.Spec PyProof.Rows L2
section
variable {P : Program} {w : World} {A : Around} {E : Value → Shared → Prop} {s : Shared}
abbrev newSetO (w : World) : Obj := { cls := .type "set", dict := none, data := .set #[] 0 (.fresh 0 0 (!w.params.followText "set-order")) }
set_option maxHeartbeats 8000000 in
theorem set_list_ints {l : Addr} {items : Array Value} (ns : List Int) {Q : Value → Shared → Prop} (calm : A.handled = none) (isl : s.heap.IsList l items) (isI : IntsAre items.toList ns) (few : ns.length + 1 < scanBound)
    (done : ∀ (g : Heap) (tk c : Nat), SetR w g s.heap.objs.size (fun j => decide (j ∈ ns)) c → c ≤ ns.length → (∀ b o, s.heap.get? b = some o → g.get? b = some o) → Q (.ref s.heap.objs.size) { s with heap := g, toks := tk }) :
    wpAny (model P w) A (call (.type "set") [.ref l]) Q E s := by
  have size : items.size = ns.length := by rw [← Array.length_toList]; exact isI.length
  obtain ⟨c, tl, mro⟩ := F.called_set.mro
  have m1 := F.called_set.made; have m2 := F.called_set.sub
  refine wpAny_call (codeAny_of_tree ?_)
  show wpAny _ _ (callAny (.type "set") _) _ _ _
  refine wpAny_pure (And.intro (Code.quiet_builtin _ (by decide +kernel)) (codeAny_builtin F.entry_type_call ?_))
  rw [Around.under_plain (weight_type_call_type "set" [.ref l] []) rfl]
  have m3 := F.called_set.notType; have m4 := F.called_set.canCreate; have m5 := F.typeCall_set_1 (.ref l)
  repeat (any_goals first | assumption | wp_step)
  refine codeAny_mono (code_set_led1 (.ref l) (E := E) (Q₁ := fun v t => v = .ref s.heap.objs.size ∧ t = { s with heap := s.heap.push (newSetO w) }) (And.intro rfl rfl)) fun r t hr => ?_
  cases r with
  | error e => exact hr
  | ok fl =>
    cases fl with
    | ret obj =>
      obtain ⟨rfl, rfl⟩ := hr
      have atS : (s.heap.push (newSetO w)).get? s.heap.objs.size = some (newSetO w) := Heap.get?_push_size _ rfl
      have tyS : Shared.TypeIs { s with heap := s.heap.push (newSetO w) } (.ref s.heap.objs.size) "set" := ⟨_, atS, rfl⟩
      have i1 := F.called_set.init.lookup; have i2 := F.called_set.init.bind (.ref s.heap.objs.size)
      repeat (any_goals first | assumption | wp_step)
      refine codeAny_mono (codeAny_call_builtin (R := wants (fun r t => r = .none ∧ ∃ g tk c, t = { s with heap := g, toks := tk } ∧ SetR w g s.heap.objs.size (fun j => decide (j ∈ ns)) c ∧ c ≤ ns.length ∧ (∀ b o, s.heap.get? b = some o → g.get? b = some o)) E)
        F.called_set.init.plain F.entry_set_init (check_set_init_1 tyS ?_)) fun r t hr => ?_
      · obtain ⟨⟨oc, od, oda, os⟩, ho, hc, n, hd⟩ := isl
        simp only at hc hd
        subst hc hd
        have ho' : (s.heap.push (newSetO w)).get? l = some { cls := .type "list", dict := od, data := .seq items n, slots := os } := Heap.get?_push_of_some _ ho
        have s1 := F.sub_list_set; have s2 := F.sub_list_frozenset
        have s3 : (Value.type "list" == Value.type "dict") = false := by decide
        have isl' : (s.heap.push (newSetO w)).IsList l items := ⟨_, ho', rfl, n, rfl⟩
        unfold Builtin.«set.__init__» noKeywords Builtin.Frozenset.updateFrom
        generalize eP : pyIter = PI
        wp_walk
        subst eP
        refine wpAny_pyIter_list isl' (wpAny_bind (wpAny_runValue ?_))
        have lt : l < s.heap.objs.size := Heap.lt_size ho
        have calm3 : A.in1.in1.in1.handled = none := by simp [calm]
        have sz : (s.heap.push (newSetO w)).objs.size = s.heap.objs.size + 1 := Heap.size_push ..
        have n1 : l ≠ (s.heap.push (newSetO w)).objs.size := by rw [sz]; exact Nat.ne_of_lt (Nat.lt_succ_of_lt lt)
        have n2 : s.heap.objs.size ∉ [(s.heap.push (newSetO w)).objs.size, l] := by
          rw [sz]; intro hm
          rcases List.mem_cons.mp hm with z | z
          · exact Nat.ne_of_lt (Nat.lt_succ_self _) z
          · exact Nat.ne_of_gt lt (List.mem_singleton.mp z)
        have vals : ∀ (i : Nat) (v : Value), items[i]? = some v → ∃ k t, ns[i]? = some k ∧ v = .int k t := fun i v hv => by
          have hi : i < ns.length := size ▸ (Array.getElem?_eq_some_iff.mp hv).1
          obtain ⟨t, e⟩ := PyProof.Rows.IntsAre.int_at isI i v (by rw [Array.getElem?_toList]; exact hv)
          rw [List.getD_eq_getElem?_getD, List.getElem?_eq_getElem hi] at e
          exact ⟨ns[i], t, List.getElem?_eq_getElem hi, e⟩
        refine set_update_ints ((Walks.list calm3 _ l n1 items).toS) s.heap.objs.size n2 ns size few vals (items.size - 0) 0 _ (by omega) (Nat.zero_le _) ⟨⟨_, Heap.get?_push_size _ rfl, rfl, rfl⟩, (isl'.push _)⟩ ⟨0, Nat.le_refl 0, setR_new_at (Heap.get?_push_of_some _ atS)⟩ ?_
        intro t c' mv le st
        obtain ⟨g, g2, d2, tk2, os2⟩ := t
        have e1 : g2 = s.gens := mv.gens
        have e2 : d2 = s.drawn := mv.drawn
        have e3 : os2 = s.os := mv.os
        subst e1 e2 e3
        show wpAny _ _ _ _ _ _
        refine wpAny_pure ?_
        show wpAny _ _ (ret Value.none) _ _ _
        refine wpAny_pure (And.intro rfl ⟨g, tk2, c', rfl, st, size ▸ le, fun b o e => ?_⟩)
        have hb := Heap.lt_size e
        refine mv.heap b o (fun hm => ?_) (Heap.get?_push_of_some _ (Heap.get?_push_of_some _ e))
        rcases List.mem_cons.mp hm with z | z
        · exact Nat.ne_of_lt hb z
        · exact Nat.ne_of_lt (Nat.lt_succ_of_lt hb) ((List.mem_singleton.mp z).trans sz)
      · cases r with
        | error e => exact hr
        | ok fl2 =>
          cases fl2 with
          | ret r =>
            obtain ⟨rfl, g, tk, c', rfl, st, le, kp⟩ := hr
            repeat (any_goals first | assumption | wp_step)
            exact done _ _ _ st le kp
          | _ => exact hr.elim
    | _ => exact hr.elim
end
end Dl
set_option maxRecDepth 100000
set_option maxHeartbeats 4000000
namespace Dl
open PySem PySem.Spec PyProof.Rows L2
def insU (i : Int) : List Int → List Int
  | [] => [i]
  | j :: js => if i < j then i :: j :: js else if i = j then j :: js else j :: insU i js
def usort : List Int → List Int
  | [] => []
  | i :: is => insU i (usort is)
theorem insU_mem (i k : Int) : ∀ js : List Int, k ∈ insU i js ↔ k = i ∨ k ∈ js
  | [] => by unfold insU; simp
  | j :: js => by
    unfold insU
    split
    · simp
    · split
      · rename_i e; subst e; simp
      · rw [List.mem_cons, insU_mem i k js, List.mem_cons]
        constructor
        · rintro (h | h | h)
          · exact .inr (.inl h)
          · exact .inl h
          · exact .inr (.inr h)
        · rintro (h | h | h)
          · exact .inr (.inl h)
          · exact .inl h
          · exact .inr (.inr h)
theorem usort_mem (k : Int) : ∀ is : List Int, k ∈ usort is ↔ k ∈ is
  | [] => Iff.rfl
  | i :: is => by unfold usort; rw [insU_mem, usort_mem k is, List.mem_cons]
theorem insU_pw (i : Int) : ∀ js : List Int, js.Pairwise (· < ·) → (insU i js).Pairwise (· < ·)
  | [], _ => by unfold insU; exact List.pairwise_singleton _ _
  | j :: js, h => by
    unfold insU
    have h' := List.pairwise_cons.mp h
    split
    · rename_i hij
      refine List.pairwise_cons.mpr ⟨fun y hy => ?_, h⟩
      rcases List.mem_cons.mp hy with rfl | hy
      · exact hij
      · exact Int.lt_trans hij (h'.1 y hy)
    · split
      · exact h
      · rename_i h1 h2
        refine List.pairwise_cons.mpr ⟨fun y hy => ?_, insU_pw i js h'.2⟩
        rcases (insU_mem i y js).mp hy with rfl | hy
        · omega
        · exact h'.1 y hy
theorem usort_pw : ∀ is : List Int, (usort is).Pairwise (· < ·)
  | [] => .nil
  | i :: is => insU_pw i _ (usort_pw is)
theorem strict_eq : ∀ {as bs : List Int}, as.Pairwise (· < ·) → bs.Pairwise (· < ·) → (∀ k, k ∈ as ↔ k ∈ bs) → as = bs
  | [], [], _, _, _ => rfl
  | [], b :: bs, _, _, h => absurd ((h b).mpr List.mem_cons_self) (fun z => nomatch z)
  | a :: as, [], _, _, h => absurd ((h a).mp List.mem_cons_self) (fun z => nomatch z)
  | a :: as, b :: bs, h1, h2, h => by
    rw [List.pairwise_cons] at h1 h2
    have e : a = b := by
      rcases List.mem_cons.mp ((h a).mp List.mem_cons_self) with z | z
      · exact z
      · rcases List.mem_cons.mp ((h b).mpr List.mem_cons_self) with y | y
        · exact y.symm
        · have q1 := h1.1 b y
          have q2 := h2.1 a z
          omega
    subst e
    refine congrArg (a :: ·) (strict_eq h1.2 h2.2 fun k => ⟨fun m => ?_, fun m => ?_⟩)
    · rcases List.mem_cons.mp ((h k).mp (List.mem_cons_of_mem _ m)) with z | z
      · have := h1.1 k m; omega
      · exact z
    · rcases List.mem_cons.mp ((h k).mpr (List.mem_cons_of_mem _ m)) with z | z
      · have := h2.1 k m; omega
      · exact z
def fSortSet : List D → Option D
  | [.lst ds] => (toInts ds).bind fun ns => if ns.length < 60 then some (.lst ((usort ns).map D.int)) else none
  | _ => none
def rSetL (K : PySem.W.Frag) (w : World) : List V → Hp → VK → Prop := fun xs H Q => ∃ (l : Addr) (ns : List Int), xs = [V.ref l] ∧ SqL K H l (ns.map V.int) ∧ ns.length < 60 ∧ ∀ p c, H p = none → c ≤ ns.length → Q (.ref p) (upd H p (SetO w p (fun j => decide (j ∈ ns)) c))
section
variable {X : Cx} {cl : Cl} {K : PySem.W.Frag} {e : Expr} {gs : Rho → Option (List D)}
theorem cr_setL (hc : X.calm = true) : CallR X (.type "set") (rSetL X.K X.w) := by
  intro pins s σ H xs us Q I r h
  obtain ⟨l, ns, rfl, hs, hz, q⟩ := h
  rw [Vals.ref1 r]
  obtain ⟨its, rv, pl, _⟩ := I.list hs
  have hi : IntsAre its.toArray.toList ns := ints_of_vals rv
  refine set_list_ints ns (I.ok.hd hc) pl.isList hi (by unfold scanBound; omega) fun g tk c st le kp => ?_
  exact ⟨.ref _, upd H s.heap.objs.size (SetO X.w s.heap.objs.size (fun j => decide (j ∈ ns)) c), I.laid (t' := tk) kp (Nat.le_refl _) (setO_new st), rfl, q _ c (I.hok.fresh (Nat.le_refl _)) le⟩
theorem d_sortset (hp : PE X e (tCB (rSortedSet X.w) (tCons (tCB (rSetL X.K X.w) (tDs X.K cl gs)) tNil))) : PE X e (tD X.K cl (gDs fSortSet gs)) := pe_mono hp fun σ H Q ⟨H0, B, ρ, c, hB, hs, hg, q⟩ => by
  unfold gDs at hg
  cases e1 : gs ρ with
  | none => rw [e1] at hg; cases hg
  | some es =>
    rw [e1] at hg
    replace hg : fSortSet es = some c := hg
    unfold fSortSet at hg
    split at hg
    · rename_i ds
      cases e2 : toInts ds with
      | none => rw [e2] at hg; cases hg
      | some ns =>
        rw [e2] at hg
        replace hg : (if ns.length < 60 then some (D.lst ((usort ns).map D.int)) else none) = some c := hg
        split at hg
        · rename_i hz
          cases hg
          refine ⟨H0, B, ρ, _, hB, hs, e1, fun B1 H1 us x1 r1 => ?_⟩
          obtain ⟨v, rfl, r2⟩ := reps1 r1
          cases r2 with
          | lst h1 h2 =>
            have ex := ints_of h2 e2
            subst ex
            refine ⟨_, ns, rfl, SqL.of (x1.bh _ _ h1), hz, fun p n np hn => ?_⟩
            refine ⟨p, _, n, rfl, upd_same, by omega, fun ns' p2 h3 h4 h5 np2 => ?_⟩
            have en : ns' = usort ns := strict_eq h3 (usort_pw ns) fun k => by rw [h4, usort_mem]; simp
            subst en
            have x2 : Ext cl.tabs B H B1 (upd H1 p (SetO X.w p (fun j => decide (j ∈ ns)) n)) := x1.side np
            exact q _ _ _ (x2.trans (Ext.new x2.bh np2)) (.lst upd_same (Reps.ofInts _))
        · cases hg
    · cases hg
/-- {t: v}, a new dict of one entry whose key is a tuple -/
def tDisp1 (K : PySem.W.Frag) (tk tv : TE) : TE := fun σ H Q => ∀ p, H p = none → tk σ (upd H p (.dT [])) fun y H1 => tv σ H1 fun z H2 => ∃ H3, DPut H2 p y z H3 ∧ Q (.ref p) H3
theorem pe_disp1 {kx vx : Expr} {pos : Pos} {tk tv : TE} (hu : X.A.units < cLine) (hk : PE X kx tk) (hv : PE X vx tv) : PE X (.Dict [some kx] [vx] pos) (tDisp1 X.K tk tv) := by
  refine ⟨fun pins s σ H Q I q => ?_⟩
  have nn := I.hok.fresh (Nat.le_refl s.heap.objs.size)
  have I1 : Inv X pins σ (upd H s.heap.objs.size (.dT [])) { s with heap := s.heap.push { cls := .type "dict", data := .dict #[] } } := I.laid (t' := s.toks) (fun _ _ q => Heap.get?_push_of_some _ q) (Nat.le_refl _) (dt_empty s.heap I.big)
  rw [arm_eval_Dict]
  rw [zip_pairTrees [some kx] [vx] X.env pos (by rfl) (by rfl), dictDisplay_pairs _ (fun z => by cases z) (by exact Nat.lt_of_sub_ne_zero (by simp [pairTrees]))]
  unfold subDict
  refine wpAny_bind (wpAny_standAt (wpAny_bind (wpAny_bind (wpAny_alloc (wpAny_bind (wpAny_holding ?_))))))
  rw [if_pos (by simp [pairTrees])]
  refine wpAny_bind (pairTrees_cons_walk (thn (hk.run pins _ σ _ _ I1 (q _ nn)) fun u s1 ⟨y, H1, I2, r1, q1⟩ => thn (hv.run pins s1 σ H1 _ I2 q1) fun r s2 ⟨z, H2, I3, r2, H3, dp, q2⟩ => pairTrees_nil_walk ?_))
  refine wpAny_holding ?_
  rw [List.forIn_cons]
  refine wpAny_bind (wpAny_bind (wpAny_bind (dictSet_put hu I3 dp r1 r2 fun s3 I4 => ?_)))
  have fin : EP X pins σ Q (.ref s.heap.objs.size) s3 := ⟨.ref s.heap.objs.size, H3, I4, rfl, q2⟩
  refine wpAny_pure ?_
  show wpAny _ _ (forIn [] PUnit.unit _) _ _ _
  rw [List.forIn_nil]
  exact wpAny_pure (wpAny_pure (wpAny_pure (wpAny_pure fin)))
end
end Dl
set_option maxRecDepth 100000
set_option maxHeartbeats 4000000
/-! own dicts of one entry; objects that are being made -/
namespace Dl
open PySem PySem.Spec PyProof.Rows L2
section
variable {X : Cx} {cl : Cl} {K : PySem.W.Frag} {e : Expr} {st : Stmt} {g h : Rho → Option D} {gs : Rho → Option (List D)}
/-- x = {t: v}, a dict that is changed later -/
def mOwnT1 (i : Nat) (kg vg : Rho → Option D) : M := fun ρ => (kg ρ).bind fun y => (vg ρ).bind fun d => (keyT y).bind fun k => some (.nx (ρ.set i (.ownT [k] [d])))
theorem s_ownT1 {i : Nat} (hp : PS X st (tAsg (tDisp1 X.K (tD X.K cl g) (tD X.K cl h)) (gName i))) : PS X st (tS X.K cl (mOwnT1 i g h)) := ps_mono hp fun E σ H ⟨H0, B0, B, ρ, out, x, s, hm, q⟩ p np => by
  unfold mOwnT1 at hm
  cases e1 : g ρ with
  | none => rw [e1] at hm; cases hm
  | some y =>
    cases e2 : h ρ with
    | none => rw [e1, e2] at hm; cases hm
    | some d =>
      cases e3 : keyT y with
      | none => simp only [e1, e2, e3, Option.bind_some] at hm; cases hm
      | some k =>
        simp only [e1, e2, e3, Option.bind_some] at hm
        cases hm
        have xs := x.side (o := .dT []) np
        have ss : Slots X.K cl H0 B (upd H p (.dT [])) σ ρ := s.ext ((Ext.refl x.bh).side np)
        have nB : B p = none := x.bh.free np
        have n0 : H0 p = none := x.hh.free np
        refine ⟨H0, B, ρ, y, xs.bh, ss, e1, fun B1 H1 v x1 r1 => ⟨H0, B1, ρ, d, x1.bh, ss.ext x1, e2, fun B2 H2 u x2 r2 => ?_⟩⟩
        have x12 := x1.trans x2
        have h2 : H2 p = some (.dT []) := x12.get upd_same nB
        have nB2 : B2 p = none := (x12.out _ _ upd_same (fun _ z => nomatch z) (fun _ z => nomatch z)).trans nB
        obtain ⟨b, rfl, hb⟩ := keyT_at x2.bh (r1.mono x2.bb) e3
        have xx := xs.trans x12
        have s2 := (ss.ext x1).ext x2
        refine ⟨_, DPut.t h2 hb (by show 0 < sizeLine; decide), ?_⟩
        have x3 := ext_own (u := .dT (putK [] k u)) xx nB2 n0 h2
        have s3 : Slots X.K cl H0 B2 (upd H2 p (.dT (putK [] k u))) σ ρ := by
          refine ⟨s2.len, fun j t ej => ?_, s2.inj, tabs_upd h2 ⟨(fun _ z => nomatch z), (fun _ z => nomatch z)⟩ s2.tabs⟩
          have zz := s2.at_ j t ej
          have na : ∀ a, t.owned = true → σ[j]? = some (some (.ref a)) → a ≠ p := fun a o f z => s.newAddr np j t a ej o f (by rw [z])
          cases t with
          | un => trivial
          | val d => exact zz
          | exc c d => exact zz
          | own ds => obtain ⟨a, xs, h1, h2, h3⟩ := zz; exact ⟨a, xs, h1, by rw [upd_ne (na a rfl h1)]; exact h2, h3⟩
          | ownT ks ds => obtain ⟨a, xs, h1, h2, h3⟩ := zz; exact ⟨a, xs, h1, by rw [upd_ne (na a rfl h1)]; exact h2, h3⟩
          | ownK ks ds => obtain ⟨a, xs, h1, h2, h3⟩ := zz; exact ⟨a, xs, h1, by rw [upd_ne (na a rfl h1)]; exact h2, h3⟩
          | ownO c ns ds => obtain ⟨a, dx, xs, h1, h2, h3⟩ := zz; exact ⟨a, dx, xs, h1, by rw [upd_ne (na a rfl h1.1)]; exact h2, h3⟩
        exact q B2 _ _ x3 x12.bb (s3.set ⟨p, _, rfl, upd_same, nB2, n0, rfl, .one r2⟩ fun _ j t a _ e o f => s.newAddr np j t a e o f)
/-! ### self, while it is made -/
/-- self.f -/
def gFldO (c : Nat) (f : Str) (i : Nat) : Rho → Option D := fun ρ => match ρ[i]? with
  | some (.ownO c' ns ds) => if c' = c then fldAt ns ds f else none
  | _ => none
theorem d_fldO {c i : Nat} {f : Str} {pos : Pos} (ha : PE X e (tVar i)) (hc : Cls X.K (cl c)) (hn : NoAttr X.K (cl c) f) (hb : attributeBase e f X.env (eval e X.env) = eval e X.env := by rfl) : PE X (.Attribute e f pos) (tD X.K cl (gFldO c f i)) := pe_mono (pe_fld ha hb) fun σ H Q ⟨H0, B, ρ, d, hB, hs, hg, q⟩ => by
  unfold gFldO at hg
  cases e1 : ρ[i]? with
  | none => rw [e1] at hg; cases hg
  | some s =>
    rw [e1] at hg
    cases s with
    | ownO c' ns ds =>
      replace hg : (if c' = c then fldAt ns ds f else none) = some d := hg
      split at hg
      · rename_i hc'
        subst hc'
        obtain ⟨a, dx, fs, ⟨h1, _⟩, h2, h3, h4, h5, h6⟩ := hs.at_ i _ e1
        subst h5
        obtain ⟨w, hw, rw'⟩ := fld_at h6 hg
        exact ⟨.ref a, h1, a, _, dx, fs, w, rfl, h2, hc, hn, hw, q B H w (Ext.refl hB) rw'⟩
      · cases hg
    | _ => cases hg
theorem putF_rep {B : Hp} {f : Str} {v : V} {d : D} (rv : Rep K cl B v d) : ∀ {fs : List (Str × V)} {ds : List D}, Reps K cl B (fs.map (·.2)) ds → (putF f v fs).map (·.1) = (putT (fs.map (·.1)) ds f d).1 ∧ Reps K cl B ((putF f v fs).map (·.2)) (putT (fs.map (·.1)) ds f d).2
  | [], _, r => by cases r; exact ⟨rfl, .one rv⟩
  | (k, w) :: fs, _, r => by
    cases r with
    | cons r t =>
      unfold putF
      simp only [List.map_cons, putT]
      by_cases ek : k = f
      · rw [if_pos ek, if_pos ek]
        exact ⟨by rw [List.map_cons, ek] <;> rfl, .cons rv t⟩
      · rw [if_neg ek, if_neg ek]
        obtain ⟨i1, i2⟩ := putF_rep rv t
        exact ⟨by simp only [List.map_cons]; rw [i1], .cons r i2⟩
/-- self.f = e -/
def mFldO (c : Nat) (f : Str) (i : Nat) (g : Rho → Option D) : M := fun ρ => (g ρ).bind fun d => match ρ[i]? with
  | some (.ownO c' ns ds) => if c' = c ∧ ds.length < 900 then some (.nx (ρ.set i (.ownO c (putT ns ds f d).1 (putT ns ds f d).2))) else none
  | _ => none
theorem s_fldO {c i : Nat} {f : Str} (hc : Cls X.K (cl c)) (hn : NoAttr X.K (cl c) f) (hp : PS X st (sFld X.K (tVar i) (tD X.K cl g) f)) : PS X st (tS X.K cl (mFldO c f i g)) := ps_mono hp fun E σ H ⟨H0, B0, B, ρ, out, x, s, hm, q⟩ => by
  unfold mFldO at hm
  cases e1 : g ρ with
  | none => rw [e1] at hm; cases hm
  | some d =>
    simp only [e1, Option.bind_some] at hm
    cases e2 : ρ[i]? with
    | none => rw [e2] at hm; cases hm
    | some sv =>
      rw [e2] at hm
      cases sv with
      | ownO c' ns ds =>
        replace hm : (if c' = c ∧ ds.length < 900 then some (Out.nx (ρ.set i (.ownO c (putT ns ds f d).1 (putT ns ds f d).2))) else none) = some out := hm
        split at hm
        · rename_i hz
          obtain ⟨rfl, hz⟩ := hz
          cases hm
          refine ⟨H0, B, ρ, d, x.bh, s, e1, fun B1 H1 v x1 r1 => ?_⟩
          have s1 := s.ext x1
          obtain ⟨a, dx, fs, ⟨h1, hself⟩, h2, h3, h4, h5, h6⟩ := s1.at_ i _ e2
          refine ⟨.ref a, h1, a, _, dx, fs, rfl, h2, hc, hn, ?_, ?_⟩
          · have := h6.len
            rw [List.length_map] at this
            omega
          · have pf := putF_rep (f := f) r1 h6
            rw [h5] at pf
            exact q B1 _ σ (ext_own (x.trans x1) h3 h4 h2) x1.bb (slots_own s1 e2 rfl h1 ⟨a, dx, _, ⟨rfl, hself⟩, upd_same, h3, h4, pf.1, pf.2⟩ rfl)
        · cases hm
      | _ => cases hm
/-- a part of the view, without a -/
theorem ext_hide {T : List (Addr × Str)} {B H B1 H1 : Hp} {a : Addr} {u : HO} (nB : B a = none) (c : Cln B H) (x : Ext T (upd B a u) H B1 H1) (hm : NoMk (some u) := by exact fun _ _ z => nomatch z) : Ext T B H (fun b => if b = a then none else B1 b) H1 := by
  refine ⟨⟨fun b o e n m => x.hh.keep b o e n ?_, x.hh.dom, x.hh.tabs⟩, fun b o e => ?_, ⟨fun b o e m => ?_, fun b i j e => ?_, fun b ps e => ?_⟩, fun b o e nt nn => ?_⟩
  · by_cases z : b = a
    · subst z; rw [upd_same]; exact hm
    · rw [upd_ne z]; exact m
  · have hb : b ≠ a := ne_of_none e nB
    show (if b = a then _ else _) = _
    rw [if_neg hb]
    exact x.bb b o (by rw [upd_ne hb]; exact e)
  · replace e : (if b = a then none else B1 b) = some o := e
    split at e
    · cases e
    · exact x.bh.s b o e m
  · replace e : (if b = a then none else B1 b) = some (.rng i j) := e
    split at e
    · cases e
    · exact x.bh.v b i j e
  · replace e : (if b = a then none else B1 b) = some (.tbl ps) := e
    split at e
    · cases e
    · exact x.bh.n b ps e
  · show (if b = a then _ else _) = _
    by_cases hb : b = a
    · rw [if_pos hb, hb, nB]
    · rw [if_neg hb]
      have z := x.out b o e nt nn
      rw [upd_ne hb] at z
      exact z
/-- self.m(..), its answer a plain value -/
def gMethO (c : Nat) (mn : Str) (f : List D → Option D) (i : Nat) (gs : Rho → Option (List D)) : Rho → Option D := fun ρ => match ρ[i]? with
  | some (.ownO c' ns xs) => if c' = c ∧ (ns.contains mn) = false then (gs ρ).bind fun ds => (f (.obj c' ns xs :: ds)).bind fun d => if d.flat = true then some d else none else none
  | _ => none
theorem flat_rep {B B' : Hp} {v : V} {d : D} (r : Rep K cl B v d) (f : d.flat = true) : Rep K cl B' v d := by
  cases r with
  | non => exact .non
  | bl b => exact .bl b
  | int i => exact .int i
  | str x => exact .str x
  | _ => simp [D.flat] at f
theorem d_methO {c i : Nat} {mn : Str} {f : List D → Option D} (hp : PE X e (tMeth (cl c) mn (spD X.K cl f) [] E0 (tVar i) (tDs X.K cl gs))) : PE X e (tD X.K cl (gMethO c mn f i gs)) := pe_mono hp fun σ H Q ⟨H0, B, ρ, d, hB, hs, hg, q⟩ => by
  unfold gMethO at hg
  cases e1 : ρ[i]? with
  | none => rw [e1] at hg; cases hg
  | some s =>
    rw [e1] at hg
    cases s with
    | ownO c' ns xs =>
      replace hg : (if c' = c ∧ (ns.contains mn) = false then (gs ρ).bind fun ds => (f (.obj c' ns xs :: ds)).bind fun d => if d.flat = true then some d else none else none) = some d := hg
      split at hg
      · rename_i hc
        obtain ⟨rfl, hm⟩ := hc
        cases e2 : gs ρ with
        | none => rw [e2] at hg; cases hg
        | some ds =>
          simp only [e2, Option.bind_some] at hg
          cases e3 : f (.obj c' ns xs :: ds) with
          | none => rw [e3] at hg; cases hg
          | some d' =>
            simp only [e3, Option.bind_some] at hg
            split at hg
            · rename_i hfl
              cases hg
              obtain ⟨a, dx, fs, ⟨h1, hself⟩, h2, h3, h4, h5, h6⟩ := hs.at_ i _ e1
              refine ⟨.ref a, h1, a, dx, fs, rfl, h2, lookup_none (by rw [h5]; exact hm), ⟨H0, B, ρ, ds, hB, hs, e2, fun B2 H2 vs x2 r2 => ?_⟩⟩
              simp only [List.append_nil]
              have g2 : H2 a = some (.ins (cl c') dx fs) := x2.get h2 h3
              have nB2 : B2 a = none := (x2.out _ _ h2 (fun _ z => nomatch z) (fun _ z => nomatch z)).trans h3
              have cln : Cln (upd B2 a (.ins (cl c') dx fs)) H2 := by
                refine ⟨fun b o e m => ?_, fun b i j e => ?_, fun b ps e => ?_⟩
                · by_cases z : b = a
                  · subst z; rw [upd_same] at e; cases e; exact g2
                  · rw [upd_ne z] at e; exact x2.bh.s b o e m
                · by_cases z : b = a
                  · subst z; rw [upd_same] at e; cases e
                  · rw [upd_ne z] at e; exact x2.bh.v b i j e
                · by_cases z : b = a
                  · subst z; rw [upd_same] at e; cases e
                  · rw [upd_ne z] at e; exact x2.bh.n b ps e
              refine ⟨upd B2 a (.ins (cl c') dx fs), _ :: ds, _, cln, (hs.ext x2).tabs, .cons (.obj upd_same h5 ((h6.mono x2.bb).mono (same_new nB2))) (r2.mono (same_new nB2)), e3, fun B3 H3 w x3 rv => ?_⟩
              exact q _ H3 w (x2.trans (ext_hide nB2 x2.bh x3)) (flat_rep rv hfl)
            · cases hg
      · cases hg
    | _ => cases hg
end
end Dl
set_option maxRecDepth 100000
set_option maxHeartbeats 4000000
namespace Dl
open PySem PySem.Spec PyProof.Rows L2
/-- the heap without the object that is made -/
abbrev without (H : Hp) (a : Addr) : Hp := fun b => if b = a then none else H b
/-- __init__: the fields of the new object -/
def spI (K : PySem.W.Frag) (cl : Cl) (c : Nat) (m : List D → Option (List Str × List D)) : Sp := fun vs H Q _ => ∃ (B : Hp) (a dx : Addr) (ws : List V) (ds : List D) (ns : List Str) (xs : List D), vs = .ref a :: ws ∧ H a = some (.ins (cl c) dx []) ∧ B a = none ∧ Cln B H ∧ LamX.Tabs cl.tabs H ∧ Reps K cl B ws ds ∧ m ds = some (ns, xs) ∧
  ∀ B' H' dx' fs, Ext cl.tabs B (without H a) B' H' → H' a = some (.ins (cl c) dx' fs) → B' a = none → fs.map (·.1) = ns → Reps K cl B' (fs.map (·.2)) xs → Q .non H'
def selfOf (c : Nat) : Out → Option (List Str × List D)
  | .nx (.ownO c' ns xs :: _) => if c' = c then some (ns, xs) else none
  | _ => none
def mInit (c k n : Nat) (body : M) (ds : List D) : Option (List Str × List D) := if ds.length = k then (body (.ownO c [] [] :: (ds.map SV.val ++ List.replicate n .un))).bind (selfOf c) else none
section
variable {K : PySem.W.Frag} {cl : Cl} {B H : Hp}
theorem mInit_some {c k n : Nat} {body : M} {ds : List D} {r : List Str × List D} (h : mInit c k n body ds = some r) : ds.length = k ∧ ∃ ρ, body (.ownO c [] [] :: (ds.map SV.val ++ List.replicate n .un)) = some (.nx ρ) ∧ ρ[0]? = some (.ownO c r.1 r.2) := by
  unfold mInit at h
  split at h
  · rename_i hk
    refine ⟨hk, ?_⟩
    cases e : body (.ownO c [] [] :: (ds.map SV.val ++ List.replicate n .un)) with
    | none => rw [e] at h; cases h
    | some o =>
      simp only [e, Option.bind_some] at h
      unfold selfOf at h
      split at h
      · split at h
        · rename_i hc
          cases h
          exact ⟨_, rfl, by rw [hc]; rfl⟩
        · cases h
      · cases h
  · cases h
theorem spI_len {c k n : Nat} {body : M} (vs : List V) (H : Hp) (Q : VK) (E : XK) (h : spI K cl c (mInit c k n body) vs H Q E) : vs.length = k + 1 := by
  obtain ⟨B, a, dx, ws, ds, ns, xs, rfl, _, _, _, _, r, hm, _⟩ := h
  rw [List.length_cons, r.len, (mInit_some hm).1]
theorem slots_init {c : Nat} {a dx : Addr} {vs : List V} {ds : List D} (n : Nat) (hA : H a = some (.ins (cl c) dx [])) (nB : B a = none) (r : Reps K cl B vs ds) (ht : LamX.Tabs cl.tabs H) :
    Slots K cl ⟨without H a, a⟩ B H (some (V.ref a) :: (vs.map some ++ List.replicate n none)) (.ownO c [] [] :: (ds.map SV.val ++ List.replicate n .un)) := by
  have z := slots_start (K := K) (cl := cl) n r ht a
  have no : ∀ (j : Nat) (t : SV), (ds.map SV.val ++ List.replicate n SV.un)[j]? = some t → t.owned = true → False := fun j t e o => by
    have hm := List.mem_of_getElem? e
    rw [List.mem_append] at hm
    rcases hm with hm | hm
    · obtain ⟨d, _, rfl⟩ := List.mem_map.mp hm
      cases o
    · rw [List.eq_of_mem_replicate hm] at o
      cases o
  refine ⟨by rw [List.length_cons, List.length_cons, z.len], fun i s e => ?_, fun i j s t b e1 e2 o1 o2 f1 f2 => ?_, ht⟩
  · cases i with
    | zero =>
      rw [List.getElem?_cons_zero] at e
      cases e
      exact ⟨a, dx, [], ⟨rfl, rfl⟩, hA, nB, if_pos rfl, rfl, .nil⟩
    | succ i =>
      rw [List.getElem?_cons_succ] at e ⊢
      have zz := z.at_ i s e
      cases s with
      | un => trivial
      | val d => exact zz
      | own ds => exact (no i _ e rfl).elim
      | ownT ks ds => exact (no i _ e rfl).elim
      | ownK ks ds => exact (no i _ e rfl).elim
      | ownO c ns ds => exact (no i _ e rfl).elim
      | exc c d => exact zz
  · cases i with
    | succ i => rw [List.getElem?_cons_succ] at e1; exact (no i _ e1 o1).elim
    | zero =>
      cases j with
      | succ j => rw [List.getElem?_cons_succ] at e2; exact (no j _ e2 o2).elim
      | zero => rfl
theorem init_of {c k n : Nat} {body : M} {N : List Str} (hN : N.length = (k + 1) + n) {vs : List V} {H : Hp} {Q : VK} {E : XK} (h : spI K cl c (mInit c k n body) vs H Q E) : tS K cl body { nx := fun _ H' => Q .non H', rt := Q } (L2.start N vs) H := by
  obtain ⟨B, a, dx, ws, ds, ns, xs, rfl, hA, nB, hB, hT, r, hm, q⟩ := h
  obtain ⟨hk, ρ, ho, hd⟩ := mInit_some hm
  have hn : N.length - (V.ref a :: ws).length = n := by rw [List.length_cons, r.len]; omega
  have sw : Same (without H a) H := fun b o e => by
    replace e : (if b = a then none else H b) = some o := e
    split at e
    · cases e
    · exact e
  refine ⟨⟨without H a, a⟩, B, B, _, _, ⟨Same.grow sw, Same.refl _, hB, fun _ _ _ _ _ => rfl⟩, ?_, ho, ?_⟩
  · unfold L2.start
    rw [hn, List.map_cons, List.cons_append]
    exact slots_init n hA nB r hT
  · intro B' H' σ' x _ sl
    obtain ⟨a', dx', fs, ⟨h1, hs⟩, h2, h3, h4, h5, h6⟩ := sl.at_ 0 _ hd
    have ea : a' = a := hs
    subst ea
    exact q B' H' dx' fs x h2 h3 h5 h6
end
section
variable {X : Cx} {cl : Cl} {K : PySem.W.Frag} {e : Expr} {gs : Rho → Option (List D)}
/-- C(..) -/
def gMake (c : Nat) (m : List D → Option (List Str × List D)) (gs : Rho → Option (List D)) : Rho → Option D := fun ρ => (gs ρ).bind fun ds => (m ds).map fun r => .obj c r.1 r.2
theorem d_make {c : Nat} {m : List D → Option (List Str × List D)} (hp : PE X e (tMake (cl c) (spI X.K cl c m) [] E0 (tDs X.K cl gs))) : PE X e (tD X.K cl (gMake c m gs)) := pe_mono hp fun σ H Q ⟨H0, B, ρ, d, hB, hs, hg, q⟩ => by
  unfold gMake at hg
  cases e1 : gs ρ with
  | none => rw [e1] at hg; cases hg
  | some ds =>
    simp only [e1, Option.bind_some] at hg
    cases e2 : m ds with
    | none => rw [e2] at hg; cases hg
    | some r =>
      rw [e2] at hg
      cases hg
      refine ⟨H0, B, ρ, ds, hB, hs, e1, fun B1 H1 vs x1 r1 x dx nx nd hne => ?_⟩
      simp only [List.append_nil]
      have nx1 : upd H1 dx (.own x) x = none := by rw [upd_ne (Ne.symm hne)]; exact nx
      have s1 : Same H1 (upd (upd H1 dx (.own x)) x (.ins (cl c) dx [])) := (same_new nd).trans (same_new nx1)
      refine ⟨B1, x, dx, vs, ds, r.1, r.2, rfl, upd_same, x1.bh.free nx, x1.bh.trans s1, (hs.ext x1).tabs.ext s1, r1, e2, fun B' H' dx' fs xx hx nb hn hr => ⟨rfl, ?_⟩⟩
      have s2 : Same H1 (without (upd (upd H1 dx (.own x)) x (.ins (cl c) dx [])) x) := fun b o eb => by
        have hb : b ≠ x := ne_of_none eb nx
        show (if b = x then _ else _) = _
        rw [if_neg hb]
        exact s1 b o eb
      have x2 : Ext cl.tabs B1 H1 B' H' := Ext.trans (⟨Same.grow s2, Same.refl _, x1.bh.trans s2, fun _ _ _ _ _ => rfl⟩ : Ext cl.tabs B1 H1 B1 _) xx
      exact q _ H' _ (x1.trans (x2.join hx nb nx)) (.obj upd_same hn (hr.mono (same_new nb)))
end
end Dl
set_option maxRecDepth 100000
set_option maxHeartbeats 4000000
namespace Dl
open PySem PySem.Spec PyProof.Rows L2
/-- a def whose code object is known -/
structure FunC (K : PySem.W.Frag) (x qual : Str) (st : Stmt) (f : Addr) (fd : FuncData) (c : Addr) : Prop where
  ex : ∃ (oc : Value) (od : Option Addr) (kV doc pm : Value) (an : Option Addr) (ct : Value) (osl : Array (Option Value)), fd = PySem.W.fnOf x qual (defArgs st) (defBody st) (defScope st) .none kV doc pm an (.ref c) ct ∧ K.lookup f = some ⟨oc, od, .func fd, osl⟩ ∧ PySem.W.codeIn K (.ref c) qual = true
  kp : PySem.W.keepIn K (.ref f) = true
section
variable {P : Program} {w : World} {K : PySem.W.Frag} {mg : Str → Option Value} {base : Heap} {x qual : Str} {st : Stmt} {f c : Addr} {fd : FuncData} {N ps : List Str} {k : Nat} {sp : Sp}
theorem FunC.fn (F : FunC K x qual st f fd c) : Fun K x qual st f fd := by
  obtain ⟨oc, od, kV, doc, pm, an, ct, osl, e, lk, hcd⟩ := F.ex
  exact ⟨⟨oc, od, kV, doc, pm, an, .ref c, ct, osl, e, lk, hcd⟩, F.kp⟩
theorem FunC.ok (F : FunC K x qual st f fd c) (S : FnScope N ps (defScope st)) (len : ∀ vs H Q E, sp vs H Q E → vs.length = ps.length)
    (body : ∀ (A : Around) (outer : List Env) (s : Shared) (H : Hp) (vs : List V) (Q : VK) (E : XK), Room k (A.deeper (envOfC qual (defScope st) s.heap.objs.size f (.ref c))) → sp vs H Q E →
      ∃ t, PSs (cxOf CX0 P w K mg base N qual (defScope st) f (.ref c) A outer s H E).nox (defBody st) t ∧ t { nx := fun _ H' => Q .non H', rt := Q } (start N vs) H) : FnOk P w K mg base CX0 (k + 1) f fd ps sp := by
  obtain ⟨oc, od, kV, doc, pm, an, ct, osl, rfl, lk, hcd⟩ := F.ex
  refine fn_of lk hcd S len fun A outer s H vs Q E hr hsp => ?_
  obtain ⟨t, h, q⟩ := body A outer s H vs Q E hr hsp
  exact ⟨t, h.nox, q⟩
theorem funC_mk {oc : Value} {od an : Option Addr} {osl : Array (Option Value)} {kV doc pm ct : Value} (l : K.lookup f = some ⟨oc, od, .func (PySem.W.fnOf x qual (defArgs st) (defBody st) (defScope st) .none kV doc pm an (.ref c) ct), osl⟩)
    (hc : PySem.W.codeIn K (.ref c) qual = true) (k : PySem.W.keepIn K (.ref f) = true) : FunC K x qual st f (PySem.W.fnOf x qual (defArgs st) (defBody st) (defScope st) .none kV doc pm an (.ref c) ct) c := ⟨⟨oc, od, kV, doc, pm, an, ct, osl, rfl, l, hc⟩, k⟩
/-- nothing is promised -/
theorem fn_never {cl : Cl} {CX : CXT} {fd : FuncData} {n : Nat} : FnOk P w K mg base CX n f fd ps (spD K cl fun _ => none) := by
  refine ⟨fun vs H Q E h => ?_, fun A outer s H args us vs Q E _ _ _ _ h => ?_⟩
  · obtain ⟨_, _, _, _, _, _, h, _⟩ := h
    cases h
  · obtain ⟨_, _, _, _, _, _, h, _⟩ := h
    cases h
theorem fn_neverF {cl : Cl} {CX : CXT} {fd : FuncData} {n : Nat} : FnOk P w K mg base CX n f fd ps (spF K cl fun _ => none) := by
  refine ⟨fun vs H Q E h => ?_, fun A outer s H args us vs Q E _ _ _ _ h => ?_⟩
  · obtain ⟨_, _, _, _, _, _, h, _⟩ := h
    cases h
  · obtain ⟨_, _, _, _, _, _, h, _⟩ := h
    cases h
end
section
variable {X : Cx} {cl : Cl} {st : Stmt}
theorem s_setLc2 {i : Nat} {vs vs1 : List Nat} {gi gi1 : Rho → Option (List D)} {is is1 : List Nat} {bind bind1 : D → Rho → Option Rho} {tt tt1 : Rho → Option Bool} {te : Rho → Option D}
    (hp : PS X st (tAsg (tLc2 (tI X.K cl gi) (tG X.K cl is bind) (tDT X.K cl tt) (tI X.K cl gi1) (tG X.K cl is1 bind1) (tDT X.K cl tt1) (tD X.K cl te) vs vs1) (gName i))) (hv : ∀ i ∈ is, i ∈ vs := by decide) (hv1 : ∀ i ∈ is1, i ∈ vs1 := by decide) :
    PS X st (tS X.K cl (mSet i (gLc2 gi bind tt gi1 bind1 tt1 te vs vs1))) := ps_mono hp (set_of (lc2_of hv hv1))
end
end Dl
set_option maxRecDepth 100000
set_option maxHeartbeats 4000000
/-! sorted(xs), xs a list of tuples of ints -/
namespace Dl
open PySem PySem.Spec PyProof.Rows L2
abbrev rowKey (ns : List Int) : PyData := .tuple (ns.map .int)
def ltT (m n : List Int) : Bool := PySem.W.dataLt (rowKey m) (rowKey n)
/-- merge of two rising lists -/
def mrgT : Nat → List (List Int) → List (List Int) → List (List Int)
  | 0, as, bs => as ++ bs
  | _ + 1, [], bs => bs
  | _ + 1, a :: as, [] => a :: as
  | f + 1, a :: as, b :: bs => if ltT a b = true then a :: mrgT f as (b :: bs) else b :: mrgT f (a :: as) bs
def splT : List (List Int) → List (List Int) × List (List Int)
  | [] => ([], [])
  | [a] => ([a], [])
  | a :: b :: r => let p := splT r; (a :: p.1, b :: p.2)
def srtT : Nat → List (List Int) → List (List Int)
  | 0, l => l
  | f + 1, l => match l with
    | [] => []
    | [a] => [a]
    | a :: b :: r => let p := splT r; mrgT (r.length + 2) (srtT f (a :: p.1)) (srtT f (b :: p.2))
def chainT : List (List Int) → Bool
  | [] => true
  | [_] => true
  | m :: n :: r => ltT m n && chainT (n :: r)
theorem mrgT_perm : ∀ (f : Nat) (as bs : List (List Int)), (mrgT f as bs).Perm (as ++ bs)
  | 0, as, bs => .refl _
  | f + 1, [], bs => .refl _
  | f + 1, a :: as, [] => by unfold mrgT; rw [List.append_nil]
  | f + 1, a :: as, b :: bs => by
    unfold mrgT
    split
    · exact (mrgT_perm f as (b :: bs)).cons a
    · exact ((mrgT_perm f (a :: as) bs).cons b).trans List.perm_middle.symm
theorem splT_perm : ∀ l : List (List Int), ((splT l).1 ++ (splT l).2).Perm l
  | [] => .refl _
  | [a] => .refl _
  | a :: b :: r => by
    unfold splT
    exact ((List.perm_middle.trans ((splT_perm r).cons b)).cons a)
theorem srtT_perm : ∀ (f : Nat) (l : List (List Int)), (srtT f l).Perm l
  | 0, l => .refl _
  | f + 1, [] => .refl _
  | f + 1, [a] => .refl _
  | f + 1, a :: b :: r => by
    unfold srtT
    refine (mrgT_perm _ _ _).trans (((srtT_perm f _).append (srtT_perm f _)).trans ?_)
    exact ((List.perm_middle.trans ((splT_perm r).cons b)).cons a)
theorem ltT_trans {a b c : List Int} (h1 : ltT a b = true) (h2 : ltT b c = true) : ltT a c = true := PyProof.Rows.lex_trans (O := itemOrd) _ _ _ h1 h2
theorem chainT_pw : ∀ {l}, chainT l = true → l.Pairwise fun m n => ltT m n = true
  | [], _ => .nil
  | [_], _ => List.pairwise_singleton _ _
  | m :: n :: r, h => by
    unfold chainT at h
    rw [Bool.and_eq_true] at h
    have ih := chainT_pw h.2
    refine List.pairwise_cons.mpr ⟨fun y hy => ?_, ih⟩
    rcases List.mem_cons.mp hy with rfl | hy
    · exact h.1
    · exact ltT_trans h.1 ((List.pairwise_cons.mp ih).1 y hy)
theorem pwT_eq : ∀ {as bs : List (List Int)}, as.Perm bs → (as.Pairwise fun m n => ltT n m = false) → (bs.Pairwise fun m n => ltT m n = true) → as = bs
  | [], bs, p, _, _ => by rw [List.nil_perm.mp p]
  | a :: as, [], p, _, _ => absurd p.length_eq (by simp)
  | a :: as, b :: bs, p, h1, h2 => by
    rw [List.pairwise_cons] at h1 h2
    have e : a = b := by
      have ha : a ∈ b :: bs := p.mem_iff.mp List.mem_cons_self
      have hb : b ∈ a :: as := p.mem_iff.mpr List.mem_cons_self
      rcases List.mem_cons.mp ha with z | z
      · exact z
      · rcases List.mem_cons.mp hb with y | y
        · exact y.symm
        · have q1 := h1.1 b y
          rw [h2.1 a z] at q1
          cases q1
    subst e
    rw [pwT_eq ((List.perm_cons a).mp p) h1.2 h2.2]
def fullT (l : List (List Int)) : Bool := l.all (fun n => !n.isEmpty) || decide (l.length ≤ 1)
def fSortT (ds : List D) : Option D := (toNss ds).bind fun l => if fullT l = true ∧ chainT (srtT 12 l) = true ∧ l.length ≤ top then some (.lst (ofNss (srtT 12 l))) else none
def rSortT (K : PySem.W.Frag) : List V → Hp → VK → Prop := fun vs H Q => ∃ (a : Addr) (bs : List (V × List Int)), vs = [.ref a] ∧ H a = some (.lst (bs.map (·.1))) ∧ (∀ x ∈ bs, ∃ b, x.1 = .ref b ∧ H b = some (.tup (x.2.map V.int))) ∧ fullT (bs.map (·.2)) = true ∧
  ∀ p, H p = none → Q (.ref p) (upd H p (.lst ((bs.mergeSort (PySem.W.dataLe false fun x => rowKey x.2)).map (·.1))))
theorem row_depth (ns : List Int) : (rowKey ns).depth ≤ 1 := by
  have z : ∀ l : List Int, PyData.depthAll (l.map .int) = 0 := fun l => by
    induction l with
    | nil => simp [PyData.depthAll]
    | cons i l ih => simp [PyData.depthAll, PyData.depth, ih]
  simp [rowKey, PyData.depth, z]
section
variable {X : Cx} {cl : Cl} {K : PySem.W.Frag} {e : Expr} {g h : Rho → Option D} {gs : Rho → Option (List D)}
theorem swo_none : SrtO.Swo (fun _ _ : Value => false) := ⟨(fun _ _ z => nomatch z), fun _ _ _ _ _ => rfl⟩
theorem perm_short {α : Type} : ∀ {l m : List α}, m.Perm l → l.length ≤ 1 → m = l
  | [], m, p, _ => List.perm_nil.mp p
  | [x], m, p, _ => List.perm_singleton.mp p
  | _ :: _ :: _, m, p, h => absurd h (by simp)
theorem cr_sortedT (hu : X.A.units + 64 < cLine) : CallR X (.builtin "sorted") (rSortT X.K) := by
  intro pins s σ H vs us Q I r h
  obtain ⟨a, bs, rfl, hl, hx, hf, q⟩ := h
  obtain rfl := Vals.ref1 r
  obtain ⟨its, rv, pl, hz⟩ := I.list (SqL.of (K := X.K) hl)
  have eR := vals_zip (h := s.heap) rv
  have lo : ((bs.mergeSort (PySem.W.dataLe false fun x => rowKey x.2)).map (·.1)).length ≤ sizeLine := by
    rw [List.length_map, List.length_mergeSort]
    rw [List.length_map] at hz
    exact hz
  have fin : ∀ {out : List Value}, Vals ((bs.mergeSort (PySem.W.dataLe false fun x => rowKey x.2)).map (·.1)) out → EP X pins σ Q (.ref (s.heap.objs.size + 1)) { s with heap := PyProof.Rows.sortedAll s.heap its out.toArray } := fun {out} ro => by
    obtain ⟨ep, he'⟩ := PyProof.Rows.sortedAll_at s.heap its out.toArray
    exact ⟨.ref _, upd H (s.heap.objs.size + 1) (.lst _), I.laid (t' := s.toks) (fun _ _ => PyProof.Rows.sortedAll_old) (Nat.le_succ _) ⟨lo, out, ep, ro, he'⟩, rfl, q _ (I.hok.fresh (Nat.le_succ _))⟩
  unfold fullT at hf
  rw [Bool.or_eq_true] at hf
  rcases hf with hf | hf
  · have er := each_and eR (S := fun (u : Value) (x : V × List Int) => ∃ as, Reads s.heap u (rowKey x.2) as) fun u y hy ru => by
      obtain ⟨b, e1, e2⟩ := hx y hy
      rw [e1] at ru
      obtain ⟨its2, rv2, ⟨o, h1, h2, n, h3⟩, hz2⟩ := I.tuple (SqT.of (K := X.K) e2)
      obtain rfl : u = Value.ref b := ru
      exact ⟨[], .tuple h1 h2 h3 (rv2.ints.reads _)⟩
    refine PySem.W.sorted_data (enc := fun x : V × List Int => rowKey x.2) pl.isList eR er (fun d1 h1 d2 h2 => ?_) (.inl fun d1 h1 => ?_) (by rw [List.length_map] at hz; exact hz) (fun y _ => ?_) fun out _ eo => fin (each_vals eo)
    · obtain ⟨y1, _, rfl⟩ := List.mem_map.mp h1
      obtain ⟨y2, _, rfl⟩ := List.mem_map.mp h2
      simp [rowKey, PySem.W.alike, ints_alike]
    · obtain ⟨y1, m1, rfl⟩ := List.mem_map.mp h1
      have := List.all_eq_true.mp hf y1.2 (List.mem_map.mpr ⟨y1, m1, rfl⟩)
      cases e : y1.2 with
      | nil => rw [e] at this; simp at this
      | cons i r => exact ⟨.int i, r.map .int, by simp [rowKey, e]⟩
    · have := row_depth y.2
      omega
  · have h1 : bs.length ≤ 1 := by have := of_decide_eq_true hf; rw [List.length_map] at this; exact this
    have hil : its.length ≤ 1 := by rw [← rv.length, List.length_map]; exact h1
    have hms : bs.mergeSort (PySem.W.dataLe false fun x => rowKey x.2) = bs := perm_short (List.mergeSort_perm bs _) h1
    refine SrtO.sorted_ord (ltv := fun _ _ => false) swo_none pl.isList (Nat.le_trans hil (by decide)) (fun h2 => absurd h2 (by omega)) fun out _ hb => ?_
    have : out = its := perm_short hb.perm hil
    subst this
    exact fin (by rw [hms]; exact rv)
theorem sortT_bs (bs : List (V × List Int)) (hc : chainT (srtT 12 (bs.map (·.2))) = true) : (bs.mergeSort (PySem.W.dataLe false fun x => rowKey x.2)).map (·.2) = srtT 12 (bs.map (·.2)) := by
  have tl := PySem.W.sortLe_total (listOrd itemOrd) false (fun x : V × List Int => PySem.W.keyToks (rowKey x.2))
  refine pwT_eq (((List.mergeSort_perm bs _).map _).trans (srtT_perm _ _).symm) ?_ (chainT_pw hc)
  rw [List.pairwise_map]
  refine (List.pairwise_mergeSort (le := PySem.W.dataLe false fun x : V × List Int => rowKey x.2) (fun a b c => tl.trans a b c) (fun a b => ?_) bs).imp fun {a b} hab => ?_
  · rcases tl.total a b with z | z
    · exact Bool.or_eq_true_iff.mpr (.inl z)
    · exact Bool.or_eq_true_iff.mpr (.inr z)
  · exact Bool.not_eq_true' _ ▸ hab
theorem d_sortT (hp : PE X e (tCB (rSortT X.K) (tDs X.K cl gs))) : PE X e (tD X.K cl (gDs (onLst fSortT) gs)) := d_ds hp fun B H vs ds c Q hB rr hf q => by
  unfold onLst at hf
  split at hf
  · rename_i es
    obtain ⟨v, rfl, r1⟩ := reps1 rr
    cases r1 with
    | lst h1 h2 =>
      unfold fSortT at hf
      cases e1 : toNss es with
      | none => rw [e1] at hf; cases hf
      | some l =>
        rw [e1] at hf
        replace hf : (if fullT l = true ∧ chainT (srtT 12 l) = true ∧ l.length ≤ top then some (D.lst (ofNss (srtT 12 l))) else none) = some c := hf
        split at hf
        · rename_i hch
          cases hf
          rw [toNss_some e1] at h2
          obtain ⟨bs, b1, b2, b3⟩ := nss_bs h2
          refine ⟨_, bs, rfl, by rw [b1]; exact hB _ _ h1, fun x m => ?_, by rw [b2]; exact hch.1, fun p np => ?_⟩
          · obtain ⟨b, z1, z2⟩ := b3 x m
            exact ⟨b, z1, hB _ _ z2⟩
          · refine q _ _ _ (Ext.new hB np) (.lst upd_same ?_)
            have hs := sortT_bs bs (by rw [b2]; exact hch.2.1)
            have rr := bs_nss (K := X.K) (cl := cl) (B := B) (bs := bs.mergeSort (PySem.W.dataLe false fun x => rowKey x.2)) fun x m => b3 x ((List.mergeSort_perm bs _).mem_iff.mp m)
            rw [hs, b2] at rr
            exact rr.mono (same_new (hB.free np))
        · cases hf
  · cases hf
end
end Dl
set_option maxRecDepth 100000
set_option maxHeartbeats 4000000
/-! the same, each value worked out before it is kept: for the kernel -/
namespace Dl
open PySem PySem.Spec PyProof.Rows L2
def frN {α : Type} (n : Nat) (k : Nat → α) : α := match n with
  | 0 => k 0
  | m + 1 => k (m + 1)
def frI {α : Type} (i : Int) (k : Int → α) : α := match i with
  | .ofNat n => frN n fun n => k (.ofNat n)
  | .negSucc n => frN n fun n => k (.negSucc n)
def frB {α : Type} (b : Bool) (k : Bool → α) : α := match b with
  | true => k true
  | false => k false
def frS {α β : Type} : List β → (List β → α) → α
  | [], k => k []
  | x :: xs, k => frS xs fun xs => k (x :: xs)
def frK {α : Type} (y : Key) (k : Key → α) : α := match y with
  | .inl i => frI i fun i => k (.inl i)
  | .inr x => k (.inr x)
def frKs {α : Type} : List Key → (List Key → α) → α
  | [], k => k []
  | x :: xs, k => frK x fun x => frKs xs fun xs => k (x :: xs)
mutual
def frD {α : Type} : D → (D → α) → α
  | .non, k => k .non
  | .bl b, k => frB b fun b => k (.bl b)
  | .int i, k => frI i fun i => k (.int i)
  | .str x, k => k (.str x)
  | .lst xs, k => frDs xs fun xs => k (.lst xs)
  | .tup xs, k => frDs xs fun xs => k (.tup xs)
  | .obj c ns xs, k => k (.obj c ns xs)
  | .dT ks xs, k => k (.dT ks xs)
  | .dK ks xs, k => k (.dK ks xs)
  | .vol n, k => k (.vol n)
  | .scr, k => k .scr
def frDs {α : Type} : List D → (List D → α) → α
  | [], k => k []
  | d :: ds, k => frD d fun d => frDs ds fun ds => k (d :: ds)
end
def setF {α : Type} : Rho → Nat → SV → (Rho → α) → α
  | [], _, _, k => k []
  | _ :: xs, 0, v, k => k (v :: xs)
  | x :: xs, i + 1, v, k => setF xs i v fun ys => k (x :: ys)
section
variable {α β : Type}
@[simp] theorem frN_eq (n : Nat) (k : Nat → α) : frN n k = k n := by cases n <;> rfl
@[simp] theorem frI_eq (i : Int) (k : Int → α) : frI i k = k i := by cases i <;> simp [frI]
@[simp] theorem frB_eq (b : Bool) (k : Bool → α) : frB b k = k b := by cases b <;> rfl
@[simp] theorem frS_eq : ∀ (l : List β) (k : List β → α), frS l k = k l
  | [], k => rfl
  | x :: xs, k => by unfold frS; rw [frS_eq xs]
@[simp] theorem frK_eq (y : Key) (k : Key → α) : frK y k = k y := by cases y <;> simp [frK]
@[simp] theorem frKs_eq : ∀ (l : List Key) (k : List Key → α), frKs l k = k l
  | [], k => rfl
  | x :: xs, k => by unfold frKs; rw [frK_eq, frKs_eq xs]
mutual
@[simp] theorem frD_eq : ∀ (d : D) (k : D → α), frD d k = k d
  | .non, k => by simp [frD]
  | .bl b, k => by simp [frD]
  | .int i, k => by simp [frD]
  | .str x, k => by simp [frD]
  | .lst xs, k => by simp only [frD]; exact frDs_eq xs _
  | .tup xs, k => by simp only [frD]; exact frDs_eq xs _
  | .obj c ns xs, k => by simp [frD]
  | .dT ks xs, k => by simp [frD]
  | .dK ks xs, k => by simp [frD]
  | .vol n, k => by simp [frD]
  | .scr, k => by simp [frD]
@[simp] theorem frDs_eq : ∀ (l : List D) (k : List D → α), frDs l k = k l
  | [], k => by simp [frDs]
  | d :: ds, k => by simp only [frDs]; rw [frD_eq d]; exact frDs_eq ds _
end
@[simp] theorem setF_eq : ∀ (ρ : Rho) (i : Nat) (v : SV) (k : Rho → α), setF ρ i v k = k (ρ.set i v)
  | [], _, _, k => rfl
  | _ :: xs, 0, v, k => rfl
  | x :: xs, i + 1, v, k => by unfold setF; rw [setF_eq xs]; rfl
end
/-! statements -/
def kSet (i : Nat) (g : Rho → Option D) : M := fun ρ => (g ρ).bind fun d => frD d fun d => setF ρ i (.val d) fun ρ' => some (.nx ρ')
def kRet (g : Rho → Option D) : M := fun ρ => (g ρ).bind fun d => frD d fun d => some (.rt d)
def kOwn (i : Nat) (gs : Rho → Option (List D)) : M := fun ρ => (gs ρ).bind fun ds => if ds.length ≤ top then frDs ds fun ds => setF ρ i (.own ds) fun ρ' => some (.nx ρ') else none
def kApp (i : Nat) (g : Rho → Option D) : M := fun ρ => match ρ[i]? with
  | some (.own ds) => (g ρ).bind fun d => if ds.length < top then frD d fun d => frS (ds ++ [d]) fun ds => setF ρ i (.own ds) fun ρ' => some (.nx ρ') else none
  | _ => none
def kExt (i : Nat) (g : Rho → Option D) : M := fun ρ => match ρ[i]? with
  | some (.own ds) => (g ρ).bind fun d => match d with
    | .lst es => if ds.length + es.length ≤ top then frDs es fun es => frS (ds ++ es) fun ds => setF ρ i (.own ds) fun ρ' => some (.nx ρ') else none
    | _ => none
  | _ => none
def kAug (i : Nat) (g : Rho → Option D) : M := fun ρ => match ρ[i]? with
  | some (.val (.int a)) => match g ρ with
    | some (.int b) => frI (a + b) fun c => setF ρ i (.val (.int c)) fun ρ' => some (.nx ρ')
    | _ => none
  | _ => none
def kPut (i : Nat) (kg vg : Rho → Option D) : M := fun ρ => match ρ[i]? with
  | some (.ownT ks ds) => (vg ρ).bind fun d => (kg ρ).bind fun y => (keyT y).bind fun k => frKs k fun k => frD d fun d => if ks.Nodup ∧ ks.length < top then frS (putT ks ds k d).1 fun ks' => frS (putT ks ds k d).2 fun ds' => setF ρ i (.ownT ks' ds') fun ρ' => some (.nx ρ') else none
  | _ => mPut i kg vg ρ
def kFldO (c : Nat) (f : Str) (i : Nat) (g : Rho → Option D) : M := fun ρ => (g ρ).bind fun d => frD d fun d => match ρ[i]? with
  | some (.ownO c' ns ds) => if c' = c ∧ ds.length < 900 then frS (putT ns ds f d).1 fun ns' => frS (putT ns ds f d).2 fun ds' => setF ρ i (.ownO c ns' ds') fun ρ' => some (.nx ρ') else none
  | _ => none
def kName (i : Nat) : D → Rho → Option Rho := fun d ρ => setF ρ i (.val d) some
def kFun (k n : Nat) (body : M) (ds : List D) : Option D := if ds.length = k then frS (ds.map SV.val ++ List.replicate n .un) fun ρ => (body ρ).bind fun o => match o with
  | .rt d => some d
  | .nx _ => some .non
  | _ => none else none
def kInit (c k n : Nat) (body : M) (ds : List D) : Option (List Str × List D) := if ds.length = k then frS (.ownO c [] [] :: (ds.map SV.val ++ List.replicate n .un)) fun ρ => (body ρ).bind (selfOf c) else none
theorem kSet_eq (i : Nat) (g : Rho → Option D) : kSet i g = mSet i g := funext fun ρ => by unfold kSet mSet; cases g ρ <;> simp
theorem kRet_eq (g : Rho → Option D) : kRet g = mRet g := funext fun ρ => by unfold kRet mRet; cases g ρ <;> simp
theorem kOwn_eq (i : Nat) (gs : Rho → Option (List D)) : kOwn i gs = mOwn i gs := funext fun ρ => by unfold kOwn mOwn; cases gs ρ <;> simp
theorem kApp_eq (i : Nat) (g : Rho → Option D) : kApp i g = mApp i g := funext fun ρ => by unfold kApp mApp; simp only [frD_eq, frDs_eq, frS_eq, setF_eq, frI_eq, frKs_eq] <;> rfl
theorem kExt_eq (i : Nat) (g : Rho → Option D) : kExt i g = mExt i g := funext fun ρ => by unfold kExt mExt; simp only [frD_eq, frDs_eq, frS_eq, setF_eq, frI_eq, frKs_eq] <;> rfl
theorem kAug_eq (i : Nat) (g : Rho → Option D) : kAug i g = mAug i g := funext fun ρ => by unfold kAug mAug; simp only [frD_eq, frDs_eq, frS_eq, setF_eq, frI_eq, frKs_eq] <;> rfl
theorem kPut_eq (i : Nat) (g h : Rho → Option D) : kPut i g h = mPut i g h := funext fun ρ => by
  unfold kPut
  split
  · rename_i e; unfold mPut; rw [e]; simp only [frD_eq, frDs_eq, frS_eq, setF_eq, frI_eq, frKs_eq]
  · rfl
theorem kFldO_eq (c : Nat) (f : Str) (i : Nat) (g : Rho → Option D) : kFldO c f i g = mFldO c f i g := funext fun ρ => by unfold kFldO mFldO; simp only [frD_eq, frDs_eq, frS_eq, setF_eq, frI_eq, frKs_eq] <;> rfl
theorem kName_eq (i : Nat) : kName i = bName i := funext fun d => funext fun ρ => by unfold kName bName; simp only [frD_eq, frDs_eq, frS_eq, setF_eq, frI_eq, frKs_eq]
theorem kFun_eq (k n : Nat) (body : M) : kFun k n body = mFun k n body := funext fun ds => by unfold kFun mFun; simp only [frD_eq, frDs_eq, frS_eq, setF_eq, frI_eq, frKs_eq] <;> rfl
theorem kInit_eq (c k n : Nat) (body : M) : kInit c k n body = mInit c k n body := funext fun ds => by unfold kInit mInit; simp only [frD_eq, frDs_eq, frS_eq, setF_eq, frI_eq, frKs_eq]
section
variable {X : Cx} {cl : Cl} {K : PySem.W.Frag} {e : Expr} {st : Stmt} {g h : Rho → Option D} {gs : Rho → Option (List D)} {i : Nat}
theorem to_k {m m' : M} (e : m' = m) (h : PS X st (tS X.K cl m)) : PS X st (tS X.K cl m') := by rw [e]; exact h
theorem dgk {tg : Expr} {is : List Nat} (h : PG X tg (tG X.K cl is (bName i))) : PG X tg (tG X.K cl is (kName i)) := by rw [kName_eq]; exact h
theorem kfun_of {k n : Nat} {body : M} {N : List Str} (hN : N.length = k + n) {vs : List V} {H : Hp} {Q : VK} {E : XK} (h : spD K cl (kFun k n body) vs H Q E) : tS K cl body { nx := fun _ H' => Q .non H', rt := Q } (L2.start N vs) H := by rw [kFun_eq] at h; exact fun_of hN h
theorem kspD_len {k n : Nat} {body : M} (vs : List V) (H : Hp) (Q : VK) (E : XK) (h : spD K cl (kFun k n body) vs H Q E) : vs.length = k := by rw [kFun_eq] at h; exact spD_len vs H Q E h
theorem kinit_of {c k n : Nat} {body : M} {N : List Str} (hN : N.length = (k + 1) + n) {vs : List V} {H : Hp} {Q : VK} {E : XK} (h : spI K cl c (kInit c k n body) vs H Q E) : tS K cl body { nx := fun _ H' => Q .non H', rt := Q } (L2.start N vs) H := by rw [kInit_eq] at h; exact init_of hN h
theorem kspI_len {c k n : Nat} {body : M} (vs : List V) (H : Hp) (Q : VK) (E : XK) (h : spI K cl c (kInit c k n body) vs H Q E) : vs.length = k + 1 := by rw [kInit_eq] at h; exact spI_len vs H Q E h
end
/-! dict comprehensions -/
def kdcT (bind : D → Rho → Option Rho) (tt : Rho → Option Bool) (kg vg : Rho → Option D) (ρ : Rho) : List D → List (List Key) → List D → Option (List (List Key) × List D)
  | [], ks, xs => some (ks, xs)
  | d :: ds, ks, xs => (bind d ρ).bind fun ρ1 => (tt ρ1).bind fun b => if b = true then (kg ρ1).bind fun y => (vg ρ1).bind fun z => (keyT y).bind fun k => frKs k fun k => frD z fun z => frS (putT ks xs k z).1 fun ks' => frS (putT ks xs k z).2 fun xs' => kdcT bind tt kg vg ρ ds ks' xs' else kdcT bind tt kg vg ρ ds ks xs
theorem kdcT_eq (bind : D → Rho → Option Rho) (tt : Rho → Option Bool) (kg vg : Rho → Option D) (ρ : Rho) : ∀ (ds : List D) (ks : List (List Key)) (xs : List D), kdcT bind tt kg vg ρ ds ks xs = dcT bind tt kg vg ρ ds ks xs
  | [], ks, xs => rfl
  | d :: ds, ks, xs => by
    unfold kdcT dcT
    simp only [frKs_eq, frD_eq, frS_eq, kdcT_eq bind tt kg vg ρ ds]
def kDcT (gi : Rho → Option (List D)) (bind : D → Rho → Option Rho) (tt : Rho → Option Bool) (kg vg : Rho → Option D) (vs : List Nat) : Rho → Option D := fun ρ => (gi ρ).bind fun ds => if ds.length ≤ top then (kdcT bind tt kg vg (wipeR ρ vs) ds [] []).map fun r => D.dT r.1 r.2 else none
theorem kDcT_eq (gi : Rho → Option (List D)) (bind : D → Rho → Option Rho) (tt : Rho → Option Bool) (kg vg : Rho → Option D) (vs : List Nat) : kDcT gi bind tt kg vg vs = gDcT gi bind tt kg vg vs := funext fun ρ => by unfold kDcT gDcT; simp only [kdcT_eq]
theorem to_kE {X : Cx} {cl : Cl} {e : Expr} {g g' : Rho → Option D} (q : g' = g) (h : PE X e (tD X.K cl g)) : PE X e (tD X.K cl g') := by rw [q]; exact h
end Dl
set_option maxRecDepth 100000
set_option maxHeartbeats 4000000
/-! what may come out, in more than one way: a reading says what is wanted of all of it -/
namespace Dl
open PySem PySem.Spec PyProof.Rows L2
abbrev EK := Nat → D → Prop
abbrev GWx (α : Type) := Rho → (α → Prop) → EK → Prop
abbrev GW := GWx D
def noEx : EK := fun _ _ => False
abbrev noW : WX := fun _ _ _ _ => False
def ErrAt (K : PySem.W.Frag) (cl : Cl) (W : WX) (σ : L2.St) (B H : Hp) (Er : EK) : Prop := ∀ c d, Er c d → ∀ B' H' dx v, Ext cl.tabs B H B' H' → B' dx = some (.xd [("given", v)]) → Rep K cl B' v d → W (.ref (cl c)) (some dx) σ H'
def tW (K : PySem.W.Frag) (cl : Cl) (W : WX) (g : GW) : TE := fun σ H Q => ∃ H0 B ρ Po Er, Cln B H ∧ Slots K cl H0 B H σ ρ ∧ g ρ Po Er ∧ (∀ d, Po d → ∀ B' H' v, Ext cl.tabs B H B' H' → Rep K cl B' v d → Q v H') ∧ ErrAt K cl W σ B H Er
def tWt (K : PySem.W.Frag) (cl : Cl) (W : WX) (g : GWx Bool) : TT := fun σ H Q => ∃ H0 B ρ Po Er, Cln B H ∧ Slots K cl H0 B H σ ρ ∧ g ρ Po Er ∧ (∀ d, Po d → ∀ B' H', Ext cl.tabs B H B' H' → Q d H') ∧ ErrAt K cl W σ B H Er
def tWs (K : PySem.W.Frag) (cl : Cl) (W : WX) (g : GWx (List D)) : TA := fun σ H Q => ∃ H0 B ρ Po Er, Cln B H ∧ Slots K cl H0 B H σ ρ ∧ g ρ Po Er ∧ (∀ ds, Po ds → ∀ B' H' vs, Ext cl.tabs B H B' H' → Reps K cl B' vs ds → Q vs H') ∧ ErrAt K cl W σ B H Er
def wOpt {α : Type} (o : Option α) (Po : α → Prop) : Prop := match o with | some c => Po c | none => False
theorem wOpt_some {α : Type} {o : Option α} {Po : α → Prop} (h : wOpt o Po) : ∃ c, o = some c ∧ Po c := by
  cases o with
  | none => exact h.elim
  | some c => exact ⟨c, rfl, h⟩
theorem wOpt_of {α : Type} {o : Option α} {Po : α → Prop} {c : α} (h : o = some c) (q : Po c) : wOpt o Po := by rw [h]; exact q
def wLift {α : Type} (g : Rho → Option α) : GWx α := fun ρ Po _ => wOpt (g ρ) Po
section
variable {K : PySem.W.Frag} {cl : Cl} {W : WX} {σ : L2.St} {B H B' H' : Hp} {Er : EK}
theorem ErrAt.ext (h : ErrAt K cl W σ B H Er) (x : Ext cl.tabs B H B' H') : ErrAt K cl W σ B' H' Er := fun c d e B2 H2 dx v x2 hd r => h c d e B2 H2 dx v (x.trans x2) hd r
end
section
variable {X : Cx} {cl : Cl} {K : PySem.W.Frag} {W : WX} {e : Expr} {g h : GW} {gs : GWx (List D)} {t u : GWx Bool} {f : D → D → Option D} {r : R2} {pos : Pos}
theorem w_lift {g : Rho → Option D} (hp : PE X e (tD X.K cl g)) : PE X e (tW X.K cl W (wLift g)) := pe_mono hp fun σ H Q ⟨H0, B, ρ, Po, Er, hB, hs, hg, q, _⟩ => by
  obtain ⟨c, e1, p⟩ := wOpt_some hg
  exact ⟨H0, B, ρ, c, hB, hs, e1, fun B' H' v x r => q c p B' H' v x r⟩
theorem wt_lift {g : Rho → Option Bool} (hp : PT X e (tDT X.K cl g)) : PT X e (tWt X.K cl W (wLift g)) := pt_mono hp fun σ H Q ⟨H0, B, ρ, Po, Er, hB, hs, hg, q, _⟩ => by
  obtain ⟨c, e1, p⟩ := wOpt_some hg
  exact ⟨H0, B, ρ, c, hB, hs, e1, fun B' H' x => q c p B' H' x⟩
theorem ws_lift {es : List Expr} {g : Rho → Option (List D)} (hp : PA X es (tDs X.K cl g)) : PA X es (tWs X.K cl W (wLift g)) := pa_mono hp fun σ H Q ⟨H0, B, ρ, Po, Er, hB, hs, hg, q, _⟩ => by
  obtain ⟨c, e1, p⟩ := wOpt_some hg
  exact ⟨H0, B, ρ, c, hB, hs, e1, fun B' H' vs x r => q c p B' H' vs x r⟩
/-! arguments -/
def wNil : GWx (List D) := fun _ Po _ => Po []
def wCons (g : GW) (r : GWx (List D)) : GWx (List D) := fun ρ Po Er => g ρ (fun d => r ρ (fun ds => Po (d :: ds)) Er) Er
theorem wa_nil : PA X [] (tWs X.K cl W wNil) := pa_mono pa_nil fun σ H Q ⟨H0, B, ρ, Po, Er, hB, hs, hg, q, _⟩ => q [] hg B H [] (Ext.refl hB) .nil
theorem wa_cons {es : List Expr} {r : GWx (List D)} (h : PE X e (tW X.K cl W g)) (hr : PA X es (tWs X.K cl W r)) (hst : starEach (e :: es) X.env = (false, eval e X.env) :: starEach es X.env := by rfl) : PA X (e :: es) (tWs X.K cl W (wCons g r)) := pa_mono (pa_cons h hr hst) fun σ H Q ⟨H0, B, ρ, Po, Er, hB, hs, hg, q, er⟩ =>
  ⟨H0, B, ρ, _, Er, hB, hs, hg, fun d pd B1 H1 v x1 r1 => ⟨H0, B1, ρ, _, Er, x1.bh, hs.ext x1, pd, fun ds pds B2 H2 vs x2 r2 => q (d :: ds) pds B2 H2 (v :: vs) (x1.trans x2) (.cons (r1.mono x2.bb) r2), er.ext x1⟩, er⟩
/-! operators -/
def wBin (f : D → D → Option D) (g h : GW) : GW := fun ρ Po Er => g ρ (fun a => h ρ (fun b => wOpt (f a b) Po) Er) Er
theorem bin_ofW (k : OpDD X.K cl r f) : ∀ σ H Q, tW X.K cl W (wBin f g h) σ H Q → tOp r (tW X.K cl W g) (tW X.K cl W h) σ H Q := fun σ H Q ⟨H0, B, ρ, Po, Er, hB, hs, hg, q, er⟩ =>
  ⟨H0, B, ρ, _, Er, hB, hs, hg, fun a pa B1 H1 v x1 r1 => ⟨H0, B1, ρ, _, Er, x1.bh, hs.ext x1, pa, fun b pb B2 H2 u x2 r2 => by
    obtain ⟨c, e1, p⟩ := wOpt_some pb
    exact k B2 H2 v u a b c Q x2.bh (r1.mono x2.bb) r2 e1 fun B3 H3 w x3 r3 => q c p B3 H3 w ((x1.trans x2).trans x3) r3, er.ext x1⟩, er⟩
theorem w_bin (hp : PE X e (tOp r (tW X.K cl W g) (tW X.K cl W h))) (k : OpDD X.K cl r f) : PE X e (tW X.K cl W (wBin f g h)) := pe_mono hp (bin_ofW k)
def wTest (g : GW) : GWx Bool := fun ρ Po Er => g ρ (fun d => ∃ b, d = .bl b ∧ Po b) Er
theorem wt_of {t : TE} {a : Expr} (hp : PT X a (tTest t)) (m : ∀ σ H Q, tW X.K cl W g σ H Q → t σ H Q) : PT X a (tWt X.K cl W (wTest g)) := pt_mono hp fun σ H Q ⟨H0, B, ρ, Po, Er, hB, hs, hg, q, er⟩ =>
  m σ H _ ⟨H0, B, ρ, _, Er, hB, hs, hg, fun d pd B' H' v x r => by
    obtain ⟨b, rfl, p⟩ := pd
    cases r
    exact ⟨b, rfl, q b p B' H' x⟩, er⟩
theorem wt_cmp {a : Expr} (hp : PT X a (tTest (tOp r (tW X.K cl W g) (tW X.K cl W h)))) (k : OpDD X.K cl r f) : PT X a (tWt X.K cl W (wTest (wBin f g h))) := wt_of hp (bin_ofW k)
def wTru (g : GW) : GWx Bool := fun ρ Po Er => g ρ (fun d => wOpt (fTru d) Po) Er
theorem wt_tru {a : Expr} (ha : PE X a (tW X.K cl W g)) (he : ∀ whole, isTrue a X.env whole = (do let v ← whole; standAt a.pos; holding [v] (truthy v)) := by intro _; rfl) : PT X a (tWt X.K cl W (wTru g)) := pt_mono (pt_truth ha he) fun σ H Q ⟨H0, B, ρ, Po, Er, hB, hs, hg, q, er⟩ =>
  ⟨H0, B, ρ, _, Er, hB, hs, hg, (fun x px B' H' v x1 r => by
    obtain ⟨k, e1, p⟩ := wOpt_some px
    refine ⟨k, ?_, q k p B' H' x1⟩
    cases x with
    | non => cases r; cases e1; rfl
    | bl b => cases r; cases e1; rfl
    | int i => cases r; cases e1; rfl
    | lst xs =>
      cases e1
      cases r with
      | lst h1 h2 => exact .inl ⟨_, SqL.of (x1.bh _ _ h1), by rw [reps_empty h2]⟩
    | tup xs =>
      cases e1
      cases r with
      | tup h1 h2 => exact .inr (.inl ⟨_, SqT.of (x1.bh _ _ h1), by rw [reps_empty h2]⟩)
    | _ => cases e1), er⟩
def wAnd (t u : GWx Bool) : GWx Bool := fun ρ Po Er => t ρ (fun b => if b = true then u ρ Po Er else Po false) Er
def wOr (t u : GWx Bool) : GWx Bool := fun ρ Po Er => t ρ (fun b => if b = true then Po true else u ρ Po Er) Er
def wNot (t : GWx Bool) : GWx Bool := fun ρ Po Er => t ρ (fun b => Po (!b)) Er
theorem ww_and1 {a : Expr} {pos} (ha : PT X a (tWt X.K cl W t)) : PW X (.BoolOp .And [a] pos) (tWt X.K cl W t) := pw_and1 ha
theorem ww_or1 {a : Expr} {pos} (ha : PT X a (tWt X.K cl W t)) : PW X (.BoolOp .Or [a] pos) (tWt X.K cl W t) := pw_or1 ha
theorem ww_and {a b : Expr} {rest : List Expr} {pos} (ha : PT X a (tWt X.K cl W t)) (hb : PW X (.BoolOp .And (b :: rest) pos) (tWt X.K cl W u)) : PW X (.BoolOp .And (a :: b :: rest) pos) (tWt X.K cl W (wAnd t u)) := pw_mono (pw_and ha hb) fun σ H Q ⟨H0, B, ρ, Po, Er, hB, hs, hg, q, er⟩ =>
  ⟨H0, B, ρ, _, Er, hB, hs, hg, fun k pk B' H' x => by
    cases k with
    | false => exact iteF (q false pk B' H' x)
    | true => exact iteT ⟨H0, B', ρ, Po, Er, x.bh, hs.ext x, pk, fun d pd B2 H2 x2 => q d pd B2 H2 (x.trans x2), er.ext x⟩, er⟩
theorem ww_or {a b : Expr} {rest : List Expr} {pos} (ha : PT X a (tWt X.K cl W t)) (hb : PW X (.BoolOp .Or (b :: rest) pos) (tWt X.K cl W u)) : PW X (.BoolOp .Or (a :: b :: rest) pos) (tWt X.K cl W (wOr t u)) := pw_mono (pw_or ha hb) fun σ H Q ⟨H0, B, ρ, Po, Er, hB, hs, hg, q, er⟩ =>
  ⟨H0, B, ρ, _, Er, hB, hs, hg, fun k pk B' H' x => by
    cases k with
    | true => exact iteT (q true pk B' H' x)
    | false => exact iteF ⟨H0, B', ρ, Po, Er, x.bh, hs.ext x, pk, fun d pd B2 H2 x2 => q d pd B2 H2 (x.trans x2), er.ext x⟩, er⟩
theorem wt_not {a : Expr} {pos} (ha : PT X a (tWt X.K cl W t)) : PT X (.UnaryOp .Not a pos) (tWt X.K cl W (wNot t)) := pt_mono (pt_not ha) fun σ H Q ⟨H0, B, ρ, Po, Er, hB, hs, hg, q, er⟩ =>
  ⟨H0, B, ρ, _, Er, hB, hs, hg, fun k pk B' H' x => q (!k) pk B' H' x, er⟩
/-! values by truth -/
def wAndV (g h : GW) : GW := fun ρ Po Er => g ρ (fun d => ∃ b, d = .bl b ∧ if b = true then h ρ Po Er else Po (.bl false)) Er
def wOrV (g h : GW) : GW := fun ρ Po Er => g ρ (fun d => ∃ b, d = .bl b ∧ if b = true then Po (.bl true) else h ρ Po Er) Er
def wNotV (g : GW) : GW := fun ρ Po Er => g ρ (fun d => ∃ b, d = .bl b ∧ Po (.bl (!b))) Er
theorem w_and {a b : Expr} {rest : List Expr} {pos} (ha : PE X a (tW X.K cl W g)) (hb : PE X (.BoolOp .And (b :: rest) pos) (tW X.K cl W h)) : PE X (.BoolOp .And (a :: b :: rest) pos) (tW X.K cl W (wAndV g h)) := pe_mono (pe_and ha hb) fun σ H Q ⟨H0, B, ρ, Po, Er, hB, hs, hg, q, er⟩ =>
  ⟨H0, B, ρ, _, Er, hB, hs, hg, fun d pd B' H' v x r => by
    obtain ⟨k, rfl, p⟩ := pd
    cases r
    refine ⟨k, rfl, ?_⟩
    cases k with
    | false => exact iteF (q _ p B' H' _ x (.bl _))
    | true => exact iteT ⟨H0, B', ρ, Po, Er, x.bh, hs.ext x, p, fun d pd B2 H2 w x2 r2 => q d pd B2 H2 w (x.trans x2) r2, er.ext x⟩, er⟩
theorem w_or {a b : Expr} {rest : List Expr} {pos} (ha : PE X a (tW X.K cl W g)) (hb : PE X (.BoolOp .Or (b :: rest) pos) (tW X.K cl W h)) : PE X (.BoolOp .Or (a :: b :: rest) pos) (tW X.K cl W (wOrV g h)) := pe_mono (pe_or ha hb) fun σ H Q ⟨H0, B, ρ, Po, Er, hB, hs, hg, q, er⟩ =>
  ⟨H0, B, ρ, _, Er, hB, hs, hg, fun d pd B' H' v x r => by
    obtain ⟨k, rfl, p⟩ := pd
    cases r
    refine ⟨k, rfl, ?_⟩
    cases k with
    | true => exact iteT (q _ p B' H' _ x (.bl _))
    | false => exact iteF ⟨H0, B', ρ, Po, Er, x.bh, hs.ext x, p, fun d pd B2 H2 w x2 r2 => q d pd B2 H2 w (x.trans x2) r2, er.ext x⟩, er⟩
theorem w_not {a : Expr} {pos} (ha : PE X a (tW X.K cl W g)) : PE X (.UnaryOp .Not a pos) (tW X.K cl W (wNotV g)) := pe_mono (pe_not ha) fun σ H Q ⟨H0, B, ρ, Po, Er, hB, hs, hg, q, er⟩ =>
  ⟨H0, B, ρ, _, Er, hB, hs, hg, fun d pd B' H' v x r => by
    obtain ⟨k, rfl, p⟩ := pd
    cases r
    exact ⟨k, rfl, q _ p B' H' _ x (.bl _)⟩, er⟩
def wIfE (t : GWx Bool) (g h : GW) : GW := fun ρ Po Er => t ρ (fun b => if b = true then g ρ Po Er else h ρ Po Er) Er
theorem w_ifE {c a b : Expr} {pos} (hc : PT X c (tWt X.K cl W t)) (ha : PE X a (tW X.K cl W g)) (hb : PE X b (tW X.K cl W h)) : PE X (.IfExp c a b pos) (tW X.K cl W (wIfE t g h)) := pe_mono (pe_ifExp hc ha hb) fun σ H Q ⟨H0, B, ρ, Po, Er, hB, hs, hg, q, er⟩ =>
  ⟨H0, B, ρ, _, Er, hB, hs, hg, fun k pk B' H' x => by
    cases k with
    | true => exact iteT ⟨H0, B', ρ, Po, Er, x.bh, hs.ext x, pk, fun d pd B2 H2 w x2 r2 => q d pd B2 H2 w (x.trans x2) r2, er.ext x⟩
    | false => exact iteF ⟨H0, B', ρ, Po, Er, x.bh, hs.ext x, pk, fun d pd B2 H2 w x2 r2 => q d pd B2 H2 w (x.trans x2) r2, er.ext x⟩, er⟩
/-! displays, built-ins -/
def wDs (f : List D → Option D) (gs : GWx (List D)) : GW := fun ρ Po Er => gs ρ (fun ds => wOpt (f ds) Po) Er
theorem w_ds {r : List V → Hp → VK → Prop} {f : List D → Option D} (hp : PE X e (tCB r (tWs X.K cl W gs))) (k : CaD X.K cl r f) : PE X e (tW X.K cl W (wDs f gs)) := pe_mono hp fun σ H Q ⟨H0, B, ρ, Po, Er, hB, hs, hg, q, er⟩ =>
  ⟨H0, B, ρ, _, Er, hB, hs, hg, fun ds pds B' H' vs x r => by
    obtain ⟨c, e1, p⟩ := wOpt_some pds
    exact k B' H' vs ds c Q x.bh r e1 fun B2 H2 w x2 r2 => q c p B2 H2 w (x.trans x2) r2, er⟩
theorem w_tup {es : List Expr} {k pos} (h : PA X es (tWs X.K cl W gs)) : PE X (.Tuple es k pos) (tW X.K cl W (wDs mkTup gs)) := w_ds (pe_tup h) ca_tup
theorem w_lst {es : List Expr} {pos} (h : PA X es (tWs X.K cl W gs)) : PE X (.List es pos) (tW X.K cl W (wDs mkLst gs)) := w_ds (pe_lst h) ca_lst
/-! calls -/
/-- a def that raises nothing, whatever comes out -/
def spN (K : PySem.W.Frag) (cl : Cl) (m : List D → (D → Prop) → EK → Prop) : Sp := fun vs H Q _ => ∃ B ds Po, Cln B H ∧ LamX.Tabs cl.tabs H ∧ Reps K cl B vs ds ∧ m ds Po noEx ∧ ∀ d, Po d → ∀ B' H' v, Ext cl.tabs B H B' H' → Rep K cl B' v d → Q v H'
/-- a def that may raise -/
def spX (K : PySem.W.Frag) (cl : Cl) (m : List D → (D → Prop) → EK → Prop) : Sp := fun vs H Q E => ∃ B ds Po Er, Cln B H ∧ LamX.Tabs cl.tabs H ∧ Reps K cl B vs ds ∧ m ds Po Er ∧ (∀ d, Po d → ∀ B' H' v, Ext cl.tabs B H B' H' → Rep K cl B' v d → Q v H') ∧
  ∀ c d, Er c d → ∀ B' H' dx v, Ext cl.tabs B H B' H' → B' dx = some (.xd [("given", v)]) → Rep K cl B' v d → E (.ref (cl c)) (some dx) H'
def wCall (m : List D → (D → Prop) → EK → Prop) (gs : GWx (List D)) : GW := fun ρ Po Er => gs ρ (fun ds => m ds Po noEx) Er
def wCallX (m : List D → (D → Prop) → EK → Prop) (gs : GWx (List D)) : GW := fun ρ Po Er => gs ρ (fun ds => m ds Po Er) Er
theorem w_call {m : List D → (D → Prop) → EK → Prop} (hp : PE X e (tCall (spN X.K cl m) [] E0 (tWs X.K cl W gs))) : PE X e (tW X.K cl W (wCall m gs)) := pe_mono hp fun σ H Q ⟨H0, B, ρ, Po, Er, hB, hs, hg, q, er⟩ =>
  ⟨H0, B, ρ, _, Er, hB, hs, hg, fun ds pds B' H' vs x r => by
    simp only [List.append_nil]
    exact ⟨B', ds, Po, x.bh, (hs.ext x).tabs, r, pds, fun d pd B2 H2 v x2 r2 => q d pd B2 H2 v (x.trans x2) r2⟩, er⟩
theorem w_callX {m : List D → (D → Prop) → EK → Prop} (hp : PE X e (tCallS (spX X.K cl m) (WE W) (tWs X.K cl W gs))) : PE X e (tW X.K cl W (wCallX m gs)) := pe_mono hp fun σ H Q ⟨H0, B, ρ, Po, Er, hB, hs, hg, q, er⟩ =>
  ⟨H0, B, ρ, _, Er, hB, hs, hg, fun ds pds B' H' vs x r => 
    ⟨B', ds, Po, Er, x.bh, (hs.ext x).tabs, r, pds, fun d pd B2 H2 v x2 r2 => q d pd B2 H2 v (x.trans x2) r2, fun c d ec B2 H2 dx v x2 hd rd => er c d ec B2 H2 dx v (x.trans x2) hd rd⟩, er⟩
theorem w_callP {f : List D → Option D} (hp : PE X e (tCall (spD X.K cl f) [] E0 (tWs X.K cl W gs))) : PE X e (tW X.K cl W (wDs f gs)) := pe_mono hp fun σ H Q ⟨H0, B, ρ, Po, Er, hB, hs, hg, q, er⟩ =>
  ⟨H0, B, ρ, _, Er, hB, hs, hg, fun ds pds B' H' vs x r => by
    obtain ⟨c, e1, p⟩ := wOpt_some pds
    simp only [List.append_nil]
    exact ⟨B', ds, c, x.bh, (hs.ext x).tabs, r, e1, fun B2 H2 v x2 r2 => q c p B2 H2 v (x.trans x2) r2⟩, er⟩
theorem w_callF {f : List D → Option (List D)} (hp : PE X e (tCall (spF X.K cl f) [] E0 (tWs X.K cl W gs))) : PE X e (tW X.K cl W (wDs (asLst f) gs)) := pe_mono hp fun σ H Q ⟨H0, B, ρ, Po, Er, hB, hs, hg, q, er⟩ =>
  ⟨H0, B, ρ, _, Er, hB, hs, hg, fun ds pds B' H' vs x r => by
    obtain ⟨c, e1, p⟩ := wOpt_some pds
    unfold asLst at e1
    cases e2 : f ds with
    | none => rw [e2] at e1; cases e1
    | some es =>
      rw [e2] at e1
      cases e1
      simp only [List.append_nil]
      exact ⟨B', ds, es, x.bh, (hs.ext x).tabs, r, e2, fun B2 H2 p' xs x2 h1 h2 h3 r2 => q _ p (upd B2 p' (.lst xs)) H2 _ (x.trans (x2.join h1 h2 h3)) (.lst upd_same (r2.mono (same_new h2)))⟩, er⟩
end
end Dl
set_option maxRecDepth 100000
set_option maxHeartbeats 4000000
namespace Dl
open PySem PySem.Spec PyProof.Rows L2
/-! ### new lists -/
/-- a new list, known to no one else -/
def tN (K : PySem.W.Frag) (cl : Cl) (g : Rho → Option (List D)) : TE := fun σ H Q => ∃ H0 B ρ es, Cln B H ∧ Slots K cl H0 B H σ ρ ∧ g ρ = some es ∧ ∀ B' H' p xs, Ext cl.tabs B H B' H' → H' p = some (.lst xs) → B' p = none → H p = none → Reps K cl B' xs es → Q (.ref p) H'
def tNW (K : PySem.W.Frag) (cl : Cl) (W : WX) (g : GWx (List D)) : TE := fun σ H Q => ∃ H0 B ρ Po Er, Cln B H ∧ Slots K cl H0 B H σ ρ ∧ g ρ Po Er ∧ (∀ es, Po es → ∀ B' H' p xs, Ext cl.tabs B H B' H' → H' p = some (.lst xs) → B' p = none → H p = none → Reps K cl B' xs es → Q (.ref p) H') ∧ ErrAt K cl W σ B H Er
section
variable {X : Cx} {cl : Cl} {K : PySem.W.Frag} {W : WX} {e a b : Expr} {g h : Rho → Option D} {gs : Rho → Option (List D)} {pos : Pos}
def nLst (gs : Rho → Option (List D)) : Rho → Option (List D) := fun ρ => (gs ρ).bind fun ds => if ds.length ≤ top then some ds else none
theorem n_lst {es : List Expr} {pos} (hp : PA X es (tDs X.K cl gs)) : PE X (.List es pos) (tN X.K cl (nLst gs)) := pe_mono (pe_lst hp) fun σ H Q ⟨H0, B, ρ, es, hB, hs, hg, q⟩ => by
  unfold nLst at hg
  cases e1 : gs ρ with
  | none => rw [e1] at hg; cases hg
  | some ds =>
    rw [e1] at hg
    replace hg : (if ds.length ≤ top then some ds else none) = some es := hg
    split at hg
    · rename_i hz
      cases hg
      exact ⟨H0, B, ρ, _, hB, hs, e1, fun B' H' vs x r => ⟨by rw [r.len]; exact top_le hz, fun p np => q B' _ p vs (x.side np) upd_same (x.bh.free np) (x.hh.free np) r⟩⟩
    · cases hg
def nCat (g h : Rho → Option D) : Rho → Option (List D) := fun ρ => (g ρ).bind fun a => (h ρ).bind fun b => match a, b with | .lst xs, .lst ys => if xs.length + ys.length ≤ top then some (xs ++ ys) else none | _, _ => none
theorem n_cat (ha : PE X a (tD X.K cl g)) (hb : PE X b (tD X.K cl h)) : PE X (.BinOp a .Add b pos) (tN X.K cl (nCat g h)) := pe_mono (pe_op op_cat ha hb) fun σ H Q ⟨H0, B, ρ, es, hB, hs, hg, q⟩ => by
  unfold nCat at hg
  cases e1 : g ρ with
  | none => rw [e1] at hg; cases hg
  | some x =>
    cases e2 : h ρ with
    | none => rw [e1, e2] at hg; cases hg
    | some y =>
      simp only [e1, e2, Option.bind_some] at hg
      refine ⟨H0, B, ρ, x, hB, hs, e1, fun B1 H1 v x1 r1 => ⟨H0, B1, ρ, y, x1.bh, hs.ext x1, e2, fun B2 H2 u x2 r2 => ?_⟩⟩
      cases x with
      | lst xs =>
        cases y with
        | lst ys =>
          simp only at hg
          split at hg
          · rename_i hz
            cases hg
            cases r1 with
            | lst a1 a2 =>
              cases r2 with
              | lst b1 b2 =>
                have xx := x1.trans x2
                exact ⟨_, _, _, _, rfl, rfl, x2.bh _ _ (x2.bb _ _ a1), x2.bh _ _ b1, by rw [a2.len, b2.len]; exact top_le hz, fun p np => q B2 _ p _ (xx.side np) upd_same (xx.bh.free np) (xx.hh.free np) ((a2.mono x2.bb).append b2)⟩
          · cases hg
        | _ => cases hg
      | _ => cases hg
def nCall (f : List D → Option (List D)) (gs : Rho → Option (List D)) : Rho → Option (List D) := fun ρ => (gs ρ).bind f
theorem n_call {f : List D → Option (List D)} (hp : PE X e (tCall (spF X.K cl f) [] E0 (tDs X.K cl gs))) : PE X e (tN X.K cl (nCall f gs)) := pe_mono hp fun σ H Q ⟨H0, B, ρ, es, hB, hs, hg, q⟩ => by
  unfold nCall at hg
  cases e1 : gs ρ with
  | none => rw [e1] at hg; cases hg
  | some ds =>
    rw [e1] at hg
    replace hg : f ds = some es := hg
    refine ⟨H0, B, ρ, ds, hB, hs, e1, fun B' H' vs x r => ?_⟩
    simp only [List.append_nil]
    exact ⟨B', ds, es, x.bh, (hs.ext x).tabs, r, hg, fun B2 H2 p xs x2 h1 h2 h3 r2 => q B2 H2 p xs (x.trans x2) h1 h2 (x.hh.free h3) r2⟩
/-- list(x) -/
def nList (g : Rho → Option D) : Rho → Option (List D) := fun ρ => match g ρ with | some (.lst ds) => some ds | some (.tup ds) => some ds | _ => none
theorem n_list {h : Rho → Option D} (hp : PE X e (tCB (fun xs H Q => ∃ p ys, xs = [.ref p] ∧ (SqL X.K H p ys ∨ SqT X.K H p ys) ∧ ∀ l, H l = none → Q (.ref l) (upd H l (.lst ys))) (tCons (tD X.K cl h) tNil))) : PE X e (tN X.K cl (nList h)) := pe_mono hp fun σ H Q ⟨H0, B, ρ, es, hB, hs, hg, q⟩ => by
  unfold nList at hg
  split at hg
  · rename_i ds e1
    cases hg
    refine ⟨H0, B, ρ, _, hB, hs, e1, fun B' H' v x r => ?_⟩
    cases r with
    | lst h1 h2 => exact ⟨_, _, rfl, .inl (SqL.of (x.bh _ _ h1)), fun l nl => q B' _ l _ (x.side nl) upd_same (x.bh.free nl) (x.hh.free nl) h2⟩
  · rename_i ds e1
    cases hg
    refine ⟨H0, B, ρ, _, hB, hs, e1, fun B' H' v x r => ?_⟩
    cases r with
    | tup h1 h2 => exact ⟨_, _, rfl, .inr (SqT.of (x.bh _ _ h1)), fun l nl => q B' _ l _ (x.side nl) upd_same (x.bh.free nl) (x.hh.free nl) h2⟩
  · cases hg
theorem n_listS {h : Rho → Option (List D)} (hp : PE X e (tCB (fun xs H Q => ∃ p ys, xs = [.ref p] ∧ (SqL X.K H p ys ∨ SqT X.K H p ys) ∧ ∀ l, H l = none → Q (.ref l) (upd H l (.lst ys))) (tCons (tSq X.K cl h) tNil))) : PE X e (tN X.K cl h) := pe_mono hp fun σ H Q ⟨H0, B, ρ, es, hB, hs, hg, q⟩ =>
  ⟨H0, B, ρ, es, hB, hs, hg, fun B' H' a xs x h1 nm r => ⟨_, _, rfl, .inl (SqL.of h1), fun l nl => q B' _ l _ (x.side nl) upd_same (x.bh.free nl) (x.hh.free nl) r⟩⟩
theorem wn_lift (hp : PE X e (tN X.K cl gs)) : PE X e (tNW X.K cl W (wLift gs)) := pe_mono hp fun σ H Q ⟨H0, B, ρ, Po, Er, hB, hs, hg, q, _⟩ => by
  obtain ⟨c, e1, p⟩ := wOpt_some hg
  exact ⟨H0, B, ρ, c, hB, hs, e1, fun B' H' pp xs x h1 h2 h3 r => q c p B' H' pp xs x h1 h2 h3 r⟩
theorem wn_lst {es : List Expr} {gs : GWx (List D)} {pos} (hp : PA X es (tWs X.K cl W gs)) : PE X (.List es pos) (tNW X.K cl W (fun ρ Po Er => gs ρ (fun ds => ds.length ≤ top ∧ Po ds) Er)) := pe_mono (pe_lst hp) fun σ H Q ⟨H0, B, ρ, Po, Er, hB, hs, hg, q, er⟩ =>
  ⟨H0, B, ρ, _, Er, hB, hs, hg, fun ds pd B' H' vs x r => ⟨by rw [r.len]; exact top_le pd.1, fun p np => q ds pd.2 B' _ p vs (x.side np) upd_same (x.bh.free np) (x.hh.free np) r⟩, er⟩
end
/-! ### what is walked -/
def tIW (K : PySem.W.Frag) (cl : Cl) (W : WX) (gi : GWx (List D)) : TI := fun σ H R => ∃ H0 B ρ Po Er, Cln B H ∧ Slots K cl H0 B H σ ρ ∧ gi ρ Po Er ∧ (∀ ds, Po ds → ∀ J B' H', Ext cl.tabs B H B' H' → Walk K cl J B' ds → R J H') ∧ ErrAt K cl W σ B H Er
section
variable {X : Cx} {cl : Cl} {K : PySem.W.Frag} {W : WX} {tg e : Expr} {pos : Pos}
theorem wi_lift {gi : Rho → Option (List D)} {iter : Expr} (hp : PI X tg iter (tI X.K cl gi)) : PI X tg iter (tIW X.K cl W (wLift gi)) := pi_mono hp fun σ H R ⟨H0, B, ρ, Po, Er, hB, hs, hg, q, _⟩ => by
  obtain ⟨c, e1, p⟩ := wOpt_some hg
  exact ⟨H0, B, ρ, c, hB, hs, e1, fun J B' H' x w => q c p J B' H' x w⟩
def dSeq : D → Option (List D)
  | .lst ds => some ds
  | .tup ds => some ds
  | _ => none
def wSeqI (g : GW) : GWx (List D) := fun ρ Po Er => g ρ (fun d => wOpt (dSeq d) Po) Er
theorem wi_seq {l : Expr} {g : GW} (hl : PE X l (tW X.K cl W g)) : PI X tg l (tIW X.K cl W (wSeqI g)) := pi_mono (pi_seq hl) fun σ H R ⟨H0, B, ρ, Po, Er, hB, hs, hg, q, er⟩ =>
  ⟨H0, B, ρ, _, Er, hB, hs, hg, (fun d pd B' H' v x r => by
    obtain ⟨ds, e1, p⟩ := wOpt_some pd
    cases r with
    | lst h1 h2 =>
      cases e1
      refine ⟨_, rfl, .inl ⟨⟨_, SqL.of (x.bh _ _ h1)⟩, q _ p _ B' H' x fun B2 H2 i s1 s2 => ⟨fun hi => ?_, fun hi => ⟨_, SqL.of (s2 _ _ (s1 _ _ h1)), by rw [h2.len]; exact hi⟩⟩⟩⟩
      obtain ⟨w, hw, rw'⟩ := (h2.mono s1).get (List.getElem?_eq_getElem hi)
      refine ⟨⟨_, w, SqL.of (s2 _ _ (s1 _ _ h1)), hw⟩, fun y H3 hy => ⟨B2, _, ?_, List.getElem?_eq_getElem hi, ?_⟩⟩
      · rw [hy.1]; exact Ext.refl s2
      · have := hy.2 _ (SqL.of (s2 _ _ (s1 _ _ h1)))
        rw [hw] at this; cases this; exact rw'
    | tup h1 h2 =>
      cases e1
      refine ⟨_, rfl, .inr ⟨⟨_, SqT.of (x.bh _ _ h1)⟩, q _ p _ B' H' x fun B2 H2 i s1 s2 => ⟨fun hi => ?_, fun hi => ⟨_, SqT.of (s2 _ _ (s1 _ _ h1)), by rw [h2.len]; exact hi⟩⟩⟩⟩
      obtain ⟨w, hw, rw'⟩ := (h2.mono s1).get (List.getElem?_eq_getElem hi)
      refine ⟨⟨_, w, SqT.of (s2 _ _ (s1 _ _ h1)), hw⟩, fun y H3 hy => ⟨B2, _, ?_, List.getElem?_eq_getElem hi, ?_⟩⟩
      · rw [hy.1]; exact Ext.refl s2
      · have := hy.2 _ (SqT.of (s2 _ _ (s1 _ _ h1)))
        rw [hw] at this; cases this; exact rw'
    | _ => cases e1), er⟩
def fRng1 : List D → Option (List D)
  | [.int j] => if -big < j ∧ j < big then some (rngD 0 j.toNat) else none
  | _ => none
def fRng2 : List D → Option (List D)
  | [.int i, .int j] => if -big < i ∧ i < big ∧ -big < j ∧ j < big then some (rngD i (j - i).toNat) else none
  | _ => none
def wRng (f : List D → Option (List D)) (gs : GWx (List D)) : GWx (List D) := fun ρ Po Er => gs ρ (fun ds => wOpt (f ds) Po) Er
theorem wi_rng1 {a : Expr} {gs : GWx (List D)} {p : Pos} (hg : Gl X "range") (hm : X.mg "range" = none) (ha : PA X [a] (tWs X.K cl W gs)) (hs : starEach [a] X.env = [(false, eval a X.env)] := by rfl) : PI X tg (.Call (.Name "range" p) [a] [] pos) (tIW X.K cl W (wRng fRng1 gs)) :=
  pi_mono (pi_range1 hg hm ha hs) fun σ H R ⟨H0, B, ρ, Po, Er, hB, hs, hg, q, er⟩ =>
  ⟨H0, B, ρ, _, Er, hB, hs, hg, (fun ds pd B' H' vs x r => by
    obtain ⟨es, e1, p⟩ := wOpt_some pd
    unfold fRng1 at e1
    split at e1
    · rename_i j
      split at e1
      · rename_i hj
        cases e1
        obtain ⟨v, rfl, r1⟩ := reps1 r
        cases r1
        unfold big at hj
        exact ⟨j, rfl, by omega, by omega, q _ p _ B' H' x walk_rng⟩
      · cases e1
    · cases e1), er⟩
theorem wi_rng2 {a b : Expr} {gs : GWx (List D)} {p : Pos} (hg : Gl X "range") (hm : X.mg "range" = none) (ha : PA X [a, b] (tWs X.K cl W gs)) (hs : starEach [a, b] X.env = [(false, eval a X.env), (false, eval b X.env)] := by rfl) (hs2 : starEach [b] X.env = [(false, eval b X.env)] := by rfl) : PI X tg (.Call (.Name "range" p) [a, b] [] pos) (tIW X.K cl W (wRng fRng2 gs)) :=
  pi_mono (pi_range2 hg hm ha hs hs2) fun σ H R ⟨H0, B, ρ, Po, Er, hB, hs, hg, q, er⟩ =>
  ⟨H0, B, ρ, _, Er, hB, hs, hg, (fun ds pd B' H' vs x r => by
    obtain ⟨es, e1, p⟩ := wOpt_some pd
    unfold fRng2 at e1
    split at e1
    · rename_i i j
      split at e1
      · rename_i hj
        cases e1
        obtain ⟨v, u, rfl, r1, r2⟩ := reps2 r
        cases r1
        cases r2
        unfold big at hj
        exact ⟨i, j, rfl, ⟨by omega, by omega, by omega, by omega⟩, q _ p _ B' H' x walk_rng⟩
      · cases e1
    · cases e1), er⟩
end
/-! ### comprehensions (nothing is raised within) -/
def wlcRun (bind : D → Rho → Option Rho) (tt : GWx Bool) (te : GW) (ρ : Rho) : List D → List D → (List D → Prop) → Prop
  | [], acc, Po => Po acc
  | d :: ds, acc, Po => ∃ ρ1, bind d ρ = some ρ1 ∧ tt ρ1 (fun b => if b = true then te ρ1 (fun y => wlcRun bind tt te ρ ds (acc ++ [y]) Po) noEx else wlcRun bind tt te ρ ds acc Po) noEx
def wLcs (gi : GWx (List D)) (bind : D → Rho → Option Rho) (tt : GWx Bool) (te : GW) (vs : List Nat) : GWx (List D) := fun ρ Po Er => gi ρ (fun ds => ds.length ≤ top ∧ wlcRun bind tt te (wipeR ρ vs) ds [] Po) Er
section
variable {X : Cx} {cl : Cl} {K : PySem.W.Frag} {W : WX} {tg e : Expr} {pos : Pos}
theorem noEx_at {σ : L2.St} {B H : Hp} : ErrAt K cl W σ B H noEx := fun _ _ z => z.elim
theorem lcN_of {gi : GWx (List D)} {is vs : List Nat} {bind : D → Rho → Option Rho} {tt : GWx Bool} {te : GW} (hv : ∀ i ∈ is, i ∈ vs) : ∀ σ H Q, tNW K cl W (wLcs gi bind tt te vs) σ H Q → tLc (tIW K cl W gi) (tG K cl is bind) (tWt K cl noW tt) (tW K cl noW te) vs σ H Q := fun σ H Q ⟨H0, B, ρ, Po, Er, hB, s, hg, q, er⟩ => by
  refine ⟨H0, B, ρ, _, Er, hB, s, hg, fun ds pd J B1 H1 x1 wk Dd nD => ?_, er⟩
  obtain ⟨hz, hl⟩ := pd
  have nB1 : B1 Dd = none := x1.bh.free nD
  refine ⟨fun i k H => k = ds.length - i ∧ i ≤ ds.length ∧ ∃ B2 acc ys, Ext cl.tabs B1 H1 B2 H ∧ B2 Dd = none ∧ H Dd = some (.lst acc) ∧ Reps K cl B2 acc ys ∧ wlcRun bind tt te (wipeR ρ vs) (ds.drop i) ys Po ∧ ys.length ≤ i,
    ⟨_, rfl, Nat.zero_le _, B1, [], [], (Ext.refl x1.bh).side nD, nB1, upd_same, .nil, hl, Nat.le_refl _⟩, ?_⟩
  rintro i k H2 ⟨rfl, hi, B2, acc, ys, x2, nD2, hD2, ra, hr, hy⟩
  have wki := wk B2 H2 i x2.bb x2.bh
  by_cases hlt : i < ds.length
  · obtain ⟨hgo, hyl⟩ := wki.1 hlt
    refine .inr ⟨hgo, fun H' => i + 1 ≤ ds.length ∧ ∃ B2 acc ys, Ext cl.tabs B1 H1 B2 H' ∧ B2 Dd = none ∧ H' Dd = some (.lst acc) ∧ Reps K cl B2 acc ys ∧ wlcRun bind tt te (wipeR ρ vs) (ds.drop (i + 1)) ys Po ∧ ys.length ≤ i + 1,
      fun H' w => ⟨ds.length - (i + 1), by omega, rfl, w⟩, fun v H3 hv3 => ?_⟩
    obtain ⟨B3, d, x3, hd, rv⟩ := hyl v H3 hv3
    rw [List.getElem?_eq_getElem hlt] at hd
    cases hd
    rw [List.drop_eq_getElem_cons hlt] at hr
    obtain ⟨ρ1, e3, hr⟩ := hr
    have x23 := x1.trans (x2.trans x3)
    refine ⟨H0, B3, wipeR ρ vs, _, ρ1, x3.bh, (s.ext x23).wipe vs, rv, e3, fun σ3 l3 f3 s3 => ⟨?_, ?_⟩⟩
    · rw [← wipe_wipe (σ := σ)]
      exact wipe_eq l3 fun j hj => f3 j fun z => hj (hv j z)
    · refine ⟨H0, B3, ρ1, _, noEx, x3.bh, s3, hr, fun b pb B4 H4 x4 => ?_, noEx_at⟩
      have x24 := x3.trans x4
      have x14 := x2.trans x24
      have hD4 : H4 Dd = some (.lst acc) := x24.get hD2 nD2
      have nD4 : B4 Dd = none := (x24.out _ _ hD2 (fun _ z => nomatch z) (fun _ z => nomatch z)).trans nD2
      cases b with
      | false => exact iteF ⟨hlt, B4, acc, ys, x14, nD4, hD4, ra.mono x24.bb, pb, Nat.le_succ_of_le hy⟩
      | true =>
        refine iteT ⟨H0, B4, ρ1, _, noEx, x4.bh, s3.ext x4, pb, fun y py B5 H5 w x5 rw' => ?_, noEx_at⟩
        have x25 := x24.trans x5
        have x15 := x2.trans x25
        have hD5 : H5 Dd = some (.lst acc) := x25.get hD2 nD2
        have nD5 : B5 Dd = none := (x25.out _ _ hD2 (fun _ z => nomatch z) (fun _ z => nomatch z)).trans nD2
        have n1 : H1 Dd = none := nD
        exact ⟨acc, hD5, by rw [ra.len]; exact Nat.lt_of_le_of_lt hy (Nat.lt_of_lt_of_le hlt (top_le hz)), hlt, B5, acc ++ [w], ys ++ [y], ext_own x15 nD5 n1 hD5, nD5, upd_same, (ra.mono x25.bb).append (.one rw'), py, by rw [List.length_append]; exact Nat.succ_le_succ hy⟩
  · have e : i = ds.length := by omega
    subst e
    rw [List.drop_length] at hr
    exact .inl ⟨wki.2 (Nat.le_refl _), q ys hr B2 H2 Dd acc (x1.trans x2) hD2 nD2 (x1.hh.free nD) ra⟩
/-- a new list as a value -/
def wOf (g : GWx (List D)) : GW := fun ρ Po Er => g ρ (fun ds => Po (.lst ds)) Er
theorem newW {g : GWx (List D)} {t : TE} (m : ∀ σ H Q, tNW K cl W g σ H Q → t σ H Q) : ∀ σ H Q, tW K cl W (wOf g) σ H Q → t σ H Q := fun σ H Q ⟨H0, B, ρ, Po, Er, hB, hs, hg, q, er⟩ =>
  m σ H Q ⟨H0, B, ρ, _, Er, hB, hs, hg, fun es pe B' H' p xs x h1 h2 h3 r => q _ pe (upd B' p (.lst xs)) H' _ (x.join h1 h2 h3) (.lst upd_same (r.mono (same_new h2))), er⟩
theorem w_new {g : GWx (List D)} (hp : PE X e (tNW X.K cl W g)) : PE X e (tW X.K cl W (wOf g)) := pe_mono hp (newW fun _ _ _ z => z)
theorem wn_lc {elt tg iter : Expr} {ifs : List Expr} {scope : Scope} {own : List (Str × Nat)} {pos : Pos} {gi : GWx (List D)} {is : List Nat} {bind : D → Rho → Option Rho} {tt : GWx Bool} {te : GW}
    (hp : PE X (.ListComp elt [⟨tg, iter, ifs, 0⟩] scope pos) (tLc (tIW X.K cl W gi) (tG X.K cl is bind) (tWt X.K cl noW tt) (tW X.K cl noW te) (own.map (·.2)))) (hv : ∀ i ∈ is, i ∈ own.map (·.2) := by decide) :
    PE X (.ListComp elt [⟨tg, iter, ifs, 0⟩] scope pos) (tNW X.K cl W (wLcs gi bind tt te (own.map (·.2)))) := pe_mono hp (lcN_of hv)
theorem wts_nil : PTs X [] (tWt X.K cl W fun _ Po _ => Po true) := ⟨fun pins s σ H Q I ⟨H0, B, ρ, Po, Er, hB, sl, hg, q, _⟩ => pts_nil.run pins s σ H Q I (q true hg B H (Ext.refl hB))⟩
theorem wts_one {c : Expr} {t : GWx Bool} (h : PT X c (tWt X.K cl W t)) : PTs X [c] (tWt X.K cl W t) := pts_one h
end
/-! ### statements -/
abbrev MW := Rho → (Out → Prop) → (Rho → EK) → Prop
def ErrS (K : PySem.W.Frag) (cl : Cl) (W : WX) (H0 : HG) (B0 B : Hp) (Er : Rho → EK) : Prop := ∀ ρ' c d, Er ρ' c d → ∀ B' H' σ' dx v, Ext cl.tabs B0 H0.h B' H' → Same B B' → Slots K cl H0 B' H' σ' ρ' → B' dx = some (.xd [("given", v)]) → Rep K cl B' v d → W (.ref (cl c)) (some dx) σ' H'
def tWS (K : PySem.W.Frag) (cl : Cl) (W : WX) (m : MW) : TS := fun E σ H => ∃ (H0 : HG) (B0 B : Hp) (ρ : Rho) (Po : Out → Prop) (Er : Rho → EK), Ext cl.tabs B0 H0.h B H ∧ Slots K cl H0 B H σ ρ ∧ m ρ Po Er ∧ (∀ out, Po out → Goal K cl H0 B0 B E out) ∧ ErrS K cl W H0 B0 B Er
section
variable {K : PySem.W.Frag} {cl : Cl} {W : WX} {H0 : HG} {B0 B B' H : Hp} {E : Ends} {Er : Rho → EK} {ρ : Rho} {σ : L2.St}
theorem ErrS.grow (h : ErrS K cl W H0 B0 B Er) (s : Same B B') : ErrS K cl W H0 B0 B' Er := fun ρ' c d e B2 H2 σ' dx v x s2 sl hd r => h ρ' c d e B2 H2 σ' dx v x (s.trans s2) sl hd r
theorem ErrS.at (h : ErrS K cl W H0 B0 B Er) (x : Ext cl.tabs B0 H0.h B H) (s : Slots K cl H0 B H σ ρ) : ErrAt K cl W σ B H (Er ρ) := fun c d e B2 H2 dx v x2 hd r => h ρ c d e B2 H2 σ dx v (x.trans x2) x2.bb (s.ext x2) hd r
end
section
variable {X : Cx} {cl : Cl} {K : PySem.W.Frag} {W : WX} {e : Expr} {st : Stmt} {rest : List Stmt} {g h : GW} {gs : GWx (List D)} {t : GWx Bool} {m n : MW} {pos : Pos}
def mwLift (m : M) : MW := fun ρ Po _ => wOpt (m ρ) Po
theorem ws_s {m : M} (hp : PS X st (tS X.K cl m)) : PS X st (tWS X.K cl W (mwLift m)) := ps_mono hp fun E σ H ⟨H0, B0, B, ρ, Po, Er, x, s, hm, q, _⟩ => by
  obtain ⟨o, e1, p⟩ := wOpt_some hm
  exact ⟨H0, B0, B, ρ, o, x, s, e1, q o p⟩
def mwNil : MW := fun ρ Po _ => Po (.nx ρ)
def mwSeq (m n : MW) : MW := fun ρ Po Er => m ρ (fun o => match o with
  | .nx ρ' => n ρ' Po Er
  | o => Po o) Er
theorem wss_nil : PSs X [] (tWS X.K cl W mwNil) := pss_mono pss_nil fun E σ H ⟨H0, B0, B, ρ, Po, Er, x, s, hm, q, _⟩ => q _ hm B H σ x (Same.refl _) s
theorem seq_ofW (E : Ends) (σ : L2.St) (H : Hp) (h : tWS K cl W (mwSeq m n) E σ H) : tSeq (tWS K cl W m) (tWS K cl W n) E σ H := by
  obtain ⟨H0, B0, B, ρ, Po, Er, x, s, hm, q, er⟩ := h
  refine ⟨H0, B0, B, ρ, _, Er, x, s, hm, fun o po => ?_, er⟩
  cases o with
  | nx ρ' => exact fun B' H' σ' x' s' z => ⟨H0, B0, B', ρ', Po, Er, x', z, po, fun out p => (q out p).grow s', er.grow s'⟩
  | rt d => exact q _ po
  | ro ds => exact q _ po
  | bk ρ' => exact q _ po
  | ct ρ' => exact q _ po
theorem wss_cons (a : PS X st (tWS X.K cl W m)) (b : PSs X rest (tWS X.K cl W n)) : PSs X (st :: rest) (tWS X.K cl W (mwSeq m n)) := pss_mono (pss_cons a b) seq_ofW
theorem wss_one (a : PS X st (tWS X.K cl W m)) : PSs X [st] (tWS X.K cl W m) := pss_one a
def mwRet (g : GW) : MW := fun ρ Po Er => g ρ (fun d => Po (.rt d)) (Er ρ)
theorem ws_ret (he : PE X e (tW X.K cl W g)) : PS X (.Return (some e) pos) (tWS X.K cl W (mwRet g)) := ps_mono (ps_ret he) fun E σ H ⟨H0, B0, B, ρ, Po, Er, x, s, hm, q, er⟩ =>
  ⟨H0, B, ρ, _, Er ρ, x.bh, s, hm, fun d pd B' H' v x' r => q _ pd B' H' v (x.trans x') r, er.at x s⟩
def mwIf (t : GWx Bool) (m n : MW) : MW := fun ρ Po Er => t ρ (fun b => if b = true then m ρ Po Er else n ρ Po Er) (Er ρ)
theorem ws_if {c : Expr} {a b : List Stmt} (hc : PT X c (tWt X.K cl W t)) (ha : PSs X a (tWS X.K cl W m)) (hb : PSs X b (tWS X.K cl W n)) : PS X (.If c a b pos) (tWS X.K cl W (mwIf t m n)) := ps_mono (ps_if hc ha hb) fun E σ H ⟨H0, B0, B, ρ, Po, Er, x, s, hm, q, er⟩ =>
  ⟨H0, B, ρ, _, Er ρ, x.bh, s, hm, (fun k pk B' H' x' => by
    cases k with
    | true => exact iteT ⟨H0, B0, B', ρ, Po, Er, x.trans x', s.ext x', pk, fun out p => (q out p).grow x'.bb, er.grow x'.bb⟩
    | false => exact iteF ⟨H0, B0, B', ρ, Po, Er, x.trans x', s.ext x', pk, fun out p => (q out p).grow x'.bb, er.grow x'.bb⟩), er.at x s⟩
def mwExpr (g : GW) : MW := fun ρ Po Er => g ρ (fun _ => Po (.nx ρ)) (Er ρ)
theorem ws_expr (he : PE X e (tW X.K cl W g)) (hs : swapsWith e none pos.line X.env = pure false := by rfl) : PS X (.Expr e pos) (tWS X.K cl W (mwExpr g)) := ps_mono (ps_expr he hs) fun E σ H ⟨H0, B0, B, ρ, Po, Er, x, s, hm, q, er⟩ =>
  ⟨H0, B, ρ, _, Er ρ, x.bh, s, hm, fun d pd B' H' v x' r => q _ pd B' H' σ (x.trans x') x'.bb (s.ext x'), er.at x s⟩
def mwSet (i : Nat) (g : GW) : MW := fun ρ Po Er => g ρ (fun d => Po (.nx (ρ.set i (.val d)))) (Er ρ)
theorem set_ofW {i : Nat} {t : TE} (ht : ∀ σ H Q, tW K cl W g σ H Q → t σ H Q) (E : Ends) (σ : L2.St) (H : Hp) (h : tWS K cl W (mwSet i g) E σ H) : tAsg t (L2.gName i) E σ H := by
  obtain ⟨H0, B0, B, ρ, Po, Er, x, s, hm, q, er⟩ := h
  exact ht _ _ _ ⟨H0, B, ρ, _, Er ρ, x.bh, s, hm, fun d pd B' H' v x' r => q _ pd B' H' _ (x.trans x') x'.bb ((s.ext x').setVal r), er.at x s⟩
theorem ws_set {i : Nat} (h : PS X st (tAsg (tW X.K cl W g) (L2.gName i))) : PS X st (tWS X.K cl W (mwSet i g)) := ps_mono h (set_ofW fun _ _ _ z => z)
theorem ws_setLc {i : Nat} {vs is : List Nat} {gi : GWx (List D)} {bind : D → Rho → Option Rho} {tt : GWx Bool} {te : GW} (hp : PS X st (tAsg (tLc (tIW X.K cl W gi) (tG X.K cl is bind) (tWt X.K cl noW tt) (tW X.K cl noW te) vs) (L2.gName i))) (hv : ∀ i ∈ is, i ∈ vs := by decide) : PS X st (tWS X.K cl W (mwSet i (wOf (wLcs gi bind tt te vs)))) := ps_mono hp (set_ofW (newW (lcN_of hv)))
/-- x = a new list, that is changed later -/
def mwOwn (i : Nat) (gs : GWx (List D)) : MW := fun ρ Po Er => gs ρ (fun ds => Po (.nx (ρ.set i (.own ds)))) (Er ρ)
theorem own_ofW {i : Nat} {t : TE} (ht : ∀ σ H Q, tNW K cl W gs σ H Q → t σ H Q) (E : Ends) (σ : L2.St) (H : Hp) (h : tWS K cl W (mwOwn i gs) E σ H) : tAsg t (L2.gName i) E σ H := by
  obtain ⟨H0, B0, B, ρ, Po, Er, x, s, hm, q, er⟩ := h
  refine ht _ _ _ ⟨H0, B, ρ, _, Er ρ, x.bh, s, hm, fun ds pd B' H' p vs x' h1 h2 h3 r => ?_, er.at x s⟩
  have s' := s.ext x'
  have xx := x.trans x'
  exact q _ pd B' _ _ xx x'.bb (s'.set ⟨p, vs, rfl, h1, h2, x.hh.free h3, r⟩ fun _ j t a _ e o f z => by
    cases z
    obtain ⟨u, hu, _⟩ := s.there e o f
    rw [h3] at hu
    cases hu)
theorem ws_own {i : Nat} (h : PS X st (tAsg (tNW X.K cl W gs) (L2.gName i))) : PS X st (tWS X.K cl W (mwOwn i gs)) := ps_mono h (own_ofW fun _ _ _ z => z)
theorem ws_ownLc {i : Nat} {vs is : List Nat} {gi : GWx (List D)} {bind : D → Rho → Option Rho} {tt : GWx Bool} {te : GW} (hp : PS X st (tAsg (tLc (tIW X.K cl W gi) (tG X.K cl is bind) (tWt X.K cl noW tt) (tW X.K cl noW te) vs) (L2.gName i))) (hv : ∀ i ∈ is, i ∈ vs := by decide) : PS X st (tWS X.K cl W (mwOwn i (wLcs gi bind tt te vs))) := ps_mono hp (own_ofW (lcN_of hv))
/-- x.append(e) -/
def mwApp (i : Nat) (g : GW) : MW := fun ρ Po Er => match ρ[i]? with
  | some (.own ds) => g ρ (fun d => ds.length < top ∧ Po (.nx (ρ.set i (.own (ds ++ [d]))))) (Er ρ)
  | _ => False
theorem ws_append {i : Nat} (h : PS X st (tDrop (tBM X.K "list" rAppend (tVar i) (tCons (tW X.K cl W g) tNil)))) : PS X st (tWS X.K cl W (mwApp i g)) := ps_mono h fun E σ H ⟨H0, B0, B, ρ, Po, Er, x, s, hm, q, er⟩ => by
  unfold mwApp at hm
  split at hm
  · rename_i ds e1
    obtain ⟨a, xs, h1, h2, h3, h4, h5⟩ := s.at_ i _ e1
    refine ⟨.ref a, h1, .inl ⟨rfl, xs, SqL.of h2⟩, ⟨H0, B, ρ, _, Er ρ, x.bh, s, hm, fun d pd B' H' v x' r => ?_, er.at x s⟩⟩
    have xx := x.trans x'
    have s' := s.ext x'
    obtain ⟨a', xs', g1, g2, g3, g4, g5⟩ := s'.at_ i _ e1
    have ea : a' = a := by rw [h1] at g1; cases g1; rfl
    subst ea
    refine ⟨a', xs', v, rfl, rfl, g2, by rw [g5.len]; exact Nat.lt_of_lt_of_le pd.1 (top_le (Nat.le_refl _)), ?_⟩
    exact q _ pd.2 B' _ σ (ext_own xx g3 g4 g2) x'.bb (slots_own s' e1 rfl h1 ⟨a', _, rfl, upd_same, g3, g4, g5.append (.one r)⟩ rfl)
  · exact hm.elim
/-! for, while -/
def wForRun (bind : D → Rho → Option Rho) (body : MW) : Rho → List D → (Out → Prop) → (Rho → EK) → Prop
  | ρ, [], Po, _ => Po (.nx ρ)
  | ρ, d :: ds, Po, Er => ∃ ρ1, bind d ρ = some ρ1 ∧ body ρ1 (fun o => match o with
    | .nx ρ2 => wForRun bind body ρ2 ds Po Er
    | .ct ρ2 => wForRun bind body ρ2 ds Po Er
    | .bk ρ2 => Po (.nx ρ2)
    | .rt d => Po (.rt d)
    | .ro ds => Po (.ro ds)) Er
def mwFor (gi : GWx (List D)) (bind : D → Rho → Option Rho) (body : MW) : MW := fun ρ Po Er => gi ρ (fun ds => wForRun bind body ρ ds Po Er) (Er ρ)
theorem ws_for {tg iter : Expr} {body : List Stmt} {gi : GWx (List D)} {is : List Nat} {bind : D → Rho → Option Rho} (hp : PassesOwn (model X.prog X.w) X.A X.env X.xe) (hc : X.calm = true) (hi : PI X tg iter (tIW X.K cl W gi)) (hg : PG X tg (tG X.K cl is bind)) (hb : PSs X body (tWS X.K cl W m))
    (hs : ∀ x, foldedSetIterable iter X.env x = pure x := by intro _; rfl) : PS X (.For tg iter body [] pos) (tWS X.K cl W (mwFor gi bind m)) := ps_mono (ps_for hp hc hi hg hb hs) fun E σ H ⟨H0, B0, B, ρ, Po, Er, x, s, hm, q, er⟩ => by
  refine ⟨H0, B, ρ, _, Er ρ, x.bh, s, hm, fun ds pd J B1 H1 x1 wk => ?_, er.at x s⟩
  refine ⟨fun i k σ H => k = ds.length - i ∧ i ≤ ds.length ∧ ∃ B2 ρ2, Ext cl.tabs B0 H0.h B2 H ∧ Same B1 B2 ∧ Slots X.K cl H0 B2 H σ ρ2 ∧ wForRun bind m ρ2 (ds.drop i) Po Er, ⟨_, rfl, Nat.zero_le _, B1, ρ, x.trans x1, Same.refl _, s.ext x1, pd⟩, ?_⟩
  rintro i k σ2 H2 ⟨rfl, hi, B2, ρ2, x2, s12, sl, hr⟩
  have wki := wk B2 H2 i s12 x2.bh
  by_cases hlt : i < ds.length
  · obtain ⟨hgo, hy⟩ := wki.1 hlt
    refine .inr ⟨hgo, fun σ' H' => ∃ B' ρ', Ext cl.tabs B0 H0.h B' H' ∧ Same B1 B' ∧ Slots X.K cl H0 B' H' σ' ρ' ∧ wForRun bind m ρ' (ds.drop (i + 1)) Po Er, fun σ' H' w => ⟨_, ?_, rfl, hlt, w⟩, fun v H3 hv => ?_⟩
    · omega
    · obtain ⟨B3, d, x3, hd, rv⟩ := hy v H3 hv
      have x03 := x2.trans x3
      rw [List.drop_eq_getElem_cons hlt] at hr
      rw [List.getElem?_eq_getElem hlt] at hd
      cases hd
      obtain ⟨ρ3, e2, hr⟩ := hr
      refine ⟨H0, B3, ρ2, _, ρ3, x03.bh, sl.ext x3, rv, e2, fun σ3 l3 f3 s3 => ?_⟩
      refine ⟨H0, B0, B3, ρ3, _, Er, x03, s3, hr, fun o po => ?_, er.grow (x1.bb.trans (s12.trans x3.bb))⟩
      cases o with
      | nx ρ4 => exact fun B4 H4 σ4 x4 s34 sl4 => ⟨B4, ρ4, x4, (s12.trans x3.bb).trans s34, sl4, po⟩
      | ct ρ4 => exact fun B4 H4 σ4 x4 s34 sl4 => ⟨B4, ρ4, x4, (s12.trans x3.bb).trans s34, sl4, po⟩
      | bk ρ4 => exact fun B4 H4 σ4 x4 s34 sl4 => q _ po B4 H4 σ4 x4 ((x1.bb.trans (s12.trans x3.bb)).trans s34) sl4
      | rt d => exact q _ po
      | ro ds => exact q _ po
  · have e : i = ds.length := by omega
    subst e
    rw [List.drop_length] at hr
    exact .inl ⟨wki.2 (Nat.le_refl _), q _ hr B2 H2 σ2 x2 (x1.bb.trans s12) sl⟩
def wWhile (t : GWx Bool) (body : MW) : Nat → MW
  | 0, _, _, _ => False
  | n + 1, ρ, Po, Er => t ρ (fun b => if b = true then body ρ (fun o => match o with
    | .nx ρ2 => wWhile t body n ρ2 Po Er
    | .ct ρ2 => wWhile t body n ρ2 Po Er
    | .bk ρ2 => Po (.nx ρ2)
    | .rt d => Po (.rt d)
    | .ro ds => Po (.ro ds)) Er else Po (.nx ρ)) (Er ρ)
theorem ws_while {c : Expr} {body : List Stmt} (n : Nat) (hp : PassesOwn (model X.prog X.w) X.A X.env X.xe) (hc : PT X c (tWt X.K cl W t)) (hb : PSs X body (tWS X.K cl W m)) : PS X (.While c body [] pos) (tWS X.K cl W (wWhile t m n)) := ps_mono (ps_while hp hc hb) fun E σ H ⟨H0, B0, B, ρ, Po, Er, x, s, hm, q, er⟩ => by
  refine ⟨fun k σ H => ∃ B2 ρ2, Ext cl.tabs B0 H0.h B2 H ∧ Same B B2 ∧ Slots X.K cl H0 B2 H σ ρ2 ∧ wWhile t m k ρ2 Po Er, ⟨n, B, ρ, x, Same.refl _, s, hm⟩, ?_⟩
  rintro k σ2 H2 ⟨B2, ρ2, x2, s12, sl, hr⟩
  cases k with
  | zero => exact hr.elim
  | succ k =>
    refine ⟨H0, B2, ρ2, _, Er ρ2, x2.bh, sl, hr, fun b pb B3 H3 x3 => ?_, (er.grow s12).at x2 sl⟩
    have x03 := x2.trans x3
    cases b with
    | false => exact iteF (q _ pb B3 H3 σ2 x03 (s12.trans x3.bb) (sl.ext x3))
    | true =>
      refine iteT ⟨fun σ' H' => ∃ B' ρ', Ext cl.tabs B0 H0.h B' H' ∧ Same B B' ∧ Slots X.K cl H0 B' H' σ' ρ' ∧ wWhile t m k ρ' Po Er, fun σ' H' w => ⟨k, Nat.lt_succ_self _, w⟩, ?_⟩
      refine ⟨H0, B0, B3, ρ2, _, Er, x03, sl.ext x3, pb, fun o po => ?_, er.grow (s12.trans x3.bb)⟩
      cases o with
      | nx ρ4 => exact fun B4 H4 σ4 x4 s34 sl4 => ⟨B4, ρ4, x4, (s12.trans x3.bb).trans s34, sl4, po⟩
      | ct ρ4 => exact fun B4 H4 σ4 x4 s34 sl4 => ⟨B4, ρ4, x4, (s12.trans x3.bb).trans s34, sl4, po⟩
      | bk ρ4 => exact fun B4 H4 σ4 x4 s34 sl4 => q _ po B4 H4 σ4 x4 ((s12.trans x3.bb).trans s34) sl4
      | rt d => exact q _ po
      | ro ds => exact q _ po
/-! ### a def -/
def wFun (k n : Nat) (body : MW) (ds : List D) (Po : D → Prop) (Er : EK) : Prop := ds.length = k ∧ body (ds.map SV.val ++ List.replicate n .un) (fun o => match o with
  | .rt d => Po d
  | .nx _ => Po .non
  | _ => False) fun _ => Er
theorem spN_len {k n : Nat} {body : MW} (vs : List V) (H : Hp) (Q : VK) (E : XK) (h : spN K cl (wFun k n body) vs H Q E) : vs.length = k := by
  obtain ⟨B, ds, Po, hB, ht, r, hm, q⟩ := h
  rw [r.len]; exact hm.1
theorem spX_len {k n : Nat} {body : MW} (vs : List V) (H : Hp) (Q : VK) (E : XK) (h : spX K cl (wFun k n body) vs H Q E) : vs.length = k := by
  obtain ⟨B, ds, Po, Er, hB, ht, r, hm, q⟩ := h
  rw [r.len]; exact hm.1
theorem wfun_of {k n : Nat} {body : MW} {N : List Str} (hN : N.length = k + n) {vs : List V} {H : Hp} {Q : VK} {E : XK} (h : spN K cl (wFun k n body) vs H Q E) : tWS K cl noW body { nx := fun _ H' => Q .non H', rt := Q } (L2.start N vs) H := by
  obtain ⟨B, ds, Po, hB, ht, r, ⟨hl, hm⟩, q⟩ := h
  have hs : L2.start N vs = vs.map some ++ List.replicate n none := by
    have hn : N.length - vs.length = n := by rw [r.len]; omega
    unfold L2.start
    rw [hn]
  rw [hs]
  refine ⟨⟨H, 0⟩, B, B, _, _, _, Ext.refl hB, slots_start n r ht 0, hm, fun o po => ?_, fun _ _ _ z => z.elim⟩
  cases o with
  | nx ρ => exact fun B' H' σ' x _ _ => q _ po B' H' _ x .non
  | rt d => exact fun B' H' v x rv => q _ po B' H' v x rv
  | _ => exact po.elim
theorem wfun_ofX {k n : Nat} {body : MW} {N : List Str} (hN : N.length = k + n) {vs : List V} {H : Hp} {Q : VK} {E : XK} (h : spX K cl (wFun k n body) vs H Q E) : tWS K cl (fun c d _ H' => E c d H') body { nx := fun _ H' => Q .non H', rt := Q } (L2.start N vs) H := by
  obtain ⟨B, ds, Po, Er, hB, ht, r, ⟨hl, hm⟩, q, er⟩ := h
  have hs : L2.start N vs = vs.map some ++ List.replicate n none := by
    have hn : N.length - vs.length = n := by rw [r.len]; omega
    unfold L2.start
    rw [hn]
  rw [hs]
  refine ⟨⟨H, 0⟩, B, B, _, _, _, Ext.refl hB, slots_start n r ht 0, hm, fun o po => ?_, fun _ c d ec B' H' _ dx v x _ _ hd rd => er c d ec B' H' dx v x hd rd⟩
  cases o with
  | nx ρ => exact fun B' H' σ' x _ _ => q _ po B' H' _ x .non
  | rt d => exact fun B' H' v x rv => q _ po B' H' v x rv
  | _ => exact po.elim
end
end Dl
set_option maxRecDepth 100000
set_option maxHeartbeats 4000000
/-! set comprehensions of ints, with one clause and with two -/
namespace Dl
open PySem PySem.Spec PyProof.Rows L2
section
variable {prog : Program} {w : World} {A : Around} {R : Result → Shared → Prop} {s : Shared} {ex t0 i0 t1 i1 : Expr} {f0 f1 : List Expr} {sc : Scope} {pos : Pos} {it : Value} {a : Addr} {env : Env}
theorem sturn1 : compTurn (.SetComp ex [⟨t0, i0, f0, 0⟩] sc pos) 0 it (.ref a) env = (do
    standAt i0.pos
    match ← pyNext it with
    | none => pure (.done .next)
    | some v =>
      letOwnedTupleGo t0 it v
      assign t0 env v
      let mut ok := true
      for c in f0 do
        if ok then ok ← isTrue c env (eval c env)
      if ok then
        (do
          let v ← eval ex env
          standAt ex.pos
          let _ ← call (.builtin "set.add") [.ref a, v])
      again (.compLoop (.SetComp ex [⟨t0, i0, f0, 0⟩] sc pos) 0 it (.ref a) env)) := by rfl
theorem sloop1 (J : Nat → Shared → Prop) (turn : ∀ n s, J n s → wpAny (model prog w) A (pyNext it) (fun r s1 => match r with
      | none => R (.ok .next) s1
      | some v => wpAny (model prog w) A (letOwnedTupleGo t0 it v) (fun _ s2 => wpAny (model prog w) A (assign t0 env v) (fun _ s3 => wpAny (model prog w) A (testsOf f0 env) (fun ok s4 =>
          if ok = true then wpAny (model prog w) A (eval ex env) (fun kv s5 => wpAny (model prog w) A (call (.builtin "set.add") [.ref a, kv]) (fun _ s7 => ∃ m, m < n ∧ J m s7) (fun _ _ => False) s5) (fun _ _ => False) s4
          else ∃ m, m < n ∧ J m s4) (fun _ _ => False) s3) (fun _ _ => False) s2) (fun _ _ => False) s1) (fun _ _ => False) s) (n : Nat) (h : J n s) :
    codeAny (model prog w) A (.compLoop (.SetComp ex [⟨t0, i0, f0, 0⟩] sc pos) 0 it (.ref a) env) R s := by
  have no : ∀ {α : Type} {m : Sem α} {Q : α → Shared → Prop} {E : Value → Shared → Prop} {s : Shared}, wpAny (model prog w) A m Q (fun _ _ => False) s → wpAny (model prog w) A m Q E s := fun h => thnF h fun _ _ z => z
  refine codeAny_loop rfl J (fun n s hJ => ?_) n h
  show wpAny _ A ((compTurn _ 0 it (.ref a) env).onRaise (fun x => do noteFrame x env; theTreesLotGoes x)) _ _ s
  refine wpAny_noted ?_
  rw [sturn1]
  refine wpAny_bind (wpAny_standAt (wpAny_bind (no (thnF (turn n s hJ) fun r s1 h1 => ?_))))
  cases r with
  | none => exact wpAny_pure h1
  | some v =>
    refine wpAny_bind (no (thnF h1 fun _ s2 h2 => wpAny_bind (no (thnF h2 fun _ s3 h3 => wpAny_bind (no (thnF h3 fun ok s4 h4 => ?_))))))
    cases ok with
    | false => exact wpAny_pure ⟨rfl, h4⟩
    | true =>
      rw [if_pos rfl] at h4
      exact wpAny_bind (wpAny_bind (no (thnF h4 fun kv s5 h5 => wpAny_bind (wpAny_standAt (wpAny_bind (no (thnF h5 fun _ s7 h7 => wpAny_pure (wpAny_pure ⟨rfl, h7⟩))))))))
theorem sturn2_out : compTurn (.SetComp ex [⟨t0, i0, f0, 0⟩, ⟨t1, i1, f1, 0⟩] sc pos) 0 it (.ref a) env = (do
    standAt i0.pos
    match ← pyNext it with
    | none => pure (.done .next)
    | some v =>
      letOwnedTupleGo t0 it v
      assign t0 env v
      let mut ok := true
      for c in f0 do
        if ok then ok ← isTrue c env (eval c env)
      if ok then
        let x ← eval i1 env
        standAt i1.pos
        let x ← foldedSetIterable i1 env x
        let _ ← runOwn (.compStart (.SetComp ex [⟨t0, i0, f0, 0⟩, ⟨t1, i1, f1, 0⟩] sc pos) 1 (← holding [x] (pyIter x)) (.ref a) env) env
      again (.compLoop (.SetComp ex [⟨t0, i0, f0, 0⟩, ⟨t1, i1, f1, 0⟩] sc pos) 0 it (.ref a) env)) := by rfl
theorem sturn2_in : compTurn (.SetComp ex [⟨t0, i0, f0, 0⟩, ⟨t1, i1, f1, 0⟩] sc pos) 1 it (.ref a) env = (do
    standAt i1.pos
    match ← pyNext it with
    | none => pure (.done .next)
    | some v =>
      letOwnedTupleGo t1 it v
      assign t1 env v
      let mut ok := true
      for c in f1 do
        if ok then ok ← isTrue c env (eval c env)
      if ok then
        (do
          let v ← eval ex env
          standAt ex.pos
          let _ ← call (.builtin "set.add") [.ref a, v])
      again (.compLoop (.SetComp ex [⟨t0, i0, f0, 0⟩, ⟨t1, i1, f1, 0⟩] sc pos) 1 it (.ref a) env)) := by rfl
/-- the outer loop, by an invariant and its measure -/
theorem sloop2_out (hs : ∀ x, foldedSetIterable i1 env x = pure x) (J : Nat → Shared → Prop) (turn : ∀ n s, J n s → wpAny (model prog w) A (pyNext it) (fun r s1 => match r with
      | none => R (.ok .next) s1
      | some v => wpAny (model prog w) A (letOwnedTupleGo t0 it v) (fun _ s2 => wpAny (model prog w) A (assign t0 env v) (fun _ s3 => wpAny (model prog w) A (testsOf f0 env) (fun ok s4 =>
          if ok = true then wpAny (model prog w) A (eval i1 env) (fun x s5 => wpAny (model prog w) A (pyIter x) (fun y s6 => codeAny (model prog w) A (.compStart (.SetComp ex [⟨t0, i0, f0, 0⟩, ⟨t1, i1, f1, 0⟩] sc pos) 1 y (.ref a) env) (fun r s' => match r with
              | .ok _ => ∃ m, m < n ∧ J m s'
              | .error _ => False) s6) (fun _ _ => False) s5) (fun _ _ => False) s4
          else ∃ m, m < n ∧ J m s4) (fun _ _ => False) s3) (fun _ _ => False) s2) (fun _ _ => False) s1) (fun _ _ => False) s) (n : Nat) (h : J n s) :
    codeAny (model prog w) A (.compLoop (.SetComp ex [⟨t0, i0, f0, 0⟩, ⟨t1, i1, f1, 0⟩] sc pos) 0 it (.ref a) env) R s := by
  have no : ∀ {α : Type} {m : Sem α} {Q : α → Shared → Prop} {E : Value → Shared → Prop} {s : Shared}, wpAny (model prog w) A m Q (fun _ _ => False) s → wpAny (model prog w) A m Q E s := fun h => thnF h fun _ _ z => z
  refine codeAny_loop rfl J (fun n s hJ => ?_) n h
  show wpAny _ A ((compTurn _ 0 it (.ref a) env).onRaise (fun x => do noteFrame x env; theTreesLotGoes x)) _ _ s
  refine wpAny_noted ?_
  rw [sturn2_out]
  refine wpAny_bind (wpAny_standAt (wpAny_bind (no (thnF (turn n s hJ) fun r s1 h1 => ?_))))
  cases r with
  | none => exact wpAny_pure h1
  | some v =>
    refine wpAny_bind (no (thnF h1 fun _ s2 h2 => wpAny_bind (no (thnF h2 fun _ s3 h3 => wpAny_bind (no (thnF h3 fun ok s4 h4 => ?_))))))
    cases ok with
    | false => exact wpAny_pure ⟨rfl, h4⟩
    | true =>
      rw [if_pos rfl] at h4
      refine wpAny_bind (no (thnF h4 fun x s5 h5 => wpAny_bind (wpAny_standAt (wpAny_bind (wpAny_of_eq (hs x) (wpAny_bind (wpAny_holding (no (thnF h5 fun y s6 h6 => ?_)))))))))
      refine wpAny_bind (wpAny_runOwn ?_)
      rw [Around.mark_none]
      refine codeAny_mono h6 fun r s' hr => ?_
      cases r with
      | error e => exact hr.elim
      | ok f =>
        first
          | exact wpAny_pure ⟨rfl, hr⟩
          | exact wpAny_bind (wpAny_pure (wpAny_pure ⟨rfl, hr⟩))
/-- the inner loop -/
theorem sloop2_in (J : Nat → Shared → Prop) (turn : ∀ n s, J n s → wpAny (model prog w) A (pyNext it) (fun r s1 => match r with
      | none => R (.ok .next) s1
      | some v => wpAny (model prog w) A (letOwnedTupleGo t1 it v) (fun _ s2 => wpAny (model prog w) A (assign t1 env v) (fun _ s3 => wpAny (model prog w) A (testsOf f1 env) (fun ok s4 =>
          if ok = true then wpAny (model prog w) A (eval ex env) (fun kv s5 => wpAny (model prog w) A (call (.builtin "set.add") [.ref a, kv]) (fun _ s7 => ∃ m, m < n ∧ J m s7) (fun _ _ => False) s5) (fun _ _ => False) s4
          else ∃ m, m < n ∧ J m s4) (fun _ _ => False) s3) (fun _ _ => False) s2) (fun _ _ => False) s1) (fun _ _ => False) s) (n : Nat) (h : J n s) :
    codeAny (model prog w) A (.compLoop (.SetComp ex [⟨t0, i0, f0, 0⟩, ⟨t1, i1, f1, 0⟩] sc pos) 1 it (.ref a) env) R s := by
  have no : ∀ {α : Type} {m : Sem α} {Q : α → Shared → Prop} {E : Value → Shared → Prop} {s : Shared}, wpAny (model prog w) A m Q (fun _ _ => False) s → wpAny (model prog w) A m Q E s := fun h => thnF h fun _ _ z => z
  refine codeAny_loop rfl J (fun n s hJ => ?_) n h
  show wpAny _ A ((compTurn _ 1 it (.ref a) env).onRaise (fun x => do noteFrame x env; theTreesLotGoes x)) _ _ s
  refine wpAny_noted ?_
  rw [sturn2_in]
  refine wpAny_bind (wpAny_standAt (wpAny_bind (no (thnF (turn n s hJ) fun r s1 h1 => ?_))))
  cases r with
  | none => exact wpAny_pure h1
  | some v =>
    refine wpAny_bind (no (thnF h1 fun _ s2 h2 => wpAny_bind (no (thnF h2 fun _ s3 h3 => wpAny_bind (no (thnF h3 fun ok s4 h4 => ?_))))))
    cases ok with
    | false => exact wpAny_pure ⟨rfl, h4⟩
    | true =>
      rw [if_pos rfl] at h4
      exact wpAny_bind (wpAny_bind (no (thnF h4 fun kv s5 h5 => wpAny_bind (wpAny_standAt (wpAny_bind (no (thnF h5 fun _ s7 h7 => wpAny_pure (wpAny_pure ⟨rfl, h7⟩))))))))
theorem sstart2_in (h0 : codeAny (model prog w) A (.compLoop (.SetComp ex [⟨t0, i0, f0, 0⟩, ⟨t1, i1, f1, 0⟩] sc pos) 1 it (.ref a) env) R s)
    (h : wpAny (model prog w) A (pyIter it) (fun y s' => codeAny (model prog w) A (.compLoop (.SetComp ex [⟨t0, i0, f0, 0⟩, ⟨t1, i1, f1, 0⟩] sc pos) 1 y (.ref a) env) R s') (notedBy (model prog w) A env fun x s' => R (.error x) s') s) :
    codeAny (model prog w) A (.compStart (.SetComp ex [⟨t0, i0, f0, 0⟩, ⟨t1, i1, f1, 0⟩] sc pos) 1 it (.ref a) env) R s := by
  refine codeAny_of_tree ?_
  show wpAny _ A ((compStart _ 1 it (.ref a) env).onRaise (fun x => do noteFrame x env; standAt theWindowsPlace)) _ _ s
  refine wpAny_notedAt ?_
  unfold compStart
  refine wpAny_bind (m := ask) (wpAny_askSetting (wpAny_ite ?_))
  split
  · first
      | exact wpAny_pure ⟨rfl, h0⟩
      | exact wpAny_bind (wpAny_pure (wpAny_pure ⟨rfl, h0⟩))
  · refine wpAny_bind (wpAny_rule ?_)
    refine wpAny_bind (m := standAt i1.pos) (wpAny_standAt (wpAny_bind (wpAny_mono h (fun y s' h' => wpAny_pure ⟨rfl, h'⟩) fun _ _ z => z)))
end
/-- y, an int, is put into the set at D -/
def SAdd (w : World) (H : Hp) (D : Addr) (y : V) (q : Hp → Prop) : Prop := ∃ (k : Int) (S : Int → Bool) (n : Nat), y = .int k ∧ H D = some (SetO w D S n) ∧ n + 1 < scanBound ∧ q (upd H D (SetO w D (fun j => S j || decide (j = k)) (if S k = true then n else n + 1)))
theorem sadd_ok {X : Cx} {pins : List (Addr × Obj)} {σ : L2.St} {H : Hp} {s : Shared} {E : Value → Shared → Prop} {D : Addr} {y : V} {u : Value} {q : Hp → Prop} {Q : Value → Shared → Prop} (I : Inv X pins σ H s) (r : RelV y u) (h : SAdd X.w H D y q)
    (go : ∀ s' H', Inv X pins σ H' s' → q H' → Q .none s') : wpAny (model X.prog X.w) X.A (call (.builtin "set.add") [.ref D, u]) Q E s := by
  obtain ⟨k, S, n, rfl, hD, room, hq⟩ := h
  obtain ⟨tk, rfl⟩ := r
  have R := setO_get I hD
  refine setR_add R room fun h' sb new => ?_
  have he : ∃ u, h'.get? D = some u := by
    have ⟨o, _, _, _, ho, _⟩ := new
    exact ⟨o, ho⟩
  exact go _ _ (I.write (e := D) (t' := s.toks + 1) (by rw [hD]; trivial) (.inl rfl) (fun b u hb hu => (sb.2 b hb).trans hu) he (setO_new new)) hq
section
variable {X : Cx}
def tScP (w : World) (wi : TI) (g : TG) (tt : TT) (te : TE) (vs : List Nat) : TE := fun σ H Q => wi σ H fun J H1 => ∀ D, H1 D = none → ∃ W : Nat → Nat → Hp → Prop, (∃ m, W 0 m (upd H1 D (SetO w D (fun _ => false) 0))) ∧ ∀ i m H, W i m H →
  (J.stop i H ∧ Q (.ref D) H) ∨ (J.go i H ∧ ∃ Nx : Hp → Prop, (∀ H', Nx H' → ∃ m', m' < m ∧ W (i + 1) m' H') ∧ ∀ x H', J.yld i H x H' → g x (wipe σ vs) H' fun σ2 H2 => wipe σ2 vs = wipe σ vs ∧ tt σ2 H2 fun b H3 =>
    if b = true then te σ2 H3 fun y H4 => SAdd w H4 D y fun H6 => Nx H6 else Nx H3)
def tSc2 (w : World) (wi : TI) (g : TG) (tt : TT) (wi1 : TI) (g1 : TG) (tt1 : TT) (te : TE) (vs vs1 : List Nat) : TE := fun σ H Q => wi σ H fun J H1 => ∀ D, H1 D = none → ∃ W : Nat → Nat → Hp → Prop, (∃ m, W 0 m (upd H1 D (SetO w D (fun _ => false) 0))) ∧ ∀ i m H, W i m H →
  (J.stop i H ∧ Q (.ref D) H) ∨ (J.go i H ∧ ∃ Nx : Hp → Prop, (∀ H', Nx H' → ∃ m', m' < m ∧ W (i + 1) m' H') ∧ ∀ x H', J.yld i H x H' → g x (wipe σ vs) H' fun σ2 H2 => wipe σ2 vs = wipe σ vs ∧ tt σ2 H2 fun b H3 =>
    if b = true then wi1 σ2 H3 fun J1 H4 => ∃ W1 : Nat → Nat → Hp → Prop, (∃ m, W1 0 m H4) ∧ ∀ j k H, W1 j k H →
      (J1.stop j H ∧ Nx H) ∨ (J1.go j H ∧ ∃ Nx1 : Hp → Prop, (∀ H', Nx1 H' → ∃ k', k' < k ∧ W1 (j + 1) k' H') ∧ ∀ x H', J1.yld j H x H' → g1 x (wipe σ2 vs1) H' fun σ3 H5 => wipe σ3 vs1 = wipe σ2 vs1 ∧ tt1 σ3 H5 fun b H6 =>
        if b = true then te σ3 H6 fun y H7 => SAdd w H7 D y fun H9 => Nx1 H9 else Nx1 H6)
    else Nx H3)
variable {ex tg iter tg1 iter1 : Expr} {ifs ifs1 : List Expr} {scope : Scope} {own : List (Str × Nat)} {vs1 : List Nat} {pos : Pos} {wi wi1 : TI} {g g1 : TG} {tt tt1 : TT} {te : TE}
/-- a dict comprehension, entered: `loop` is what is to be shown of its first clause's loop -/
theorem sc_enter {rest : List Comprehension} {t : TE} {L : It → Addr → L2.St → Hp → VK → Prop} (hN : X.N.Nodup) (hi : PI X tg iter wi) (ok : BlkOk X.N X.env.scope scope own) (hs : ∀ x, foldedSetIterable iter X.env x = pure x)
    (ht : ∀ σ H Q, t σ H Q → wi σ H fun J H1 => ∀ D, H1 D = none → L J D σ (upd H1 D (SetO X.w D (fun _ => false) 0)) Q)
    (loop : ∀ (σ : L2.St) (Q : VK) (D : Addr) (H3 : Hp) (s3 s4 : Shared) (C : Addr) (cl : List (Str × Addr)) (it : Addr) (fp : List Addr) (tn : Nat → Heap → Prop) (J : It) (R : Result → Shared → Prop),
      Inv (X.blk s3 H3 scope (compEnvC scope cl C X.env) fp) [] (wipe σ (List.map (fun p : Str × Nat => p.2) own)) H3 s4 → Turn X.prog X.w X.K tg J fp it tn → tn 0 s4.heap → (∀ b ∈ fp, H3 b = none) → L J D σ H3 Q →
      (∀ s' H', Inv (X.blk s3 H3 scope (compEnvC scope cl C X.env) fp) [] (wipe σ (List.map (fun p : Str × Nat => p.2) own)) H' s' → Q (.ref D) H' → R (.ok .next) s') →
      codeAny (model X.prog X.w) X.A (.compLoop (.SetComp ex (⟨tg, iter, ifs, 0⟩ :: rest) scope pos) 0 (.ref it) (.ref D) (compEnvC scope cl C X.env)) R s4) :
    PE X (.SetComp ex (⟨tg, iter, ifs, 0⟩ :: rest) scope pos) t := by
  refine ⟨fun pins s σ H Q I h => ?_⟩
  rw [arm_eval_SetComp]
  have capt : ∀ y ∈ scope.names, y.2 = .free → ∃ c, X.env.cells.lookup y.1 = some c := fun y hy e => (ok.free y hy e).elim (fun k => I.ok.has _ (.inl k)) fun k => I.ok.has _ (.inr k)
  refine wpAny_comprehension_free (use := none) rfl hs (closure_ok capt) ok.kind (fun y hy e => (ok.uniq y hy).trans (by rw [e])) (thn (hi.run pins s σ H _ I (ht σ H Q h)) fun xv s1 hx => thn hx fun itv s2 h2 => ?_)
  obtain ⟨it, fp, tn, J, H2, rfl, I2, T, st2, f2, q⟩ := h2
  refine PpSet.newSet_ok (newEnv_comp ?_)
  have nD : H2 s2.heap.objs.size = none := I2.hok.fresh (Nat.le_refl _)
  have IA : Inv X pins σ (upd H2 s2.heap.objs.size (SetO X.w s2.heap.objs.size (fun _ => false) 0)) { s2 with heap := s2.heap.push { cls := .type "set", dict := none, data := .set #[] 0 (.fresh 0 0 (!X.w.params.followText "set-order")) } } := I2.laid (t' := s2.toks) (fun b o z => Heap.get?_push_of_some _ z) (Nat.le_refl _) (setO_new (setR_fresh X.w))
  have old : ∀ b ∈ fp, b < s2.heap.objs.size := fun b hb => let ⟨_, z, _⟩ := T.obj _ _ st2 b hb; Heap.lt_size z
  have big : (s2.heap.push { cls := .type "set", dict := none, data := .set #[] 0 (.fresh 0 0 (!X.w.params.followText "set-order")) }).objs.size = s2.heap.objs.size + 1 := Heap.size_push ..
  have fA : ∀ b ∈ fp, FpOk X pins (upd H2 s2.heap.objs.size (SetO X.w s2.heap.objs.size (fun _ => false) 0)) b ∧ b < (s2.heap.push { cls := .type "set", dict := none, data := .set #[] 0 (.fresh 0 0 (!X.w.params.followText "set-order")) }).objs.size := fun b hb => by
    refine ⟨⟨?_, (f2 b hb).2⟩, by rw [big]; exact Nat.lt_succ_of_lt (old b hb)⟩
    rw [upd_ne (Nat.ne_of_lt (old b hb))]
    exact (f2 b hb).1
  have IB := block_start IA ok hN fA
  have stA : tn 0 (s2.heap.push { cls := .type "set", dict := none, data := .set #[] 0 (.fresh 0 0 (!X.w.params.followText "set-order")) }) := T.keep _ _ _ st2 fun b _ o z => Heap.get?_push_of_some _ z
  have run := loop σ Q s2.heap.objs.size (upd H2 s2.heap.objs.size (SetO X.w s2.heap.objs.size (fun _ => false) 0)) _ _ (s2.heap.push { cls := .type "set", dict := none, data := .set #[] 0 (.fresh 0 0 (!X.w.params.followText "set-order")) }).objs.size _ it fp tn J
    (compPost (model X.prog X.w) X.A X.xe none (EP X pins σ Q) (.ref s2.heap.objs.size) (s2.heap.push { cls := .type "set", dict := none, data := .set #[] 0 (.fresh 0 0 (!X.w.params.followText "set-order")) }).objs.size) IB T (T.keep _ _ _ stA fun b _ o z => pushCells_keeps _ _ _ _ (Heap.get?_push_of_some _ z)) (fun b hb => (fA b hb).1.1) (q _ nD) fun s' H' I' hq => ?_
  · exact PpSet.codeAny_compStart_set run (T.self X.A 0 _ _ _ (T.keep _ _ _ stA fun b _ o z => pushCells_keeps _ _ _ _ (Heap.get?_push_of_some _ z)) run)
  · -- back among the def's own names
    have IC : Inv X pins σ H' s' := IA.call' (ch := fp) I'.os I'.base I'.hok I'.bare fun b hb => ⟨(fA b hb).1.2.2.2.1, (fA b hb).1.2.1, (fA b hb).1.2.2.2.2.1, (fA b hb).1.2.2.2.2.2⟩
    obtain ⟨m, hn, _⟩ := I'.loc
    refine ⟨m, hn, fun h'' sb => ?_⟩
    obtain ⟨a0, a1, a2, a3, a4, a5⟩ := IA.fpOk (H' := H') (Nat.le_refl _) I'.free
    exact ⟨.ref _, H', IC.turned (t' := s'.toks) (fun b o hb z => (sb.2 b hb).trans z) a0 a1 a3 a4 a5, rfl, hq⟩
theorem pe_scP (hc : X.calm = true) (hN : X.N.Nodup) (hi : PI X tg iter wi) (ok : BlkOk X.N X.env.scope scope own) (hg : InBlk X scope fun Y => PG Y tg g) (ht : InBlk X scope fun Y => PTs Y ifs tt)
    (he : InBlk X scope fun Y => PE Y ex te) (hs : ∀ x, foldedSetIterable iter X.env x = pure x := by intro _; rfl) : PE X (.SetComp ex [⟨tg, iter, ifs, 0⟩] scope pos) (tScP X.w wi g tt te (List.map (fun p : Str × Nat => p.2) own)) := by
  refine sc_enter (L := fun J D σ H1 Q => ∃ W : Nat → Nat → Hp → Prop, (∃ m, W 0 m H1) ∧ ∀ i m H, W i m H →
    (J.stop i H ∧ Q (.ref D) H) ∨ (J.go i H ∧ ∃ Nx : Hp → Prop, (∀ H', Nx H' → ∃ m', m' < m ∧ W (i + 1) m' H') ∧ ∀ x H', J.yld i H x H' → g x (wipe σ (List.map (fun p : Str × Nat => p.2) own)) H' fun σ2 H2 => wipe σ2 (List.map (fun p : Str × Nat => p.2) own) = wipe σ (List.map (fun p : Str × Nat => p.2) own) ∧ tt σ2 H2 fun b H3 =>
      if b = true then te σ2 H3 fun y H4 => SAdd X.w H4 D y fun H6 => Nx H6 else Nx H3)) hN hi ok hs (fun σ H Q h => h) ?_
  intro σ Q D H3 s3 s4 C cl it fp tn J R IB T st4 nfp ⟨W, ⟨m0, w0⟩, turn⟩ done
  have stat : ∀ {σ' : L2.St} {H' : Hp} {s' : Shared}, Inv (X.blk s3 H3 scope (compEnvC scope cl C X.env) fp) [] σ' H' s' → (∀ b ∈ fp, H' b = none) → ∀ b ∈ fp, FpOk (X.blk s3 H3 scope (compEnvC scope cl C X.env) fp) [] H' b := fun {σ' H' s'} I' hn b hb =>
    ⟨hn b hb, (I'.ok.exf b hb).1, I'.ok.exfs b hb, .inl hb, (I'.ok.exf b hb).2, fun p hp => by cases hp⟩
  refine sloop1 (fun n s' => ∃ i H', Inv (X.blk s3 H3 scope (compEnvC scope cl C X.env) fp) [] (wipe σ (List.map (fun p : Str × Nat => p.2) own)) H' s' ∧ tn i s'.heap ∧ (∀ b ∈ fp, H' b = none) ∧ W i n H') ?_ m0 ⟨0, H3, IB, st4, nfp, w0⟩
  rintro n s5 ⟨i, H5, I5, st5, n5, w5⟩
  rcases turn i n H5 w5 with ⟨stop, qq⟩ | ⟨go, Nx, hNx, step⟩
  · refine thnF (T.done (X.blk s3 H3 scope (compEnvC scope cl C X.env) fp) rfl rfl rfl hc i [] s5 _ H5 (fun _ _ => False) I5 (stat I5 n5) st5 stop) fun r s6 ⟨hr, I6⟩ => ?_
    rw [hr]
    exact done s6 H5 I6 qq
  · refine thnF (T.item (X.blk s3 H3 scope (compEnvC scope cl C X.env) fp) rfl rfl rfl hc i [] s5 _ H5 (fun _ _ => False) I5 (stat I5 n5) st5 go) fun r s6 ⟨u, hr, h6⟩ => ?_
    rw [hr]
    refine thnF h6 fun _ s7 ⟨x, H7, I7, r7, y7, st7, n7⟩ => ?_
    refine thnF ((hg s3 H3 C cl fp).run _ s7 _ H7 x u _ (I7.pinned (stat I7 n7) (T.obj _ _ st7)) r7 (step x H7 y7)) fun _ s8 ⟨σ8, H8, I8, hw8, q8⟩ => ?_
    have fin : ∀ {s' : Shared} {H' : Hp}, Inv (X.blk s3 H3 scope (compEnvC scope cl C X.env) fp) ([] ++ pinsAt fp s7.heap) σ8 H' s' → Nx H' → ∃ m, m < n ∧ ∃ i H', Inv (X.blk s3 H3 scope (compEnvC scope cl C X.env) fp) [] (wipe σ (List.map (fun p : Str × Nat => p.2) own)) H' s' ∧ tn i s'.heap ∧ (∀ b ∈ fp, H' b = none) ∧ W i m H' := fun {s' H'} I' nx => by
      obtain ⟨m', hm, w'⟩ := hNx H' nx
      have kept : ∀ b ∈ fp, ∀ o, s7.heap.get? b = some o → s'.heap.get? b = some o ∧ H' b = none := fun b hb o z => let y := I'.pin (b, o) (List.mem_append_right _ (List.mem_append_right _ (mem_pinsAt hb z))); ⟨y.1, y.2.1⟩
      refine ⟨m', hm, i + 1, H', I'.unpinned.weak (by rw [← hw8, wipe_length]) (fun j v z => ?_), T.keep _ _ _ st7 fun b hb o z => (kept b hb o z).1, fun b hb => ?_, w'⟩
      · rw [← hw8] at z
        exact (wipe_some z).1
      · obtain ⟨o, z, _⟩ := T.obj _ _ st7 b hb
        exact (kept b hb o z).2
    refine thnF ((ht s3 H3 C cl fp).run _ s8 σ8 H8 _ I8 q8) fun b s9 ⟨H9, I9, q9⟩ => ?_
    cases b with
    | false => exact fin I9 q9
    | true =>
      refine thnF ((he s3 H3 C cl fp).run _ s9 σ8 H9 _ I9 q9) fun z s10 ⟨yk, H10, I10, r10, sa⟩ => ?_
      exact sadd_ok (X := X.blk s3 H3 scope (compEnvC scope cl C X.env) fp) I10 r10 sa fun s12 H12 I12 nx => fin I12 nx
theorem pe_sc2i (hc : X.calm = true) (hN : X.N.Nodup) (hi : PI X tg iter wi) (ok : BlkOk X.N X.env.scope scope own) (hsub : ∀ i ∈ vs1, i ∈ List.map (fun p : Str × Nat => p.2) own) (hg : InBlk X scope fun Y => PG Y tg g) (ht : InBlk X scope fun Y => PTs Y ifs tt) (hi1 : InBlk X scope fun Y => PI Y tg1 iter1 wi1)
    (hg1 : InBlk X scope fun Y => PG Y tg1 g1) (ht1 : InBlk X scope fun Y => PTs Y ifs1 tt1) (he : InBlk X scope fun Y => PE Y ex te) (hs : ∀ x, foldedSetIterable iter X.env x = pure x := by intro _; rfl) (hs1 : ∀ env x, foldedSetIterable iter1 env x = pure x := by intro _ _; rfl) :
    PE X (.SetComp ex [⟨tg, iter, ifs, 0⟩, ⟨tg1, iter1, ifs1, 0⟩] scope pos) (tSc2 X.w wi g tt wi1 g1 tt1 te (List.map (fun p : Str × Nat => p.2) own) vs1) := by
  refine sc_enter (L := fun J D σ H1 Q => ∃ W : Nat → Nat → Hp → Prop, (∃ m, W 0 m H1) ∧ ∀ i m H, W i m H →
    (J.stop i H ∧ Q (.ref D) H) ∨ (J.go i H ∧ ∃ Nx : Hp → Prop, (∀ H', Nx H' → ∃ m', m' < m ∧ W (i + 1) m' H') ∧ ∀ x H', J.yld i H x H' → g x (wipe σ (List.map (fun p : Str × Nat => p.2) own)) H' fun σ2 H2 => wipe σ2 (List.map (fun p : Str × Nat => p.2) own) = wipe σ (List.map (fun p : Str × Nat => p.2) own) ∧ tt σ2 H2 fun b H3 =>
      if b = true then wi1 σ2 H3 fun J1 H4 => ∃ W1 : Nat → Nat → Hp → Prop, (∃ m, W1 0 m H4) ∧ ∀ j k H, W1 j k H →
        (J1.stop j H ∧ Nx H) ∨ (J1.go j H ∧ ∃ Nx1 : Hp → Prop, (∀ H', Nx1 H' → ∃ k', k' < k ∧ W1 (j + 1) k' H') ∧ ∀ x H', J1.yld j H x H' → g1 x (wipe σ2 vs1) H' fun σ3 H5 => wipe σ3 vs1 = wipe σ2 vs1 ∧ tt1 σ3 H5 fun b H6 =>
          if b = true then te σ3 H6 fun y H7 => SAdd X.w H7 D y fun H9 => Nx1 H9 else Nx1 H6)
      else Nx H3)) hN hi ok hs (fun σ H Q h => h) ?_
  intro σ Q D H3 s3 s4 C cl it fp tn J R IB T st4 nfp ⟨W, ⟨m0, w0⟩, turn⟩ done
  have stat : ∀ {σ' : L2.St} {H' : Hp} {s' : Shared}, Inv (X.blk s3 H3 scope (compEnvC scope cl C X.env) fp) [] σ' H' s' → (∀ b ∈ fp, H' b = none) → ∀ b ∈ fp, FpOk (X.blk s3 H3 scope (compEnvC scope cl C X.env) fp) [] H' b := fun {σ' H' s'} I' hn b hb =>
    ⟨hn b hb, (I'.ok.exf b hb).1, I'.ok.exfs b hb, .inl hb, (I'.ok.exf b hb).2, fun p hp => by cases hp⟩
  refine sloop2_out (hs1 _) (fun n s' => ∃ i H', Inv (X.blk s3 H3 scope (compEnvC scope cl C X.env) fp) [] (wipe σ (List.map (fun p : Str × Nat => p.2) own)) H' s' ∧ tn i s'.heap ∧ (∀ b ∈ fp, H' b = none) ∧ W i n H') ?_ m0 ⟨0, H3, IB, st4, nfp, w0⟩
  rintro n s5 ⟨i, H5, I5, st5, n5, w5⟩
  rcases turn i n H5 w5 with ⟨stop, qq⟩ | ⟨go, Nx, hNx, step⟩
  · refine thnF (T.done (X.blk s3 H3 scope (compEnvC scope cl C X.env) fp) rfl rfl rfl hc i [] s5 _ H5 (fun _ _ => False) I5 (stat I5 n5) st5 stop) fun r s6 ⟨hr, I6⟩ => ?_
    rw [hr]
    exact done s6 H5 I6 qq
  · refine thnF (T.item (X.blk s3 H3 scope (compEnvC scope cl C X.env) fp) rfl rfl rfl hc i [] s5 _ H5 (fun _ _ => False) I5 (stat I5 n5) st5 go) fun r s6 ⟨u, hr, h6⟩ => ?_
    rw [hr]
    refine thnF h6 fun _ s7 ⟨x, H7, I7, r7, y7, st7, n7⟩ => ?_
    refine thnF ((hg s3 H3 C cl fp).run _ s7 _ H7 x u _ (I7.pinned (stat I7 n7) (T.obj _ _ st7)) r7 (step x H7 y7)) fun _ s8 ⟨σ8, H8, I8, hw8, q8⟩ => ?_
    have fin : ∀ {σ9 : L2.St} {s' : Shared} {H' : Hp}, Inv (X.blk s3 H3 scope (compEnvC scope cl C X.env) fp) ([] ++ pinsAt fp s7.heap) σ9 H' s' → (wipe σ (List.map (fun p : Str × Nat => p.2) own)).length = σ9.length → (∀ (j : Nat) v, (wipe σ (List.map (fun p : Str × Nat => p.2) own))[j]? = some (some v) → σ9[j]? = some (some v)) → Nx H' →
        ∃ m, m < n ∧ ∃ i H', Inv (X.blk s3 H3 scope (compEnvC scope cl C X.env) fp) [] (wipe σ (List.map (fun p : Str × Nat => p.2) own)) H' s' ∧ tn i s'.heap ∧ (∀ b ∈ fp, H' b = none) ∧ W i m H' := fun {σ9 s' H'} I' hl hw nx => by
      obtain ⟨m', hm, w'⟩ := hNx H' nx
      have kept : ∀ b ∈ fp, ∀ o, s7.heap.get? b = some o → s'.heap.get? b = some o ∧ H' b = none := fun b hb o z => let y := I'.pin (b, o) (List.mem_append_right _ (List.mem_append_right _ (mem_pinsAt hb z))); ⟨y.1, y.2.1⟩
      refine ⟨m', hm, i + 1, H', I'.unpinned.weak hl hw, T.keep _ _ _ st7 fun b hb o z => (kept b hb o z).1, fun b hb => ?_, w'⟩
      obtain ⟨o, z, _⟩ := T.obj _ _ st7 b hb
      exact (kept b hb o z).2
    have l8 : (wipe σ (List.map (fun p : Str × Nat => p.2) own)).length = σ8.length := by rw [← hw8, wipe_length]
    refine thnF ((ht s3 H3 C cl fp).run _ s8 σ8 H8 _ I8 q8) fun b s9 ⟨H9, I9, q9⟩ => ?_
    cases b with
    | false => exact fin I9 l8 (fun j v z => by rw [← hw8] at z; exact (wipe_some z).1) q9
    | true =>
      refine thnF ((hi1 s3 H3 C cl fp).run _ s9 σ8 H9 _ I9 q9) fun xv s10 hx => thnF hx fun itv s11 h11 => ?_
      obtain ⟨it1, fp1, tn1, J1, H11, rfl, I11, T1, st11, f11, W1, ⟨m1, w1⟩, turn1⟩ := h11
      have stat1 : ∀ {H' : Hp}, (∀ b ∈ fp1, H' b = none) → ∀ b ∈ fp1, FpOk (X.blk s3 H3 scope (compEnvC scope cl C X.env) fp) ([] ++ pinsAt fp s7.heap) H' b := fun hn b hb => ⟨hn b hb, (f11 b hb).2⟩
      have inner : codeAny (model X.prog X.w) X.A (.compLoop (.SetComp ex [⟨tg, iter, ifs, 0⟩, ⟨tg1, iter1, ifs1, 0⟩] scope pos) 1 (.ref it1) (.ref D) (compEnvC scope cl C X.env)) (fun r s' => match r with
          | .ok _ => ∃ m, m < n ∧ ∃ i H', Inv (X.blk s3 H3 scope (compEnvC scope cl C X.env) fp) [] (wipe σ (List.map (fun p : Str × Nat => p.2) own)) H' s' ∧ tn i s'.heap ∧ (∀ b ∈ fp, H' b = none) ∧ W i m H'
          | .error _ => False) s11 := by
        refine sloop2_in (fun k s' => ∃ j H', Inv (X.blk s3 H3 scope (compEnvC scope cl C X.env) fp) ([] ++ pinsAt fp s7.heap) (wipe σ8 vs1) H' s' ∧ tn1 j s'.heap ∧ (∀ b ∈ fp1, H' b = none) ∧ W1 j k H') ?_ m1 ⟨0, H11, I11.weak (wipe_length _ _) (fun j v z => (wipe_some z).1), st11, fun b hb => (f11 b hb).1, w1⟩
        rintro k sA ⟨j, HA, IA, stA, nA, wA⟩
        rcases turn1 j k HA wA with ⟨stop1, nx1⟩ | ⟨go1, Nx1, hNx1, step1⟩
        · refine thnF (T1.done (X.blk s3 H3 scope (compEnvC scope cl C X.env) fp) rfl rfl rfl hc j _ sA (wipe σ8 vs1) HA (fun _ _ => False) IA (stat1 nA) stA stop1) fun r sB ⟨hr, IB'⟩ => ?_
          rw [hr]
          refine fin IB' (l8.trans (wipe_length σ8 vs1).symm) (fun j v z => ?_) nx1
          rw [← hw8] at z
          obtain ⟨z1, z2⟩ := wipe_some z
          rw [wipe_out fun y => z2 (hsub j y)]
          exact z1
        · refine thnF (T1.item (X.blk s3 H3 scope (compEnvC scope cl C X.env) fp) rfl rfl rfl hc j _ sA (wipe σ8 vs1) HA (fun _ _ => False) IA (stat1 nA) stA go1) fun r sB ⟨u1, hr, hB⟩ => ?_
          rw [hr]
          refine thnF hB fun _ sC ⟨x1, HC, IC, rC, yC, stC, nC⟩ => ?_
          refine thnF ((hg1 s3 H3 C cl fp).run _ sC (wipe σ8 vs1) HC x1 u1 _ (IC.pinned (stat1 nC) (T1.obj _ _ stC)) rC (step1 x1 HC yC)) fun _ sD ⟨σD, HD, ID, hwD, qD⟩ => ?_
          have fin1 : ∀ {s' : Shared} {H' : Hp}, Inv (X.blk s3 H3 scope (compEnvC scope cl C X.env) fp) (([] ++ pinsAt fp s7.heap) ++ pinsAt fp1 sC.heap) σD H' s' → Nx1 H' → ∃ m, m < k ∧ ∃ j H', Inv (X.blk s3 H3 scope (compEnvC scope cl C X.env) fp) ([] ++ pinsAt fp s7.heap) (wipe σ8 vs1) H' s' ∧ tn1 j s'.heap ∧ (∀ b ∈ fp1, H' b = none) ∧ W1 j m H' := fun {s' H'} I' nx => by
            obtain ⟨m', hm, w'⟩ := hNx1 H' nx
            have kept : ∀ b ∈ fp1, ∀ o, sC.heap.get? b = some o → s'.heap.get? b = some o ∧ H' b = none := fun b hb o z => let y := I'.pin (b, o) (List.mem_append_right _ (List.mem_append_right _ (mem_pinsAt hb z))); ⟨y.1, y.2.1⟩
            refine ⟨m', hm, j + 1, H', I'.unpinned.weak (by rw [← hwD, wipe_length]) (fun j v z => by rw [← hwD] at z; exact (wipe_some z).1), T1.keep _ _ _ stC fun b hb o z => (kept b hb o z).1, fun b hb => ?_, w'⟩
            obtain ⟨o, z, _⟩ := T1.obj _ _ stC b hb
            exact (kept b hb o z).2
          refine thnF ((ht1 s3 H3 C cl fp).run _ sD σD HD _ ID qD) fun b1 sE ⟨HE, IE, qE⟩ => ?_
          cases b1 with
          | false => exact fin1 IE qE
          | true =>
            refine thnF ((he s3 H3 C cl fp).run _ sE σD HE _ IE qE) fun z sF ⟨yk, HF, IF, rF, sa⟩ => ?_
            exact sadd_ok (X := X.blk s3 H3 scope (compEnvC scope cl C X.env) fp) IF rF sa fun sH HH IH nx => fin1 IH nx
      exact sstart2_in inner (T1.self X.A 0 _ _ _ st11 inner)
end
end Dl
set_option maxRecDepth 100000
set_option maxHeartbeats 4000000
/-! sorted({..}), ints -/
namespace Dl
open PySem PySem.Spec PyProof.Rows L2
/-- a set's object is no code object -/
abbrev codeOb (nm : Str) : Obj := { cls := .none, data := .fields #[.none, .str nm 0] }
theorem set_no_code {w : World} {a : Addr} {S : Int → Bool} {n : Nat} {nm : Str} : SetO w a S n ≠ LamX.CodeO a nm := fun z => by
  have z' := HO.ext.inj z
  have at_ : ({ objs := (List.replicate (a + 1) (codeOb nm)).toArray } : Heap).get? a = some (codeOb nm) := by
    unfold Heap.get?
    have : (List.replicate (a + 1) (codeOb nm)).toArray[a]? = some (codeOb nm) := by
      rw [List.getElem?_toArray, List.getElem?_replicate, if_pos (Nat.lt_succ_self a)]
    show (match (List.replicate (a + 1) (codeOb nm)).toArray[a]? with | some ⟨_, _, .freed, _⟩ => none | o => o) = _
    rw [this]
  have q := congrFun z' ({ objs := (List.replicate (a + 1) (codeOb nm)).toArray } : Heap)
  have : (∃ (oc : Obj) (vs : Array Value) (t : Tok), ({ objs := (List.replicate (a + 1) (codeOb nm)).toArray } : Heap).get? a = some oc ∧ oc.data = .fields vs ∧ vs[1]? = some (.str nm t)) := ⟨codeOb nm, #[.none, .str nm 0], 0, at_, rfl, rfl⟩
  rw [← q] at this
  obtain ⟨o, es, ep, t, ho, hx, hd, _⟩ := this
  rw [at_] at ho
  cases ho
  cases hd
theorem tabs_set {T : List (Addr × Str)} {w : World} {H : Hp} {a : Addr} {S : Int → Bool} {n : Nat} {u : HO} (h : H a = some (SetO w a S n)) (t : LamX.Tabs T H) : LamX.Tabs T (upd H a u) := fun p hp => by
  obtain ⟨ps, h1, h2, h3⟩ := t p hp
  have n1 : p.1 ≠ a := fun z => by rw [z, h] at h1; cases h1
  refine ⟨ps, by rw [upd_ne n1]; exact h1, h2, fun pos cv hc => ?_⟩
  obtain ⟨c, e1, e2⟩ := h3 pos cv hc
  have n2 : c ≠ a := fun z => by rw [z, h] at e2; exact set_no_code (Option.some.inj e2)
  exact ⟨c, e1, by rw [upd_ne n2]; exact e2⟩
theorem ext_set {T : List (Addr × Str)} {w : World} {H0 B0 B H : Hp} {a : Addr} {S : Int → Bool} {n : Nat} {u : HO} (x : Ext T B0 H0 B H) (nB : B a = none) (n0 : H0 a = none) (ho : H a = some (SetO w a S n)) : Ext T B0 H0 B (upd H a u) :=
  ⟨⟨fun b o e n m => by rw [upd_ne (ne_of_none e n0)]; exact x.hh.keep b o e n m, fun b e => by
    by_cases z : b = a
    · subst z; exact n0
    · rw [upd_ne z] at e; exact x.hh.dom b e, fun t => tabs_set ho (x.hh.tabs t)⟩, x.bb, ⟨fun b o e m => by rw [upd_ne (ne_of_none e nB)]; exact x.bh.s b o e m, fun b i j e => by rw [upd_ne (ne_of_none e nB)]; exact x.bh.v b i j e, x.bh.n⟩, x.out⟩
theorem nodup_len : ∀ {as bs : List Int}, as.Nodup → (∀ x ∈ as, x ∈ bs) → as.length ≤ bs.length
  | [], _, _, _ => Nat.zero_le _
  | a :: as, bs, n, h => by
    rw [List.nodup_cons] at n
    have ha := h a List.mem_cons_self
    have := nodup_len (bs := bs.erase a) n.2 fun x hx => by
      have : x ≠ a := fun z => n.1 (z ▸ hx)
      exact (List.mem_erase_of_ne this).mpr (h x (List.mem_cons_of_mem _ hx))
    rw [List.length_erase_of_mem ha] at this
    have : 0 < bs.length := List.length_pos_of_mem ha
    rw [List.length_cons]
    omega
theorem usort_nodup (ms : List Int) : (usort ms).Nodup := (usort_pw ms).imp fun {a b} h => by omega
theorem usort_le (ms : List Int) : (usort ms).length ≤ ms.length := nodup_len (usort_nodup ms) fun x hx => (usort_mem x ms).mp hx
theorem usort_old (ms : List Int) (k : Int) : (usort ms).length ≤ (usort (ms ++ [k])).length := nodup_len (usort_nodup ms) fun x hx => (usort_mem x _).mpr (List.mem_append_left _ ((usort_mem x ms).mp hx))
theorem usort_new {ms : List Int} {k : Int} (h : k ∉ ms) : (usort ms).length + 1 ≤ (usort (ms ++ [k])).length :=
  nodup_len (as := k :: usort ms) (List.nodup_cons.mpr ⟨fun z => h ((usort_mem k ms).mp z), usort_nodup ms⟩) fun x hx => (usort_mem x _).mpr (by
    rcases List.mem_cons.mp hx with rfl | hx
    · simp
    · exact List.mem_append_left _ ((usort_mem x ms).mp hx))
/-- at D stands the set of the ints ys -/
def SetAt (w : World) (H : Hp) (D : Addr) (ys : List Dl.D) : Prop := ∃ ms n, toInts ys = some ms ∧ H D = some (SetO w D (fun j => decide (j ∈ ms)) n) ∧ n ≤ (usort ms).length
section
variable {K : PySem.W.Frag} {cl : Cl} {w : World} {B H B' H' : Hp} {a : Addr} {ys : List D}
theorem setAt_nil (h : H a = some (SetO w a (fun _ => false) 0)) : SetAt w H a [] := ⟨[], 0, rfl, by rw [h]; simp, Nat.le_refl _⟩
theorem SetAt.ext (s : SetAt w H a ys) {T : List (Addr × Str)} (x : Ext T B H B' H') (n : B a = none) : SetAt w H' a ys := by
  obtain ⟨ms, k, h1, h2, h3⟩ := s
  exact ⟨ms, k, h1, x.get h2 n (fun _ z => nomatch z), h3⟩
theorem SetAt.out (s : SetAt w H a ys) {T : List (Addr × Str)} (x : Ext T B H B' H') (n : B a = none) : B' a = none := by
  obtain ⟨ms, k, h1, h2, h3⟩ := s
  exact (x.out _ _ h2 (fun _ z => nomatch z) (fun _ z => nomatch z)).trans n
theorem toInts_len : ∀ {ys : List D} {ms : List Int}, toInts ys = some ms → ms.length = ys.length
  | [], ms, h => by cases h; rfl
  | .int i :: ys, ms, h => by
    unfold toInts at h
    cases e : toInts ys with
    | none => rw [e] at h; cases h
    | some r => rw [e] at h; cases h; rw [List.length_cons, List.length_cons, toInts_len e]
theorem toInts_app : ∀ {ys : List D} {ms : List Int} (k : Int), toInts ys = some ms → toInts (ys ++ [.int k]) = some (ms ++ [k])
  | [], ms, k, h => by cases h; rfl
  | .int i :: ys, ms, k, h => by
    unfold toInts at h
    cases e : toInts ys with
    | none => rw [e] at h; cases h
    | some r =>
      rw [e] at h; cases h
      show (toInts (ys ++ [.int k])).map (i :: ·) = _
      rw [toInts_app k e]
      rfl
theorem toInts_in : ∀ {ys : List D} {ms : List Int} {y : D}, toInts ys = some ms → y ∈ ys → ∃ k, y = .int k
  | [], _, _, _, h => by simp at h
  | .int i :: ys, ms, y, h, hy => by
    rcases List.mem_cons.mp hy with rfl | hy
    · exact ⟨i, rfl⟩
    · unfold toInts at h
      cases e : toInts ys with
      | none => rw [e] at h; cases h
      | some r => exact toInts_in e hy
theorem rep_int {v : V} {k : Int} (r : Rep K cl B v (.int k)) : v = .int k := by cases r; rfl
theorem SetAt.add (s : SetAt w H a ys) (k : Int) {m : Nat} (h1 : ys.length ≤ m) (h2 : m ≤ 4000) : ∃ S n, H a = some (SetO w a S n) ∧ n + 1 < scanBound ∧ SetAt w (upd H a (SetO w a (fun j => S j || decide (j = k)) (if S k = true then n else n + 1))) a (ys ++ [.int k]) := by
  obtain ⟨ms, n, e1, e2, e3⟩ := s
  have l0 := usort_le ms
  have l1 := toInts_len e1
  refine ⟨_, n, e2, by unfold scanBound; omega, ms ++ [k], (if decide (k ∈ ms) = true then n else n + 1), toInts_app k e1, ?_, ?_⟩
  · rw [upd_same]
    congr 2
    funext j
    by_cases q : j = k <;> simp [q]
  · by_cases hk : k ∈ ms
    · rw [if_pos (decide_eq_true hk)]
      exact Nat.le_trans e3 (usort_old ms k)
    · rw [if_neg (by simp [hk])]
      exact Nat.le_trans (Nat.succ_le_succ e3) (usort_new hk)
theorem Slots.pokeS {H0 : HG} {σ : L2.St} {ρ : Rho} {p : Addr} {u : HO} {S : Int → Bool} {n : Nat} (h : Slots K cl H0 B H σ ρ) (n0 : H0 p ≠ none) (ho : H p = some (SetO w p S n)) : Slots K cl H0 B (upd H p u) σ ρ := ⟨h.len, fun i t e => (h.at_ i t e).poke n0, h.inj, tabs_set ho h.tabs⟩
end
/-- a new set of the ints that g lists -/
def tSetD (K : PySem.W.Frag) (cl : Cl) (w : World) (g : Rho → Option (List D)) : TE := fun σ H Q => ∃ H0 B ρ out ns, Cln B H ∧ Slots K cl H0 B H σ ρ ∧ g ρ = some out ∧ toInts out = some ns ∧ ∀ B' H' p, Ext cl.tabs B H B' H' → B' p = none → SetAt w H' p out → Q (.ref p) H'
def lc1Of (gi : Rho → Option (List D)) (bind : D → Rho → Option Rho) (tt : Rho → Option Bool) (te : Rho → Option D) (vs : List Nat) : Rho → Option (List D) := fun ρ => (gi ρ).bind fun ds => if ds.length ≤ 4000 then lcRun bind tt te (wipeR ρ vs) ds else none
def lc2Of (gi : Rho → Option (List D)) (bind : D → Rho → Option Rho) (tt : Rho → Option Bool) (gi1 : Rho → Option (List D)) (bind1 : D → Rho → Option Rho) (tt1 : Rho → Option Bool) (te : Rho → Option D) (vs vs1 : List Nat) : Rho → Option (List D) := fun ρ => (gi ρ).bind fun ds => (lc2Run bind tt gi1 bind1 tt1 te vs1 (wipeR ρ vs) ds).bind fun out => if out.length ≤ 4000 then some out else none
section
variable {K : PySem.W.Frag} {cl : Cl} {w : World}
theorem sc1_of {gi : Rho → Option (List D)} {is vs : List Nat} {bind : D → Rho → Option Rho} {tt : Rho → Option Bool} {te : Rho → Option D} (hv : ∀ i ∈ is, i ∈ vs) : ∀ σ H Q, tSetD K cl w (lc1Of gi bind tt te vs) σ H Q → tScP w (tI K cl gi) (tG K cl is bind) (tDT K cl tt) (tD K cl te) vs σ H Q := fun σ H Q ⟨H0, B, ρ, out, ns, hB, s, hg, ht, q⟩ => by
  unfold lc1Of at hg
  cases e1 : gi ρ with
  | none => rw [e1] at hg; cases hg
  | some ds =>
    rw [e1] at hg
    replace hg : (if ds.length ≤ 4000 then lcRun bind tt te (wipeR ρ vs) ds else none) = some out := hg
    split at hg
    · rename_i hz
      have e2 := hg
      · refine ⟨H0, B, ρ, ds, hB, s, e1, fun J B1 H1 x1 wk Dd nD => ?_⟩
        have nB1 : B1 Dd = none := x1.bh.free nD
        refine ⟨fun i k H => k = ds.length - i ∧ i ≤ ds.length ∧ ∃ B2 ys rest, Ext cl.tabs B1 H1 B2 H ∧ B2 Dd = none ∧ SetAt w H Dd ys ∧ lcRun bind tt te (wipeR ρ vs) (ds.drop i) = some rest ∧ out = ys ++ rest ∧ ys.length ≤ i,
          ⟨_, rfl, Nat.zero_le _, B1, [], out, (Ext.refl x1.bh).side nD, nB1, setAt_nil upd_same, e2, rfl, Nat.le_refl _⟩, ?_⟩
        rintro i k H2 ⟨rfl, hi, B2, ys, rest, x2, nD2, hD2, hr, eo, hy⟩
        have wki := wk B2 H2 i x2.bb x2.bh
        by_cases hlt : i < ds.length
        · obtain ⟨hgo, hyl⟩ := wki.1 hlt
          refine .inr ⟨hgo, fun H' => i + 1 ≤ ds.length ∧ ∃ B2 ys rest, Ext cl.tabs B1 H1 B2 H' ∧ B2 Dd = none ∧ SetAt w H' Dd ys ∧ lcRun bind tt te (wipeR ρ vs) (ds.drop (i + 1)) = some rest ∧ out = ys ++ rest ∧ ys.length ≤ i + 1,
            fun H' w => ⟨ds.length - (i + 1), by omega, rfl, w⟩, fun v H3 hv3 => ?_⟩
          obtain ⟨B3, d, x3, hd, rv⟩ := hyl v H3 hv3
          rw [List.getElem?_eq_getElem hlt] at hd
          cases hd
          rw [List.drop_eq_getElem_cons hlt] at hr
          unfold lcRun at hr
          have x23 := x1.trans (x2.trans x3)
          cases e3 : bind ds[i] (wipeR ρ vs) with
          | none => rw [e3] at hr; cases hr
          | some ρ1 =>
            simp only [e3, Option.bind_some] at hr
            refine ⟨H0, B3, wipeR ρ vs, _, ρ1, x3.bh, (s.ext x23).wipe vs, rv, e3, fun σ3 l3 f3 s3 => ⟨?_, ?_⟩⟩
            · rw [← wipe_wipe (σ := σ)]
              exact wipe_eq l3 fun j hj => f3 j fun z => hj (hv j z)
            · cases e4 : tt ρ1 with
              | none => rw [e4] at hr; cases hr
              | some b =>
                simp only [e4, Option.bind_some] at hr
                refine ⟨H0, B3, ρ1, b, x3.bh, s3, e4, fun B4 H4 x4 => ?_⟩
                have x24 := x3.trans x4
                have x14 := x2.trans x24
                have hD4 := hD2.ext x24 nD2
                have nD4 : B4 Dd = none := hD2.out x24 nD2
                cases b with
                | false =>
                  simp only [Bool.false_eq_true, if_false] at hr
                  exact iteF ⟨hlt, B4, ys, rest, x14, nD4, hD4, hr, eo, Nat.le_succ_of_le hy⟩
                | true =>
                  simp only [if_true] at hr
                  cases e5 : te ρ1 with
                  | none => rw [e5] at hr; cases hr
                  | some y =>
                    simp only [e5, Option.bind_some] at hr
                    cases e6 : lcRun bind tt te (wipeR ρ vs) (ds.drop (i + 1)) with
                    | none => rw [e6] at hr; cases hr
                    | some r' =>
                      simp only [e6, Option.bind_some] at hr
                      cases hr
                      refine iteT ⟨H0, B4, ρ1, y, x4.bh, s3.ext x4, e5, fun B5 H5 w x5 rw' => ?_⟩
                      have x25 := x24.trans x5
                      have x15 := x2.trans x25
                      have hD5 := hD2.ext x25 nD2
                      have nD5 : B5 Dd = none := hD2.out x25 nD2
                      have n1 : H1 Dd = none := nD
                      obtain ⟨k, ek⟩ := toInts_in ht (y := y) (by rw [eo]; simp)
                      subst ek
                      obtain rfl := rep_int rw'
                      have hlen : ys.length ≤ 4000 := Nat.le_trans hy (Nat.le_trans hi hz)
                      obtain ⟨S, n, g1, g2, g3⟩ := hD5.add k (Nat.le_refl _) hlen
                      exact ⟨k, S, n, rfl, g1, g2, hlt, B5, ys ++ [.int k], r', ext_set x15 nD5 n1 g1, nD5, g3, rfl, by rw [eo, List.append_assoc]; rfl, by rw [List.length_append]; exact Nat.succ_le_succ hy⟩
        · have e : i = ds.length := by omega
          subst e
          rw [List.drop_length] at hr
          cases hr
          rw [List.append_nil] at eo
          subst eo
          exact .inl ⟨wki.2 (Nat.le_refl _), q B2 H2 Dd (x1.trans x2) nD2 hD2⟩
    · cases hg
theorem sc2_of {gi gi1 : Rho → Option (List D)} {is is1 vs vs1 : List Nat} {bind bind1 : D → Rho → Option Rho} {tt tt1 : Rho → Option Bool} {te : Rho → Option D} (hv : ∀ i ∈ is, i ∈ vs) (hv1 : ∀ i ∈ is1, i ∈ vs1) : ∀ σ H Q, tSetD K cl w (lc2Of gi bind tt gi1 bind1 tt1 te vs vs1) σ H Q →
    tSc2 w (tI K cl gi) (tG K cl is bind) (tDT K cl tt) (tI K cl gi1) (tG K cl is1 bind1) (tDT K cl tt1) (tD K cl te) vs vs1 σ H Q := fun σ H Q ⟨H0, B, ρ, out, ns, hB, s, hg, ht, q⟩ => by
  unfold lc2Of at hg
  cases e1 : gi ρ with
  | none => rw [e1] at hg; cases hg
  | some ds =>
    simp only [e1, Option.bind_some] at hg
    cases e2 : lc2Run bind tt gi1 bind1 tt1 te vs1 (wipeR ρ vs) ds with
    | none => rw [e2] at hg; cases hg
    | some out' =>
      simp only [e2, Option.bind_some] at hg
      split at hg
      · rename_i hz
        cases hg
        refine ⟨H0, B, ρ, ds, hB, s, e1, fun J B1 H1 x1 wk Dd nD => ?_⟩
        have nB1 : B1 Dd = none := x1.bh.free nD
        replace s := s.hide (u := .lst []) (x1.hh.free nD)
        generalize eH0 : HG.mk (upd H0.h Dd (.lst [])) H0.self = H0' at s
        have hH0 : H0'.h Dd ≠ none := by
          rw [← eH0]
          show upd H0.h Dd _ Dd ≠ none
          rw [upd_same]
          exact fun z => nomatch z
        refine ⟨fun i k H => k = ds.length - i ∧ i ≤ ds.length ∧ ∃ B2 ys rest, Ext cl.tabs B1 H1 B2 H ∧ B2 Dd = none ∧ SetAt w H Dd ys ∧ lc2Run bind tt gi1 bind1 tt1 te vs1 (wipeR ρ vs) (ds.drop i) = some rest ∧ out = ys ++ rest,
          ⟨_, rfl, Nat.zero_le _, B1, [], out, (Ext.refl x1.bh).side nD, nB1, setAt_nil upd_same, e2, rfl⟩, ?_⟩
        rintro i k H2 ⟨rfl, hi, B2, ys, rest, x2, nD2, hD2, hr, eo⟩
        have wki := wk B2 H2 i x2.bb x2.bh
        by_cases hlt : i < ds.length
        · obtain ⟨hgo, hyl⟩ := wki.1 hlt
          refine .inr ⟨hgo, fun H' => i + 1 ≤ ds.length ∧ ∃ B2 ys rest, Ext cl.tabs B1 H1 B2 H' ∧ B2 Dd = none ∧ SetAt w H' Dd ys ∧ lc2Run bind tt gi1 bind1 tt1 te vs1 (wipeR ρ vs) (ds.drop (i + 1)) = some rest ∧ out = ys ++ rest,
            fun H' w => ⟨ds.length - (i + 1), by omega, rfl, w⟩, fun v H3 hv3 => ?_⟩
          obtain ⟨B3, d, x3, hd, rv⟩ := hyl v H3 hv3
          rw [List.getElem?_eq_getElem hlt] at hd
          cases hd
          rw [List.drop_eq_getElem_cons hlt] at hr
          unfold lc2Run at hr
          have x23 := x1.trans (x2.trans x3)
          cases e3 : bind ds[i] (wipeR ρ vs) with
          | none => rw [e3] at hr; cases hr
          | some ρ1 =>
            simp only [e3, Option.bind_some] at hr
            refine ⟨H0', B3, wipeR ρ vs, _, ρ1, x3.bh, (s.ext x23).wipe vs, rv, e3, fun σ3 l3 f3 s3 => ⟨?_, ?_⟩⟩
            · rw [← wipe_wipe (σ := σ)]
              exact wipe_eq l3 fun j hj => f3 j fun z => hj (hv j z)
            · cases e4 : tt ρ1 with
              | none => rw [e4] at hr; cases hr
              | some b =>
                simp only [e4, Option.bind_some] at hr
                refine ⟨H0', B3, ρ1, b, x3.bh, s3, e4, fun B4 H4 x4 => ?_⟩
                have x24 := x3.trans x4
                have x14 := x2.trans x24
                have hD4 := hD2.ext x24 nD2
                have nD4 : B4 Dd = none := hD2.out x24 nD2
                cases b with
                | false =>
                  simp only [Bool.false_eq_true, if_false] at hr
                  exact iteF ⟨hlt, B4, ys, rest, x14, nD4, hD4, hr, eo⟩
                | true =>
                  simp only [if_true] at hr
                  cases e5 : gi1 ρ1 with
                  | none => rw [e5] at hr; cases hr
                  | some ds1 =>
                    simp only [e5, Option.bind_some] at hr
                    cases e6 : lcRun bind1 tt1 te (wipeR ρ1 vs1) ds1 with
                    | none => rw [e6] at hr; cases hr
                    | some mid =>
                      simp only [e6, Option.bind_some] at hr
                      cases e7 : lc2Run bind tt gi1 bind1 tt1 te vs1 (wipeR ρ vs) (ds.drop (i + 1)) with
                      | none => rw [e7] at hr; cases hr
                      | some r' =>
                        simp only [e7, Option.bind_some] at hr
                        cases hr
                        refine iteT ⟨H0', B4, ρ1, ds1, x4.bh, s3.ext x4, e5, fun J1 B5 H5 x5 wk1 => ?_⟩
                        have x15 := x14.trans x5
                        have hD5 := hD4.ext x5 nD4
                        have nD5 : B5 Dd = none := hD4.out x5 nD4
                        have s5 := (s3.ext x4).ext x5
                        have nin : H1 Dd = none := nD
                        refine ⟨fun j k H => k = ds1.length - j ∧ j ≤ ds1.length ∧ ∃ B6 ys6 rest6, Ext cl.tabs B1 H1 B6 H ∧ Same B5 B6 ∧ B6 Dd = none ∧ SetAt w H Dd (ys ++ ys6) ∧ lcRun bind1 tt1 te (wipeR ρ1 vs1) (ds1.drop j) = some rest6 ∧ mid = ys6 ++ rest6 ∧ Slots K cl H0' B6 H σ3 ρ1,
                          ⟨_, rfl, Nat.zero_le _, B5, [], mid, x15, Same.refl _, nD5, by rw [List.append_nil]; exact hD5, e6, rfl, s5⟩, ?_⟩
                        rintro j k6 H6 ⟨rfl, hj, B6, ys6, rest6, x6, s56, nD6, hD6, hr6, em, sl6⟩
                        have wkj := wk1 B6 H6 j s56 x6.bh
                        by_cases hjt : j < ds1.length
                        · obtain ⟨hgo1, hyl1⟩ := wkj.1 hjt
                          refine .inr ⟨hgo1, fun H' => j + 1 ≤ ds1.length ∧ ∃ B6 ys6 rest6, Ext cl.tabs B1 H1 B6 H' ∧ Same B5 B6 ∧ B6 Dd = none ∧ SetAt w H' Dd (ys ++ ys6) ∧ lcRun bind1 tt1 te (wipeR ρ1 vs1) (ds1.drop (j + 1)) = some rest6 ∧ mid = ys6 ++ rest6 ∧ Slots K cl H0' B6 H' σ3 ρ1,
                            fun H' w => ⟨ds1.length - (j + 1), by omega, rfl, w⟩, fun u H7 hu => ?_⟩
                          obtain ⟨B7, d7, x7, hd7, rv7⟩ := hyl1 u H7 hu
                          rw [List.getElem?_eq_getElem hjt] at hd7
                          cases hd7
                          rw [List.drop_eq_getElem_cons hjt] at hr6
                          unfold lcRun at hr6
                          cases e8 : bind1 ds1[j] (wipeR ρ1 vs1) with
                          | none => rw [e8] at hr6; cases hr6
                          | some ρ8 =>
                            simp only [e8, Option.bind_some] at hr6
                            refine ⟨H0', B7, wipeR ρ1 vs1, _, ρ8, x7.bh, (sl6.ext x7).wipe vs1, rv7, e8, fun σ8 l8 f8 s8 => ⟨?_, ?_⟩⟩
                            · rw [← wipe_wipe (σ := σ3)]
                              exact wipe_eq l8 fun m hm => f8 m fun z => hm (hv1 m z)
                            · cases e9 : tt1 ρ8 with
                              | none => rw [e9] at hr6; cases hr6
                              | some b9 =>
                                simp only [e9, Option.bind_some] at hr6
                                refine ⟨H0', B7, ρ8, b9, x7.bh, s8, e9, fun B9 H9 x9 => ?_⟩
                                have x79 := x7.trans x9
                                have x19 := x6.trans x79
                                have hD9 := hD6.ext x79 nD6
                                have nD9 : B9 Dd = none := hD6.out x79 nD6
                                cases b9 with
                                | false =>
                                  simp only [Bool.false_eq_true, if_false] at hr6
                                  exact iteF ⟨hjt, B9, ys6, rest6, x19, s56.trans x79.bb, nD9, hD9, hr6, em, sl6.ext x79⟩
                                | true =>
                                  simp only [if_true] at hr6
                                  cases e10 : te ρ8 with
                                  | none => rw [e10] at hr6; cases hr6
                                  | some y =>
                                    simp only [e10, Option.bind_some] at hr6
                                    cases e11 : lcRun bind1 tt1 te (wipeR ρ1 vs1) (ds1.drop (j + 1)) with
                                    | none => rw [e11] at hr6; cases hr6
                                    | some r11 =>
                                      simp only [e11, Option.bind_some] at hr6
                                      cases hr6
                                      refine iteT ⟨H0', B9, ρ8, y, x9.bh, s8.ext x9, e10, fun B12 H12 w x12 rw' => ?_⟩
                                      have x712 := x79.trans x12
                                      have x112 := x6.trans x712
                                      have hD12 := hD6.ext x712 nD6
                                      have nD12 : B12 Dd = none := hD6.out x712 nD6
                                      obtain ⟨k, ek⟩ := toInts_in ht (y := y) (by rw [eo, em]; simp)
                                      subst ek
                                      obtain rfl := rep_int rw'
                                      have hlen : (ys ++ ys6).length ≤ out.length := by rw [eo, em]; simp only [List.length_append]; omega
                                      obtain ⟨S, n, g1, g2, g3⟩ := hD12.add k hlen hz
                                      refine ⟨k, S, n, rfl, g1, g2, hjt, B12, ys6 ++ [.int k], r11, ext_set x112 nD12 nin g1, s56.trans x712.bb, nD12, by rw [← List.append_assoc]; exact g3, rfl, by rw [em, List.append_assoc]; rfl, (sl6.ext x712).pokeS hH0 g1⟩
                        · have ej : j = ds1.length := by omega
                          subst ej
                          rw [List.drop_length] at hr6
                          cases hr6
                          rw [List.append_nil] at em
                          subst em
                          exact .inl ⟨wkj.2 (Nat.le_refl _), hlt, B6, ys ++ mid, r', x6, nD6, hD6, rfl, by rw [eo, List.append_assoc]⟩
        · have e : i = ds.length := by omega
          subst e
          rw [List.drop_length] at hr
          cases hr
          rw [List.append_nil] at eo
          subst eo
          exact .inl ⟨wki.2 (Nat.le_refl _), q B2 H2 Dd (x1.trans x2) nD2 hD2⟩
      · cases hg
end
def gSorted (g : Rho → Option (List D)) : Rho → Option D := fun ρ => (g ρ).bind fun out => (toInts out).bind fun ns => if (usort ns).length < 60 then some (.lst ((usort ns).map D.int)) else none
section
variable {X : Cx} {cl : Cl} {e : Expr} {g : Rho → Option (List D)}
theorem d_sortSc {t : TE} (m : ∀ σ H Q, tSetD X.K cl X.w g σ H Q → t σ H Q) (hp : PE X e (tCB (rSortedSet X.w) (tCons t tNil))) : PE X e (tD X.K cl (gSorted g)) := pe_mono hp fun σ H Q ⟨H0, B, ρ, c, hB, hs, hg, q⟩ => by
  unfold gSorted at hg
  cases e1 : g ρ with
  | none => rw [e1] at hg; cases hg
  | some out =>
    simp only [e1, Option.bind_some] at hg
    cases e2 : toInts out with
    | none => rw [e2] at hg; cases hg
    | some ns =>
      simp only [e2, Option.bind_some] at hg
      split at hg
      · rename_i hz
        cases hg
        refine m _ _ _ ⟨H0, B, ρ, out, ns, hB, hs, e1, e2, fun B' H' p x nB sa => ?_⟩
        obtain ⟨ms, n, h1, h2, h3⟩ := sa
        rw [e2] at h1
        cases h1
        refine ⟨p, _, n, rfl, h2, by omega, fun ns' p2 g1 g2 g3 np2 => ?_⟩
        have en : ns' = usort ns := strict_eq g1 (usort_pw ns) fun k => by rw [g2, usort_mem]; simp
        subst en
        exact q _ _ _ (x.trans (Ext.new x.bh np2)) (.lst upd_same (Reps.ofInts _))
      · cases hg
end
end Dl
set_option maxRecDepth 100000
set_option maxHeartbeats 4000000
namespace Dl
open PySem PySem.Spec PyProof.Rows L2
section
variable {X : Cx} {cl : Cl} {K : PySem.W.Frag} {W : WX} {e a b o : Expr} {st : Stmt} {g h : Rho → Option D} {gs : Rho → Option (List D)} {pos : Pos}
/-! ### own lists -/
/-- x = a new list, that is changed later -/
def mOwnN (i : Nat) (gs : Rho → Option (List D)) : M := fun ρ => (gs ρ).bind fun ds => frDs ds fun ds => setF ρ i (.own ds) fun ρ' => some (.nx ρ')
theorem s_ownN {i : Nat} (hp : PS X st (tAsg (tN X.K cl gs) (L2.gName i))) : PS X st (tS X.K cl (mOwnN i gs)) := ps_mono hp fun E σ H ⟨H0, B0, B, ρ, out, x, s, hm, q⟩ => by
  unfold mOwnN at hm
  cases e1 : gs ρ with
  | none => rw [e1] at hm; cases hm
  | some ds =>
    simp only [e1, Option.bind_some, frDs_eq, setF_eq] at hm
    cases hm
    refine ⟨H0, B, ρ, ds, x.bh, s, e1, fun B' H' p vs x' h1 h2 h3 r => ?_⟩
    exact q B' _ _ (x.trans x') x'.bb ((s.ext x').set ⟨p, vs, rfl, h1, h2, x.hh.free h3, r⟩ fun _ j t a _ e o f z => by
      cases z
      obtain ⟨u, hu, _⟩ := s.there e o f
      rw [h3] at hu
      cases hu)
/-- x[k] = e, x an own list -/
def mPutL (i : Nat) (kg vg : Rho → Option D) : M := fun ρ => match ρ[i]? with
  | some (.own ds) => (vg ρ).bind fun d => (kg ρ).bind fun y => match y with
    | .int k => (ixN ds.length k).bind fun j => frD d fun d => frS (ds.set j d) fun ds => setF ρ i (.own ds) fun ρ' => some (.nx ρ')
    | _ => none
  | _ => none
theorem reps_set {B : Hp} {v : V} {d : D} (rv : Rep K cl B v d) : ∀ {xs : List V} {ds : List D} (j : Nat), Reps K cl B xs ds → Reps K cl B (xs.set j v) (ds.set j d)
  | _, _, _, .nil => .nil
  | _, _, 0, .cons r t => .cons rv t
  | _, _, j + 1, .cons r t => .cons r (reps_set rv j t)
theorem s_putL {i : Nat} (hp : PS X st (tAsg (tD X.K cl h) (gSub (tVar i) (tD X.K cl g) L2.rSetL))) : PS X st (tS X.K cl (mPutL i g h)) := ps_mono hp fun E σ H ⟨H0, B0, B, ρ, out, x, s, hm, q⟩ => by
  unfold mPutL at hm
  cases e1 : ρ[i]? with
  | none => rw [e1] at hm; cases hm
  | some sv =>
    rw [e1] at hm
    cases sv with
    | own ds =>
      cases e2 : h ρ with
      | none => simp only [e2] at hm; cases hm
      | some d =>
        cases e3 : g ρ with
        | none => simp only [e2, e3, Option.bind_some] at hm; cases hm
        | some y =>
          simp only [e2, e3, Option.bind_some] at hm
          cases y with
          | int k =>
            simp only at hm
            cases e4 : ixN ds.length k with
            | none => rw [e4] at hm; cases hm
            | some j =>
              simp only [e4, Option.bind_some, frD_eq, frS_eq, setF_eq] at hm
              cases hm
              refine ⟨H0, B, ρ, d, x.bh, s, e2, fun B1 H1 v x1 r1 => ?_⟩
              obtain ⟨a, xs, h1, h2, h3, h4, h5⟩ := (s.ext x1).at_ i _ e1
              refine ⟨.ref a, h1, H0, B1, ρ, _, x1.bh, s.ext x1, e3, fun B2 H2 u x2 r2 => ?_⟩
              cases r2
              have g2 : H2 a = some (.lst xs) := x2.get h2 h3
              have g3 : B2 a = none := (x2.out _ _ h2 (fun _ z => nomatch z) (fun _ z => nomatch z)).trans h3
              have s2 := (s.ext x1).ext x2
              refine ⟨a, xs, k, j, rfl, rfl, g2, by rw [h5.len]; exact e4, ?_⟩
              exact q B2 _ σ (ext_own (x.trans (x1.trans x2)) g3 h4 g2) (x1.bb.trans x2.bb) (slots_own s2 e1 rfl h1 ⟨a, _, rfl, upd_same, g3, h4, reps_set (r1.mono x2.bb) j (h5.mono x2.bb)⟩ rfl)
          | _ => cases hm
    | _ => cases hm
/-- a slice of an own list -/
def gSlS (g : Rho → Option (List D)) (l h : Rho → Option (Option Int)) : Rho → Option D := fun ρ => (g ρ).bind fun xs => (l ρ).bind fun lo => (h ρ).bind fun hi => some (.lst (cutD xs lo hi))
theorem d_slS {lo hi : Option Expr} {p2 pos} {l u : Rho → Option (Option Int)} (he : PE X e (tSq X.K cl gs)) (hl : PO X lo (tPo X.K cl l)) (hh : PO X hi (tPo X.K cl u)) : PE X (.Subscript e (.Slice lo hi none p2) pos) (tD X.K cl (gSlS gs l u)) :=
  pe_mono (pe_slice sl_list he hl hh) fun σ H Q ⟨H0, B, ρ, c, hB, hs, hg, q⟩ => by
  unfold gSlS at hg
  cases e1 : gs ρ with
  | none => rw [e1] at hg; cases hg
  | some ds =>
    cases e2 : l ρ with
    | none => simp only [e1, e2, Option.bind_some] at hg; cases hg
    | some a =>
      cases e3 : u ρ with
      | none => simp only [e1, e2, e3, Option.bind_some] at hg; cases hg
      | some b =>
        simp only [e1, e2, e3, Option.bind_some] at hg
        cases hg
        refine ⟨H0, B, ρ, ds, hB, hs, e1, fun B1 H1 ad xs x1 h1 nm r1 => ⟨H0, B1, ρ, a, x1.bh, hs.ext x1, e2, fun B2 H2 x2 => ⟨H0, B2, ρ, b, x2.bh, (hs.ext x1).ext x2, e3, fun B3 H3 x3 => ?_⟩⟩⟩
        have x23 := x2.trans x3
        refine ⟨ad, xs, rfl, SqL.of (x23.getM h1 nm), fun p np => ?_⟩
        exact q _ _ _ ((x1.trans x23).trans (Ext.new x3.bh np)) (.lst upd_same ((cut_reps (r1.mono x23.bb) a b).mono (same_new (x3.bh.free np))))
/-! ### any -/
def fAny (ds : List D) : Option D := (toBools ds).map fun ns => D.bl (ns.any id)
theorem cs_any : CaS K cl (rAny K) fAny := fun B H a xs ds c Q hB hl r hf q => by
  unfold fAny at hf
  cases e : toBools ds with
  | none => rw [e] at hf; cases hf
  | some ns =>
    rw [e] at hf
    cases hf
    have ex := toBools_some r e
    subst ex
    exact ⟨a, ns, rfl, SqL.of hl, q B H _ (Ext.refl hB) (.bl _)⟩
/-! ### own dicts are read -/
def gGetO (i : Nat) (g : Rho → Option D) : Rho → Option D := fun ρ => match ρ[i]? with
  | some (.ownK ks xs) => (g ρ).bind fun y => y.key.bind fun k => dAt ks xs k
  | some (.ownT ks xs) => (g ρ).bind fun y => (keyT y).bind fun k => dAtT ks xs k
  | _ => none
theorem d_getO {i : Nat} {x : Expr} {pos} (hu : X.A.units + 1 < cLine) (hv : PE X x (tVar i)) (hb : PE X b (tD X.K cl g)) (hs : NoSl b := by exact fun _ _ => rfl) : PE X (.Subscript x b pos) (tD X.K cl (gGetO i g)) := pe_mono (pe_dget hu hv hb hs) fun σ H Q ⟨H0, B, ρ, c, hB, s, hg, q⟩ => by
  unfold gGetO at hg
  cases e1 : ρ[i]? with
  | none => rw [e1] at hg; cases hg
  | some sv =>
    rw [e1] at hg
    cases sv with
    | ownK ks xs =>
      cases e2 : g ρ with
      | none => simp only [e2] at hg; cases hg
      | some y =>
        simp only [e2, Option.bind_some] at hg
        cases e3 : y.key with
        | none => rw [e3] at hg; cases hg
        | some k =>
          simp only [e3, Option.bind_some] at hg
          obtain ⟨ad, kvs, h1, h2, h3, h4, h5, h6⟩ := s.at_ i _ e1
          refine ⟨.ref ad, h1, H0, B, ρ, y, hB, s, e2, fun B' H' u x r => ?_⟩
          have eu := key_of r e3
          subst eu
          subst h5
          obtain ⟨v, hv, rv⟩ := dAt_val (h6.mono x.bb) hg
          exact ⟨ad, v, rfl, by rw [← hv]; exact DGet.k (x.get h2 h3), q B' H' v x rv⟩
    | ownT ks xs =>
      cases e2 : g ρ with
      | none => simp only [e2] at hg; cases hg
      | some y =>
        simp only [e2, Option.bind_some] at hg
        cases e3 : keyT y with
        | none => rw [e3] at hg; cases hg
        | some k =>
          simp only [e3, Option.bind_some] at hg
          obtain ⟨ad, kvs, h1, h2, h3, h4, h5, h6⟩ := s.at_ i _ e1
          refine ⟨.ref ad, h1, H0, B, ρ, y, hB, s, e2, fun B' H' u x r => ?_⟩
          obtain ⟨bb, rfl, hbb⟩ := keyT_at x.bh r e3
          subst h5
          obtain ⟨v, hv, rv⟩ := dAtT_val (h6.mono x.bb) hg
          exact ⟨ad, v, rfl, by rw [← hv]; exact DGet.t (x.get h2 h3) hbb, q B' H' v x rv⟩
    | _ => cases hg
/-- return d, d an own dict -/
def mRetOD (i : Nat) : M := fun ρ => match ρ[i]? with | some (.ownK ks ds) => some (.rt (.dK ks ds)) | some (.ownT ks ds) => some (.rt (.dT ks ds)) | _ => none
theorem s_retOD {i : Nat} (he : PE X e (tVar i)) : PS X (.Return (some e) pos) (tS X.K cl (mRetOD i)) := ps_mono (ps_ret he) fun E σ H ⟨H0, B0, B, ρ, out, x, s, hm, q⟩ => by
  unfold mRetOD at hm
  cases e1 : ρ[i]? with
  | none => rw [e1] at hm; cases hm
  | some sv =>
    rw [e1] at hm
    cases sv with
    | ownK ks ds =>
      cases hm
      obtain ⟨a, kvs, h1, h2, h3, h4, h5, h6⟩ := s.at_ i _ e1
      exact ⟨.ref a, h1, q (upd B a (.dK kvs)) H _ (x.join h2 h3 h4) (.dK upd_same h5 (h6.mono (same_new h3)))⟩
    | ownT ks ds =>
      cases hm
      obtain ⟨a, kvs, h1, h2, h3, h4, h5, h6⟩ := s.at_ i _ e1
      exact ⟨.ref a, h1, q (upd B a (.dT kvs)) H _ (x.join h2 h3 h4) (.dT upd_same h5 (h6.mono (same_new h3)))⟩
    | _ => cases hm
/-! ### is -/
def fIsN (neg : Bool) : D → Option D
  | .non => some (.bl (!neg))
  | .bl _ => some (.bl neg)
  | .int _ => some (.bl neg)
  | .str _ => some (.bl neg)
  | .lst _ => some (.bl neg)
  | .tup _ => some (.bl neg)
  | .obj _ _ _ => some (.bl neg)
  | .dT _ _ => some (.bl neg)
  | .dK _ _ => some (.bl neg)
  | _ => none
def gU (f : D → Option D) (g : Rho → Option D) : Rho → Option D := fun ρ => (g ρ).bind f
theorem isN_dec {B : Hp} {v : V} {x : D} {c : D} (r : Rep K cl B v x) {neg : Bool} (h : fIsN neg x = some c) : c = .bl (if neg = true then !decide (v = .non) else decide (v = .non)) := by
  cases r <;> cases neg <;> first | (cases h; rfl) | cases h
theorem isN_of : ∀ σ H Q, tD K cl (gU (fIsN false) g) σ H Q → tIsN (tD K cl g) σ H Q := fun σ H Q ⟨H0, B, ρ, c, hB, s, hg, q⟩ => by
  unfold gU at hg
  cases e1 : g ρ with
  | none => rw [e1] at hg; cases hg
  | some x =>
    rw [e1] at hg
    refine ⟨H0, B, ρ, x, hB, s, e1, fun B' H' v x' r => q B' H' _ x' ?_⟩
    rw [isN_dec r hg]
    exact .bl _
theorem notN_of : ∀ σ H Q, tD K cl (gU (fIsN true) g) σ H Q → tNotN (tD K cl g) σ H Q := fun σ H Q ⟨H0, B, ρ, c, hB, s, hg, q⟩ => by
  unfold gU at hg
  cases e1 : g ρ with
  | none => rw [e1] at hg; cases hg
  | some x =>
    rw [e1] at hg
    refine ⟨H0, B, ρ, x, hB, s, e1, fun B' H' v x' r => q B' H' _ x' ?_⟩
    rw [isN_dec r hg]
    exact .bl _
theorem d_isN (hp : PE X e (tIsN (tD X.K cl g))) : PE X e (tD X.K cl (gU (fIsN false) g)) := pe_mono hp isN_of
theorem d_notN (hp : PE X e (tNotN (tD X.K cl g))) : PE X e (tD X.K cl (gU (fIsN true) g)) := pe_mono hp notN_of
def fIsB (neg : Bool) : D → D → Option D
  | .bl a, .bl b => some (.bl (if neg then !decide (a = b) else decide (a = b)))
  | _, _ => none
theorem dd_isB : OpDD K cl rIsB (fIsB false) := fun B H v u a b c Q hB ra rb hf q => by
  cases a with
  | bl x => cases b with
    | bl y => cases hf; cases ra; cases rb; exact ⟨x, y, rfl, rfl, q B H _ (Ext.refl hB) (.bl _)⟩
    | _ => cases hf
  | _ => cases hf
theorem dd_notB : OpDD K cl rNotB (fIsB true) := fun B H v u a b c Q hB ra rb hf q => by
  cases a with
  | bl x => cases b with
    | bl y => cases hf; cases ra; cases rb; exact ⟨x, y, rfl, rfl, q B H _ (Ext.refl hB) (.bl _)⟩
    | _ => cases hf
  | _ => cases hf
/-! ### isinstance, a built-in class -/
def D.ty : D → Option String
  | .non => some "NoneType"
  | .bl _ => some "bool"
  | .int _ => some "int"
  | .str _ => some "str"
  | .lst _ => some "list"
  | .tup _ => some "tuple"
  | .dT _ _ => some "dict"
  | .dK _ _ => some "dict"
  | _ => none
def isTy (a T : String) : Bool := a == T || (a == "bool" && T == "int")
def fIsi (T : String) (d : D) : Option D := d.ty.map fun a => .bl (isTy a T)
theorem ty_of {B H : Hp} (hB : Cln B H) {v : V} {d : D} {a : String} (r : Rep K cl B v d) (h : d.ty = some a) : TyX K H v (.type a) := by
  cases r with
  | non => cases h; exact .base .non
  | bl b => cases h; exact .base (.bl b)
  | int i => cases h; exact .base (.int i)
  | str x => cases h; exact .base (.str x)
  | lst q _ => cases h; exact .base (.lst (hB _ _ q))
  | tup q _ => cases h; exact .base (.tup (hB _ _ q))
  | dT q _ _ => cases h; exact .base (.dT (hB _ _ q))
  | dK q _ _ => cases h; exact .base (.dK (hB _ _ q))
  | _ => cases h
abbrev tyNames : List String := ["NoneType", "bool", "int", "str", "list", "tuple", "dict"]
theorem ty_in {d : D} {a : String} (h : d.ty = some a) : a ∈ tyNames := by cases d <;> cases h <;> simp [tyNames]
theorem d_isi {T : String} (hp : PE X e (tCB (rIsi X.K) (tCons (tD X.K cl g) (tCons (tC (.ty T)) tNil)))) (hT : (tyNames.all fun a => kitB a T == some (isTy a T)) = true := by decide +kernel) : PE X e (tD X.K cl (gU (fIsi T) g)) := pe_mono hp fun σ H Q ⟨H0, B, ρ, c, hB, s, hg, q⟩ => by
  unfold gU at hg
  cases e1 : g ρ with
  | none => rw [e1] at hg; cases hg
  | some x =>
    rw [e1] at hg
    replace hg : fIsi T x = some c := hg
    unfold fIsi at hg
    cases e2 : x.ty with
    | none => rw [e2] at hg; cases hg
    | some a =>
      rw [e2] at hg
      cases hg
      refine ⟨H0, B, ρ, x, hB, s, e1, fun B' H' v x' r => ⟨v, .ty T, .type a, .type T, isTy a T, rfl, .ty T, ty_of x'.bh r e2, kit_ty ?_, q B' H' _ x' (.bl _)⟩⟩
      have := List.all_eq_true.mp hT a (ty_in e2)
      exact eq_of_beq this
/-! ### repr -/
def reprOk (d : D) : Bool := D.ok 8 d && (d.py.showable && (!d.py.hasDict && (decide (d.py.depth ≤ 8) && decide (d.py.shown.length ≤ sizeLine))))
def fRepr : List D → Option D
  | [.int i] => if i.natAbs.log2 < 1920 then some (.str (toString i)) else none
  | [.bl b] => some (.str (if b then "True" else "False"))
  | [.non] => some (.str "None")
  | [.lst ds] => if reprOk (.lst ds) = true then some (.str (D.lst ds).py.shown) else none
  | [.tup ds] => if reprOk (.tup ds) = true then some (.str (D.tup ds).py.shown) else none
  | _ => none
def rReprA (K : PySem.W.Frag) : List V → Hp → VK → Prop := fun vs H Q => (∃ (a : Addr) (d : PyData), vs = [.ref a] ∧ Dp K H (.ref a) d ∧ d.showable = true ∧ d.hasDict = false ∧ d.depth ≤ 8 ∧ d.shown.length ≤ sizeLine ∧ Q (.str d.shown) H) ∨
  (∃ i : Int, vs = [.int i] ∧ i.natAbs.log2 < 1920 ∧ Q (.str (toString i)) H) ∨ (∃ b : Bool, vs = [.bl b] ∧ Q (.str (if b then "True" else "False")) H) ∨ (vs = [.non] ∧ Q (.str "None") H)
theorem cr_reprA (hg : X.A.guards = some []) (hu : X.A.units + 64 < cLine) : CallR X (.builtin "repr") (rReprA X.K) := by
  intro pins s σ H vs us Q I r h
  rcases h with ⟨a, d, rfl, hd, hs, hn, hz, hl, q⟩ | ⟨i, rfl, hi, q⟩ | ⟨b, rfl, q⟩ | ⟨rfl, q⟩
  · obtain rfl := Vals.ref1 r
    obtain ⟨as, rd⟩ := Dp.reads I d _ _ hd (show RelV (.ref a) (Value.ref a) from rfl)
    exact PySem.repr_of_reads' rd hs (PySem.PyData.noDict_hsm hn) hg (by omega) (fun _ _ e => e) (fun h' u tk kp => ⟨.str _, H, I.kept (t' := tk) kp, ⟨_, rfl⟩, q⟩) hl
  · cases r with
    | cons rv rn =>
      cases rn
      obtain ⟨t, rfl⟩ := rv
      exact PySem.P.repr_of_int hi ⟨.str _, H, I.tok _, ⟨_, rfl⟩, q⟩
  · cases r with
    | cons rv rn =>
      cases rn
      obtain rfl : _ = Value.bool b := rv
      exact PySem.P.repr_of_bool ⟨.str _, H, I.tok _, ⟨_, rfl⟩, q⟩
  · cases r with
    | cons rv rn =>
      cases rn
      obtain rfl : _ = Value.none := rv
      exact PySem.P.repr_of_none ⟨.str _, H, I.tok _, ⟨_, rfl⟩, q⟩
theorem ca_repr : CaD K cl (rReprA K) fRepr := fun B H vs ds c Q hB r hf q => by
  unfold fRepr at hf
  split at hf
  · split at hf
    · rename_i hz
      cases hf
      obtain ⟨v, rfl, r1⟩ := reps1 r
      cases r1
      exact .inr (.inl ⟨_, rfl, hz, q B H _ (Ext.refl hB) (.str _)⟩)
    · cases hf
  · cases hf
    obtain ⟨v, rfl, r1⟩ := reps1 r
    cases r1
    exact .inr (.inr (.inl ⟨_, rfl, q B H _ (Ext.refl hB) (.str _)⟩))
  · cases hf
    obtain ⟨v, rfl, r1⟩ := reps1 r
    cases r1
    exact .inr (.inr (.inr ⟨rfl, q B H _ (Ext.refl hB) (.str _)⟩))
  · rename_i ds
    split at hf
    · rename_i hz
      cases hf
      unfold reprOk at hz
      simp only [Bool.and_eq_true, Bool.not_eq_true', decide_eq_true_eq] at hz
      obtain ⟨v, rfl, r1⟩ := reps1 r
      have dp := r1.dp hB 8 hz.1
      cases r1
      exact .inl ⟨_, _, rfl, dp, hz.2.1, hz.2.2.1, hz.2.2.2.1, hz.2.2.2.2, q B H _ (Ext.refl hB) (.str _)⟩
    · cases hf
  · rename_i ds
    split at hf
    · rename_i hz
      cases hf
      unfold reprOk at hz
      simp only [Bool.and_eq_true, Bool.not_eq_true', decide_eq_true_eq] at hz
      obtain ⟨v, rfl, r1⟩ := reps1 r
      have dp := r1.dp hB 8 hz.1
      cases r1
      exact .inl ⟨_, _, rfl, dp, hz.2.1, hz.2.2.1, hz.2.2.2.1, hz.2.2.2.2, q B H _ (Ext.refl hB) (.str _)⟩
    · cases hf
  · cases hf
end
/-! ### max(xs, default=d) -/
section
variable {X : Cx} {cl : Cl} {K : PySem.W.Frag} {e : Expr} {g h : Rho → Option D} {gs : Rho → Option (List D)}
def rMaxD (K : PySem.W.Frag) : List V → List V → Hp → VK → Prop := fun vs zs H Q => ∃ (a : Addr) (ns : List Int) (d : Int), vs = [V.ref a] ∧ zs = [V.int d] ∧ (SqL K H a (ns.map V.int) ∨ SqT K H a (ns.map V.int)) ∧ Q (.int (match ns with | [] => d | n :: ns => ns.foldl max n)) H
theorem depth_ints : ∀ ns : List Int, PyData.depthAll (ns.map PyData.int) = 0
  | [] => by simp [PyData.depthAll]
  | n :: ns => by simp [PyData.depthAll, PyData.depth, depth_ints ns]
end
end Dl
set_option maxRecDepth 100000
set_option maxHeartbeats 4000000
namespace Dl
open PySem PySem.Spec PyProof.Rows L2
def dcK1 (bind : D → Rho → Option Rho) (tt : Rho → Option Bool) (kg vg : Rho → Option D) (ρ : Rho) : List D → List Key → List D → Option (List Key × List D)
  | [], ks, xs => some (ks, xs)
  | d :: ds, ks, xs => (bind d ρ).bind fun ρ1 => (tt ρ1).bind fun b => if b = true then (kg ρ1).bind fun y => (vg ρ1).bind fun z => (y.key).bind fun k => dcK1 bind tt kg vg ρ ds (putT ks xs k z).1 (putT ks xs k z).2 else dcK1 bind tt kg vg ρ ds ks xs
def gDcK1 (gi : Rho → Option (List D)) (bind : D → Rho → Option Rho) (tt : Rho → Option Bool) (kg vg : Rho → Option D) (vs : List Nat) : Rho → Option D := fun ρ => (gi ρ).bind fun ds => if ds.length ≤ top then (dcK1 bind tt kg vg (wipeR ρ vs) ds [] []).map fun r => D.dK r.1 r.2 else none
section
variable {X : Cx} {cl : Cl} {K : PySem.W.Frag}
theorem dcK1_of {gi : Rho → Option (List D)} {is vs : List Nat} {bind : D → Rho → Option Rho} {tt : Rho → Option Bool} {kg vg : Rho → Option D} (hv : ∀ i ∈ is, i ∈ vs) : ∀ σ H Q, tD K cl (gDcK1 gi bind tt kg vg vs) σ H Q → tDcP (.dK []) (tI K cl gi) (tG K cl is bind) (tDT K cl tt) (tD K cl kg) (tD K cl vg) vs σ H Q := fun σ H Q ⟨H0, B, ρ, c, hB, s, hg, q⟩ => by
  unfold gDcK1 at hg
  cases e1 : gi ρ with
  | none => rw [e1] at hg; cases hg
  | some ds =>
    rw [e1] at hg
    replace hg : (if ds.length ≤ top then (dcK1 bind tt kg vg (wipeR ρ vs) ds [] []).map fun r => D.dK r.1 r.2 else none) = some c := hg
    split at hg
    · rename_i hz
      cases e2 : dcK1 bind tt kg vg (wipeR ρ vs) ds [] [] with
      | none => rw [e2] at hg; cases hg
      | some out =>
        rw [e2] at hg
        cases hg
        refine ⟨H0, B, ρ, ds, hB, s, e1, fun J B1 H1 x1 wk Dd nD => ?_⟩
        have nB1 : B1 Dd = none := x1.bh.free nD
        refine ⟨fun i k H => k = ds.length - i ∧ i ≤ ds.length ∧ ∃ B2 kvs xs, Ext cl.tabs B1 H1 B2 H ∧ B2 Dd = none ∧ H Dd = some (.dK kvs) ∧ Reps K cl B2 (kvs.map (·.2)) xs ∧ (kvs.map (·.1)).Nodup ∧ dcK1 bind tt kg vg (wipeR ρ vs) (ds.drop i) (kvs.map (·.1)) xs = some out ∧ kvs.length ≤ i,
          ⟨_, rfl, Nat.zero_le _, B1, [], [], (Ext.refl x1.bh).side nD, nB1, upd_same, .nil, List.nodup_nil, e2, Nat.le_refl _⟩, ?_⟩
        rintro i k H2 ⟨rfl, hi, B2, kvs, xs, x2, nD2, hD2, ra, hn, hr, hy⟩
        have wki := wk B2 H2 i x2.bb x2.bh
        by_cases hlt : i < ds.length
        · obtain ⟨hgo, hyl⟩ := wki.1 hlt
          refine .inr ⟨hgo, fun H' => i + 1 ≤ ds.length ∧ ∃ B2 kvs xs, Ext cl.tabs B1 H1 B2 H' ∧ B2 Dd = none ∧ H' Dd = some (.dK kvs) ∧ Reps K cl B2 (kvs.map (·.2)) xs ∧ (kvs.map (·.1)).Nodup ∧ dcK1 bind tt kg vg (wipeR ρ vs) (ds.drop (i + 1)) (kvs.map (·.1)) xs = some out ∧ kvs.length ≤ i + 1,
            fun H' w => ⟨ds.length - (i + 1), by omega, rfl, w⟩, fun v H3 hv3 => ?_⟩
          obtain ⟨B3, d, x3, hd, rv⟩ := hyl v H3 hv3
          rw [List.getElem?_eq_getElem hlt] at hd
          cases hd
          rw [List.drop_eq_getElem_cons hlt] at hr
          unfold dcK1 at hr
          have x23 := x1.trans (x2.trans x3)
          cases e3 : bind ds[i] (wipeR ρ vs) with
          | none => rw [e3] at hr; cases hr
          | some ρ1 =>
            simp only [e3, Option.bind_some] at hr
            refine ⟨H0, B3, wipeR ρ vs, _, ρ1, x3.bh, (s.ext x23).wipe vs, rv, e3, fun σ3 l3 f3 s3 => ⟨?_, ?_⟩⟩
            · rw [← wipe_wipe (σ := σ)]
              exact wipe_eq l3 fun j hj => f3 j fun z => hj (hv j z)
            · cases e4 : tt ρ1 with
              | none => rw [e4] at hr; cases hr
              | some b =>
                simp only [e4, Option.bind_some] at hr
                refine ⟨H0, B3, ρ1, b, x3.bh, s3, e4, fun B4 H4 x4 => ?_⟩
                have x24 := x3.trans x4
                have x14 := x2.trans x24
                have hD4 : H4 Dd = some (.dK kvs) := x24.get hD2 nD2
                have nD4 : B4 Dd = none := (x24.out _ _ hD2 (fun _ z => nomatch z) (fun _ z => nomatch z)).trans nD2
                cases b with
                | false =>
                  simp only [Bool.false_eq_true, if_false] at hr
                  exact iteF ⟨hlt, B4, kvs, xs, x14, nD4, hD4, ra.mono x24.bb, hn, hr, Nat.le_succ_of_le hy⟩
                | true =>
                  simp only [if_true] at hr
                  cases e5 : kg ρ1 with
                  | none => rw [e5] at hr; cases hr
                  | some y =>
                    simp only [e5, Option.bind_some] at hr
                    cases e6 : vg ρ1 with
                    | none => rw [e6] at hr; cases hr
                    | some z =>
                      simp only [e6, Option.bind_some] at hr
                      cases e7 : y.key with
                      | none => rw [e7] at hr; cases hr
                      | some ky =>
                        simp only [e7, Option.bind_some] at hr
                        refine iteT ⟨H0, B4, ρ1, y, x4.bh, s3.ext x4, e5, fun B5 H5 u x5 ru => ⟨H0, B5, ρ1, z, x5.bh, (s3.ext x4).ext x5, e6, fun B6 H6 w x6 rw' => ?_⟩⟩
                        have x26 := (x24.trans x5).trans x6
                        have x16 := x2.trans x26
                        have hD6 : H6 Dd = some (.dK kvs) := x26.get hD2 nD2
                        have nD6 : B6 Dd = none := (x26.out _ _ hD2 (fun _ z => nomatch z) (fun _ z => nomatch z)).trans nD2
                        have n1 : H1 Dd = none := nD
                        have eu := key_of ru e7
                        subst eu
                        have pk := putK_rep (v := w) (y := ky) hn (ra.mono x26.bb) rw'
                        have lp := length_putK kvs ky w
                        refine ⟨_, DPut.k hD6 (Nat.lt_of_le_of_lt hy (Nat.lt_of_lt_of_le hlt (top_le hz))), hlt, B6, putK kvs ky w, _, ext_own x16 nD6 n1 hD6, nD6, upd_same, pk.2, putK_nodup hn, by rw [pk.1]; exact hr, by omega⟩
        · have e : i = ds.length := by omega
          subst e
          rw [List.drop_length] at hr
          cases hr
          exact .inl ⟨wki.2 (Nat.le_refl _), q (upd B2 Dd (.dK kvs)) H2 _ (x1.trans (x2.join hD2 nD2 nD)) (.dK upd_same rfl (ra.mono (same_new nD2)))⟩
    · cases hg
theorem d_dcK1 {kx vx tg iter : Expr} {ifs : List Expr} {scope : Scope} {own : List (Str × Nat)} {pos : Pos} {gi : Rho → Option (List D)} {is : List Nat} {bind : D → Rho → Option Rho} {tt : Rho → Option Bool} {kg vg : Rho → Option D}
    (hp : PE X (.DictComp kx vx [⟨tg, iter, ifs, 0⟩] scope pos) (tDcP (.dK []) (tI X.K cl gi) (tG X.K cl is bind) (tDT X.K cl tt) (tD X.K cl kg) (tD X.K cl vg) (List.map (fun p : Str × Nat => p.2) own))) (hv : ∀ i ∈ is, i ∈ List.map (fun p : Str × Nat => p.2) own := by decide) :
    PE X (.DictComp kx vx [⟨tg, iter, ifs, 0⟩] scope pos) (tD X.K cl (gDcK1 gi bind tt kg vg (List.map (fun p : Str × Nat => p.2) own))) := pe_mono hp (dcK1_of hv)
end
def kdcK1 (bind : D → Rho → Option Rho) (tt : Rho → Option Bool) (kg vg : Rho → Option D) (ρ : Rho) : List D → List Key → List D → Option (List Key × List D)
  | [], ks, xs => some (ks, xs)
  | d :: ds, ks, xs => (bind d ρ).bind fun ρ1 => (tt ρ1).bind fun b => if b = true then (kg ρ1).bind fun y => (vg ρ1).bind fun z => (y.key).bind fun k => frK k fun k => frD z fun z => frS (putT ks xs k z).1 fun ks' => frS (putT ks xs k z).2 fun xs' => kdcK1 bind tt kg vg ρ ds ks' xs' else kdcK1 bind tt kg vg ρ ds ks xs
theorem kdcK1_eq (bind : D → Rho → Option Rho) (tt : Rho → Option Bool) (kg vg : Rho → Option D) (ρ : Rho) : ∀ (ds : List D) (ks : List Key) (xs : List D), kdcK1 bind tt kg vg ρ ds ks xs = dcK1 bind tt kg vg ρ ds ks xs
  | [], ks, xs => rfl
  | d :: ds, ks, xs => by
    unfold kdcK1 dcK1
    simp only [frK_eq, frD_eq, frS_eq, kdcK1_eq bind tt kg vg ρ ds]
def kDcK1 (gi : Rho → Option (List D)) (bind : D → Rho → Option Rho) (tt : Rho → Option Bool) (kg vg : Rho → Option D) (vs : List Nat) : Rho → Option D := fun ρ => (gi ρ).bind fun ds => if ds.length ≤ top then (kdcK1 bind tt kg vg (wipeR ρ vs) ds [] []).map fun r => D.dK r.1 r.2 else none
theorem kDcK1_eq (gi : Rho → Option (List D)) (bind : D → Rho → Option Rho) (tt : Rho → Option Bool) (kg vg : Rho → Option D) (vs : List Nat) : kDcK1 gi bind tt kg vg vs = gDcK1 gi bind tt kg vg vs := funext fun ρ => by unfold kDcK1 gDcK1; simp only [kdcK1_eq]
/-! ### max(xs, default=d) -/
section
variable {X : Cx} {cl : Cl} {K : PySem.W.Frag} {e : Expr} {g h : Rho → Option D} {gs : Rho → Option (List D)}
open PySem.W in
theorem reads_ints {hp : Heap} : ∀ {ns : List Int} {us : List Value}, Vals (ns.map V.int) us → ReadsAll hp us (ns.map PyData.int) []
  | [], _, .nil => .nil
  | n :: ns, _, .cons r t => by
    obtain ⟨k, rfl⟩ := r
    exact .cons (.int n k) (reads_ints t)
theorem alike_all (ns : List Int) : PySem.W.AlikeAll (ns.map PyData.int) := by
  refine ⟨fun x hx y hy => ?_, fun x hx => ?_⟩
  · obtain ⟨i, _, rfl⟩ := List.mem_map.mp hx
    obtain ⟨j, _, rfl⟩ := List.mem_map.mp hy
    rfl
  · obtain ⟨i, _, rfl⟩ := List.mem_map.mp hx
    exact fun z => nomatch z
theorem cr_maxD (hc : X.calm = true) (hu : X.A.units + 1 < cLine) : CallRK X (.builtin "max") [Str.ofString "default"] (rMaxD X.K) := by
  intro pins s σ H xs zs us ws Q I r rz h
  obtain ⟨a, ns, d, rfl, rfl, hs, q⟩ := h
  obtain rfl := Vals.ref1 r
  cases rz with
  | cons rv rn =>
    cases rn
    obtain ⟨td, rfl⟩ := rv
    have done : ∀ (vs : Array Value), Vals (ns.map V.int) vs.toList → (∀ h' tk, (∀ b o, s.heap.get? b = some o → h'.get? b = some o) → ns = [] → EP X pins σ Q (.int d td) { s with heap := h', toks := tk }) ∧
        ∀ (y : PyData) (ys : List PyData) (i : Nat) v h' tk bs, ns.map PyData.int = y :: ys → vs[i]? = some v → Reads h' v (PySem.W.maxD y ys) bs → (∀ b o, s.heap.get? b = some o → h'.get? b = some o) → EP X pins σ Q v { s with heap := h', toks := tk } := fun vs hv => by
      refine ⟨fun h' tk kp e0 => ⟨.int d, H, I.kept (t' := tk) kp, ⟨td, rfl⟩, by subst e0; exact q⟩, fun y ys i v h' tk bs e1 hi rd kp => ?_⟩
      cases ns with
      | nil => cases e1
      | cons n ns =>
        simp only [List.map_cons, List.cons.injEq] at e1
        obtain ⟨rfl, rfl⟩ := e1
        rw [PySem.W.maxD_ints] at rd
        cases rd with
        | int _ t2 => exact ⟨.int _, H, I.kept (t' := tk) kp, ⟨t2, rfl⟩, q⟩
    rcases hs with hs | hs
    · obtain ⟨its, rv, hl, _⟩ := I.list hs
      have dn := done its.toArray (by simpa using rv)
      refine PySem.W.max_list_default (I.ok.hd hc) hl.isList (xs := ns.map PyData.int) (as := []) (reads_ints (by simpa using rv)) (alike_all ns) (by rw [depth_ints]; exact hu) (fun e0 h' tk kp => dn.1 h' tk kp (List.map_eq_nil_iff.mp e0)) dn.2
    · obtain ⟨its, rv, hl, _⟩ := I.tuple hs
      have dn := done its.toArray (by simpa using rv)
      refine PySem.W.max_tuple_default (I.ok.hd hc) (show s.heap.IsTuple a its.toArray from hl) (xs := ns.map PyData.int) (as := []) (reads_ints (by simpa using rv)) (alike_all ns) (by rw [depth_ints]; exact hu) (fun e0 h' tk kp => dn.1 h' tk kp (List.map_eq_nil_iff.mp e0)) dn.2
def fMaxD (d : Int) : List D → Option D := fun ds => (toInts ds).map fun ns => .int (match ns with | [] => d | n :: ns => ns.foldl max n)
def gSeqF (f : List D → Option D) (g : Rho → Option D) : Rho → Option D := fun ρ => (g ρ).bind fun x => match x with | .lst ds => f ds | .tup ds => f ds | _ => none
theorem d_maxD {d : Int} (hp : PE X e (tCKw (rMaxD X.K) (tCons (tD X.K cl g) tNil) (tCons (tC (.int d)) tNil))) : PE X e (tD X.K cl (gSeqF (fMaxD d) g)) := pe_mono hp fun σ H Q ⟨H0, B, ρ, c, hB, hs, hg, q⟩ => by
  unfold gSeqF at hg
  cases e1 : g ρ with
  | none => rw [e1] at hg; cases hg
  | some x =>
    simp only [e1, Option.bind_some] at hg
    refine ⟨H0, B, ρ, x, hB, hs, e1, fun B' H' v x' r => ?_⟩
    cases x with
    | lst ds =>
      simp only [fMaxD] at hg
      cases e2 : toInts ds with
      | none => rw [e2] at hg; cases hg
      | some ns =>
        rw [e2] at hg
        cases hg
        cases r with
        | lst h1 h2 =>
          have ex := ints_of h2 e2
          subst ex
          exact ⟨_, ns, d, rfl, rfl, .inl (SqL.of (x'.bh _ _ h1)), q B' H' _ x' (.int _)⟩
    | tup ds =>
      simp only [fMaxD] at hg
      cases e2 : toInts ds with
      | none => rw [e2] at hg; cases hg
      | some ns =>
        rw [e2] at hg
        cases hg
        cases r with
        | tup h1 h2 =>
          have ex := ints_of h2 e2
          subst ex
          exact ⟨_, ns, d, rfl, rfl, .inr (SqT.of (x'.bh _ _ h1)), q B' H' _ x' (.int _)⟩
    | _ => cases hg
/-! ### calls with keyword-only parameters -/
/-- f(a, ..), the keyword-only parameters left out: their values ds -/
theorem d_callDf {f : List D → Option D} {dv : List V} {dd : List D} (hd : ∀ B, Reps X.K cl B dv dd) (hp : PE X e (tCall (spD X.K cl f) dv E0 (tDs X.K cl gs))) : PE X e (tD X.K cl (gDs (fun ds => f (ds ++ dd)) gs)) := pe_mono hp fun σ H Q ⟨H0, B, ρ, c, hB, hs, hg, q⟩ => by
  unfold gDs at hg
  cases e1 : gs ρ with
  | none => rw [e1] at hg; cases hg
  | some ds =>
    rw [e1] at hg
    exact ⟨H0, B, ρ, ds, hB, hs, e1, fun B' H' vs x r => ⟨B', ds ++ dd, c, x.bh, (hs.ext x).tabs, r.append (hd B'), hg, fun B2 H2 v x2 r2 => q B2 H2 v (x.trans x2) r2⟩⟩
theorem tks_nil : PK X [] (tDs X.K cl gNil) := ⟨fun pos pins s σ H Q I ⟨H0, B, ρ, ds, hB, hs, hg, q⟩ => by
  cases hg
  exact pk_nil.run pos pins s σ H Q I (q B H [] (Ext.refl hB) .nil)⟩
theorem tks_cons {nm : Option Str} {kpos : Pos} {kws : List Keyword} {r : Rho → Option (List D)} (ha : PE X e (tD X.K cl g)) (hr : PK X kws (tDs X.K cl r)) : PK X (⟨nm, e, kpos⟩ :: kws) (tDs X.K cl (gCons g r)) := ⟨fun pos pins s σ H Q I ⟨H0, B, ρ, d', hB, hs, hg, q⟩ => by
  unfold gCons at hg
  cases e1 : g ρ with
  | none => rw [e1] at hg; cases hg
  | some d =>
    rw [e1] at hg
    cases e2 : r ρ with
    | none => rw [e2] at hg; cases hg
    | some ds =>
      rw [e2] at hg
      cases hg
      exact (pk_cons ha hr).run pos pins s σ H Q I ⟨H0, B, ρ, d, hB, hs, e1, fun B1 H1 v x1 r1 => ⟨H0, B1, ρ, ds, x1.bh, hs.ext x1, e2, fun B2 H2 us x2 r2 => q B2 H2 (v :: us) (x1.trans x2) (.cons (r1.mono x2.bb) r2)⟩⟩⟩
/-- f(a, .., k = b): all parameters given, in the order of the def -/
def gCallK (f : List D → Option D) (gs ks : Rho → Option (List D)) : Rho → Option D := fun ρ => (gs ρ).bind fun ds => (ks ρ).bind fun es => f (ds ++ es)
theorem d_callK {f : List D → Option D} {gk : Rho → Option (List D)} {n m : Nat} (hn : ∀ ρ ds, gs ρ = some ds → ds.length = n) (hm : ∀ ρ ds, gk ρ = some ds → ds.length = m) (hp : PE X e (tCallN n m (spD X.K cl f) (fun a b => a ++ b) E0 (tDs X.K cl gs) (tDs X.K cl gk))) : PE X e (tD X.K cl (gCallK f gs gk)) := pe_mono hp fun σ H Q ⟨H0, B, ρ, c, hB, hs, hg, q⟩ => by
  unfold gCallK at hg
  cases e1 : gs ρ with
  | none => rw [e1] at hg; cases hg
  | some ds =>
    cases e2 : gk ρ with
    | none => rw [e1, e2] at hg; cases hg
    | some es =>
      rw [e1, e2] at hg
      exact ⟨H0, B, ρ, ds, hB, hs, e1, fun B1 H1 vs x1 r1 => ⟨H0, B1, ρ, es, x1.bh, hs.ext x1, e2, fun B2 H2 us x2 r2 => ⟨by rw [r1.len]; exact hn ρ ds e1, by rw [r2.len]; exact hm ρ es e2, B2, ds ++ es, c, x2.bh, ((hs.ext x1).ext x2).tabs, (r1.mono x2.bb).append r2, hg, fun B3 H3 v x3 r3 => q B3 H3 v ((x1.trans x2).trans x3) r3⟩⟩⟩
end
/-! ### an own list, lent -/
/-- nothing of d is a list -/
def D.noLst : Nat → D → Bool
  | _, .non => true
  | _, .bl _ => true
  | _, .int _ => true
  | _, .str _ => true
  | n + 1, .tup xs => xs.all (D.noLst n)
  | _, _ => false
section
variable {K : PySem.W.Frag} {cl : Cl}
theorem noLst_hide {a : Addr} {xs : List V} : ∀ (n : Nat) {B : Hp} {v : V} {d : D}, Rep K cl B v d → B a = some (.lst xs) → d.noLst n = true → Rep K cl (fun b => if b = a then none else B b) v d
  | n, B, _, _, .non, _, _ => .non
  | n, B, _, _, .bl b, _, _ => .bl b
  | n, B, _, _, .int i, _, _ => .int i
  | n, B, _, _, .str x, _, _ => .str x
  | 0, B, _, _, .tup _ _, _, h => by simp [D.noLst] at h
  | n + 1, B, _, _, .tup (a := t) (xs := ys) (ds := ds) q r, ha, h => by
    have nt : t ≠ a := fun z => by rw [z, ha] at q; cases q
    refine .tup (xs := ys) (by show (if t = a then none else B t) = _; rw [if_neg nt]; exact q) ?_
    have all : ∀ {vs : List V} {ds : List D}, Reps K cl B vs ds → ds.all (D.noLst n) = true → Reps K cl (fun b => if b = a then none else B b) vs ds := by
      intro vs ds r
      induction ds generalizing vs with
      | nil => cases r; intro _; exact .nil
      | cons d ds ih =>
        cases r with
        | cons r1 r2 =>
          intro hh
          rw [List.all_cons, Bool.and_eq_true] at hh
          exact .cons (noLst_hide n r1 ha hh.1) (ih r2 hh.2)
    exact all r (by simpa [D.noLst] using h)
  | n, B, _, _, .lst _ _, _, h => by cases n <;> simp [D.noLst] at h
  | n, B, _, _, .obj _ _ _, _, h => by cases n <;> simp [D.noLst] at h
  | n, B, _, _, .dT _ _ _, _, h => by cases n <;> simp [D.noLst] at h
  | n, B, _, _, .dK _ _ _, _, h => by cases n <;> simp [D.noLst] at h
  | n, B, _, _, .vol _, _, h => by cases n <;> simp [D.noLst] at h
  | n, B, _, _, .scr _, _, h => by cases n <;> simp [D.noLst] at h
theorem slots_lend {H0 : HG} {B H : Hp} {σ : L2.St} {ρ : Rho} {i : Nat} {ds : List D} {a : Addr} {xs : List V} (s : Slots K cl H0 B H σ ρ) (e : ρ[i]? = some (.own ds)) (h1 : σ[i]? = some (some (.ref a))) (h2 : H a = some (.lst xs)) (h3 : B a = none) (h5 : Reps K cl B xs ds) :
    Slots K cl H0 (upd B a (.lst xs)) H σ (ρ.set i (.val (.lst ds))) := by
  have hl : i < ρ.length := (List.getElem?_eq_some_iff.mp e).1
  have sm := same_new (o := .lst xs) h3
  have own : ∀ (j : Nat) (w : SV) (b : Addr), i ≠ j → ρ[j]? = some w → w.owned = true → σ[j]? = some (some (.ref b)) → B b = none → upd B a (.lst xs) b = none := fun j w b q ej ow fj nb => by
    have : b ≠ a := fun z => q (s.inj i j _ w a e ej rfl ow h1 (by rw [fj, z]))
    rw [upd_ne this]; exact nb
  refine ⟨by rw [List.length_set, s.len], fun j w ej => ?_, fun j k w y b e1 e2 o1 o2 f1 f2 => ?_, s.tabs⟩
  · by_cases q : i = j
    · subst q
      rw [List.getElem?_set_self hl] at ej
      cases ej
      exact ⟨.ref a, h1, .lst upd_same (h5.mono sm)⟩
    · rw [List.getElem?_set_ne q] at ej
      have zz := s.at_ j w ej
      cases w with
      | un => trivial
      | val d => obtain ⟨v, g1, g2⟩ := zz; exact ⟨v, g1, g2.mono sm⟩
      | exc c d => obtain ⟨b, dx, v, g1, g2, g3, g4⟩ := zz; exact ⟨b, dx, v, g1, g2, sm _ _ g3, g4.mono sm⟩
      | own ds => obtain ⟨b, ys, g1, g2, g3, g4, g5⟩ := zz; exact ⟨b, ys, g1, g2, own j _ b q ej rfl g1 g3, g4, g5.mono sm⟩
      | ownT ks ds => obtain ⟨b, ys, g1, g2, g3, g4, g5, g6⟩ := zz; exact ⟨b, ys, g1, g2, own j _ b q ej rfl g1 g3, g4, g5, g6.mono sm⟩
      | ownK ks ds => obtain ⟨b, ys, g1, g2, g3, g4, g5, g6⟩ := zz; exact ⟨b, ys, g1, g2, own j _ b q ej rfl g1 g3, g4, g5, g6.mono sm⟩
      | ownO c ns ds => obtain ⟨b, dx, ys, ⟨g1, g0⟩, g2, g3, g4, g5, g6⟩ := zz; exact ⟨b, dx, ys, ⟨g1, g0⟩, g2, own j _ b q ej rfl g1 g3, g4, g5, g6.mono sm⟩
  · have n1 : i ≠ j := fun q => by subst q; rw [List.getElem?_set_self hl] at e1; cases e1; cases o1
    have n2 : i ≠ k := fun q => by subst q; rw [List.getElem?_set_self hl] at e2; cases e2; cases o2
    rw [List.getElem?_set_ne n1] at e1
    rw [List.getElem?_set_ne n2] at e2
    exact s.inj j k w y b e1 e2 o1 o2 f1 f2
theorem cln_lend {B H : Hp} {a : Addr} {xs : List V} (hB : Cln B H) (h2 : H a = some (.lst xs)) : Cln (upd B a (.lst xs)) H := by
  refine ⟨fun b o e m => ?_, fun b i j e => ?_, fun b ps e => ?_⟩
  · by_cases z : b = a
    · subst z; rw [upd_same] at e; cases e; exact h2
    · rw [upd_ne z] at e; exact hB.s b o e m
  · by_cases z : b = a
    · subst z; rw [upd_same] at e; cases e
    · rw [upd_ne z] at e; exact hB.v b i j e
  · by_cases z : b = a
    · subst z; rw [upd_same] at e; cases e
    · rw [upd_ne z] at e; exact hB.n b ps e
end
section
variable {X : Cx} {cl : Cl} {K : PySem.W.Frag} {W : WX} {e : Expr}
/-- the expression reads the own list at i; what it makes is no list -/
def gLend (i : Nat) (g : Rho → Option D) : Rho → Option D := fun ρ => match ρ[i]? with
  | some (.own ds) => (g (ρ.set i (.val (.lst ds)))).bind fun d => if d.noLst 8 = true then some d else none
  | _ => none
theorem d_lend {i : Nat} {g : Rho → Option D} (hp : PE X e (tD X.K cl g)) : PE X e (tD X.K cl (gLend i g)) := pe_mono hp fun σ H Q ⟨H0, B, ρ, c, hB, s, hg, q⟩ => by
  unfold gLend at hg
  split at hg
  · rename_i ds e1
    obtain ⟨a, xs, h1, h2, h3, h4, h5⟩ := s.at_ i _ e1
    cases e2 : g (ρ.set i (.val (.lst ds))) with
    | none => rw [e2] at hg; cases hg
    | some d =>
      simp only [e2, Option.bind_some] at hg
      split at hg
      · rename_i hz
        cases hg
        refine ⟨H0, _, _, _, cln_lend hB h2, slots_lend s e1 h1 h2 h3 h5, e2, fun B' H' v x r => ?_⟩
        exact q _ H' v (ext_hide h3 hB x) (noLst_hide 8 r (x.bb _ _ upd_same) hz)
      · cases hg
  · cases hg
def gLendT (i : Nat) (g : Rho → Option Bool) : Rho → Option Bool := fun ρ => match ρ[i]? with
  | some (.own ds) => g (ρ.set i (.val (.lst ds)))
  | _ => none
theorem dt_lend {i : Nat} {g : Rho → Option Bool} (hp : PT X e (tDT X.K cl g)) : PT X e (tDT X.K cl (gLendT i g)) := pt_mono hp fun σ H Q ⟨H0, B, ρ, c, hB, s, hg, q⟩ => by
  unfold gLendT at hg
  split at hg
  · rename_i ds e1
    obtain ⟨a, xs, h1, h2, h3, h4, h5⟩ := s.at_ i _ e1
    exact ⟨H0, _, _, c, cln_lend hB h2, slots_lend s e1 h1 h2 h3 h5, hg, fun B' H' x => q _ H' (ext_hide h3 hB x)⟩
  · cases hg
end
end Dl
set_option maxRecDepth 100000
set_option maxHeartbeats 4000000
namespace Dl
open PySem PySem.Spec PyProof.Rows L2
section
variable {X : Cx} {cl : Cl} {K : PySem.W.Frag} {W : WX} {e : Expr} {g : GW} {gs : GWx (List D)}
def wMake (c : Nat) (m : List D → Option (List Str × List D)) (gs : GWx (List D)) : GW := fun ρ Po Er => gs ρ (fun ds => wOpt (m ds) fun r => Po (.obj c r.1 r.2)) Er
theorem w_make {c : Nat} {m : List D → Option (List Str × List D)} (hp : PE X e (tMake (cl c) (spI X.K cl c m) [] E0 (tWs X.K cl W gs))) : PE X e (tW X.K cl W (wMake c m gs)) := pe_mono hp fun σ H Q ⟨H0, B, ρ, Po, Er, hB, hs, hg, q, er⟩ =>
  ⟨H0, B, ρ, _, Er, hB, hs, hg, (fun ds pds B1 H1 vs x1 r1 x dx nx nd hne => by
      obtain ⟨r, e2, p⟩ := wOpt_some pds
      simp only [List.append_nil]
      have nx1 : upd H1 dx (.own x) x = none := by rw [upd_ne (Ne.symm hne)]; exact nx
      have s1 : Same H1 (upd (upd H1 dx (.own x)) x (.ins (cl c) dx [])) := (same_new nd).trans (same_new nx1)
      refine ⟨B1, x, dx, vs, ds, r.1, r.2, rfl, upd_same, x1.bh.free nx, x1.bh.trans s1, (hs.ext x1).tabs.ext s1, r1, e2, fun B' H' dx' fs xx hx nb hn hr => ⟨rfl, ?_⟩⟩
      have s2 : Same H1 (without (upd (upd H1 dx (.own x)) x (.ins (cl c) dx [])) x) := fun b o eb => by
        have hb : b ≠ x := ne_of_none eb nx
        show (if b = x then _ else _) = _
        rw [if_neg hb]
        exact s1 b o eb
      have x2 : Ext cl.tabs B1 H1 B' H' := Ext.trans (⟨Same.grow s2, Same.refl _, x1.bh.trans s2, fun _ _ _ _ _ => rfl⟩ : Ext cl.tabs B1 H1 B1 _) xx
      exact q _ p _ H' _ (x1.trans (x2.join hx nb nx)) (.obj upd_same hn (hr.mono (same_new nb)))), er⟩
/-- o.m(..): of which o -/
def methOf (c : Nat) (mn : Str) : D → Option D
  | .obj c' ns xs => if c' = c ∧ (ns.contains mn) = false then some (.obj c' ns xs) else none
  | _ => none
def wMeth (c : Nat) (mn : Str) (f : List D → Option D) (g : GW) (gs : GWx (List D)) : GW := fun ρ Po Er => g ρ (fun o => wOpt (methOf c mn o) fun o => gs ρ (fun ds => wOpt (f (o :: ds)) Po) Er) Er
theorem w_meth {c : Nat} {mn : Str} {f : List D → Option D} (hp : PE X e (tMeth (cl c) mn (spD X.K cl f) [] E0 (tW X.K cl W g) (tWs X.K cl W gs))) : PE X e (tW X.K cl W (wMeth c mn f g gs)) := pe_mono hp fun σ H Q ⟨H0, B, ρ, Po, Er, hB, hs, hg, q, er⟩ =>
  ⟨H0, B, ρ, _, Er, hB, hs, hg, (fun o po B1 H1 v x1 r1 => by
      obtain ⟨o', e1, p⟩ := wOpt_some po
      unfold methOf at e1
      split at e1
      · split at e1
        · rename_i hc
          cases e1
          obtain ⟨rfl, hm⟩ := hc
          cases r1 with
          | obj h1 h2 h3 =>
            refine ⟨_, _, _, rfl, x1.bh _ _ h1, lookup_none (by rw [h2]; exact hm), ⟨H0, B1, ρ, _, Er, x1.bh, hs.ext x1, p, fun ds pds B2 H2 vs x2 r2 => ?_, er.ext x1⟩⟩
            obtain ⟨d, e2, pd⟩ := wOpt_some pds
            simp only [List.append_nil]
            exact ⟨B2, _ :: ds, d, x2.bh, ((hs.ext x1).ext x2).tabs, .cons (.obj (x2.bb _ _ h1) h2 (h3.mono x2.bb)) r2, e2, fun B3 H3 w x3 rv => q d pd B3 H3 w ((x1.trans x2).trans x3) rv⟩
        · cases e1
      · cases e1), er⟩
/-! lending -/
def wLend (i : Nat) (g : GW) : GW := fun ρ Po Er => match ρ[i]? with
  | some (.own ds) => g (ρ.set i (.val (.lst ds))) (fun d => d.noLst 8 = true ∧ Po d) (fun c d => d.noLst 8 = true ∧ Er c d)
  | _ => False
theorem err_lend {σ : L2.St} {B H : Hp} {a : Addr} {xs : List V} {Er : EK} (h3 : B a = none) (hB : Cln B H) (er : ErrAt K cl W σ B H Er) : ErrAt K cl W σ (upd B a (.lst xs)) H (fun c d => d.noLst 8 = true ∧ Er c d) := fun c d ec B' H' dx v x hd r => by
  have ha : B' a = some (.lst xs) := x.bb _ _ upd_same
  refine er c d ec.2 _ H' dx v (ext_hide h3 hB x) ?_ (noLst_hide 8 r ha ec.1)
  show (if dx = a then _ else _) = _
  rw [if_neg (fun z => by rw [z, ha] at hd; cases hd)]
  exact hd
theorem w_lend {i : Nat} (hp : PE X e (tW X.K cl W g)) : PE X e (tW X.K cl W (wLend i g)) := pe_mono hp fun σ H Q ⟨H0, B, ρ, Po, Er, hB, s, hg, q, er⟩ => by
  unfold wLend at hg
  split at hg
  · rename_i ds e1
    obtain ⟨a, xs, h1, h2, h3, h4, h5⟩ := s.at_ i _ e1
    refine ⟨H0, _, _, _, _, cln_lend hB h2, slots_lend s e1 h1 h2 h3 h5, hg, fun d pd B' H' v x r => ?_, err_lend h3 hB er⟩
    exact q d pd.2 _ H' v (ext_hide h3 hB x) (noLst_hide 8 r (x.bb _ _ upd_same) pd.1)
  · exact hg.elim
def wLendT (i : Nat) (g : GWx Bool) : GWx Bool := fun ρ Po Er => match ρ[i]? with
  | some (.own ds) => g (ρ.set i (.val (.lst ds))) Po (fun c d => d.noLst 8 = true ∧ Er c d)
  | _ => False
theorem wt_lend {i : Nat} {g : GWx Bool} (hp : PT X e (tWt X.K cl W g)) : PT X e (tWt X.K cl W (wLendT i g)) := pt_mono hp fun σ H Q ⟨H0, B, ρ, Po, Er, hB, s, hg, q, er⟩ => by
  unfold wLendT at hg
  split at hg
  · rename_i ds e1
    obtain ⟨a, xs, h1, h2, h3, h4, h5⟩ := s.at_ i _ e1
    exact ⟨H0, _, _, _, _, cln_lend hB h2, slots_lend s e1 h1 h2 h3 h5, hg, fun d pd B' H' x => q d pd _ H' (ext_hide h3 hB x), err_lend h3 hB er⟩
  · exact hg.elim
end
/-! ### the law's pool -/
def spPool (K : PySem.W.Frag) : Sp := fun vs H Q _ => ∃ (a : Addr) (ns : List Int) (k : Int), vs = [.ref a, .int k] ∧ SqL K H a (ns.map V.int) ∧ 0 ≤ k ∧ ∀ p c b H', H p = none → Same H H' → H' p = none → Q (.ref p) (upd H' p (.lst [.int c, .bl b, .int (k + 1)]))
def spTake : Sp := fun vs H Q _ => ∃ (p : Addr) (lim c k : Int) (b : Bool), vs = [.ref p, .int lim] ∧ 0 < lim ∧ lim < 1000000 ∧ H p = some (.lst [.int c, .bl b, .int k]) ∧ ∀ r c b k, 0 ≤ r → r < lim → Q (.int r) (upd H p (.lst [.int c, .bl b, .int k]))
/-- any number below the limit -/
def mTake (ds : List D) (Po : D → Prop) (_ : EK) : Prop := ∃ n : Int, ds = [.vol 0, .int n] ∧ 0 < n ∧ n < 1000000 ∧ ∀ r : Int, 0 ≤ r → r < n → Po (.int r)
def mPool (ds : List D) (Po : D → Prop) (_ : EK) : Prop := ∃ k : Int, ds = [.scr, .int k] ∧ 0 ≤ k ∧ Po (.vol 0)
section
variable {P : Program} {w : World} {K : PySem.W.Frag} {mg : Str → Option Value} {base : Heap} {cl : Cl} {f : Addr} {fd : FuncData} {n : Nat} {ps : List Str}
theorem take_imp (F : FnOk P w K mg base CX0 n f fd ps spTake) : FnOk P w K mg base CX0 n f fd ps (spN K cl mTake) := F.imp fun vs H Q E ⟨B, ds, Po, hB, ht, r, ⟨lim, e, h0, h1, hP⟩, q⟩ => by
  subst e
  obtain ⟨v, u, rfl, r1, r2⟩ := reps2 r
  cases r2
  cases r1 with
  | vol hb =>
    obtain ⟨o, ho, _, c, b, k, rfl⟩ := hB.v _ _ _ hb
    refine ⟨_, lim, c, k, b, rfl, h0, h1, ho, fun r c' b' k' g1 g2 => ?_⟩
    exact q _ (hP r g1 g2) B _ _ (Ext.vol hB hb ⟨rfl, c', b', k', rfl⟩) (.int r)
theorem pool_imp (F : FnOk P w K mg base CX0 n f fd ps (spPool K)) : FnOk P w K mg base CX0 n f fd ps (spN K cl mPool) := F.imp fun vs H Q E ⟨B, ds, Po, hB, ht, r, ⟨k, e, h0, hP⟩, q⟩ => by
  subst e
  obtain ⟨v, u, rfl, r1, r2⟩ := reps2 r
  cases r2
  cases r1 with
  | @scr a0 ns0 hs =>
    have hs' : SqL K H a0 (ns0.map V.int) := by
      rcases hs with (z | ⟨o, z⟩) | z
      · exact .inl (.inl (hB _ _ z))
      · exact .inl (.inr ⟨o, hB _ _ z⟩)
      · exact .inr z
    refine ⟨_, _, k, rfl, hs', h0, fun p c b H' np sm np' => ?_⟩
    have x1 : Ext cl.tabs B H B H' := ⟨Same.grow sm, Same.refl _, hB.trans sm, fun _ _ _ _ _ => rfl⟩
    exact q _ hP _ _ _ (x1.trans (Ext.newVol x1.bh np' ⟨rfl, c, b, k + 1, rfl⟩)) (.vol upd_same)
end
end Dl
set_option maxRecDepth 100000
set_option maxHeartbeats 4000000
namespace Dl
open PySem PySem.Spec PyProof.Rows L2
section
variable {X : Cx} {cl : Cl} {K : PySem.W.Frag} {W : WX} {e a b : Expr} {st : Stmt} {g h : Rho → Option D} {gs : Rho → Option (List D)} {pos : Pos} {x : Str} {T : String}
/-- a built-in type by its name -/
theorem pe_bty (hg : Gl X x) (hm : X.mg x = none) (hv : bootBuiltins x = some (.type T)) (hn : x ≠ "__name__" := by decide) (hd : (x == ("__debug__" : Str)) = false := by decide) : PE X (.Name x pos) (tC (.ty T)) :=
  ⟨fun pins s σ H Q I h => ld_blt I hg hm hv ⟨.ty T, H, I, rfl, h⟩ hn hd⟩
theorem un65 {k : Nat} {A : Around} (r : Room k A) : A.units + 65 < cLine := by have := r.un; omega
theorem un1 {k : Nat} {A : Around} (r : Room k A) : A.units + 1 < cLine := by have := r.un; omega
theorem boot_set : bootBuiltins "set" = some (.type "set") := by rfl
/-! tuple(range(..)) -/
def gTRg1 (g : Rho → Option D) : Rho → Option D := fun ρ => match g ρ with | some (.int j) => if -big < j ∧ j < big then some (.tup (rngD 0 j.toNat)) else none | _ => none
def gTRg2 (g h : Rho → Option D) : Rho → Option D := fun ρ => match g ρ, h ρ with | some (.int i), some (.int j) => if -big < i ∧ i < big ∧ -big < j ∧ j < big then some (.tup (rngD i (j - i).toNat)) else none | _, _ => none
theorem d_trg1 {p p2 pos pos2 : Pos} (hc : X.calm = true) (hl : Gl X "tuple") (hlm : X.mg "tuple" = none) (hr : Gl X "range") (hrm : X.mg "range" = none) (ha : PE X a (tD X.K cl g)) (na : starEach [.Call (.Name "range" p2) [a] [] pos2] X.env = (false, eval (.Call (.Name "range" p2) [a] [] pos2) X.env) :: starEach [] X.env := by rfl) (nb : starEach [a] X.env = (false, eval a X.env) :: starEach [] X.env := by rfl) :
    PE X (.Call (.Name "tuple" p) [.Call (.Name "range" p2) [a] [] pos2] [] pos) (tD X.K cl (gTRg1 g)) := pe_mono (pe_tupRg hc hl hlm (prg_1 hr hrm ha nb) na) fun σ H Q ⟨H0, B, ρ, c, hB, hs, hg, q⟩ => by
  unfold gTRg1 at hg
  split at hg
  · rename_i j e1
    split at hg
    · rename_i hj
      cases hg
      refine ⟨H0, B, ρ, _, hB, hs, e1, fun B1 H1 v x1 r1 => ?_⟩
      cases r1
      unfold big at hj
      refine ⟨j, rfl, ⟨by omega, by omega, by omega, by omega, by omega⟩, fun p np => q _ _ _ (x1.trans (Ext.new x1.bh np)) (.tup upd_same ?_)⟩
      have := rng_reps (K := X.K) (cl := cl) (B := upd B1 p (.tup (rgV 0 j))) 0 j
      rwa [Int.sub_zero] at this
    · cases hg
  · cases hg
/-! -x -/
def fNeg : D → Option D
  | .int i => some (.int (-i))
  | _ => none
theorem neg_of {te : TE} {u : Int → V} (hu : ∀ i, u i = .int (-i)) (ht : ∀ σ H Q, tD K cl g σ H Q → te σ H Q) : ∀ σ H Q, tD K cl (gU fNeg g) σ H Q → tUn (rU u) te σ H Q := fun σ H Q ⟨H0, B, ρ, c, hB, hs, hg, q⟩ => by
  unfold gU at hg
  cases e1 : g ρ with
  | none => rw [e1] at hg; cases hg
  | some d =>
    rw [e1] at hg
    replace hg : fNeg d = some c := hg
    cases d with
    | int i =>
      cases hg
      refine ht _ _ _ ⟨H0, B, ρ, _, hB, hs, e1, fun B' H' v x r => ?_⟩
      cases r
      refine ⟨i, rfl, ?_⟩
      rw [hu]
      exact q B' H' _ x (.int _)
    | _ => cases hg
theorem d_neg (hp : PE X e (tUn (rU fun i => .int (-i)) (tD X.K cl g))) : PE X e (tD X.K cl (gU fNeg g)) := pe_mono hp (neg_of (fun _ => rfl) fun _ _ _ z => z)
def wU (f : D → Option D) (g : GW) : GW := fun ρ Po Er => g ρ (fun d => wOpt (f d) Po) Er
theorem w_neg {g : GW} (hp : PE X e (tUn (rU fun i => .int (-i)) (tW X.K cl W g))) : PE X e (tW X.K cl W (wU fNeg g)) := pe_mono hp fun σ H Q ⟨H0, B, ρ, Po, Er, hB, hs, hg, q, er⟩ =>
  ⟨H0, B, ρ, _, Er, hB, hs, hg, (fun d pd B' H' v x r => by
    obtain ⟨c, e1, p⟩ := wOpt_some pd
    cases d with
    | int i =>
      cases e1
      cases r
      exact ⟨i, rfl, q _ p B' H' _ x (.int _)⟩
    | _ => cases e1), er⟩
/-! own list + list, a new list -/
def nCatS (g : Rho → Option (List D)) (h : Rho → Option D) : Rho → Option (List D) := fun ρ => (g ρ).bind fun xs => (h ρ).bind fun b => match b with | .lst ys => if xs.length + ys.length ≤ top then some (xs ++ ys) else none | _ => none
theorem n_catS (ha : PE X a (tSq X.K cl gs)) (hb : PE X b (tD X.K cl h)) : PE X (.BinOp a .Add b pos) (tN X.K cl (nCatS gs h)) := pe_mono (pe_op op_cat ha hb) fun σ H Q ⟨H0, B, ρ, es, hB, hs, hg, q⟩ => by
  unfold nCatS at hg
  cases e1 : gs ρ with
  | none => rw [e1] at hg; cases hg
  | some xs =>
    cases e2 : h ρ with
    | none => rw [e1, e2] at hg; cases hg
    | some y =>
      simp only [e1, e2, Option.bind_some] at hg
      refine ⟨H0, B, ρ, xs, hB, hs, e1, fun B1 H1 ad vs x1 h1 nm r1 => ⟨H0, B1, ρ, y, x1.bh, hs.ext x1, e2, fun B2 H2 u x2 r2 => ?_⟩⟩
      cases y with
      | lst ys =>
        simp only at hg
        split at hg
        · rename_i hz
          cases hg
          cases r2 with
          | lst b1 b2 =>
            have xx := x1.trans x2
            exact ⟨_, _, _, _, rfl, rfl, x2.getM h1 nm, x2.bh _ _ b1, by rw [r1.len, b2.len]; exact top_le hz, fun p np => q B2 _ p _ (xx.side np) upd_same (xx.bh.free np) (xx.hh.free np) ((r1.mono x2.bb).append b2)⟩
        · cases hg
      | _ => cases hg
/-- return a new list -/
def mRetNL (gs : Rho → Option (List D)) : M := fun ρ => (gs ρ).map Out.ro
theorem s_retNL (he : PE X e (tN X.K cl gs)) : PS X (.Return (some e) pos) (tS X.K cl (mRetNL gs)) := ps_mono (ps_ret he) fun E σ H ⟨H0, B0, B, ρ, out, x, s, hm, q⟩ => by
  unfold mRetNL at hm
  cases e1 : gs ρ with
  | none => rw [e1] at hm; cases hm
  | some ds =>
    rw [e1] at hm
    cases hm
    exact ⟨H0, B, ρ, ds, x.bh, s, e1, fun B' H' p xs x' h1 h2 h3 r => q B' H' p xs (x.trans x') h1 h2 (x.hh.free h3) r⟩
/-! x in d, d a dict of the data -/
def dHas : D → D → Option Bool
  | .dK ks _, y => y.key.map fun k => ks.any fun z => decide (z = k)
  | .dT ks _, .tup ys => (D.keys ys).map fun k => ks.any fun z => decide (z = k)
  | _, _ => none
def gInD (neg : Bool) (g h : Rho → Option D) : Rho → Option D := fun ρ => (g ρ).bind fun y => (h ρ).bind fun d => (dHas d y).map fun b => .bl (if neg then !b else b)
theorem gcons_len {n : Nat} {g : Rho → Option D} {r : Rho → Option (List D)} {ρ : Rho} {ds : List D} (h : gCons g r ρ = some ds) (hr : ∀ ds, r ρ = some ds → ds.length = n := by first | exact fun _ h => gcons_len h | (intro ds h; cases h; rfl)) : ds.length = n + 1 := by
  unfold gCons at h
  cases e1 : g ρ with
  | none => rw [e1] at h; cases h
  | some d =>
    cases e2 : r ρ with
    | none => rw [e1, e2] at h; cases h
    | some es =>
      rw [e1, e2] at h
      cases h
      rw [List.length_cons, hr es e2]
end
end Dl
set_option maxRecDepth 100000
set_option maxHeartbeats 8000000
namespace Mp
open PySem PySem.Spec PyProof.Rows L2 Dl
abbrev w__law_take := mTake
abbrev w__law_pool := mPool
def m_classes_from : List D → Option D := kFun 1 2 ((kRet (gDs (onSeq fTuple) (gCons (gLc (gEnum (gCons (gVar 0) gNil)) (bTup 2 (bCons (kName 1) (bCons (kName 2) bNil))) (gTest (gBin fEq (gDs (onLst fMin) (gCons (gVar 2) gNil)) (gVar 1))) (gDs (onSeq fTuple) (gCons (gDs fSortSet (gCons (gVar 2) gNil)) gNil)) [1, 2]) gNil))))
def m_World_then : List D → Option D := kFun 3 0 ((kRet (gBin fIx (gBin fIx (gFld 0 "_table" (gVar 0)) (gVar 1)) (gVar 2))))
def m_with_powers : List D → Option D := kFun 3 3 ((mSeq (kSet 3 (gDs (onSeq fList) (gCons (gVar 1) gNil))) (mSeq (kSet 4 (gVar 2)) (mSeq (whileRun (gTest (gBin (fIn true) (gVar 4) (gVar 1))) (mSeq (kSet 3 (gBin fAdd (gVar 3) (gLc (gSeq (gVar 1)) (kName 5) (fun _ => some true) (gMeth 0 "then" m_World_then (gVar 0) (gCons (gVar 5) (gCons (gVar 4) gNil))) [5]))) (kSet 4 (gMeth 0 "then" m_World_then (gVar 0) (gCons (gVar 4) (gCons (gVar 2) gNil))))) 200) (kRet (gDs (onSeq fTuple) (gCons (gDs (onLst fSorted) (gCons (gVar 3) gNil)) gNil)))))))
def m_World_inverse : List D → Option D := kFun 2 0 ((kRet (gBin fIx (gFld 0 "_inverses" (gVar 0)) (gVar 1))))
def m_carried_group : List D → Option D := kFun 3 2 ((mSeq (kSet 3 (gMeth 0 "inverse" m_World_inverse (gVar 0) (gCons (gVar 2) gNil))) (kRet (gDs (onSeq fTuple) (gCons (gDs (onLst fSorted) (gCons (gLc (gSeq (gVar 1)) (kName 4) (fun _ => some true) (gMeth 0 "then" m_World_then (gVar 0) (gCons (gMeth 0 "then" m_World_then (gVar 0) (gCons (gVar 3) (gCons (gVar 4) gNil))) (gCons (gVar 2) gNil))) [4]) gNil)) gNil)))))
def m_grown_groups : List D → Option D := kFun 2 1 ((kRet (gLc (gRng1 (gCons (gFld 0 "order" (gVar 0)) gNil)) (kName 2) (gAnd (gTest (gBin (fIn true) (gVar 2) (gVar 1))) (gTest (gBin fEq (gDs m_carried_group (gCons (gVar 0) (gCons (gVar 1) (gCons (gVar 2) gNil)))) (gVar 1)))) (gDs m_with_powers (gCons (gVar 0) (gCons (gVar 1) (gCons (gVar 2) gNil)))) [2])))
def m_all_groups : List D → Option D := kFun 1 4 ((mSeq (mOwnT1 1 (gDs mkTup (gCons (gC (.int 0)) gNil)) (gC (.bl true))) (mSeq (kOwn 2 (gCons (gDs mkTup (gCons (gC (.int 0)) gNil)) gNil)) (mSeq (whileRun (gTruS (gSqVar 2)) (mSeq (mPop 2 3) (mFor (gSeq (gDs m_grown_groups (gCons (gVar 0) (gCons (gVar 3) gNil)))) (kName 4) (mIf (gTest (gInO true (gVar 4) 1)) (mSeq (kPut 1 (gVar 4) (gC (.bl true))) (kApp 2 (gVar 4))) mNil))) 200) (kRet (gDs (onLst fSortL) (gCons (gKeysO 1) gNil)))))))
def m_holds_all : List D → Option D := kFun 2 1 ((kRet (gDs (onLst fAll) (gCons (gLc (gSeq (gVar 1)) (kName 2) (fun _ => some true) (gBin (fIn false) (gVar 2) (gVar 0)) [2]) gNil))))
def m_Lattice_init : List D → Option (List Str × List D) := kInit 1 1 9 ((mSeq (kFldO 1 "world" 0 (gVar 1)) (mSeq (kFldO 1 "groups" 0 (gDs (onSeq fTuple) (gCons (gDs m_all_groups (gCons (gVar 1) gNil)) gNil))) (mSeq (kFldO 1 "_numbers" 0 (kDcT (gEnum (gCons (gFldO 1 "groups" 0) gNil)) (bTup 2 (bCons (kName 2) (bCons (kName 3) bNil))) (fun _ => some true) (gVar 3) (gVar 2) [2, 3])) (mSeq (kFldO 1 "_carries" 0 (gLc (gSeq (gFldO 1 "groups" 0)) (kName 3) (fun _ => some true) (gLc (gRng1 (gCons (gFld 0 "order" (gVar 1)) gNil)) (kName 4) (fun _ => some true) (gBin fGet (gFldO 1 "_numbers" 0) (gDs m_carried_group (gCons (gVar 1) (gCons (gVar 3) (gCons (gVar 4) gNil))))) [4]) [3])) (mSeq (kFldO 1 "classes" 0 (gDs m_classes_from (gCons (gFldO 1 "_carries" 0) gNil))) (mSeq (kFldO 1 "_places" 0 (gDcK2 (gEnum (gCons (gFldO 1 "classes" 0) gNil)) (bTup 2 (bCons (kName 5) (bCons (kName 6) bNil))) (fun _ => some true) (gSeq (gVar 6)) (kName 7) (fun _ => some true) (gVar 7) (gVar 5) [5, 6, 7] [7])) (mSeq (kFldO 1 "_holdings" 0 (gLc (gSeq (gFldO 1 "groups" 0)) (kName 3) (fun _ => some true) (gLc (gSeq (gFldO 1 "groups" 0)) (kName 8) (fun _ => some true) (gDs m_holds_all (gCons (gVar 3) (gCons (gVar 8) gNil))) [8]) [3])) (kFldO 1 "_below" 0 (gLc (gSeq (gFldO 1 "_holdings" 0)) (kName 10) (fun _ => some true) (gDs (onSeq fTuple) (gCons (gLc (gEnum (gCons (gVar 10) gNil)) (bTup 2 (bCons (kName 2) (bCons (kName 9) bNil))) (gTru (gVar 9)) (gVar 2) [2, 9]) gNil)) [10]))))))))))
def m__law_held : List D → Option D := kFun 1 4 ((mSeq (kOwn 1 gNil) (mSeq (mFor (gSeq (gVar 0)) (kName 2) (kApp 1 (gLc (gRng1 (gCons (gDs (onSeq fLen) (gCons (gVar 0) gNil)) gNil)) (kName 3) (gTest (gBin fEq (gDs (onSeq fLen) (gCons (gLc (gSeq (gBin fIx (gVar 0) (gVar 3))) (kName 4) (gTest (gBin (fIn true) (gVar 4) (gVar 2))) (gVar 4) [4]) gNil)) (gC (.int 0)))) (gVar 3) [3]))) (mRetO 1))))
def m__law_sums : List D → Option D := kFun 1 3 ((mSeq (kOwn 1 (gCons (gC (.int 0)) gNil)) (mSeq (mFor (gRng2 (gCons (gC (.int 1)) (gCons (gC (.int 13)) gNil))) (kName 2) (mIf (gTest (gBin (fCmp fun i j => decide (j < i)) (gDs (onSeq fLen) (gCons (gLc (gSeq (gVar 0)) (kName 3) (gTest (gInS false (gBin fSub (gVar 2) (gVar 3)) (gSqVar 1))) (gVar 3) [3]) gNil)) (gC (.int 0)))) (kApp 1 (gVar 2)) mNil)) (kRet (gSlS (gSqVar 1) (gPart (gC (.int 1))) gNoPart)))))
def m__law_reaches : List D → Option D := kFun 2 6 ((mSeq (kOwn 2 gNil) (mSeq (mFor (gRng1 (gCons (gDs (onSeq fLen) (gCons (gVar 0) gNil)) gNil)) (kName 3) (kApp 2 (gDs m__law_sums (gCons (gLc (gSeq (gBin fIx (gVar 1) (gVar 3))) (kName 6) (gTest (gBin fNe (gVar 6) (gVar 3))) (gBin fFdiv (gDs (onSeq fLen) (gCons (gBin fIx (gVar 0) (gVar 3)) gNil)) (gDs (onSeq fLen) (gCons (gBin fIx (gVar 0) (gVar 6)) gNil))) [6]) gNil)))) (mSeq (kOwn 4 gNil) (mSeq (mFor (gSeq (gVar 1)) (kName 5) (kApp 4 (gLc (gRng2 (gCons (gC (.int 1)) (gCons (gC (.int 13)) gNil))) (kName 7) (gTest (gBin (fCmp fun i j => decide (j < i)) (gDs (onSeq fLen) (gCons (gLc (gSeq (gVar 5)) (kName 3) (gTest (gBin (fIn false) (gVar 7) (gIxS (gSqVar 2) (gVar 3)))) (gVar 3) [3]) gNil)) (gC (.int 0)))) (gVar 7) [7]))) (mRetO 4))))))
def w__law_below : List D → (D → Prop) → EK → Prop := wFun 3 4 ((mwSeq (mwSet 3 (wOf (wLcs (wLift (gRng1 (gCons (gVar 2) gNil))) (kName 4) (fun _ Po _ => Po true) (wCall w__law_take (wLift (gCons (gVar 0) (gCons (gDs (onSeq fLen) (gCons (gVar 1) gNil)) gNil)))) [4]))) (mwLift (kRet (gDs (onSeq fTuple) (gCons (gLc (gRng1 (gCons (gDs (onSeq fLen) (gCons (gVar 1) gNil)) gNil)) (kName 5) (gTest (gBin (fCmp fun i j => decide (j < i)) (gDs (onSeq fLen) (gCons (gLc (gSeq (gVar 3)) (kName 6) (gTest (gBin (fIn false) (gVar 5) (gBin fIx (gVar 1) (gVar 6)))) (gVar 6) [6]) gNil)) (gC (.int 0)))) (gVar 5) [5]) gNil))))))
def m_Lattice_held : List D → Option D := kFun 2 0 ((kRet (gBin fIx (gFld 1 "_below" (gVar 0)) (gVar 1))))
def m_Lattice_ratio : List D → Option D := kFun 3 0 ((kRet (gBin fFdiv (gDs (onSeq fLen) (gCons (gBin fIx (gFld 1 "groups" (gVar 0)) (gVar 1)) gNil)) (gDs (onSeq fLen) (gCons (gBin fIx (gFld 1 "groups" (gVar 0)) (gVar 2)) gNil)))))
def m_own_sizes : List D → Option D := kFun 3 6 ((mSeq (kSet 3 (gLc (gSeq (gMeth 1 "held" m_Lattice_held (gVar 0) (gCons (gVar 1) gNil))) (kName 6) (gTest (gBin fNe (gVar 6) (gVar 1))) (gMeth 1 "ratio" m_Lattice_ratio (gVar 0) (gCons (gVar 1) (gCons (gVar 6) gNil))) [6])) (mSeq (mOwnN 4 (nCat (gDs mkLst (gCons (gC (.bl true)) gNil)) (gLc (gRng1 (gCons (gVar 2) gNil)) (kName 7) (fun _ => some true) (gC (.bl false)) [7]))) (mSeq (mFor (gRng2 (gCons (gC (.int 1)) (gCons (gBin fAdd (gVar 2) (gC (.int 1))) gNil))) (kName 5) (mPutL 4 (gVar 5) (gDs (onLst fAny) (gCons (gLc (gSeq (gVar 3)) (kName 8) (fun _ => some true) (gAndV (gBin (fCmp fun i j => decide (i ≤ j)) (gVar 8) (gVar 5)) (gIxS (gSqVar 4) (gBin fSub (gVar 5) (gVar 8)))) [8]) gNil)))) (kRet (gLc (gRng2 (gCons (gC (.int 1)) (gCons (gBin fAdd (gVar 2) (gC (.int 1))) gNil))) (kName 5) (gTru (gIxS (gSqVar 4) (gVar 5))) (gVar 5) [5]))))))
def m_sizes_by_group : List D → Option D := kFun 3 6 ((mSeq (fun ρ => some (.nx (ρ.set 3 (.ownK [] [])))) (mSeq (mFor (gSeq (gVar 1)) (kName 4) (mFor (gSeq (gMeth 1 "held" m_Lattice_held (gVar 0) (gCons (gVar 4) gNil))) (kName 5) (mIf (gTest (gInO true (gVar 5) 3)) (kPut 3 (gVar 5) (gDs m_own_sizes (gCons (gVar 0) (gCons (gVar 5) (gCons (gVar 2) gNil))))) mNil))) (kRet (kDcK1 (gSeq (gVar 1)) (kName 8) (fun _ => some true) (gVar 8) (gDs (onSeq fTuple) (gCons (gSorted (lc2Of (gSeq (gMeth 1 "held" m_Lattice_held (gVar 0) (gCons (gVar 8) gNil))) (kName 6) (fun _ => some true) (gSeq (gGetO 3 (gVar 6))) (kName 7) (fun _ => some true) (gVar 7) [6, 7] [7])) gNil)) [8])))))
def m_unmet_group : List D → Option D := kFun 4 4 ((mSeq (kSet 4 (gLc (gSeq (gVar 1)) (kName 6) (gTest (gBin (fIn true) (gVar 6) (gVar 2))) (gVar 6) [6])) (mSeq (kSet 5 (gDs m_sizes_by_group (gCons (gVar 0) (gCons (gVar 4) (gCons (gSeqF (fMaxD 0) (gVar 3)) gNil))))) (mSeq (mFor (gSeq (gVar 4)) (kName 6) (mIf (gNot (gTru (gDs (onLst fAny) (gCons (gLc (gSeq (gVar 3)) (kName 7) (fun _ => some true) (gBin (fIn false) (gVar 7) (gBin fGet (gVar 5) (gVar 6))) [7]) gNil)))) (kRet (gVar 6)) mNil)) (kRet (gC .non))))))
def m_sizes_enough : List D → Option D := kFun 4 0 ((kRet (gU (fIsN false) (gDs m_unmet_group (gCons (gVar 0) (gCons (gVar 1) (gCons (gVar 2) (gCons (gVar 3) gNil))))))))
def m_World__allows : List D → Option D := kFun 2 2 ((mSeq (mIf (gTest (gBin (fIn true) (gDs (onSeq fLen) (gCons (gVar 1) gNil)) (gDs mkTup (gCons (gC (.int 1)) (gCons (gC (.int 2)) gNil))))) (kRet (gC (.bl false))) mNil) (mSeq (kSet 2 (gC (.int 1))) (mSeq (mFor (gSeq (gVar 1)) (kName 3) (mSeq (mIf (gOr (gTest (gBin (fCmp fun i j => decide (i < j)) (gVar 3) (gC (.int 0)))) (gTest (gBin (fCmp fun i j => decide (j < i)) (gVar 3) (gConC 0 "LARGEST" (.int 4) (gVar 0))))) (kRet (gC (.bl false))) mNil) (kSet 2 (gBin fMul (gVar 2) (gDs fFac (gCons (gVar 3) gNil)))))) (kRet (gBin (fCmp fun i j => decide (i ≤ j)) (gVar 2) (gConC 0 "MOST" (.int 36) (gVar 0))))))))
def b_orders_of (rc : List D → Option D) : List D → Option D := kFun 1 4 ((mSeq (kSet 1 (gDs (onSeq fList) (gCons (gVar 0) gNil))) (mSeq (mIf (gNot (gTru (gVar 1))) (kRet (gDs mkLst (gCons (gDs mkTup gNil) gNil))) mNil) (kRet (gLc2 (gEnum (gCons (gVar 1) gNil)) (bTup 2 (bCons (kName 2) (bCons (kName 3) bNil))) (fun _ => some true) (gSeq (gDs rc (gCons (gBin fAdd (gSl (gVar 1) gNoPart (gPart (gVar 2))) (gSl (gVar 1) (gPart (gBin fAdd (gVar 2) (gC (.int 1)))) gNoPart)) gNil))) (kName 4) (fun _ => some true) (gBin fAdd (gDs mkTup (gCons (gVar 3) gNil)) (gVar 4)) [2, 3, 4] [4])))))
def m_orders_of_n : Nat → List D → Option D
  | 0 => fun _ => none
  | i + 1 => b_orders_of (m_orders_of_n i)
def m_orders_of : List D → Option D := m_orders_of_n 14
def m_renamings_of : List D → Option D := kFun 1 6 ((mSeq (kSet 1 (gDs mkLst (gCons (gDs mkTup gNil) gNil))) (mSeq (kSet 2 (gC (.int 0))) (mSeq (mFor (gSeq (gVar 0)) (kName 3) (mSeq (kSet 4 (gDs m_orders_of (gCons (gLRg2 (gVar 2) (gBin fAdd (gVar 2) (gVar 3))) gNil))) (mSeq (kSet 1 (gLc2 (gSeq (gVar 1)) (kName 5) (fun _ => some true) (gSeq (gVar 4)) (kName 6) (fun _ => some true) (gBin fAdd (gVar 5) (gVar 6)) [5, 6] [6])) (kSet 2 (gBin fAdd (gVar 2) (gVar 3)))))) (kRet (gVar 1))))))
def m_after_another : List D → Option D := kFun 2 1 ((kRet (gDs (onSeq fTuple) (gCons (gLc (gSeq (gVar 0)) (kName 2) (fun _ => some true) (gBin fIx (gVar 1) (gVar 2)) [2]) gNil))))
def m_World_init : List D → Option (List Str × List D) := kInit 0 1 4 ((mSeq (kFldO 0 "sizes" 0 (gDs (onSeq fTuple) (gCons (gVar 1) gNil))) (mSeq (mIf (gNot (gTru (gMethO 0 "_allows" m_World__allows 0 (gCons (gFldO 0 "sizes" 0) gNil)))) mNever mNil) (mSeq (kFldO 0 "things" 0 (gDs (onSeq fSum) (gCons (gFldO 0 "sizes" 0) gNil))) (mSeq (kFldO 0 "renamings" 0 (gDs (onSeq fTuple) (gCons (gDs m_renamings_of (gCons (gFldO 0 "sizes" 0) gNil)) gNil))) (mSeq (kFldO 0 "order" 0 (gDs (onSeq fLen) (gCons (gFldO 0 "renamings" 0) gNil))) (mSeq (kFldO 0 "_numbers" 0 (kDcT (gEnum (gCons (gFldO 0 "renamings" 0) gNil)) (bTup 2 (bCons (kName 2) (bCons (kName 3) bNil))) (fun _ => some true) (gVar 3) (gVar 2) [2, 3])) (mSeq (kFldO 0 "_table" 0 (gLc (gSeq (gFldO 0 "renamings" 0)) (kName 5) (fun _ => some true) (gLc (gSeq (gFldO 0 "renamings" 0)) (kName 4) (fun _ => some true) (gBin fGet (gFldO 0 "_numbers" 0) (gDs m_after_another (gCons (gVar 5) (gCons (gVar 4) gNil)))) [4]) [5])) (kFldO 0 "_inverses" 0 (gLc (gSeq (gFldO 0 "_table" 0)) (kName 3) (fun _ => some true) (gBin fIndex (gVar 3) (gC (.int 0))) [3]))))))))))
def m_reachable_sizes : List D → Option D := kFun 3 1 ((mSeq (kSet 3 (gDs m_sizes_by_group (gCons (gVar 0) (gCons (gDs mkTup (gCons (gVar 1) gNil)) (gCons (gVar 2) gNil))))) (kRet (gBin fGet (gVar 3) (gVar 1)))))
end Mp
set_option maxRecDepth 100000
set_option maxHeartbeats 4000000
namespace Dl
open PySem PySem.Spec PyProof.Rows L2
/-- as FnOk, where no repr is under way -/
structure FnOkG (P : Program) (w : World) (K : PySem.W.Frag) (mg : Str → Option Value) (base : Heap) (CX : CXT) (k : Nat) (f : Addr) (fd : FuncData) (ps : List Str) (sp : Sp) : Prop where
  len : ∀ vs H Q E, sp vs H Q E → vs.length = ps.length
  run : ∀ (A : Around) (outer : List Env) (s : Shared) (H : Hp) (args : Args) (us : List Value) (vs : List V) (Q : VK) (E : XK), Room k A → A.guards = some [] → Env0 P w K mg base A outer s H → BindsTo s fd args (ps.zip us) → Vals vs us → sp vs H Q E →
    codeAny (model P w) A (.call (.ref f) args) (CR CX outer P w H s Q E) s
theorem deep_guards {A : Around} (h : A.guards = some []) (env : Env) : (A.deeper env).guards = some [] := by
  obtain ⟨hd, d, fr, gs, u⟩ := A
  simpa [Around.deeper] using h
section
variable {P : Program} {w : World} {K : PySem.W.Frag} {mg : Str → Option Value} {base : Heap}
theorem _root_.L2.Fun.okG {CX : CXT} {x qual : Str} {st : Stmt} {f : Addr} {fd : FuncData} {N ps : List Str} {k : Nat} {sp : Sp} (F : Fun K x qual st f fd) (S : FnScope N ps (defScope st)) (len : ∀ vs H Q E, sp vs H Q E → vs.length = ps.length)
    (hbody : ∀ (cdv : Value) (A : Around) (outer : List Env) (s : Shared) (H : Hp) (vs : List V) (Q : VK) (E : XK), (A.deeper (envOfC qual (defScope st) s.heap.objs.size f cdv)).guards = some [] → Room k (A.deeper (envOfC qual (defScope st) s.heap.objs.size f cdv)) → sp vs H Q E →
      ∃ t, PSs (cxOf CX P w K mg base N qual (defScope st) f cdv A outer s H E) (defBody st) t ∧ t { nx := fun _ H' => Q .non H', rt := Q } (start N vs) H) : FnOkG P w K mg base CX (k + 1) f fd ps sp := by
  obtain ⟨oc, od, kV, doc, pm, an, cdv, ct, osl, rfl, lk, hcd⟩ := F.ex
  refine ⟨len, fun A outer s H args us vs Q E hr hg e0 hb r hsp => ?_⟩
  exact LamX.run_ofS lk hcd S hr e0 hb r (len _ _ _ _ hsp) fun hr' => hbody cdv A outer s H vs Q E (deep_guards hg _) hr' hsp
theorem _root_.L2.Fun.okG0 {x qual : Str} {st : Stmt} {f : Addr} {fd : FuncData} {N ps : List Str} {k : Nat} {sp : Sp} (F : Fun K x qual st f fd) (S : FnScope N ps (defScope st)) (len : ∀ vs H Q E, sp vs H Q E → vs.length = ps.length)
    (hbody : ∀ (cdv : Value) (A : Around) (outer : List Env) (s : Shared) (H : Hp) (vs : List V) (Q : VK) (E : XK), (A.deeper (envOfC qual (defScope st) s.heap.objs.size f cdv)).guards = some [] → Room k (A.deeper (envOfC qual (defScope st) s.heap.objs.size f cdv)) → sp vs H Q E →
      ∃ t, PSs (cxOf CX0 P w K mg base N qual (defScope st) f cdv A outer s H E).nox (defBody st) t ∧ t { nx := fun _ H' => Q .non H', rt := Q } (start N vs) H) : FnOkG P w K mg base CX0 (k + 1) f fd ps sp :=
  L2.Fun.okG F S len fun cdv A outer s H vs Q E hG hr h => let ⟨t, h1, q⟩ := hbody cdv A outer s H vs Q E hG hr h; ⟨t, h1.nox, q⟩
end
section
variable {X : Cx} {CX : CXT} {k : Nat} {f C : Addr} {fd : FuncData} {ps : List Str} {sp : Sp} {dvs : List V} {ds : List Value} {E : XK} {x m : Str} {p pos apos : Pos} {e o : Expr} {es : List Expr} {ta : TE} {t : TA}
theorem pe_callG (F : FnOkG X.prog X.w X.K X.mg X.base CX k f fd ps sp) (hG : X.A.guards = some []) (hr : Room k X.A) (hg : Gl X x) (hm : X.mg x = some (.ref f)) (hk : PySem.W.keepIn X.K (.ref f) = true) (hb : Binds X.K fd ps ds) (hd : Vals dvs ds) (hx : Passes CX X E)
    (ha : PA X (e :: es) t) (hdb : (x == ("__debug__" : Str)) = false := by decide) (he : starEach (e :: es) X.env = (false, eval e X.env) :: starEach es X.env := by rfl) (hpl : (backTo pos (starEach es X.env)).any (·.1) = false := by rfl) :
    PE X (.Call (.Name x p) (e :: es) [] pos) (tCall sp dvs E t) := by
  refine ⟨fun pins s σ H Q I h => ?_⟩
  refine wpAny_Call_Name_kw (ld_glob I hg hm ?_ hdb)
  refine PySem.W.callWith_K (h₀ := X.base) I.ok.mod.kin hk (thn (ha.run pos pins s σ H _ I h) fun us s1 ⟨vs, H1, I1, r, q⟩ => ⟨I1.kIn, ?_⟩) he hpl
  have r2 : Vals (vs ++ dvs) (us ++ ds) := r.append hd
  have hl : (us ++ ds).length = ps.length := by rw [← r2.length]; exact F.len _ _ _ _ q
  refine wpAny_call (codeAny_mono (F.run X.A X.stack s1 H1 ⟨us, []⟩ (us ++ ds) (vs ++ dvs) Q E hr hG I1.env0 (hb s1 us I1.kIn hl) r2 q) fun r s' hq => ?_)
  cases r with
  | error e => exact hx pins σ H1 s1 e s' I1 hq
  | ok fl =>
    cases fl with
    | ret u => exact I1.after hq
    | next => exact False.elim hq
    | brk => exact False.elim hq
    | cont => exact False.elim hq
end
end Dl
set_option maxRecDepth 100000
set_option maxHeartbeats 4000000
/-! defs with a star parameter alone; calls without arguments -/
namespace Dl
open PySem PySem.Spec PyProof.Rows L2
section
variable {X : Cx} {CX : CXT} {k : Nat} {f : Addr} {sp : Sp} {E : XK} {x : Str} {p pos : Pos} {e : Expr} {es : List Expr} {t : TA}
theorem pe_callR (F : FnR X.prog X.w X.K X.mg X.base CX k f sp) (hr : Room k X.A) (hg : Gl X x) (hm : X.mg x = some (.ref f)) (hk : PySem.W.keepIn X.K (.ref f) = true) (hx : Passes CX X E)
    (ha : PA X (e :: es) t) (hdb : (x == ("__debug__" : Str)) = false := by decide) (he : starEach (e :: es) X.env = (false, eval e X.env) :: starEach es X.env := by rfl) (hpl : (backTo pos (starEach es X.env)).any (·.1) = false := by rfl) :
    PE X (.Call (.Name x p) (e :: es) [] pos) (tCall sp [] E t) := by
  refine ⟨fun pins s σ H Q I h => ?_⟩
  refine wpAny_Call_Name_kw (ld_glob I hg hm ?_ hdb)
  refine PySem.W.callWith_K (h₀ := X.base) I.ok.mod.kin hk (thn (ha.run pos pins s σ H _ I h) fun us s1 ⟨vs, H1, I1, r, q⟩ => ⟨I1.kIn, ?_⟩) he hpl
  replace q : sp (vs ++ []) H1 Q E := q
  rw [List.append_nil] at q
  exact wpAny_call (run_fnR F hr hx I1 r q)
theorem pe_callR0 (F : FnR X.prog X.w X.K X.mg X.base CX k f sp) (hr : Room k X.A) (hg : Gl X x) (hm : X.mg x = some (.ref f)) (hk : PySem.W.keepIn X.K (.ref f) = true) (hx : Passes CX X E)
    (hdb : (x == ("__debug__" : Str)) = false := by decide) : PE X (.Call (.Name x p) [] [] pos) (tCall sp [] E tNil) := by
  refine ⟨fun pins s σ H Q I h => ?_⟩
  refine wpAny_Call_Name_kw (ld_glob I hg hm ?_ hdb)
  exact PySem.W.callWith_K0 I.kIn hk (wpAny_call (run_fnR (us := []) (vs := []) F hr hx I .nil h))
end
section
variable {X : Cx} {cl : Cl} {e : Expr} {f : List D → Option D}
theorem d_call0 (hp : PE X e (tCall (spD X.K cl f) [] E0 tNil)) : PE X e (tD X.K cl (gDs f gNil)) := pe_mono hp fun σ H Q ⟨H0, B, ρ, c, hB, hs, hg, q⟩ =>
  ⟨B, [], c, hB, hs.tabs, .nil, hg, fun B2 H2 v x2 rv => q B2 H2 v x2 rv⟩
end
/-- the left-over arguments as a tuple -/
theorem star_imp {P : Program} {w : World} {K : PySem.W.Frag} {mg : Str → Option Value} {base : Heap} {k : Nat} {f : Addr} {cl : Cl} {m : List D → Option D}
    (F : FnR P w K mg base CX0 k f (fun vs H Q E => ∃ ws rest, vs = ws ++ rest ∧ ws.length = ([] : List Str).length ∧ rest.length ≤ sizeLine ∧ ∀ p, H p = Option.none → spD K cl m (ws ++ [V.ref p]) (upd H p (.tup rest)) Q E)) :
    FnR P w K mg base CX0 k f (spD K cl fun ds => if ds.length ≤ top then m [.tup ds] else none) := F.imp fun vs H Q E ⟨B, ds, d, hB, ht, r, hm, q⟩ => by
  replace hm : (if ds.length ≤ top then m [.tup ds] else none) = some d := hm
  split at hm
  · rename_i hz
    refine ⟨[], vs, rfl, rfl, top_le (by rw [r.len]; exact hz), fun p np => ?_⟩
    have x := Ext.new (T := cl.tabs) (o := .tup vs) hB np
    exact ⟨_, [.tup ds], d, x.bh, x.hh.tabs ht, .cons (.tup upd_same (r.mono x.bb)) .nil, hm, fun B' H' v x2 rv => q B' H' v (x.trans x2) rv⟩
  · cases hm
theorem bind_star0 {B : List Value → Sem (List (Str × Value))} {pv : Str} (h0 : B [] = (newTuple [] >>= fun t => pure [(pv, t)])) (h1 : ∀ r rs, B (r :: rs) = (newTuple (r :: rs) >>= fun t => pure [(pv, t)])) :
    ∀ us rest : List Value, us.length = ([] : List Str).length → B (us ++ rest) = (newTuple rest >>= fun t => pure (([] : List Str).zip us ++ [(pv, t)]))
  | [], [], _ => h0
  | [], r :: rs, _ => h1 r rs
theorem cxUp0 : StX.CXUp CX0 := StX.cxUp_none
/-! ### sorted(set(xs)), xs a list or a tuple of ints -/
def fSortSetA : List D → Option D
  | [.lst ds] => (toInts ds).bind fun ns => if ns.length < 60 then some (.lst ((usort ns).map D.int)) else none
  | [.tup ds] => (toInts ds).bind fun ns => if ns.length < 60 then some (.lst ((usort ns).map D.int)) else none
  | _ => none
def rSetA (K : PySem.W.Frag) (w : World) : List V → Hp → VK → Prop := fun xs H Q => ∃ (l : Addr) (ns : List Int), xs = [V.ref l] ∧ (SqL K H l (ns.map V.int) ∨ SqT K H l (ns.map V.int)) ∧ ns.length < 60 ∧ ∀ p c, H p = none → c ≤ ns.length → Q (.ref p) (upd H p (SetO w p (fun j => decide (j ∈ ns)) c))
section
variable {X : Cx} {cl : Cl} {K : PySem.W.Frag} {e : Expr} {gs : Rho → Option (List D)}
theorem cr_setA (hc : X.calm = true) : CallR X (.type "set") (rSetA X.K X.w) := by
  intro pins s σ H xs us Q I r h
  obtain ⟨l, ns, rfl, hs, hz, q⟩ := h
  rcases hs with hs | hs
  · exact cr_setL hc pins s σ H _ us Q I r ⟨l, ns, rfl, hs, hz, q⟩
  rw [Vals.ref1 r]
  obtain ⟨its, rv, pl, _⟩ := I.tuple hs
  have hi : IntsAre its.toArray.toList ns := ints_of_vals rv
  refine call_set_tupI ns (I.ok.hd hc) pl hi (by unfold scanBound; omega) fun g tk c st le kp => ?_
  exact ⟨.ref _, upd H s.heap.objs.size (SetO X.w s.heap.objs.size (fun j => decide (j ∈ ns)) c), I.laid (t' := tk) kp (Nat.le_refl _) (setO_new st), rfl, q _ c (I.hok.fresh (Nat.le_refl _)) le⟩
theorem d_sortsetA (hp : PE X e (tCB (rSortedSet X.w) (tCons (tCB (rSetA X.K X.w) (tDs X.K cl gs)) tNil))) : PE X e (tD X.K cl (gDs fSortSetA gs)) := pe_mono hp fun σ H Q ⟨H0, B, ρ, c, hB, hs, hg, q⟩ => by
  unfold gDs at hg
  cases e1 : gs ρ with
  | none => rw [e1] at hg; cases hg
  | some es =>
    rw [e1] at hg
    replace hg : fSortSetA es = some c := hg
    have fin : ∀ {B1 H1 : Hp} {l : Addr} {ns : List Int}, c = .lst ((usort ns).map D.int) → ns.length < 60 → Ext cl.tabs B H B1 H1 → (SqL X.K H1 l (ns.map V.int) ∨ SqT X.K H1 l (ns.map V.int)) → tCons (fun _ => tCB (rSetA X.K X.w) (fun _ H Q => Q [.ref l] H) σ) tNil σ H1 (fun vs H2 => rSortedSet X.w vs H2 Q) := fun {B1 H1 l ns} ec hz x1 hl => by
      subst ec
      refine ⟨_, ns, rfl, hl, hz, fun p n np hn => ?_⟩
      refine ⟨p, _, n, rfl, upd_same, by omega, fun ns' p2 h3 h4 h5 np2 => ?_⟩
      have en : ns' = usort ns := strict_eq h3 (usort_pw ns) fun k => by rw [h4, usort_mem]; simp
      subst en
      have x2 : Ext cl.tabs B H B1 (upd H1 p (SetO X.w p (fun j => decide (j ∈ ns)) n)) := x1.side np
      exact q _ _ _ (x2.trans (Ext.new x2.bh np2)) (.lst upd_same (Reps.ofInts _))
    unfold fSortSetA at hg
    refine ⟨H0, B, ρ, _, hB, hs, e1, fun B1 H1 us x1 r1 => ?_⟩
    split at hg
    · rename_i ds
      obtain ⟨ns, e2, hg⟩ := Option.bind_eq_some_iff.mp hg
      split at hg
      · rename_i hz
        cases hg
        obtain ⟨v, rfl, r2⟩ := reps1 r1
        cases r2 with
        | lst h1 h2 =>
          have ex := ints_of h2 e2
          subst ex
          exact fin rfl hz x1 (.inl (SqL.of (x1.bh _ _ h1)))
      · cases hg
    · rename_i ds
      obtain ⟨ns, e2, hg⟩ := Option.bind_eq_some_iff.mp hg
      split at hg
      · rename_i hz
        cases hg
        obtain ⟨v, rfl, r2⟩ := reps1 r1
        cases r2 with
        | tup h1 h2 =>
          have ex := ints_of h2 e2
          subst ex
          exact fin rfl hz x1 (.inr (SqT.of (x1.bh _ _ h1)))
      · cases hg
    · cases hg
end
end Dl
set_option maxRecDepth 100000
set_option maxHeartbeats 8000000
namespace K40
open PySem PySem.Spec PyProof.Rows L2 Dl Mp
def w__law_size : List D → (D → Prop) → EK → Prop := wFun 1 0 ((mwSeq (mwIf (wTest (wBin fEq (wCall w__law_take (wLift (gCons (gVar 0) (gCons (gC (.int 2)) gNil)))) (wLift (gC (.int 0))))) (mwRet (wBin fIx (wLift (gDs mkLst (gCons (gC (.int 2)) (gCons (gC (.int 3)) (gCons (gC (.int 4)) (gCons (gC (.int 6)) gNil)))))) (wCall w__law_take (wLift (gCons (gVar 0) (gCons (gC (.int 4)) gNil)))))) mwNil) (mwRet (wBin fAdd (wLift (gC (.int 1))) (wCall w__law_take (wLift (gCons (gVar 0) (gCons (gC (.int 12)) gNil))))))))
def w__law_lot : List D → (D → Prop) → EK → Prop := wFun 1 4 ((mwSeq (mwSet 1 (wOf (wLcs (wRng fRng1 (wCons (wCall w__law_take (wLift (gCons (gVar 0) (gCons (gC (.int 5)) gNil)))) wNil)) (kName 3) (fun _ Po _ => Po true) (wBin fAdd (wLift (gC (.int 1))) (wCall w__law_take (wLift (gCons (gVar 0) (gCons (gC (.int 12)) gNil))))) [3]))) (mwSeq (mwLift (kSet 2 (gLc (gRng2 (gCons (gC (.int 1)) (gCons (gC (.int 13)) gNil))) (kName 4) (gTest (gBin (fIn false) (gVar 4) (gVar 1))) (gVar 4) [4]))) (mwSeq (mwIf (wTest (wBin fEq (wCall w__law_take (wLift (gCons (gVar 0) (gCons (gC (.int 2)) gNil)))) (wLift (gC (.int 0))))) (mwLift (kRet (gDs (onSeq fTuple) (gCons (gVar 2) gNil)))) mwNil) (mwLift (kRet (gVar 2)))))))
def m__law_needless : List D → Option D := kFun 2 7 ((mSeq (kOwn 2 gNil) (mSeq (mFor (gRng2 (gCons (gC (.int 1)) (gCons (gC (.int 13)) gNil))) (kName 3) (mIf (gTest (gBin (fIn false) (gVar 3) (gVar 1))) (mSeq (kSet 4 (gLc (gSeq (gVar 1)) (kName 7) (gTest (gBin fNe (gVar 7) (gVar 3))) (gVar 7) [7])) (mSeq (kSet 5 (gLc (gSeq (gVar 0)) (kName 8) (gTest (gBin (fIn false) (gVar 3) (gVar 8))) (gVar 8) [8])) (mSeq (kSet 6 (gLc (gSeq (gVar 5)) (kName 8) (gTest (gBin fEq (gDs (onSeq fLen) (gCons (gLc (gSeq (gVar 4)) (kName 7) (gTest (gBin (fIn false) (gVar 7) (gVar 8))) (gVar 7) [7]) gNil)) (gC (.int 0)))) (gVar 8) [8])) (mIf (gTest (gBin fEq (gDs (onSeq fLen) (gCons (gVar 6) gNil)) (gC (.int 0)))) (kApp 2 (gVar 3)) mNil)))) mNil)) (kRet (gS1 fTuple (gSqVar 2))))))
def m_is_needless : List D → Option D := kFun 3 3 ((mSeq (kSet 3 (gLc (gSeq (gVar 1)) (kName 4) (gTest (gBin fNe (gVar 4) (gVar 0))) (gVar 4) [4])) (kRet (gDs (onLst fAll) (gCons (gLc (gSeq (gVar 2)) (kName 5) (gTest (gBin (fIn false) (gVar 0) (gVar 5))) (gDs (onLst fAny) (gCons (gLc (gSeq (gVar 3)) (kName 4) (fun _ => some true) (gBin (fIn false) (gVar 4) (gVar 5)) [4]) gNil)) [5]) gNil)))))
def m_needless_sizes : List D → Option D := kFun 2 5 ((mSeq (kSet 2 (gLRg1 (gDs (onSeq fLen) (gCons (gFld 1 "groups" (gVar 0)) gNil)))) (mSeq (kSet 3 (gDs m_sizes_by_group (gCons (gVar 0) (gCons (gVar 2) (gCons (gSeqF (fMaxD 0) (gVar 1)) gNil))))) (mSeq (kSet 4 (gLc (gSeq (gVar 2)) (kName 5) (fun _ => some true) (gBin fGet (gVar 3) (gVar 5)) [5])) (kRet (gDs (onSeq fTuple) (gCons (gLc (gSeq (gDs fSortSetA (gCons (gVar 1) gNil))) (kName 6) (gTru (gDs m_is_needless (gCons (gVar 6) (gCons (gVar 1) (gCons (gVar 4) gNil))))) (gVar 6) [6]) gNil)))))))
def m__law_needless_fits : List D → Option D := kFun 3 2 ((mSeq (kSet 3 (gDs fRepr (gCons (gVar 2) gNil))) (mSeq (kSet 4 (gDs fRepr (gCons (gDs m__law_needless (gCons (gVar 1) (gCons (gVar 2) gNil))) gNil))) (mSeq (mIf (gOr (gTest (gBin fNe (gDs fRepr (gCons (gDs m_needless_sizes (gCons (gVar 0) (gCons (gVar 2) gNil))) gNil)) (gVar 4))) (gTest (gBin fNe (gDs fRepr (gCons (gDs m_needless_sizes (gCons (gVar 0) (gCons (gDs (onSeq fTuple) (gCons (gVar 2) gNil)) gNil))) gNil)) (gVar 4)))) (kRet (gC (.bl false))) mNil) (kRet (gBin fEq (gDs fRepr (gCons (gVar 2) gNil)) (gVar 3)))))))
def w__law_world : List D → (D → Prop) → EK → Prop := wFun 1 1 ((mwSeq (mwLift (kSet 1 (gDs mkLst (gCons (gDs mkTup (gCons (gC (.int 3)) gNil)) (gCons (gDs mkTup (gCons (gC (.int 2)) (gCons (gC (.int 2)) gNil))) (gCons (gDs mkTup (gCons (gC (.int 4)) gNil)) (gCons (gDs mkTup (gCons (gC (.int 2)) (gCons (gC (.int 3)) gNil))) (gCons (gDs mkTup (gCons (gC (.int 2)) (gCons (gC (.int 1)) gNil))) (gCons (gDs mkTup (gCons (gC (.int 3)) gNil)) (gCons (gDs mkTup (gCons (gC (.int 1)) (gCons (gC (.int 3)) gNil))) (gCons (gDs mkTup (gCons (gC (.int 2)) gNil)) (gCons (gDs mkTup (gCons (gC (.int 4)) gNil)) (gCons (gDs mkTup (gCons (gC (.int 2)) (gCons (gC (.int 2)) gNil))) (gCons (gDs mkTup (gCons (gC (.int 2)) (gCons (gC (.int 3)) gNil))) (gCons (gDs mkTup (gCons (gC (.int 0)) (gCons (gC (.int 2)) gNil))) (gCons (gDs mkTup (gCons (gC (.int 1)) gNil)) (gCons (gDs mkTup (gCons (gC (.int 0)) gNil)) (gCons (gDs mkTup (gCons (gC (.int 3)) (gCons (gC (.int 1)) gNil))) (gCons (gDs mkTup (gCons (gC (.int 3)) gNil)) gNil))))))))))))))))))) (mwRet (wBin fIx (wLift (gVar 1)) (wCall w__law_take (wLift (gCons (gVar 0) (gCons (gC (.int 16)) gNil))))))))
def m_joined_sizes : List D → Option D := kFun 1 2 ((kRet (gDs (onSeq fTuple) (gCons (gSorted (lc2Of (gSeq (gVar 0)) (kName 1) (fun _ => some true) (gSeq (gVar 1)) (kName 2) (fun _ => some true) (gVar 2) [1, 2] [2])) gNil))))
def mR_joined_sizes (ds : List D) : Option D := if ds.length ≤ top then m_joined_sizes [.tup ds] else none
def m__law_joined : List D → Option D := kFun 1 0 ((mSeq (mIf (gTest (gBin fEq (gDs (onSeq fLen) (gCons (gVar 0) gNil)) (gC (.int 0)))) (kRet (gDs mR_joined_sizes gNil)) mNil) (mSeq (mIf (gTest (gBin fEq (gDs (onSeq fLen) (gCons (gVar 0) gNil)) (gC (.int 1)))) (kRet (gDs mR_joined_sizes (gCons (gBin fIx (gVar 0) (gC (.int 0))) gNil))) mNil) (mSeq (mIf (gTest (gBin fEq (gDs (onSeq fLen) (gCons (gVar 0) gNil)) (gC (.int 2)))) (kRet (gDs mR_joined_sizes (gCons (gBin fIx (gVar 0) (gC (.int 0))) (gCons (gBin fIx (gVar 0) (gC (.int 1))) gNil)))) mNil) (mSeq (mIf (gTest (gBin fEq (gDs (onSeq fLen) (gCons (gVar 0) gNil)) (gC (.int 3)))) (kRet (gDs mR_joined_sizes (gCons (gBin fIx (gVar 0) (gC (.int 0))) (gCons (gBin fIx (gVar 0) (gC (.int 1))) (gCons (gBin fIx (gVar 0) (gC (.int 2))) gNil))))) mNil) (kRet (gDs mR_joined_sizes (gCons (gBin fIx (gVar 0) (gC (.int 0))) (gCons (gBin fIx (gVar 0) (gC (.int 1))) (gCons (gBin fIx (gVar 0) (gC (.int 2))) (gCons (gBin fIx (gVar 0) (gC (.int 3))) gNil)))))))))))
def w_law : List D → (D → Prop) → EK → Prop := wFun 1 13 ((mwSeq (mwSet 1 (wCall w__law_pool (wLift (gCons (gVar 0) (gCons (gC (.int 0)) gNil))))) (mwSeq (mwSet 2 (wOf (wLcs (wLift (gRng1 (gCons (gC (.int 2)) gNil))) (kName 8) (fun _ Po _ => Po true) (wMake 1 m_Lattice_init (wCons (wMake 0 m_World_init (wCons (wCall w__law_world (wLift (gCons (gVar 1) gNil))) wNil)) wNil)) [8]))) (mwSeq (mwLift (kOwn 3 gNil)) (mwSeq (mwLift (mFor (gSeq (gVar 2)) (kName 4) (mSeq (kSet 5 (gDs (onSeq fList) (gCons (gFld 1 "groups" (gVar 4)) gNil))) (kApp 3 (gDs m__law_reaches (gCons (gVar 5) (gCons (gDs m__law_held (gCons (gVar 5) gNil)) gNil))))))) (mwSeq (mwSet 1 (wCall w__law_pool (wLift (gCons (gVar 0) (gCons (gC (.int 1)) gNil))))) (mwSeq (mwSet 6 (wBin fIx (wLift (gDs mkLst (gCons (gC (.int 3)) (gCons (gC (.int 4)) (gCons (gC (.int 2)) (gCons (gC (.int 5)) (gCons (gC (.int 1)) (gCons (gC (.int 0)) (gCons (gC (.int 4)) (gCons (gC (.int 3)) gNil)))))))))) (wCall w__law_take (wLift (gCons (gVar 1) (gCons (gC (.int 8)) gNil)))))) (mwSeq (mwOwn 7 (wLcs (wLift (gRng1 (gCons (gVar 6) gNil))) (kName 8) (fun _ Po _ => Po true) (wCall w__law_size (wLift (gCons (gVar 1) gNil))) [8])) (mwSeq (mwLift (mFor (gSeq (gDs mkLst (gCons (gC (.int 0)) (gCons (gC (.int 1)) (gCons (gC (.int 0)) gNil))))) (kName 8) (mIf (gLendT 7 (gNot (gTru (gDs m__law_needless_fits (gCons (gBin fIx (gVar 2) (gVar 8)) (gCons (gIxS (gSqVar 3) (gVar 8)) (gCons (gVar 7) gNil))))))) (kRet (gC (.bl false))) mNil))) (mwSeq (mwApp 7 (wCall w__law_size (wLift (gCons (gVar 1) gNil)))) (mwSeq (mwLift (mFor (gRng1 (gCons (gC (.int 2)) gNil)) (kName 8) (mIf (gLendT 7 (gNot (gTru (gDs m__law_needless_fits (gCons (gBin fIx (gVar 2) (gVar 8)) (gCons (gIxS (gSqVar 3) (gVar 8)) (gCons (gVar 7) gNil))))))) (kRet (gC (.bl false))) mNil))) (mwSeq (mwSet 1 (wCall w__law_pool (wLift (gCons (gVar 0) (gCons (gC (.int 2)) gNil))))) (mwSeq (mwSet 6 (wBin fIx (wLift (gDs mkLst (gCons (gC (.int 2)) (gCons (gC (.int 3)) (gCons (gC (.int 4)) (gCons (gC (.int 1)) (gCons (gC (.int 3)) (gCons (gC (.int 0)) (gCons (gC (.int 4)) (gCons (gC (.int 2)) gNil)))))))))) (wCall w__law_take (wLift (gCons (gVar 1) (gCons (gC (.int 8)) gNil)))))) (mwSeq (mwSet 9 (wOf (wLcs (wLift (gRng1 (gCons (gVar 6) gNil))) (kName 8) (fun _ Po _ => Po true) (wCall w__law_lot (wLift (gCons (gVar 1) gNil))) [8]))) (mwSeq (mwLift (kSet 10 (gDs fRepr (gCons (gVar 9) gNil)))) (mwSeq (mwLift (kSet 11 (gDs (onSeq fTuple) (gCons (gLc (gRng2 (gCons (gC (.int 1)) (gCons (gC (.int 13)) gNil))) (kName 12) (gTest (gBin (fCmp fun i j => decide (j < i)) (gDs (onSeq fLen) (gCons (gLc (gSeq (gVar 9)) (kName 13) (gTest (gBin (fIn false) (gVar 12) (gVar 13))) (gVar 13) [13]) gNil)) (gC (.int 0)))) (gVar 12) [12]) gNil)))) (mwLift (kRet (gAndV (gBin fEq (gDs fRepr (gCons (gDs m__law_joined (gCons (gVar 9) gNil)) gNil)) (gDs fRepr (gCons (gVar 11) gNil))) (gBin fEq (gDs fRepr (gCons (gVar 9) gNil)) (gVar 10)))))))))))))))))))))
end K40
set_option maxRecDepth 100000
set_option maxHeartbeats 8000000
namespace K40
open PySem PySem.Spec PyProof.Rows L2 Dl Mp
def topS (i : Nat) : Stmt := PySem.Challenge.pw_nonames_k40_needless_and_joined_sizes.main.body.getD i (.Pass ⟨0, 0, 0, 0⟩)
abbrev s__law_pool : Stmt := topS 30
theorem sc__law_pool : FnScope ["_law_script", "_law_k", "_law_cell"] ["_law_script", "_law_k"] (defScope s__law_pool) := ⟨rfl, rfl, rfl, by decide +kernel, rfl, by decide +kernel, by decide +kernel⟩
abbrev s_classes_from : Stmt := topS 25
theorem sc_classes_from : FnScope ["carries", "at", "row"] ["carries"] (defScope s_classes_from) := ⟨rfl, rfl, rfl, by decide +kernel, rfl, by decide +kernel, by decide +kernel⟩
abbrev s_World_then : Stmt := inClass (topS 17) 7
theorem sc_World_then : FnScope ["self", "first", "second"] ["self", "first", "second"] (defScope s_World_then) := ⟨rfl, rfl, rfl, by decide +kernel, rfl, by decide +kernel, by decide +kernel⟩
abbrev s_with_powers : Stmt := topS 20
theorem sc_with_powers : FnScope ["world", "group", "number", "members", "power", "member"] ["world", "group", "number"] (defScope s_with_powers) := ⟨rfl, rfl, rfl, by decide +kernel, rfl, by decide +kernel, by decide +kernel⟩
abbrev s_World_inverse : Stmt := inClass (topS 17) 8
theorem sc_World_inverse : FnScope ["self", "number"] ["self", "number"] (defScope s_World_inverse) := ⟨rfl, rfl, rfl, by decide +kernel, rfl, by decide +kernel, by decide +kernel⟩
abbrev s_carried_group : Stmt := topS 19
theorem sc_carried_group : FnScope ["world", "group", "number", "back", "member"] ["world", "group", "number"] (defScope s_carried_group) := ⟨rfl, rfl, rfl, by decide +kernel, rfl, by decide +kernel, by decide +kernel⟩
abbrev s_grown_groups : Stmt := topS 21
theorem sc_grown_groups : FnScope ["world", "group", "number"] ["world", "group"] (defScope s_grown_groups) := ⟨rfl, rfl, rfl, by decide +kernel, rfl, by decide +kernel, by decide +kernel⟩
abbrev s_all_groups : Stmt := topS 22
theorem sc_all_groups : FnScope ["world", "found", "waiting", "group", "grown"] ["world"] (defScope s_all_groups) := ⟨rfl, rfl, rfl, by decide +kernel, rfl, by decide +kernel, by decide +kernel⟩
abbrev s_holds_all : Stmt := topS 24
theorem sc_holds_all : FnScope ["group", "other", "member"] ["group", "other"] (defScope s_holds_all) := ⟨rfl, rfl, rfl, by decide +kernel, rfl, by decide +kernel, by decide +kernel⟩
abbrev s_Lattice_init : Stmt := inClass (topS 26) 0
theorem sc_Lattice_init : FnScope ["self", "world", "at", "group", "renaming", "place", "lot", "number", "other", "held", "row"] ["self", "world"] (defScope s_Lattice_init) := ⟨rfl, rfl, rfl, by decide +kernel, rfl, by decide +kernel, by decide +kernel⟩
abbrev s__law_take : Stmt := topS 31
theorem sc__law_take : FnScope ["_law_pool_here", "_law_limit", "_law_drawn"] ["_law_pool_here", "_law_limit"] (defScope s__law_take) := ⟨rfl, rfl, rfl, by decide +kernel, rfl, by decide +kernel, by decide +kernel⟩
abbrev s__law_size : Stmt := topS 36
theorem sc__law_size : FnScope ["_law_pool_here"] ["_law_pool_here"] (defScope s__law_size) := ⟨rfl, rfl, rfl, by decide +kernel, rfl, by decide +kernel, by decide +kernel⟩
abbrev s__law_lot : Stmt := topS 39
theorem sc__law_lot : FnScope ["_law_pool_here", "_law_chosen", "_law_lot_here", "_law_turn", "_law_size_here"] ["_law_pool_here"] (defScope s__law_lot) := ⟨rfl, rfl, rfl, by decide +kernel, rfl, by decide +kernel, by decide +kernel⟩
abbrev s_World__allows : Stmt := inClass (topS 17) 3
theorem sc_World__allows : FnScope ["self", "sizes", "order", "size"] ["self", "sizes"] (defScope s_World__allows) := ⟨rfl, rfl, rfl, by decide +kernel, rfl, by decide +kernel, by decide +kernel⟩
abbrev s_orders_of : Stmt := topS 3
theorem sc_orders_of : FnScope ["members", "items", "at", "item", "row"] ["members"] (defScope s_orders_of) := ⟨rfl, rfl, rfl, by decide +kernel, rfl, by decide +kernel, by decide +kernel⟩
abbrev s_renamings_of : Stmt := topS 15
theorem sc_renamings_of : FnScope ["sizes", "found", "start", "size", "rows", "left", "right"] ["sizes"] (defScope s_renamings_of) := ⟨rfl, rfl, rfl, by decide +kernel, rfl, by decide +kernel, by decide +kernel⟩
abbrev s_after_another : Stmt := topS 16
theorem sc_after_another : FnScope ["first", "second", "thing"] ["first", "second"] (defScope s_after_another) := ⟨rfl, rfl, rfl, by decide +kernel, rfl, by decide +kernel, by decide +kernel⟩
abbrev s_World_init : Stmt := inClass (topS 17) 2
theorem sc_World_init : FnScope ["self", "sizes", "at", "row", "second", "first"] ["self", "sizes"] (defScope s_World_init) := ⟨rfl, rfl, rfl, by decide +kernel, rfl, by decide +kernel, by decide +kernel⟩
abbrev s__law_sums : Stmt := topS 33
theorem sc__law_sums : FnScope ["_law_ratios", "_law_sums_here", "_law_total", "_law_ratio"] ["_law_ratios"] (defScope s__law_sums) := ⟨rfl, rfl, rfl, by decide +kernel, rfl, by decide +kernel, by decide +kernel⟩
abbrev s__law_reaches : Stmt := topS 34
theorem sc__law_reaches : FnScope ["_law_groups", "_law_held_here", "_law_own", "_law_base", "_law_reaches_here", "_law_row", "_law_part", "_law_size_here"] ["_law_groups", "_law_held_here"] (defScope s__law_reaches) := ⟨rfl, rfl, rfl, by decide +kernel, rfl, by decide +kernel, by decide +kernel⟩
abbrev s__law_needless : Stmt := topS 37
theorem sc__law_needless : FnScope ["_law_reaches_here", "_law_sizes", "_law_found", "_law_size_here", "_law_others", "_law_needing", "_law_lonely", "_law_other", "_law_row"] ["_law_reaches_here", "_law_sizes"] (defScope s__law_needless) := ⟨rfl, rfl, rfl, by decide +kernel, rfl, by decide +kernel, by decide +kernel⟩
abbrev s_Lattice_held : Stmt := inClass (topS 26) 5
theorem sc_Lattice_held : FnScope ["self", "number"] ["self", "number"] (defScope s_Lattice_held) := ⟨rfl, rfl, rfl, by decide +kernel, rfl, by decide +kernel, by decide +kernel⟩
abbrev s_Lattice_ratio : Stmt := inClass (topS 26) 9
theorem sc_Lattice_ratio : FnScope ["self", "number", "other"] ["self", "number", "other"] (defScope s_Lattice_ratio) := ⟨rfl, rfl, rfl, by decide +kernel, rfl, by decide +kernel, by decide +kernel⟩
abbrev s_own_sizes : Stmt := topS 5
theorem sc_own_sizes : FnScope ["lattice", "base", "top", "ratios", "reached", "size", "held", "_", "ratio"] ["lattice", "base", "top"] (defScope s_own_sizes) := ⟨rfl, rfl, rfl, by decide +kernel, rfl, by decide +kernel, by decide +kernel⟩
abbrev s_sizes_by_group : Stmt := topS 6
theorem sc_sizes_by_group : FnScope ["lattice", "numbers", "top", "own", "number", "base", "held", "size", "group"] ["lattice", "numbers", "top"] (defScope s_sizes_by_group) := ⟨rfl, rfl, rfl, by decide +kernel, rfl, by decide +kernel, by decide +kernel⟩
abbrev s_is_needless : Stmt := topS 7
theorem sc_is_needless : FnScope ["size", "sizes", "helping", "others", "other", "lot"] ["size", "sizes", "helping"] (defScope s_is_needless) := ⟨rfl, rfl, rfl, by decide +kernel, rfl, by decide +kernel, by decide +kernel⟩
abbrev s_needless_sizes : Stmt := topS 8
theorem sc_needless_sizes : FnScope ["lattice", "sizes", "numbers", "found", "helping", "number", "size"] ["lattice", "sizes"] (defScope s_needless_sizes) := ⟨rfl, rfl, rfl, by decide +kernel, rfl, by decide +kernel, by decide +kernel⟩
abbrev s__law_needless_fits : Stmt := topS 38
theorem sc__law_needless_fits : FnScope ["_law_lattice", "_law_reaches_here", "_law_sizes", "_law_kept", "_law_due"] ["_law_lattice", "_law_reaches_here", "_law_sizes"] (defScope s__law_needless_fits) := ⟨rfl, rfl, rfl, by decide +kernel, rfl, by decide +kernel, by decide +kernel⟩
abbrev s__law_world : Stmt := topS 35
theorem sc__law_world : FnScope ["_law_pool_here", "_law_menu"] ["_law_pool_here"] (defScope s__law_world) := ⟨rfl, rfl, rfl, by decide +kernel, rfl, by decide +kernel, by decide +kernel⟩
abbrev s__law_held : Stmt := topS 32
theorem sc__law_held : FnScope ["_law_groups", "_law_held_here", "_law_group", "_law_k", "_law_x"] ["_law_groups"] (defScope s__law_held) := ⟨rfl, rfl, rfl, by decide +kernel, rfl, by decide +kernel, by decide +kernel⟩
abbrev s_joined_sizes : Stmt := topS 28
theorem sc_joined_sizes : FnScope ["lots", "lot", "size"] ["lots"] (defScope s_joined_sizes) := ⟨rfl, rfl, rfl, by decide +kernel, rfl, by decide +kernel, by decide +kernel⟩
abbrev s__law_joined : Stmt := topS 40
theorem sc__law_joined : FnScope ["_law_lots"] ["_law_lots"] (defScope s__law_joined) := ⟨rfl, rfl, rfl, by decide +kernel, rfl, by decide +kernel, by decide +kernel⟩
abbrev s_law : Stmt := topS 41
theorem sc_law : FnScope ["_law_script", "_law_pool_here", "_law_lattices", "_law_reaches_here", "_law_lattice", "_law_groups", "_law_few", "_law_sizes", "_law_turn", "_law_lots", "_law_kept", "_law_due", "_law_size_here", "_law_lot_here"] ["_law_script"] (defScope s_law) := ⟨rfl, rfl, rfl, by decide +kernel, rfl, by decide +kernel, by decide +kernel⟩
structure Txt (K : PySem.W.Frag) (mg : Str → Option Value) (cl : Cl) (f : Nat → Addr) (fd : Nat → FuncData) (cd tb : Nat → Addr) : Prop where
  F34 : Fun K "_law_pool" "_law_pool" s__law_pool (f 34) (fd 34)
  b34 : Binds K (fd 34) ["_law_script", "_law_k"] []
  kp34 : PySem.W.keepIn K (.ref (f 34)) = true
  g__law_pool : mg "_law_pool" = some (.ref (f 34))
  F22 : Fun K "classes_from" "classes_from" s_classes_from (f 22) (fd 22)
  b22 : Binds K (fd 22) ["carries"] []
  kp22 : PySem.W.keepIn K (.ref (f 22)) = true
  g_classes_from : mg "classes_from" = some (.ref (f 22))
  F14 : Fun K "then" "World.then" s_World_then (f 14) (fd 14)
  b14 : Binds K (fd 14) ["self", "first", "second"] []
  kp14 : PySem.W.keepIn K (.ref (f 14)) = true
  me14 : Meth K (cl 0) "then" (f 14)
  F18 : Fun K "with_powers" "with_powers" s_with_powers (f 18) (fd 18)
  b18 : Binds K (fd 18) ["world", "group", "number"] []
  kp18 : PySem.W.keepIn K (.ref (f 18)) = true
  g_with_powers : mg "with_powers" = some (.ref (f 18))
  F15 : Fun K "inverse" "World.inverse" s_World_inverse (f 15) (fd 15)
  b15 : Binds K (fd 15) ["self", "number"] []
  kp15 : PySem.W.keepIn K (.ref (f 15)) = true
  me15 : Meth K (cl 0) "inverse" (f 15)
  F17 : Fun K "carried_group" "carried_group" s_carried_group (f 17) (fd 17)
  b17 : Binds K (fd 17) ["world", "group", "number"] []
  kp17 : PySem.W.keepIn K (.ref (f 17)) = true
  g_carried_group : mg "carried_group" = some (.ref (f 17))
  F19 : Fun K "grown_groups" "grown_groups" s_grown_groups (f 19) (fd 19)
  b19 : Binds K (fd 19) ["world", "group"] []
  kp19 : PySem.W.keepIn K (.ref (f 19)) = true
  g_grown_groups : mg "grown_groups" = some (.ref (f 19))
  F20 : FunC K "all_groups" "all_groups" s_all_groups (f 20) (fd 20) (cd 20)
  b20 : Binds K (fd 20) ["world"] []
  kp20 : PySem.W.keepIn K (.ref (f 20)) = true
  in20 : (tb 20, (("all_groups" : Str) ++ ".<locals>.") ++ "<lambda>") ∈ cl.tabs
  one20 : ∀ p ∈ cl.tabs, p.1 = tb 20 → p.2 = (("all_groups" : Str) ++ ".<locals>.") ++ "<lambda>"
  g_all_groups : mg "all_groups" = some (.ref (f 20))
  F21 : Fun K "holds_all" "holds_all" s_holds_all (f 21) (fd 21)
  b21 : Binds K (fd 21) ["group", "other"] []
  kp21 : PySem.W.keepIn K (.ref (f 21)) = true
  g_holds_all : mg "holds_all" = some (.ref (f 21))
  F23 : Fun K "__init__" "Lattice.__init__" s_Lattice_init (f 23) (fd 23)
  b23 : Binds K (fd 23) ["self", "world"] []
  kp23 : PySem.W.keepIn K (.ref (f 23)) = true
  mk_Lattice : Mk K (cl 1) (f 23)
  g_Lattice : mg "Lattice" = some (.ref (cl 1))
  F35 : Fun K "_law_take" "_law_take" s__law_take (f 35) (fd 35)
  b35 : Binds K (fd 35) ["_law_pool_here", "_law_limit"] []
  kp35 : PySem.W.keepIn K (.ref (f 35)) = true
  g__law_take : mg "_law_take" = some (.ref (f 35))
  F40 : Fun K "_law_size" "_law_size" s__law_size (f 40) (fd 40)
  b40 : Binds K (fd 40) ["_law_pool_here"] []
  kp40 : PySem.W.keepIn K (.ref (f 40)) = true
  g__law_size : mg "_law_size" = some (.ref (f 40))
  F43 : Fun K "_law_lot" "_law_lot" s__law_lot (f 43) (fd 43)
  b43 : Binds K (fd 43) ["_law_pool_here"] []
  kp43 : PySem.W.keepIn K (.ref (f 43)) = true
  g__law_lot : mg "_law_lot" = some (.ref (f 43))
  F10 : Fun K "_allows" "World._allows" s_World__allows (f 10) (fd 10)
  b10 : Binds K (fd 10) ["self", "sizes"] []
  kp10 : PySem.W.keepIn K (.ref (f 10)) = true
  me10 : Meth K (cl 0) "_allows" (f 10)
  F1 : Fun K "orders_of" "orders_of" s_orders_of (f 1) (fd 1)
  b1 : Binds K (fd 1) ["members"] []
  kp1 : PySem.W.keepIn K (.ref (f 1)) = true
  g_orders_of : mg "orders_of" = some (.ref (f 1))
  F7 : Fun K "renamings_of" "renamings_of" s_renamings_of (f 7) (fd 7)
  b7 : Binds K (fd 7) ["sizes"] []
  kp7 : PySem.W.keepIn K (.ref (f 7)) = true
  g_renamings_of : mg "renamings_of" = some (.ref (f 7))
  F8 : Fun K "after_another" "after_another" s_after_another (f 8) (fd 8)
  b8 : Binds K (fd 8) ["first", "second"] []
  kp8 : PySem.W.keepIn K (.ref (f 8)) = true
  g_after_another : mg "after_another" = some (.ref (f 8))
  F9 : Fun K "__init__" "World.__init__" s_World_init (f 9) (fd 9)
  b9 : Binds K (fd 9) ["self", "sizes"] []
  kp9 : PySem.W.keepIn K (.ref (f 9)) = true
  mk_World : Mk K (cl 0) (f 9)
  g_World : mg "World" = some (.ref (cl 0))
  F37 : Fun K "_law_sums" "_law_sums" s__law_sums (f 37) (fd 37)
  b37 : Binds K (fd 37) ["_law_ratios"] []
  kp37 : PySem.W.keepIn K (.ref (f 37)) = true
  g__law_sums : mg "_law_sums" = some (.ref (f 37))
  F38 : Fun K "_law_reaches" "_law_reaches" s__law_reaches (f 38) (fd 38)
  b38 : Binds K (fd 38) ["_law_groups", "_law_held_here"] []
  kp38 : PySem.W.keepIn K (.ref (f 38)) = true
  g__law_reaches : mg "_law_reaches" = some (.ref (f 38))
  F41 : Fun K "_law_needless" "_law_needless" s__law_needless (f 41) (fd 41)
  b41 : Binds K (fd 41) ["_law_reaches_here", "_law_sizes"] []
  kp41 : PySem.W.keepIn K (.ref (f 41)) = true
  g__law_needless : mg "_law_needless" = some (.ref (f 41))
  F28 : Fun K "held" "Lattice.held" s_Lattice_held (f 28) (fd 28)
  b28 : Binds K (fd 28) ["self", "number"] []
  kp28 : PySem.W.keepIn K (.ref (f 28)) = true
  me28 : Meth K (cl 1) "held" (f 28)
  F32 : Fun K "ratio" "Lattice.ratio" s_Lattice_ratio (f 32) (fd 32)
  b32 : Binds K (fd 32) ["self", "number", "other"] []
  kp32 : PySem.W.keepIn K (.ref (f 32)) = true
  me32 : Meth K (cl 1) "ratio" (f 32)
  F2 : Fun K "own_sizes" "own_sizes" s_own_sizes (f 2) (fd 2)
  b2 : Binds K (fd 2) ["lattice", "base", "top"] []
  kp2 : PySem.W.keepIn K (.ref (f 2)) = true
  g_own_sizes : mg "own_sizes" = some (.ref (f 2))
  F3 : Fun K "sizes_by_group" "sizes_by_group" s_sizes_by_group (f 3) (fd 3)
  b3 : Binds K (fd 3) ["lattice", "numbers", "top"] []
  kp3 : PySem.W.keepIn K (.ref (f 3)) = true
  g_sizes_by_group : mg "sizes_by_group" = some (.ref (f 3))
  F4 : Fun K "is_needless" "is_needless" s_is_needless (f 4) (fd 4)
  b4 : Binds K (fd 4) ["size", "sizes", "helping"] []
  kp4 : PySem.W.keepIn K (.ref (f 4)) = true
  g_is_needless : mg "is_needless" = some (.ref (f 4))
  F5 : Fun K "needless_sizes" "needless_sizes" s_needless_sizes (f 5) (fd 5)
  b5 : Binds K (fd 5) ["lattice", "sizes"] []
  kp5 : PySem.W.keepIn K (.ref (f 5)) = true
  g_needless_sizes : mg "needless_sizes" = some (.ref (f 5))
  F42 : Fun K "_law_needless_fits" "_law_needless_fits" s__law_needless_fits (f 42) (fd 42)
  b42 : Binds K (fd 42) ["_law_lattice", "_law_reaches_here", "_law_sizes"] []
  kp42 : PySem.W.keepIn K (.ref (f 42)) = true
  g__law_needless_fits : mg "_law_needless_fits" = some (.ref (f 42))
  F39 : Fun K "_law_world" "_law_world" s__law_world (f 39) (fd 39)
  b39 : Binds K (fd 39) ["_law_pool_here"] []
  kp39 : PySem.W.keepIn K (.ref (f 39)) = true
  g__law_world : mg "_law_world" = some (.ref (f 39))
  F36 : Fun K "_law_held" "_law_held" s__law_held (f 36) (fd 36)
  b36 : Binds K (fd 36) ["_law_groups"] []
  kp36 : PySem.W.keepIn K (.ref (f 36)) = true
  g__law_held : mg "_law_held" = some (.ref (f 36))
  F33 : Fun K "joined_sizes" "joined_sizes" s_joined_sizes (f 33) (fd 33)
  kp33 : PySem.W.keepIn K (.ref (f 33)) = true
  g_joined_sizes : mg "joined_sizes" = some (.ref (f 33))
  F44 : Fun K "_law_joined" "_law_joined" s__law_joined (f 44) (fd 44)
  b44 : Binds K (fd 44) ["_law_lots"] []
  kp44 : PySem.W.keepIn K (.ref (f 44)) = true
  g__law_joined : mg "_law_joined" = some (.ref (f 44))
  F45 : Fun K "law" "law" s_law (f 45) (fd 45)
  b45 : Binds K (fd 45) ["_law_script"] []
  kp45 : PySem.W.keepIn K (.ref (f 45)) = true
  g_law : mg "law" = some (.ref (f 45))
  cl_World : Cls K (cl 0)
  n_World_sizes : NoAttr K (cl 0) "sizes"
  n_World_things : NoAttr K (cl 0) "things"
  n_World_renamings : NoAttr K (cl 0) "renamings"
  n_World_order : NoAttr K (cl 0) "order"
  n_World__numbers : NoAttr K (cl 0) "_numbers"
  n_World__table : NoAttr K (cl 0) "_table"
  n_World__inverses : NoAttr K (cl 0) "_inverses"
  k_World_LARGEST : ∃ t, Con K (cl 0) "LARGEST" (.int 4) (.int 4 t)
  k_World_MOST : ∃ t, Con K (cl 0) "MOST" (.int 36) (.int 36 t)
  cl_Lattice : Cls K (cl 1)
  n_Lattice_world : NoAttr K (cl 1) "world"
  n_Lattice_groups : NoAttr K (cl 1) "groups"
  n_Lattice__numbers : NoAttr K (cl 1) "_numbers"
  n_Lattice__carries : NoAttr K (cl 1) "_carries"
  n_Lattice_classes : NoAttr K (cl 1) "classes"
  n_Lattice__places : NoAttr K (cl 1) "_places"
  n_Lattice__holdings : NoAttr K (cl 1) "_holdings"
  n_Lattice__below : NoAttr K (cl 1) "_below"
  z_abs : mg "abs" = none
  z_all : mg "all" = none
  z_any : mg "any" = none
  z_enumerate : mg "enumerate" = none
  z_int : mg "int" = none
  z_len : mg "len" = none
  z_list : mg "list" = none
  z_max : mg "max" = none
  z_min : mg "min" = none
  z_range : mg "range" = none
  z_repr : mg "repr" = none
  z_set : mg "set" = none
  z_sorted : mg "sorted" = none
  z_sum : mg "sum" = none
  z_tuple : mg "tuple" = none
  q_factorial : mg "factorial" = some (.builtin "math.factorial")
structure Tbs (base : Heap) (mg : Str → Option Value) (cd tb : Nat → Addr) : Prop where
  t20 : LamX.TabB base mg (cd 20) (tb 20)
theorem at_ints {ns : List Int} {k : Int} (h0 : 0 ≤ k) (h1 : k < ((ns.map V.int).length : Nat)) : ∃ i, L2.atI (ns.map V.int) k = some (.int i) := by
  obtain ⟨j, rfl⟩ : ∃ j : Nat, k = j := ⟨k.toNat, by omega⟩
  have hj : j < ns.length := by rw [List.length_map] at h1; omega
  exact ⟨ns[j], atI_nat (by rw [List.getElem?_map, List.getElem?_eq_getElem hj]; rfl)⟩
theorem cut_ints (ns : List Int) (lo hi : Option Int) : ∃ ms : List Int, cutV (ns.map V.int) lo hi = ms.map V.int := ⟨_, by unfold cutV; rw [← List.map_drop, ← List.map_take]⟩
section
variable {P : Program} {w : World} {K : PySem.W.Frag} {mg : Str → Option Value} {base : Heap} {cl : Cl} {f cd tb : Nat → Addr} {fd : Nat → FuncData}
theorem ok_pool (T : Txt K mg cl f fd cd tb) : FnOk P w K mg base CX0 1 (f 34) (fd 34) ["_law_script", "_law_k"] (spPool K) := by
  refine T.F34.ok sc__law_pool (fun vs H Q E ⟨_, _, _, e, _⟩ => by rw [e]; rfl) (fun cdv A outer s H vs Q E hr h => ⟨_, (pss_cons (ps_if (pt_cmpR op_lt (pv 1) (pe_callB call_len_seq (by rfl) T.z_len PySem.boot_len (pa_cons (pv 0) pa_nil)) (nomark _)) (pss_one (ps_set (i := 2) sc__law_pool.nd rfl (by first | exact .inl rfl | exact .inr rfl) (pe_callB call_abs (by rfl) T.z_abs (by rfl) (pa_cons (pe_ix ix_list (pv 0) (pv 1) (fun _ _ => rfl)) pa_nil)))) (pss_one (ps_set (i := 2) sc__law_pool.nd rfl (by first | exact .inl rfl | exact .inr rfl) (pe_op op_add (pe_op op_mul (pe_callB call_abs (by rfl) T.z_abs (by rfl) (pa_cons (pe_callB (cr_sumA rfl) (by rfl) T.z_sum PyProof.Rows.boot_sum (pa_cons (pe_slice sl_list (pv 0) po_none (po_some pe_int)) pa_nil)) pa_nil)) pe_int) (pe_op op_mul (pv 1) pe_int))))) (pss_one (ps_ret (pe_lst (pa_cons (pv 2) (pa_cons (pe_cmpR op_ge (pv 2) (pe_op op_pow pe_int pe_int) (nomark _)) (pa_cons (pe_op op_add (pv 1) pe_int) pa_nil))))))), ?r⟩)
  case r =>
    obtain ⟨a, ns, k, rfl, hs, h0, q⟩ := h
    refine ⟨.int k, rfl, ⟨.ref a, rfl, a, ns.map V.int, rfl, .inl hs, k, _, rfl, rfl, _, rfl, ?_⟩⟩
    cases hd : decide (k < ((ns.map V.int).length : Nat)) with
    | true =>
      obtain ⟨i, hi⟩ := at_ints h0 (of_decide_eq_true hd)
      refine iteT ⟨.ref a, rfl, .int k, rfl, a, _, k, _, rfl, rfl, hs, hi, i, rfl, ?_⟩
      exact ⟨.int _, rfl, .int _, rfl, 10, 18, rfl, rfl, ⟨by decide, by decide, by decide⟩, _, _, rfl, rfl, .int k, rfl, k, 1, rfl, rfl, (by show 3 ≤ sizeLine; decide), fun p np => q p _ _ H np (Same.refl _) np⟩
    | false =>
      obtain ⟨ms, hms⟩ := cut_ints ns none (some 9)
      refine iteF ⟨.ref a, rfl, 9, rfl, a, _, rfl, hs, fun p2 np2 => ⟨p2, ms, rfl, .inl (SqL.of (by rw [← hms]; exact upd_same)), ms.sum, rfl, _, 31, rfl, rfl, .inr (by decide), .int k, rfl, k, 7919, rfl, rfl, .inr (by decide), _, _, rfl, rfl, ?_⟩⟩
      exact ⟨.int _, rfl, .int _, rfl, 10, 18, rfl, rfl, ⟨by decide, by decide, by decide⟩, _, _, rfl, rfl, .int k, rfl, k, 1, rfl, rfl, (by show 3 ≤ sizeLine; decide), fun p np => q p _ _ _ ((same_new np2).free np) (same_new np2) np⟩
theorem ok_take (T : Txt K mg cl f fd cd tb) : FnOk P w K mg base CX0 1 (f 35) (fd 35) ["_law_pool_here", "_law_limit"] spTake := by
  refine T.F35.ok sc__law_take (fun vs H Q E ⟨_, _, _, _, _, e, _⟩ => by rw [e]; rfl) (fun cdv A outer s H vs Q E hr h => ⟨_, (pss_cons (ps_if (pt_val (pe_ix ix_list (pv 0) pe_int (fun _ _ => rfl))) (pss_cons (ps_set (i := 2) sc__law_take.nd rfl (by first | exact .inl rfl | exact .inr rfl) (pe_op op_modN (pe_callTy call_int1 (by rfl) T.z_int (by rfl) (pa_cons (pe_ix ix_list (pv 0) pe_int (fun _ _ => rfl)) pa_nil)) (pv 1))) (pss_cons (ps_asg (pe_op op_fdivN (pe_callTy call_int1 (by rfl) T.z_int (by rfl) (pa_cons (pe_ix ix_list (pv 0) pe_int (fun _ _ => rfl)) pa_nil)) (pv 1)) (pg_sub (pv 0) pe_int set_list)) (pss_cons (ps_if (pt_cmpR op_eq (pe_ix ix_list (pv 0) pe_int (fun _ _ => rfl)) pe_int (nomark _)) (pss_cons (ps_asg pe_bl (pg_sub (pv 0) pe_int set_list)) (pss_one (ps_asg (pe_op op_add (pv 2) pe_int) (pg_sub (pv 0) pe_int set_list)))) pss_nil) (pss_one (ps_ret (pv 2)))))) pss_nil) (pss_cons (ps_asg (pe_op op_add (pe_ix ix_list (pv 0) pe_int (fun _ _ => rfl)) pe_int) (pg_sub (pv 0) pe_int set_list)) (pss_cons (ps_asg (pe_op op_modN (pe_callTy call_int1 (by rfl) T.z_int (by rfl) (pa_cons (pe_op op_add (pe_op op_add (pe_op op_mul (pe_callTy call_int1 (by rfl) T.z_int (by rfl) (pa_cons (pe_ix ix_list (pv 0) pe_int (fun _ _ => rfl)) pa_nil)) pe_int) (pe_op op_mul (pe_ix ix_list (pv 0) pe_int (fun _ _ => rfl)) pe_int)) pe_int) pa_nil)) pe_int) (pg_sub (pv 0) pe_int set_list)) (pss_one (ps_ret (pe_op op_modN (pe_op op_fdivN (pe_op op_modN (pe_callTy call_int1 (by rfl) T.z_int (by rfl) (pa_cons (pe_op op_add (pe_op op_mul (pe_callTy call_int1 (by rfl) T.z_int (by rfl) (pa_cons (pe_ix ix_list (pv 0) pe_int (fun _ _ => rfl)) pa_nil)) pe_int) pe_int) pa_nil)) pe_int) pe_int) (pv 1))))))), ?r⟩)
  case r =>
    obtain ⟨p, lim, c, k, b, rfl, h0, h1, hp, q⟩ := h
    have hl : lim ≠ 0 := by omega
    have hl2 : lim.natAbs < 1073741824 := by omega
    have hm : ∀ x : Int, 0 ≤ x.fmod lim ∧ x.fmod lim < lim := fun x => ⟨Int.fmod_nonneg_of_pos x h0, Int.fmod_lt_of_pos x h0⟩
    refine ⟨.ref p, rfl, p, _, 1, .bl b, rfl, rfl, SqL.of hp, rfl, b, rfl, ?_⟩
    cases b with
    | true =>
      refine iteT ⟨.ref p, rfl, p, _, 0, .int c, rfl, rfl, SqL.of hp, rfl, .inl ⟨c, rfl, .int lim, rfl, c, lim, rfl, rfl, hl, ?_⟩⟩
      refine ⟨.ref p, rfl, p, _, 0, .int c, rfl, rfl, SqL.of hp, rfl, .inl ⟨c, rfl, .int lim, rfl, c, lim, rfl, rfl, ⟨hl, hl2⟩, .ref p, rfl, p, _, 0, 0, rfl, rfl, hp, rfl, ?_⟩⟩
      refine ⟨.ref p, rfl, p, _, 0, .int (c.fdiv lim), rfl, rfl, SqL.of upd_same, rfl, rfl, _, rfl, ?_⟩
      cases hd : decide (V.int (c.fdiv lim) = V.int 0) with
      | true =>
        refine iteT ⟨.ref p, rfl, p, _, 1, 1, rfl, rfl, upd_same, rfl, .int (c.fmod lim), rfl, _, 17, rfl, rfl, .ref p, rfl, p, _, 0, 0, rfl, rfl, upd_same, rfl, .int (c.fmod lim), rfl, ?_⟩
        rw [upd_upd, upd_upd]
        exact q _ _ _ _ (hm c).1 (hm c).2
      | false =>
        refine iteF ⟨.int (c.fmod lim), rfl, ?_⟩
        exact q _ _ _ _ (hm c).1 (hm c).2
    | false =>
      refine iteF ⟨.ref p, rfl, p, _, 2, .int k, rfl, rfl, SqL.of hp, rfl, k, 1, rfl, rfl, .ref p, rfl, p, _, 2, 2, rfl, rfl, hp, rfl, ?_⟩
      refine ⟨.ref p, rfl, p, _, 0, .int c, rfl, rfl, SqL.of upd_same, rfl, .inl ⟨c, rfl, c, 48271, rfl, rfl, .inr (by decide), .ref p, rfl, p, _, 2, .int (k + 1), rfl, rfl, SqL.of upd_same, rfl, k + 1, 69621, rfl, rfl, .inr (by decide), _, _, rfl, rfl, _, 11, rfl, rfl, .inl ⟨_, rfl, _, 2147483647, rfl, rfl, (by show (2147483647 : Int) ≠ 0; decide), .ref p, rfl, p, _, 0, 0, rfl, rfl, upd_same, rfl, ?_⟩⟩⟩
      refine ⟨.ref p, rfl, p, _, 0, .int _, rfl, rfl, SqL.of upd_same, rfl, .inl ⟨_, rfl, _, 16807, rfl, rfl, .inr (by decide), _, 4099, rfl, rfl, .inl ⟨_, rfl, _, 2147483629, rfl, rfl, (by show (2147483629 : Int) ≠ 0; decide), _, 5, rfl, rfl, ⟨by decide, by decide⟩, .int lim, rfl, _, lim, rfl, rfl, hl, ?_⟩⟩⟩
      rw [upd_upd]
      exact q _ _ _ _ (hm _).1 (hm _).2
theorem okw__law_pool (T : Txt K mg cl f fd cd tb) (_ : Tbs base mg cd tb) : FnOk P w K mg base CX0 1 (f 34) (fd 34) ["_law_script", "_law_k"] (spN K cl w__law_pool) := pool_imp (ok_pool T)
theorem okw__law_take (T : Txt K mg cl f fd cd tb) (_ : Tbs base mg cd tb) : FnOk P w K mg base CX0 1 (f 35) (fd 35) ["_law_pool_here", "_law_limit"] (spN K cl w__law_take) := take_imp (ok_take T)
end
theorem ok_classes_from {P : Program} {w : World} {K : PySem.W.Frag} {mg : Str → Option Value} {base : Heap} {cl : Cl} {f cd tb : Nat → Addr} {fd : Nat → FuncData} (T : Txt K mg cl f fd cd tb) (TB : Tbs base mg cd tb) : FnOk P w K mg base CX0 1 (f 22) (fd 22) ["carries"] (spD K cl m_classes_from) := by
  refine T.F22.ok sc_classes_from kspD_len (fun cdv A outer s H vs Q E hr h => ⟨tS K cl _, ?_, kfun_of (k := 1) (n := 2) rfl h⟩)
  exact (ss_one (to_k (kRet_eq _) (s_ret (d_ds (pe_callTy call_tuple_of (by rfl) T.z_tuple PyProof.Rows.boot_tuple (da_cons (d_lc (pe_lc (own := [("at", 1), ("row", 2)]) rfl sc_classes_from.nd (di_enum (by rfl) T.z_enumerate (da_cons (d_var (pv 0)) da_nil)) (blkOk_by (N := ["carries", "at", "row"]) (sc := (defScope s_classes_from)) (by decide +kernel)) (fun _ _ _ _ _ => (dg_tup rfl (dgs_cons (dgk (dg_name (pg_name (i := 1) sc_classes_from.nd rfl (by first | exact .inl rfl | exact .inr rfl)))) (dgs_cons (dgk (dg_name (pg_name (i := 2) sc_classes_from.nd rfl (by first | exact .inl rfl | exact .inr rfl)))) dgs_nil)))) (fun _ _ _ _ _ => (dts_one (dt_cmp (pt_cmpR (op_or (op_eqD hr.units) op_eq) (d_ds (pe_callB (cr_min rfl) (by rfl) T.z_min PyProof.Rows.boot_min (da_cons (d_var (pv 2)) da_nil)) (CaS.lst cs_min)) (d_var (pv 1)) (nomark _)) dd_eq))) (fun _ _ _ _ _ => (d_ds (pe_callTy call_tuple_of (by rfl) T.z_tuple PyProof.Rows.boot_tuple (da_cons (d_sortset (pe_callB (cr_sortedSet rfl) (by rfl) T.z_sorted PyProof.Rows.boot_sorted (pa_cons (pe_callTy (cr_setL rfl) (by rfl) T.z_set Dl.boot_set (da_cons (d_var (pv 2)) da_nil)) pa_nil))) da_nil)) (CaS.seq cs_tuple ct_tuple))))) da_nil)) (CaS.seq cs_tuple ct_tuple)))))
theorem ok_World_then {P : Program} {w : World} {K : PySem.W.Frag} {mg : Str → Option Value} {base : Heap} {cl : Cl} {f cd tb : Nat → Addr} {fd : Nat → FuncData} (T : Txt K mg cl f fd cd tb) (TB : Tbs base mg cd tb) : FnOk P w K mg base CX0 1 (f 14) (fd 14) ["self", "first", "second"] (spD K cl m_World_then) := by
  refine T.F14.ok sc_World_then kspD_len (fun cdv A outer s H vs Q E hr h => ⟨tS K cl _, ?_, kfun_of (k := 3) (n := 0) rfl h⟩)
  exact (ss_one (to_k (kRet_eq _) (s_ret (d_ix (d_ix (d_fld (d_var (pv 0)) T.cl_World T.n_World__table) (d_var (pv 1))) (d_var (pv 2))))))
theorem ok_with_powers {P : Program} {w : World} {K : PySem.W.Frag} {mg : Str → Option Value} {base : Heap} {cl : Cl} {f cd tb : Nat → Addr} {fd : Nat → FuncData} (T : Txt K mg cl f fd cd tb) (TB : Tbs base mg cd tb) : FnOk P w K mg base CX0 2 (f 18) (fd 18) ["world", "group", "number"] (spD K cl m_with_powers) := by
  refine T.F18.ok sc_with_powers kspD_len (fun cdv A outer s H vs Q E hr h => ⟨tS K cl _, ?_, kfun_of (k := 3) (n := 3) rfl h⟩)
  exact (ss_cons (to_k (kSet_eq _ _) (s_set (ps_set (i := 3) sc_with_powers.nd rfl (by first | exact .inl rfl | exact .inr rfl) (d_ds (pe_callTy call_list_of (by rfl) T.z_list PyProof.Rows.boot_list (da_cons (d_var (pv 1)) da_nil)) (CaS.seq cs_list ct_list)))))
    (ss_cons (to_k (kSet_eq _ _) (s_set (ps_set (i := 4) sc_with_powers.nd rfl (by first | exact .inl rfl | exact .inr rfl) (d_var (pv 2)))))
    (ss_cons (s_while 200 PassesOwn.never (dt_cmp (pt_cmpR (op_or op_notIn_seq (op_notInD (un65 hr))) (d_var (pv 4)) (d_var (pv 1)) (by rfl)) dd_notIn) (ss_cons (to_k (kSet_eq _ _) (s_set (ps_set (i := 3) sc_with_powers.nd rfl (by first | exact .inl rfl | exact .inr rfl) (d_bin (pe_op (op_or op_add (op_or op_cat op_catA)) (d_var (pv 3)) (d_lc (pe_lc (own := [("member", 5)]) rfl sc_with_powers.nd (di_seq (d_var (pv 1))) (blkOk_by (N := ["world", "group", "number", "members", "power", "member"]) (sc := (defScope s_with_powers)) (by decide +kernel)) (fun _ _ _ _ _ => (dgk (dg_name (pg_name (i := 5) sc_with_powers.nd rfl (by first | exact .inl rfl | exact .inr rfl))))) (fun _ _ _ _ _ => dts_nil) (fun _ _ _ _ _ => (d_meth (pe_meth (d_var (pv 0)) T.cl_World T.me14 (ok_World_then T TB) (hr.mono (by decide)) T.b14 .nil pass0 (da_cons (d_var (pv 5)) (da_cons (d_var (pv 4)) da_nil)))))))) dd_add))))
    (ss_one (to_k (kSet_eq _ _) (s_set (ps_set (i := 4) sc_with_powers.nd rfl (by first | exact .inl rfl | exact .inr rfl) (d_meth (pe_meth (d_var (pv 0)) T.cl_World T.me14 (ok_World_then T TB) (hr.mono (by decide)) T.b14 .nil pass0 (da_cons (d_var (pv 4)) (da_cons (d_var (pv 2)) da_nil))))))))))
    (ss_one (to_k (kRet_eq _) (s_ret (d_ds (pe_callTy call_tuple_of (by rfl) T.z_tuple PyProof.Rows.boot_tuple (da_cons (d_ds (pe_callB cr_sortedI (by rfl) T.z_sorted PyProof.Rows.boot_sorted (da_cons (d_var (pv 3)) da_nil)) (CaS.lst cs_sorted)) da_nil)) (CaS.seq cs_tuple ct_tuple))))))))
theorem ok_World_inverse {P : Program} {w : World} {K : PySem.W.Frag} {mg : Str → Option Value} {base : Heap} {cl : Cl} {f cd tb : Nat → Addr} {fd : Nat → FuncData} (T : Txt K mg cl f fd cd tb) (TB : Tbs base mg cd tb) : FnOk P w K mg base CX0 1 (f 15) (fd 15) ["self", "number"] (spD K cl m_World_inverse) := by
  refine T.F15.ok sc_World_inverse kspD_len (fun cdv A outer s H vs Q E hr h => ⟨tS K cl _, ?_, kfun_of (k := 2) (n := 0) rfl h⟩)
  exact (ss_one (to_k (kRet_eq _) (s_ret (d_ix (d_fld (d_var (pv 0)) T.cl_World T.n_World__inverses) (d_var (pv 1))))))
theorem ok_carried_group {P : Program} {w : World} {K : PySem.W.Frag} {mg : Str → Option Value} {base : Heap} {cl : Cl} {f cd tb : Nat → Addr} {fd : Nat → FuncData} (T : Txt K mg cl f fd cd tb) (TB : Tbs base mg cd tb) : FnOk P w K mg base CX0 2 (f 17) (fd 17) ["world", "group", "number"] (spD K cl m_carried_group) := by
  refine T.F17.ok sc_carried_group kspD_len (fun cdv A outer s H vs Q E hr h => ⟨tS K cl _, ?_, kfun_of (k := 3) (n := 2) rfl h⟩)
  exact (ss_cons (to_k (kSet_eq _ _) (s_set (ps_set (i := 3) sc_carried_group.nd rfl (by first | exact .inl rfl | exact .inr rfl) (d_meth (pe_meth (d_var (pv 0)) T.cl_World T.me15 (ok_World_inverse T TB) (hr.mono (by decide)) T.b15 .nil pass0 (da_cons (d_var (pv 2)) da_nil))))))
    (ss_one (to_k (kRet_eq _) (s_ret (d_ds (pe_callTy call_tuple_of (by rfl) T.z_tuple PyProof.Rows.boot_tuple (da_cons (d_ds (pe_callB cr_sortedI (by rfl) T.z_sorted PyProof.Rows.boot_sorted (da_cons (d_lc (pe_lc (own := [("member", 4)]) rfl sc_carried_group.nd (di_seq (d_var (pv 1))) (blkOk_by (N := ["world", "group", "number", "back", "member"]) (sc := (defScope s_carried_group)) (by decide +kernel)) (fun _ _ _ _ _ => (dgk (dg_name (pg_name (i := 4) sc_carried_group.nd rfl (by first | exact .inl rfl | exact .inr rfl))))) (fun _ _ _ _ _ => dts_nil) (fun _ _ _ _ _ => (d_meth (pe_meth (d_var (pv 0)) T.cl_World T.me14 (ok_World_then T TB) (hr.mono (by decide)) T.b14 .nil pass0 (da_cons (d_meth (pe_meth (d_var (pv 0)) T.cl_World T.me14 (ok_World_then T TB) (hr.mono (by decide)) T.b14 .nil pass0 (da_cons (d_var (pv 3)) (da_cons (d_var (pv 4)) da_nil)))) (da_cons (d_var (pv 2)) da_nil))))))) da_nil)) (CaS.lst cs_sorted)) da_nil)) (CaS.seq cs_tuple ct_tuple))))))
theorem ok_grown_groups {P : Program} {w : World} {K : PySem.W.Frag} {mg : Str → Option Value} {base : Heap} {cl : Cl} {f cd tb : Nat → Addr} {fd : Nat → FuncData} (T : Txt K mg cl f fd cd tb) (TB : Tbs base mg cd tb) : FnOk P w K mg base CX0 3 (f 19) (fd 19) ["world", "group"] (spD K cl m_grown_groups) := by
  refine T.F19.ok sc_grown_groups kspD_len (fun cdv A outer s H vs Q E hr h => ⟨tS K cl _, ?_, kfun_of (k := 2) (n := 1) rfl h⟩)
  exact (ss_one (to_k (kRet_eq _) (s_ret (d_lc (pe_lc (own := [("number", 2)]) rfl sc_grown_groups.nd (di_rng1 (by rfl) T.z_range (da_cons (d_fld (d_var (pv 0)) T.cl_World T.n_World_order) da_nil)) (blkOk_by (N := ["world", "group", "number"]) (sc := (defScope s_grown_groups)) (by decide +kernel)) (fun _ _ _ _ _ => (dgk (dg_name (pg_name (i := 2) sc_grown_groups.nd rfl (by first | exact .inl rfl | exact .inr rfl))))) (fun _ _ _ _ _ => (dts_one (PW.pt (dw_and (dt_cmp (pt_cmpR (op_or op_notIn_seq (op_notInD (un65 hr))) (d_var (pv 2)) (d_var (pv 1)) (by rfl)) dd_notIn) (dw_and1 (dt_cmp (pt_cmpR (op_or (op_eqD hr.units) op_eq) (d_call (pe_call (ok_carried_group T TB) (hr.mono (by decide)) (by rfl) T.g_carried_group (T.kp17) T.b17 .nil pass0 (da_cons (d_var (pv 0)) (da_cons (d_var (pv 1)) (da_cons (d_var (pv 2)) da_nil))))) (d_var (pv 1)) (nomark _)) dd_eq)))))) (fun _ _ _ _ _ => (d_call (pe_call (ok_with_powers T TB) (hr.mono (by decide)) (by rfl) T.g_with_powers (T.kp18) T.b18 .nil pass0 (da_cons (d_var (pv 0)) (da_cons (d_var (pv 1)) (da_cons (d_var (pv 2)) da_nil)))))))))))
theorem ok_all_groups {P : Program} {w : World} {K : PySem.W.Frag} {mg : Str → Option Value} {base : Heap} {cl : Cl} {f cd tb : Nat → Addr} {fd : Nat → FuncData} (T : Txt K mg cl f fd cd tb) (TB : Tbs base mg cd tb) : FnOk P w K mg base CX0 4 (f 20) (fd 20) ["world"] (spD K cl m_all_groups) := by
  refine T.F20.ok sc_all_groups kspD_len (fun A outer s H vs Q E hr h => ⟨tS K cl _, ?_, kfun_of (k := 1) (n := 4) rfl h⟩)
  exact (ss_cons (s_ownT1 (ps_set (i := 1) sc_all_groups.nd rfl (by first | exact .inl rfl | exact .inr rfl) (pe_disp1 hr.units0 (d_tup (da_cons d_int da_nil)) d_bl)))
    (ss_cons (to_k (kOwn_eq _ _) (s_own (ps_set (i := 2) sc_all_groups.nd rfl (by first | exact .inl rfl | exact .inr rfl) (pe_lst (da_cons (d_tup (da_cons d_int da_nil)) da_nil)))))
    (ss_cons (s_while 200 PassesOwn.never (dt_truS (d_sqvar (pv 2))) (ss_cons (s_pop (ps_set (i := 3) sc_all_groups.nd rfl (by first | exact .inl rfl | exact .inr rfl) (pe_bm0 PySem.F.plainAttrs_list PySem.F.slot_list_pop PySem.F.type_list_pop mt_pop (pv 2))))
    (ss_one (s_for PassesOwn.never rfl (di_seq (d_call (pe_call (ok_grown_groups T TB) (hr.mono (by decide)) (by rfl) T.g_grown_groups (T.kp19) T.b19 .nil pass0 (da_cons (d_var (pv 0)) (da_cons (d_var (pv 3)) da_nil))))) (dgk (dg_name (pg_name (i := 4) sc_all_groups.nd rfl (by first | exact .inl rfl | exact .inr rfl)))) (ss_one (s_if (dt_inON (pt_cmp (pc_dnotin (un1 hr) (d_var (pv 4)) (pv 1)))) (ss_cons (to_k (kPut_eq _ _ _) (s_put (ps_dput (un1 hr) (pv 1) (d_var (pv 4)) d_bl rfl)))
    (ss_one (to_k (kApp_eq _ _) (s_append (ps_expr (pe_bm PySem.F.plainAttrs_list PySem.F.slot_list_append PySem.F.type_list_append mt_append (pv 2) (pa_cons (d_var (pv 4)) pa_nil))))))) ss_nil))))))
    (ss_one (to_k (kRet_eq _) (s_ret (d_sortL (pe_sortL (by rfl) T.z_sorted T.z_len (da_cons (d_keysO (fun a kvs H Q h1 h2 => ⟨a, kvs, rfl, h1, h2⟩) (pe_callTy (call_list_dT rfl) (by rfl) T.z_list PyProof.Rows.boot_list (pa_cons (pv 1) pa_nil))) da_nil) (TB.t20) rfl T.in20 T.one20 (by rfl) ⟨rfl, rfl, rfl, by decide +kernel, rfl, rfl, by decide⟩ (n := 0) (hr.mono (by decide)) (fun _ _ _ _ _ _ => rfl)))))))))
theorem ok_holds_all {P : Program} {w : World} {K : PySem.W.Frag} {mg : Str → Option Value} {base : Heap} {cl : Cl} {f cd tb : Nat → Addr} {fd : Nat → FuncData} (T : Txt K mg cl f fd cd tb) (TB : Tbs base mg cd tb) : FnOk P w K mg base CX0 1 (f 21) (fd 21) ["group", "other"] (spD K cl m_holds_all) := by
  refine T.F21.ok sc_holds_all kspD_len (fun cdv A outer s H vs Q E hr h => ⟨tS K cl _, ?_, kfun_of (k := 2) (n := 1) rfl h⟩)
  exact (ss_one (to_k (kRet_eq _) (s_ret (d_ds (pe_callB (cr_all rfl) (by rfl) T.z_all PyProof.Rows.boot_all (da_cons (d_lc (pe_lc (own := [("member", 2)]) rfl sc_holds_all.nd (di_seq (d_var (pv 1))) (blkOk_by (N := ["group", "other", "member"]) (sc := (defScope s_holds_all)) (by decide +kernel)) (fun _ _ _ _ _ => (dgk (dg_name (pg_name (i := 2) sc_holds_all.nd rfl (by first | exact .inl rfl | exact .inr rfl))))) (fun _ _ _ _ _ => dts_nil) (fun _ _ _ _ _ => (d_bin (pe_cmpR (op_or op_in_seq (op_inD (un65 hr))) (d_var (pv 2)) (d_var (pv 0)) (by rfl)) dd_in)))) da_nil)) (CaS.lst cs_all)))))
theorem ok_Lattice_init {P : Program} {w : World} {K : PySem.W.Frag} {mg : Str → Option Value} {base : Heap} {cl : Cl} {f cd tb : Nat → Addr} {fd : Nat → FuncData} (T : Txt K mg cl f fd cd tb) (TB : Tbs base mg cd tb) : FnOk P w K mg base CX0 5 (f 23) (fd 23) ["self", "world"] (spI K cl 1 m_Lattice_init) := by
  refine T.F23.ok sc_Lattice_init kspI_len (fun cdv A outer s H vs Q E hr h => ⟨tS K cl _, ?_, kinit_of (k := 1) (n := 9) rfl h⟩)
  exact (ss_cons (to_k (kFldO_eq _ _ _ _) (s_fldO T.cl_Lattice T.n_Lattice_world (ps_fld (pv 0) (d_var (pv 1)) rfl)))
    (ss_cons (to_k (kFldO_eq _ _ _ _) (s_fldO T.cl_Lattice T.n_Lattice_groups (ps_fld (pv 0) (d_ds (pe_callTy call_tuple_of (by rfl) T.z_tuple PyProof.Rows.boot_tuple (da_cons (d_call (pe_call (ok_all_groups T TB) (hr.mono (by decide)) (by rfl) T.g_all_groups (T.kp20) T.b20 .nil pass0 (da_cons (d_var (pv 1)) da_nil))) da_nil)) (CaS.seq cs_tuple ct_tuple)) rfl)))
    (ss_cons (to_k (kFldO_eq _ _ _ _) (s_fldO T.cl_Lattice T.n_Lattice__numbers (ps_fld (pv 0) (to_kE (kDcT_eq _ _ _ _ _ _) (d_dcT (own := [("at", 2), ("group", 3)]) (pe_dcP (own := [("at", 2), ("group", 3)]) rfl hr.units0 sc_Lattice_init.nd (di_enum (by rfl) T.z_enumerate (da_cons (d_fldO (pv 0) T.cl_Lattice T.n_Lattice_groups) da_nil)) (blkOk_by (N := ["self", "world", "at", "group", "renaming", "place", "lot", "number", "other", "held", "row"]) (sc := (defScope s_Lattice_init)) (by decide +kernel)) emptyT (fun _ _ _ _ _ => (dg_tup rfl (dgs_cons (dgk (dg_name (pg_name (i := 2) sc_Lattice_init.nd rfl (by first | exact .inl rfl | exact .inr rfl)))) (dgs_cons (dgk (dg_name (pg_name (i := 3) sc_Lattice_init.nd rfl (by first | exact .inl rfl | exact .inr rfl)))) dgs_nil)))) (fun _ _ _ _ _ => dts_nil) (fun _ _ _ _ _ => (d_var (pv 3))) (fun _ _ _ _ _ => (d_var (pv 2)))))) rfl)))
    (ss_cons (to_k (kFldO_eq _ _ _ _) (s_fldO T.cl_Lattice T.n_Lattice__carries (ps_fld (pv 0) (d_lc (pe_lc (own := [("group", 3)]) rfl sc_Lattice_init.nd (di_seq (d_fldO (pv 0) T.cl_Lattice T.n_Lattice_groups)) (blkOk_by (N := ["self", "world", "at", "group", "renaming", "place", "lot", "number", "other", "held", "row"]) (sc := (defScope s_Lattice_init)) (by decide +kernel)) (fun _ _ _ _ _ => (dgk (dg_name (pg_name (i := 3) sc_Lattice_init.nd rfl (by first | exact .inl rfl | exact .inr rfl))))) (fun _ _ _ _ _ => dts_nil) (fun _ _ _ _ _ => (d_lc (pe_lc (own := [("renaming", 4)]) rfl sc_Lattice_init.nd (di_rng1 (by rfl) T.z_range (da_cons (d_fld (d_var (pv 1)) T.cl_World T.n_World_order) da_nil)) (blkOk_by (N := ["self", "world", "at", "group", "renaming", "place", "lot", "number", "other", "held", "row"]) (sc := (relS _ (defScope s_Lattice_init))) (by decide +kernel)) (fun _ _ _ _ _ => (dgk (dg_name (pg_name (i := 4) sc_Lattice_init.nd rfl (by first | exact .inl rfl | exact .inr rfl))))) (fun _ _ _ _ _ => dts_nil) (fun _ _ _ _ _ => (d_get (un1 hr) (d_fldO (pv 0) T.cl_Lattice T.n_Lattice__numbers) (d_call (pe_call (ok_carried_group T TB) (hr.mono (by decide)) (by rfl) T.g_carried_group (T.kp17) T.b17 .nil pass0 (da_cons (d_var (pv 1)) (da_cons (d_var (pv 3)) (da_cons (d_var (pv 4)) da_nil)))))))))))) rfl)))
    (ss_cons (to_k (kFldO_eq _ _ _ _) (s_fldO T.cl_Lattice T.n_Lattice_classes (ps_fld (pv 0) (d_call (pe_call (ok_classes_from T TB) (hr.mono (by decide)) (by rfl) T.g_classes_from (T.kp22) T.b22 .nil pass0 (da_cons (d_fldO (pv 0) T.cl_Lattice T.n_Lattice__carries) da_nil))) rfl)))
    (ss_cons (to_k (kFldO_eq _ _ _ _) (s_fldO T.cl_Lattice T.n_Lattice__places (ps_fld (pv 0) (d_dcK2 (own := [("place", 5), ("lot", 6), ("number", 7)]) (pe_dc2 (own := [("place", 5), ("lot", 6), ("number", 7)]) (vs1 := [7]) rfl hr.units0 sc_Lattice_init.nd (di_enum (by rfl) T.z_enumerate (da_cons (d_fldO (pv 0) T.cl_Lattice T.n_Lattice_classes) da_nil)) (blkOk_by (N := ["self", "world", "at", "group", "renaming", "place", "lot", "number", "other", "held", "row"]) (sc := (defScope s_Lattice_init)) (by decide +kernel)) (by decide) emptyK (fun _ _ _ _ _ => (dg_tup rfl (dgs_cons (dgk (dg_name (pg_name (i := 5) sc_Lattice_init.nd rfl (by first | exact .inl rfl | exact .inr rfl)))) (dgs_cons (dgk (dg_name (pg_name (i := 6) sc_Lattice_init.nd rfl (by first | exact .inl rfl | exact .inr rfl)))) dgs_nil)))) (fun _ _ _ _ _ => dts_nil) (fun _ _ _ _ _ => (di_seq (d_var (pv 6)))) (fun _ _ _ _ _ => (dgk (dg_name (pg_name (i := 7) sc_Lattice_init.nd rfl (by first | exact .inl rfl | exact .inr rfl))))) (fun _ _ _ _ _ => dts_nil) (fun _ _ _ _ _ => (d_var (pv 7))) (fun _ _ _ _ _ => (d_var (pv 5))))) rfl)))
    (ss_cons (to_k (kFldO_eq _ _ _ _) (s_fldO T.cl_Lattice T.n_Lattice__holdings (ps_fld (pv 0) (d_lc (pe_lc (own := [("group", 3)]) rfl sc_Lattice_init.nd (di_seq (d_fldO (pv 0) T.cl_Lattice T.n_Lattice_groups)) (blkOk_by (N := ["self", "world", "at", "group", "renaming", "place", "lot", "number", "other", "held", "row"]) (sc := (defScope s_Lattice_init)) (by decide +kernel)) (fun _ _ _ _ _ => (dgk (dg_name (pg_name (i := 3) sc_Lattice_init.nd rfl (by first | exact .inl rfl | exact .inr rfl))))) (fun _ _ _ _ _ => dts_nil) (fun _ _ _ _ _ => (d_lc (pe_lc (own := [("other", 8)]) rfl sc_Lattice_init.nd (di_seq (d_fldO (pv 0) T.cl_Lattice T.n_Lattice_groups)) (blkOk_by (N := ["self", "world", "at", "group", "renaming", "place", "lot", "number", "other", "held", "row"]) (sc := (relS _ (defScope s_Lattice_init))) (by decide +kernel)) (fun _ _ _ _ _ => (dgk (dg_name (pg_name (i := 8) sc_Lattice_init.nd rfl (by first | exact .inl rfl | exact .inr rfl))))) (fun _ _ _ _ _ => dts_nil) (fun _ _ _ _ _ => (d_call (pe_call (ok_holds_all T TB) (hr.mono (by decide)) (by rfl) T.g_holds_all (T.kp21) T.b21 .nil pass0 (da_cons (d_var (pv 3)) (da_cons (d_var (pv 8)) da_nil)))))))))) rfl)))
    (ss_one (to_k (kFldO_eq _ _ _ _) (s_fldO T.cl_Lattice T.n_Lattice__below (ps_fld (pv 0) (d_lc (pe_lc (own := [("row", 10)]) rfl sc_Lattice_init.nd (di_seq (d_fldO (pv 0) T.cl_Lattice T.n_Lattice__holdings)) (blkOk_by (N := ["self", "world", "at", "group", "renaming", "place", "lot", "number", "other", "held", "row"]) (sc := (defScope s_Lattice_init)) (by decide +kernel)) (fun _ _ _ _ _ => (dgk (dg_name (pg_name (i := 10) sc_Lattice_init.nd rfl (by first | exact .inl rfl | exact .inr rfl))))) (fun _ _ _ _ _ => dts_nil) (fun _ _ _ _ _ => (d_ds (pe_callTy call_tuple_of (by rfl) T.z_tuple PyProof.Rows.boot_tuple (da_cons (d_lc (pe_lc (own := [("at", 2), ("held", 9)]) rfl sc_Lattice_init.nd (di_enum (by rfl) T.z_enumerate (da_cons (d_var (pv 10)) da_nil)) (blkOk_by (N := ["self", "world", "at", "group", "renaming", "place", "lot", "number", "other", "held", "row"]) (sc := (relS _ (defScope s_Lattice_init))) (by decide +kernel)) (fun _ _ _ _ _ => (dg_tup rfl (dgs_cons (dgk (dg_name (pg_name (i := 2) sc_Lattice_init.nd rfl (by first | exact .inl rfl | exact .inr rfl)))) (dgs_cons (dgk (dg_name (pg_name (i := 9) sc_Lattice_init.nd rfl (by first | exact .inl rfl | exact .inr rfl)))) dgs_nil)))) (fun _ _ _ _ _ => (dts_one (dt_tru (d_var (pv 9))))) (fun _ _ _ _ _ => (d_var (pv 2))))) da_nil)) (CaS.seq cs_tuple ct_tuple))))) rfl)))))))))))
theorem okw__law_size {P : Program} {w : World} {K : PySem.W.Frag} {mg : Str → Option Value} {base : Heap} {cl : Cl} {f cd tb : Nat → Addr} {fd : Nat → FuncData} (T : Txt K mg cl f fd cd tb) (TB : Tbs base mg cd tb) : FnOk P w K mg base CX0 2 (f 40) (fd 40) ["_law_pool_here"] (spN K cl w__law_size) := by
  refine T.F40.ok sc__law_size spN_len (fun cdv A outer s H vs Q E hr h => ⟨tWS K cl noW _, ?_, wfun_of (k := 1) (n := 0) rfl h⟩)
  exact (wss_cons (ws_if (wt_cmp (pt_cmpR (op_or (op_eqD hr.units) op_eq) (w_call (pe_call (okw__law_take T TB) (hr.mono (by decide)) (by rfl) T.g__law_take (T.kp35) T.b35 .nil pass0 (ws_lift (da_cons (d_var (pv 0)) (da_cons d_int da_nil))))) (w_lift d_int) (nomark _)) dd_eq) (wss_one (ws_ret (w_bin (pe_ix ix_seq (w_lift (d_lst (da_cons d_int (da_cons d_int (da_cons d_int (da_cons d_int da_nil)))))) (w_call (pe_call (okw__law_take T TB) (hr.mono (by decide)) (by rfl) T.g__law_take (T.kp35) T.b35 .nil pass0 (ws_lift (da_cons (d_var (pv 0)) (da_cons d_int da_nil))))) (fun _ _ => rfl)) dd_ix))) wss_nil)
    (wss_one (ws_ret (w_bin (pe_op (op_or op_add (op_or op_cat op_catA)) (w_lift d_int) (w_call (pe_call (okw__law_take T TB) (hr.mono (by decide)) (by rfl) T.g__law_take (T.kp35) T.b35 .nil pass0 (ws_lift (da_cons (d_var (pv 0)) (da_cons d_int da_nil)))))) dd_add))))
theorem okw__law_lot {P : Program} {w : World} {K : PySem.W.Frag} {mg : Str → Option Value} {base : Heap} {cl : Cl} {f cd tb : Nat → Addr} {fd : Nat → FuncData} (T : Txt K mg cl f fd cd tb) (TB : Tbs base mg cd tb) : FnOk P w K mg base CX0 2 (f 43) (fd 43) ["_law_pool_here"] (spN K cl w__law_lot) := by
  refine T.F43.ok sc__law_lot spN_len (fun cdv A outer s H vs Q E hr h => ⟨tWS K cl noW _, ?_, wfun_of (k := 1) (n := 4) rfl h⟩)
  exact (wss_cons (by first | exact ws_setLc (ps_setLc (i := 1) (own := [("_law_turn", 3)]) rfl sc__law_lot.nd rfl rfl (sw_true rfl rfl rfl (by decide +kernel)) (wi_rng1 (by rfl) T.z_range (wa_cons (w_call (pe_call (okw__law_take T TB) (hr.mono (by decide)) (by rfl) T.g__law_take (T.kp35) T.b35 .nil pass0 (ws_lift (da_cons (d_var (pv 0)) (da_cons d_int da_nil))))) wa_nil)) (blkOk_by (N := ["_law_pool_here", "_law_chosen", "_law_lot_here", "_law_turn", "_law_size_here"]) (sc := (defScope s__law_lot)) (by decide +kernel)) (fun _ _ _ _ _ => (dgk (dg_name (pg_name (i := 3) sc__law_lot.nd rfl (by first | exact .inl rfl | exact .inr rfl))))) (fun _ _ _ _ _ => wts_nil) (fun _ _ _ _ _ => (w_bin (pe_op (op_or op_add (op_or op_cat op_catA)) (w_lift d_int) (w_call (pe_call (okw__law_take T TB) (hr.mono (by decide)) (by rfl) T.g__law_take (T.kp35) T.b35 .nil pass0 (ws_lift (da_cons (d_var (pv 0)) (da_cons d_int da_nil)))))) dd_add))) | exact ws_set (ps_set (i := 1) sc__law_lot.nd rfl (by first | exact .inl rfl | exact .inr rfl) (w_new (wn_lc (own := [("_law_turn", 3)]) (pe_lc (own := [("_law_turn", 3)]) rfl sc__law_lot.nd (wi_rng1 (by rfl) T.z_range (wa_cons (w_call (pe_call (okw__law_take T TB) (hr.mono (by decide)) (by rfl) T.g__law_take (T.kp35) T.b35 .nil pass0 (ws_lift (da_cons (d_var (pv 0)) (da_cons d_int da_nil))))) wa_nil)) (blkOk_by (N := ["_law_pool_here", "_law_chosen", "_law_lot_here", "_law_turn", "_law_size_here"]) (sc := (defScope s__law_lot)) (by decide +kernel)) (fun _ _ _ _ _ => (dgk (dg_name (pg_name (i := 3) sc__law_lot.nd rfl (by first | exact .inl rfl | exact .inr rfl))))) (fun _ _ _ _ _ => wts_nil) (fun _ _ _ _ _ => (w_bin (pe_op (op_or op_add (op_or op_cat op_catA)) (w_lift d_int) (w_call (pe_call (okw__law_take T TB) (hr.mono (by decide)) (by rfl) T.g__law_take (T.kp35) T.b35 .nil pass0 (ws_lift (da_cons (d_var (pv 0)) (da_cons d_int da_nil)))))) dd_add)))))))
    (wss_cons (ws_s (to_k (kSet_eq _ _) (by first | exact s_setLc (ps_setLc (i := 2) (own := [("_law_size_here", 4)]) rfl sc__law_lot.nd rfl rfl (sw_true rfl rfl rfl (by decide +kernel)) (di_rng2 (by rfl) T.z_range (da_cons d_int (da_cons d_int da_nil))) (blkOk_by (N := ["_law_pool_here", "_law_chosen", "_law_lot_here", "_law_turn", "_law_size_here"]) (sc := (defScope s__law_lot)) (by decide +kernel)) (fun _ _ _ _ _ => (dgk (dg_name (pg_name (i := 4) sc__law_lot.nd rfl (by first | exact .inl rfl | exact .inr rfl))))) (fun _ _ _ _ _ => (dts_one (dt_cmp (pt_cmpR (op_or op_in_seq (op_inD (un65 hr))) (d_var (pv 4)) (d_var (pv 1)) (by rfl)) dd_in))) (fun _ _ _ _ _ => (d_var (pv 4)))) | exact s_set (ps_set (i := 2) sc__law_lot.nd rfl (by first | exact .inl rfl | exact .inr rfl) (d_lc (pe_lc (own := [("_law_size_here", 4)]) rfl sc__law_lot.nd (di_rng2 (by rfl) T.z_range (da_cons d_int (da_cons d_int da_nil))) (blkOk_by (N := ["_law_pool_here", "_law_chosen", "_law_lot_here", "_law_turn", "_law_size_here"]) (sc := (defScope s__law_lot)) (by decide +kernel)) (fun _ _ _ _ _ => (dgk (dg_name (pg_name (i := 4) sc__law_lot.nd rfl (by first | exact .inl rfl | exact .inr rfl))))) (fun _ _ _ _ _ => (dts_one (dt_cmp (pt_cmpR (op_or op_in_seq (op_inD (un65 hr))) (d_var (pv 4)) (d_var (pv 1)) (by rfl)) dd_in))) (fun _ _ _ _ _ => (d_var (pv 4)))))))))
    (wss_cons (ws_if (wt_cmp (pt_cmpR (op_or (op_eqD hr.units) op_eq) (w_call (pe_call (okw__law_take T TB) (hr.mono (by decide)) (by rfl) T.g__law_take (T.kp35) T.b35 .nil pass0 (ws_lift (da_cons (d_var (pv 0)) (da_cons d_int da_nil))))) (w_lift d_int) (nomark _)) dd_eq) (wss_one (ws_s (to_k (kRet_eq _) (s_ret (d_ds (pe_callTy call_tuple_of (by rfl) T.z_tuple PyProof.Rows.boot_tuple (da_cons (d_var (pv 2)) da_nil)) (CaS.seq cs_tuple ct_tuple)))))) wss_nil)
    (wss_one (ws_s (to_k (kRet_eq _) (s_ret (d_var (pv 2)))))))))
theorem ok_World__allows {P : Program} {w : World} {K : PySem.W.Frag} {mg : Str → Option Value} {base : Heap} {cl : Cl} {f cd tb : Nat → Addr} {fd : Nat → FuncData} (T : Txt K mg cl f fd cd tb) (TB : Tbs base mg cd tb) : FnOk P w K mg base CX0 1 (f 10) (fd 10) ["self", "sizes"] (spD K cl m_World__allows) := by
  refine T.F10.ok sc_World__allows kspD_len (fun cdv A outer s H vs Q E hr h => ⟨tS K cl _, ?_, kfun_of (k := 2) (n := 2) rfl h⟩)
  exact (ss_cons (s_if (dt_cmp (pt_cmpR (op_or op_notIn_seq (op_notInD (un65 hr))) (d_ds (pe_callB call_len_seq (by rfl) T.z_len PySem.boot_len (da_cons (d_var (pv 1)) da_nil)) (CaS.seq cs_len ct_len)) (d_tup (da_cons d_int (da_cons d_int da_nil))) (by rfl)) dd_notIn) (ss_one (to_k (kRet_eq _) (s_ret d_bl))) ss_nil)
    (ss_cons (to_k (kSet_eq _ _) (s_set (ps_set (i := 2) sc_World__allows.nd rfl (by first | exact .inl rfl | exact .inr rfl) d_int)))
    (ss_cons (s_for PassesOwn.never rfl (di_seq (d_var (pv 1))) (dgk (dg_name (pg_name (i := 3) sc_World__allows.nd rfl (by first | exact .inl rfl | exact .inr rfl)))) (ss_cons (s_if (PW.pt (dw_or (dt_cmp (pt_cmpR op_lt (d_var (pv 3)) d_int (nomark _)) dd_cmp) (dw_or1 (dt_cmp (pt_cmpR op_gt (d_var (pv 3)) (d_con (d_var (pv 0)) T.cl_World T.k_World_LARGEST) (nomark _)) dd_cmp)))) (ss_one (to_k (kRet_eq _) (s_ret d_bl))) ss_nil)
    (ss_one (to_k (kSet_eq _ _) (s_set (ps_set (i := 2) sc_World__allows.nd rfl (by first | exact .inl rfl | exact .inr rfl) (d_bin (pe_op op_mul (d_var (pv 2)) (d_ds (pe_callBfun cr_fac (by rfl) T.q_factorial (da_cons (d_var (pv 3)) da_nil)) ca_fac)) dd_mul)))))))
    (ss_one (to_k (kRet_eq _) (s_ret (d_bin (pe_cmpR op_le (d_var (pv 2)) (d_con (d_var (pv 0)) T.cl_World T.k_World_MOST) (nomark _)) dd_cmp)))))))
theorem rec_orders_of {P : Program} {w : World} {K : PySem.W.Frag} {mg : Str → Option Value} {base : Heap} {cl : Cl} {f cd tb : Nat → Addr} {fd : Nat → FuncData} (T : Txt K mg cl f fd cd tb) (TB : Tbs base mg cd tb) : ∀ i : Nat, FnOk P w K mg base CX0 (i + 1) (f 1) (fd 1) ["members"] (spD K cl (m_orders_of_n i))
  | 0 => fn_never
  | i + 1 => by
    have ih := rec_orders_of (w := w) (P := P) T TB i
    rw [show i + 1 + 1 = (i + 1) + 1 by omega]
    refine T.F1.ok sc_orders_of kspD_len (fun cdv A outer s H vs Q E hr h => ⟨tS K cl _, ?_, kfun_of (k := 1) (n := 4) rfl h⟩)
    have hr0 := hr
    exact (ss_cons (to_k (kSet_eq _ _) (s_set (ps_set (i := 1) sc_orders_of.nd rfl (by first | exact .inl rfl | exact .inr rfl) (d_ds (pe_callTy call_list_of (by rfl) T.z_list PyProof.Rows.boot_list (da_cons (d_var (pv 0)) da_nil)) (CaS.seq cs_list ct_list)))))
    (ss_cons (s_if (dt_not (dt_tru (d_var (pv 1)))) (ss_one (to_k (kRet_eq _) (s_ret (d_lst (da_cons (d_tup da_nil) da_nil))))) ss_nil)
    (ss_one (to_k (kRet_eq _) (s_ret (d_lc2 (own := [("at", 2), ("item", 3), ("row", 4)]) (pe_lc2 (own := [("at", 2), ("item", 3), ("row", 4)]) (vs1 := [4]) rfl sc_orders_of.nd (di_enum (by rfl) T.z_enumerate (da_cons (d_var (pv 1)) da_nil)) (blkOk_by (N := ["members", "items", "at", "item", "row"]) (sc := (defScope s_orders_of)) (by decide +kernel)) (by decide) (fun _ _ _ _ _ => (dg_tup rfl (dgs_cons (dgk (dg_name (pg_name (i := 2) sc_orders_of.nd rfl (by first | exact .inl rfl | exact .inr rfl)))) (dgs_cons (dgk (dg_name (pg_name (i := 3) sc_orders_of.nd rfl (by first | exact .inl rfl | exact .inr rfl)))) dgs_nil)))) (fun _ _ _ _ _ => dts_nil) (fun _ _ _ _ _ => (di_seq (d_call (pe_call (ih) ((hr)) (by rfl) T.g_orders_of (T.kp1) T.b1 .nil pass0 (da_cons (d_bin (pe_op (op_or op_add (op_or op_cat op_catA)) (d_sl (d_var (pv 1)) dpo_none (dpo_some (d_var (pv 2)))) (d_sl (d_var (pv 1)) (dpo_some (d_bin (pe_op (op_or op_add (op_or op_cat op_catA)) (d_var (pv 2)) d_int) dd_add)) dpo_none)) dd_add) da_nil))))) (fun _ _ _ _ _ => (dgk (dg_name (pg_name (i := 4) sc_orders_of.nd rfl (by first | exact .inl rfl | exact .inr rfl))))) (fun _ _ _ _ _ => dts_nil) (fun _ _ _ _ _ => (d_bin (pe_op (op_or op_add (op_or op_cat op_catA)) (d_tup (da_cons (d_var (pv 3)) da_nil)) (d_var (pv 4))) dd_add)))))))))
theorem ok_orders_of {P : Program} {w : World} {K : PySem.W.Frag} {mg : Str → Option Value} {base : Heap} {cl : Cl} {f cd tb : Nat → Addr} {fd : Nat → FuncData} (T : Txt K mg cl f fd cd tb) (TB : Tbs base mg cd tb) : FnOk P w K mg base CX0 15 (f 1) (fd 1) ["members"] (spD K cl m_orders_of) := by
  have h := rec_orders_of (w := w) (P := P) T TB 14
  exact h
theorem ok_renamings_of {P : Program} {w : World} {K : PySem.W.Frag} {mg : Str → Option Value} {base : Heap} {cl : Cl} {f cd tb : Nat → Addr} {fd : Nat → FuncData} (T : Txt K mg cl f fd cd tb) (TB : Tbs base mg cd tb) : FnOk P w K mg base CX0 16 (f 7) (fd 7) ["sizes"] (spD K cl m_renamings_of) := by
  refine T.F7.ok sc_renamings_of kspD_len (fun cdv A outer s H vs Q E hr h => ⟨tS K cl _, ?_, kfun_of (k := 1) (n := 6) rfl h⟩)
  exact (ss_cons (to_k (kSet_eq _ _) (s_set (ps_set (i := 1) sc_renamings_of.nd rfl (by first | exact .inl rfl | exact .inr rfl) (d_lst (da_cons (d_tup da_nil) da_nil)))))
    (ss_cons (to_k (kSet_eq _ _) (s_set (ps_set (i := 2) sc_renamings_of.nd rfl (by first | exact .inl rfl | exact .inr rfl) d_int)))
    (ss_cons (s_for PassesOwn.never rfl (di_seq (d_var (pv 0))) (dgk (dg_name (pg_name (i := 3) sc_renamings_of.nd rfl (by first | exact .inl rfl | exact .inr rfl)))) (ss_cons (to_k (kSet_eq _ _) (s_set (ps_set (i := 4) sc_renamings_of.nd rfl (by first | exact .inl rfl | exact .inr rfl) (d_call (pe_call (ok_orders_of T TB) (hr.mono (by decide)) (by rfl) T.g_orders_of (T.kp1) T.b1 .nil pass0 (da_cons (d_lrg2 rfl (by rfl) T.z_list (by rfl) T.z_range (d_var (pv 2)) (d_bin (pe_op (op_or op_add (op_or op_cat op_catA)) (d_var (pv 2)) (d_var (pv 3))) dd_add)) da_nil))))))
    (ss_cons (to_k (kSet_eq _ _) (s_setLc2 (ps_setLc2 (i := 1) (own := [("left", 5), ("right", 6)]) (vs1 := [6]) rfl sc_renamings_of.nd rfl rfl (sw_true rfl rfl rfl (by decide +kernel)) (di_seq (d_var (pv 1))) (blkOk_by (N := ["sizes", "found", "start", "size", "rows", "left", "right"]) (sc := (defScope s_renamings_of)) (by decide +kernel)) (by decide) (fun _ _ _ _ _ => (dgk (dg_name (pg_name (i := 5) sc_renamings_of.nd rfl (by first | exact .inl rfl | exact .inr rfl))))) (fun _ _ _ _ _ => dts_nil) (fun _ _ _ _ _ => (di_seq (d_var (pv 4)))) (fun _ _ _ _ _ => (dgk (dg_name (pg_name (i := 6) sc_renamings_of.nd rfl (by first | exact .inl rfl | exact .inr rfl))))) (fun _ _ _ _ _ => dts_nil) (fun _ _ _ _ _ => (d_bin (pe_op (op_or op_add (op_or op_cat op_catA)) (d_var (pv 5)) (d_var (pv 6))) dd_add)))))
    (ss_one (to_k (kSet_eq _ _) (s_set (ps_set (i := 2) sc_renamings_of.nd rfl (by first | exact .inl rfl | exact .inr rfl) (d_bin (pe_op (op_or op_add (op_or op_cat op_catA)) (d_var (pv 2)) (d_var (pv 3))) dd_add))))))))
    (ss_one (to_k (kRet_eq _) (s_ret (d_var (pv 1))))))))
theorem ok_after_another {P : Program} {w : World} {K : PySem.W.Frag} {mg : Str → Option Value} {base : Heap} {cl : Cl} {f cd tb : Nat → Addr} {fd : Nat → FuncData} (T : Txt K mg cl f fd cd tb) (TB : Tbs base mg cd tb) : FnOk P w K mg base CX0 1 (f 8) (fd 8) ["first", "second"] (spD K cl m_after_another) := by
  refine T.F8.ok sc_after_another kspD_len (fun cdv A outer s H vs Q E hr h => ⟨tS K cl _, ?_, kfun_of (k := 2) (n := 1) rfl h⟩)
  exact (ss_one (to_k (kRet_eq _) (s_ret (d_ds (pe_callTy call_tuple_of (by rfl) T.z_tuple PyProof.Rows.boot_tuple (da_cons (d_lc (pe_lc (own := [("thing", 2)]) rfl sc_after_another.nd (di_seq (d_var (pv 0))) (blkOk_by (N := ["first", "second", "thing"]) (sc := (defScope s_after_another)) (by decide +kernel)) (fun _ _ _ _ _ => (dgk (dg_name (pg_name (i := 2) sc_after_another.nd rfl (by first | exact .inl rfl | exact .inr rfl))))) (fun _ _ _ _ _ => dts_nil) (fun _ _ _ _ _ => (d_ix (d_var (pv 1)) (d_var (pv 2)))))) da_nil)) (CaS.seq cs_tuple ct_tuple)))))
theorem ok_World_init {P : Program} {w : World} {K : PySem.W.Frag} {mg : Str → Option Value} {base : Heap} {cl : Cl} {f cd tb : Nat → Addr} {fd : Nat → FuncData} (T : Txt K mg cl f fd cd tb) (TB : Tbs base mg cd tb) : FnOk P w K mg base CX0 17 (f 9) (fd 9) ["self", "sizes"] (spI K cl 0 m_World_init) := by
  refine T.F9.ok sc_World_init kspI_len (fun cdv A outer s H vs Q E hr h => ⟨tS K cl _, ?_, kinit_of (k := 1) (n := 4) rfl h⟩)
  exact (ss_cons (to_k (kFldO_eq _ _ _ _) (s_fldO T.cl_World T.n_World_sizes (ps_fld (pv 0) (d_ds (pe_callTy call_tuple_of (by rfl) T.z_tuple PyProof.Rows.boot_tuple (da_cons (d_var (pv 1)) da_nil)) (CaS.seq cs_tuple ct_tuple)) rfl)))
    (ss_cons (s_if (dt_not (dt_tru (d_methO (pe_meth (pv 0) T.cl_World T.me10 (ok_World__allows T TB) (hr.mono (by decide)) T.b10 .nil pass0 (da_cons (d_fldO (pv 0) T.cl_World T.n_World_sizes) da_nil))))) (ss_one s_never) ss_nil)
    (ss_cons (to_k (kFldO_eq _ _ _ _) (s_fldO T.cl_World T.n_World_things (ps_fld (pv 0) (d_ds (pe_callB (cr_sumA rfl) (by rfl) T.z_sum PyProof.Rows.boot_sum (da_cons (d_fldO (pv 0) T.cl_World T.n_World_sizes) da_nil)) (CaS.seq cs_sumA ct_sumA)) rfl)))
    (ss_cons (to_k (kFldO_eq _ _ _ _) (s_fldO T.cl_World T.n_World_renamings (ps_fld (pv 0) (d_ds (pe_callTy call_tuple_of (by rfl) T.z_tuple PyProof.Rows.boot_tuple (da_cons (d_call (pe_call (ok_renamings_of T TB) (hr.mono (by decide)) (by rfl) T.g_renamings_of (T.kp7) T.b7 .nil pass0 (da_cons (d_fldO (pv 0) T.cl_World T.n_World_sizes) da_nil))) da_nil)) (CaS.seq cs_tuple ct_tuple)) rfl)))
    (ss_cons (to_k (kFldO_eq _ _ _ _) (s_fldO T.cl_World T.n_World_order (ps_fld (pv 0) (d_ds (pe_callB call_len_seq (by rfl) T.z_len PySem.boot_len (da_cons (d_fldO (pv 0) T.cl_World T.n_World_renamings) da_nil)) (CaS.seq cs_len ct_len)) rfl)))
    (ss_cons (to_k (kFldO_eq _ _ _ _) (s_fldO T.cl_World T.n_World__numbers (ps_fld (pv 0) (to_kE (kDcT_eq _ _ _ _ _ _) (d_dcT (own := [("at", 2), ("row", 3)]) (pe_dcP (own := [("at", 2), ("row", 3)]) rfl hr.units0 sc_World_init.nd (di_enum (by rfl) T.z_enumerate (da_cons (d_fldO (pv 0) T.cl_World T.n_World_renamings) da_nil)) (blkOk_by (N := ["self", "sizes", "at", "row", "second", "first"]) (sc := (defScope s_World_init)) (by decide +kernel)) emptyT (fun _ _ _ _ _ => (dg_tup rfl (dgs_cons (dgk (dg_name (pg_name (i := 2) sc_World_init.nd rfl (by first | exact .inl rfl | exact .inr rfl)))) (dgs_cons (dgk (dg_name (pg_name (i := 3) sc_World_init.nd rfl (by first | exact .inl rfl | exact .inr rfl)))) dgs_nil)))) (fun _ _ _ _ _ => dts_nil) (fun _ _ _ _ _ => (d_var (pv 3))) (fun _ _ _ _ _ => (d_var (pv 2)))))) rfl)))
    (ss_cons (to_k (kFldO_eq _ _ _ _) (s_fldO T.cl_World T.n_World__table (ps_fld (pv 0) (d_lc (pe_lc (own := [("first", 5)]) rfl sc_World_init.nd (di_seq (d_fldO (pv 0) T.cl_World T.n_World_renamings)) (blkOk_by (N := ["self", "sizes", "at", "row", "second", "first"]) (sc := (defScope s_World_init)) (by decide +kernel)) (fun _ _ _ _ _ => (dgk (dg_name (pg_name (i := 5) sc_World_init.nd rfl (by first | exact .inl rfl | exact .inr rfl))))) (fun _ _ _ _ _ => dts_nil) (fun _ _ _ _ _ => (d_lc (pe_lc (own := [("second", 4)]) rfl sc_World_init.nd (di_seq (d_fldO (pv 0) T.cl_World T.n_World_renamings)) (blkOk_by (N := ["self", "sizes", "at", "row", "second", "first"]) (sc := (relS _ (defScope s_World_init))) (by decide +kernel)) (fun _ _ _ _ _ => (dgk (dg_name (pg_name (i := 4) sc_World_init.nd rfl (by first | exact .inl rfl | exact .inr rfl))))) (fun _ _ _ _ _ => dts_nil) (fun _ _ _ _ _ => (d_get (un1 hr) (d_fldO (pv 0) T.cl_World T.n_World__numbers) (d_call (pe_call (ok_after_another T TB) (hr.mono (by decide)) (by rfl) T.g_after_another (T.kp8) T.b8 .nil pass0 (da_cons (d_var (pv 5)) (da_cons (d_var (pv 4)) da_nil))))))))))) rfl)))
    (ss_one (to_k (kFldO_eq _ _ _ _) (s_fldO T.cl_World T.n_World__inverses (ps_fld (pv 0) (d_lc (pe_lc (own := [("row", 3)]) rfl sc_World_init.nd (di_seq (d_fldO (pv 0) T.cl_World T.n_World__table)) (blkOk_by (N := ["self", "sizes", "at", "row", "second", "first"]) (sc := (defScope s_World_init)) (by decide +kernel)) (fun _ _ _ _ _ => (dgk (dg_name (pg_name (i := 3) sc_World_init.nd rfl (by first | exact .inl rfl | exact .inr rfl))))) (fun _ _ _ _ _ => dts_nil) (fun _ _ _ _ _ => (d_index (pe_bm PySem.F.plainAttrs_list PySem.F.slot_list_index PySem.F.type_list_index (mt_indexD (un65 hr)) (d_var (pv 3)) (pa_cons d_int pa_nil)))))) rfl)))))))))))
theorem ok__law_sums {P : Program} {w : World} {K : PySem.W.Frag} {mg : Str → Option Value} {base : Heap} {cl : Cl} {f cd tb : Nat → Addr} {fd : Nat → FuncData} (T : Txt K mg cl f fd cd tb) (TB : Tbs base mg cd tb) : FnOk P w K mg base CX0 1 (f 37) (fd 37) ["_law_ratios"] (spD K cl m__law_sums) := by
  refine T.F37.ok sc__law_sums kspD_len (fun cdv A outer s H vs Q E hr h => ⟨tS K cl _, ?_, kfun_of (k := 1) (n := 3) rfl h⟩)
  exact (ss_cons (to_k (kOwn_eq _ _) (s_own (ps_set (i := 1) sc__law_sums.nd rfl (by first | exact .inl rfl | exact .inr rfl) (pe_lst (da_cons d_int da_nil)))))
    (ss_cons (s_for PassesOwn.never rfl (di_rng2 (by rfl) T.z_range (da_cons d_int (da_cons d_int da_nil))) (dgk (dg_name (pg_name (i := 2) sc__law_sums.nd rfl (by first | exact .inl rfl | exact .inr rfl)))) (ss_one (s_if (dt_cmp (pt_cmpR op_gt (d_ds (pe_callB call_len_seq (by rfl) T.z_len PySem.boot_len (da_cons (d_lc (pe_lc (own := [("_law_ratio", 3)]) rfl sc__law_sums.nd (di_seq (d_var (pv 0))) (blkOk_by (N := ["_law_ratios", "_law_sums_here", "_law_total", "_law_ratio"]) (sc := (defScope s__law_sums)) (by decide +kernel)) (fun _ _ _ _ _ => (dgk (dg_name (pg_name (i := 3) sc__law_sums.nd rfl (by first | exact .inl rfl | exact .inr rfl))))) (fun _ _ _ _ _ => (dts_one (dt_inS (d_bin (pe_op op_sub (d_var (pv 2)) (d_var (pv 3))) dd_sub) (d_sqvar (pv 1)) (op_or op_in_seq (op_inD (un65 hr)))))) (fun _ _ _ _ _ => (d_var (pv 3))))) da_nil)) (CaS.seq cs_len ct_len)) d_int (nomark _)) dd_cmp) (ss_one (to_k (kApp_eq _ _) (s_append (ps_expr (pe_bm PySem.F.plainAttrs_list PySem.F.slot_list_append PySem.F.type_list_append mt_append (pv 1) (pa_cons (d_var (pv 2)) pa_nil)))))) ss_nil)))
    (ss_one (to_k (kRet_eq _) (s_ret (d_slS (d_sqvar (pv 1)) (dpo_some d_int) dpo_none))))))
theorem ok__law_reaches {P : Program} {w : World} {K : PySem.W.Frag} {mg : Str → Option Value} {base : Heap} {cl : Cl} {f cd tb : Nat → Addr} {fd : Nat → FuncData} (T : Txt K mg cl f fd cd tb) (TB : Tbs base mg cd tb) : FnOk P w K mg base CX0 2 (f 38) (fd 38) ["_law_groups", "_law_held_here"] (spD K cl m__law_reaches) := by
  refine T.F38.ok sc__law_reaches kspD_len (fun cdv A outer s H vs Q E hr h => ⟨tS K cl _, ?_, kfun_of (k := 2) (n := 6) rfl h⟩)
  exact (ss_cons (to_k (kOwn_eq _ _) (s_own (ps_set (i := 2) sc__law_reaches.nd rfl (by first | exact .inl rfl | exact .inr rfl) (pe_lst da_nil))))
    (ss_cons (s_for PassesOwn.never rfl (di_rng1 (by rfl) T.z_range (da_cons (d_ds (pe_callB call_len_seq (by rfl) T.z_len PySem.boot_len (da_cons (d_var (pv 0)) da_nil)) (CaS.seq cs_len ct_len)) da_nil)) (dgk (dg_name (pg_name (i := 3) sc__law_reaches.nd rfl (by first | exact .inl rfl | exact .inr rfl)))) (ss_one (to_k (kApp_eq _ _) (s_append (ps_expr (pe_bm PySem.F.plainAttrs_list PySem.F.slot_list_append PySem.F.type_list_append mt_append (pv 2) (pa_cons (d_call (pe_call (ok__law_sums T TB) (hr.mono (by decide)) (by rfl) T.g__law_sums (T.kp37) T.b37 .nil pass0 (da_cons (d_lc (pe_lc (own := [("_law_part", 6)]) rfl sc__law_reaches.nd (di_seq (d_ix (d_var (pv 1)) (d_var (pv 3)))) (blkOk_by (N := ["_law_groups", "_law_held_here", "_law_own", "_law_base", "_law_reaches_here", "_law_row", "_law_part", "_law_size_here"]) (sc := (defScope s__law_reaches)) (by decide +kernel)) (fun _ _ _ _ _ => (dgk (dg_name (pg_name (i := 6) sc__law_reaches.nd rfl (by first | exact .inl rfl | exact .inr rfl))))) (fun _ _ _ _ _ => (dts_one (dt_cmp (pt_cmpR (op_or (op_neD hr.units) op_ne) (d_var (pv 6)) (d_var (pv 3)) (nomark _)) dd_ne))) (fun _ _ _ _ _ => (d_bin (pe_op op_fdivN (d_ds (pe_callB call_len_seq (by rfl) T.z_len PySem.boot_len (da_cons (d_ix (d_var (pv 0)) (d_var (pv 3))) da_nil)) (CaS.seq cs_len ct_len)) (d_ds (pe_callB call_len_seq (by rfl) T.z_len PySem.boot_len (da_cons (d_ix (d_var (pv 0)) (d_var (pv 6))) da_nil)) (CaS.seq cs_len ct_len))) dd_fdiv)))) da_nil))) pa_nil)))))))
    (ss_cons (to_k (kOwn_eq _ _) (s_own (ps_set (i := 4) sc__law_reaches.nd rfl (by first | exact .inl rfl | exact .inr rfl) (pe_lst da_nil))))
    (ss_cons (s_for PassesOwn.never rfl (di_seq (d_var (pv 1))) (dgk (dg_name (pg_name (i := 5) sc__law_reaches.nd rfl (by first | exact .inl rfl | exact .inr rfl)))) (ss_one (to_k (kApp_eq _ _) (s_append (ps_expr (pe_bm PySem.F.plainAttrs_list PySem.F.slot_list_append PySem.F.type_list_append mt_append (pv 4) (pa_cons (d_lc (pe_lc (own := [("_law_size_here", 7)]) rfl sc__law_reaches.nd (di_rng2 (by rfl) T.z_range (da_cons d_int (da_cons d_int da_nil))) (blkOk_by (N := ["_law_groups", "_law_held_here", "_law_own", "_law_base", "_law_reaches_here", "_law_row", "_law_part", "_law_size_here"]) (sc := (defScope s__law_reaches)) (by decide +kernel)) (fun _ _ _ _ _ => (dgk (dg_name (pg_name (i := 7) sc__law_reaches.nd rfl (by first | exact .inl rfl | exact .inr rfl))))) (fun _ _ _ _ _ => (dts_one (dt_cmp (pt_cmpR op_gt (d_ds (pe_callB call_len_seq (by rfl) T.z_len PySem.boot_len (da_cons (d_lc (pe_lc (own := [("_law_base", 3)]) rfl sc__law_reaches.nd (di_seq (d_var (pv 5))) (blkOk_by (N := ["_law_groups", "_law_held_here", "_law_own", "_law_base", "_law_reaches_here", "_law_row", "_law_part", "_law_size_here"]) (sc := (relS _ (defScope s__law_reaches))) (by decide +kernel)) (fun _ _ _ _ _ => (dgk (dg_name (pg_name (i := 3) sc__law_reaches.nd rfl (by first | exact .inl rfl | exact .inr rfl))))) (fun _ _ _ _ _ => (dts_one (dt_cmp (pt_cmpR (op_or op_in_seq (op_inD (un65 hr))) (d_var (pv 7)) (d_ixS (d_sqvar (pv 2)) (d_var (pv 3))) (by rfl)) dd_in))) (fun _ _ _ _ _ => (d_var (pv 3))))) da_nil)) (CaS.seq cs_len ct_len)) d_int (nomark _)) dd_cmp))) (fun _ _ _ _ _ => (d_var (pv 7))))) pa_nil)))))))
    (ss_one (s_retO (pv 4)))))))
theorem ok__law_needless {P : Program} {w : World} {K : PySem.W.Frag} {mg : Str → Option Value} {base : Heap} {cl : Cl} {f cd tb : Nat → Addr} {fd : Nat → FuncData} (T : Txt K mg cl f fd cd tb) (TB : Tbs base mg cd tb) : FnOk P w K mg base CX0 1 (f 41) (fd 41) ["_law_reaches_here", "_law_sizes"] (spD K cl m__law_needless) := by
  refine T.F41.ok sc__law_needless kspD_len (fun cdv A outer s H vs Q E hr h => ⟨tS K cl _, ?_, kfun_of (k := 2) (n := 7) rfl h⟩)
  exact (ss_cons (to_k (kOwn_eq _ _) (s_own (ps_set (i := 2) sc__law_needless.nd rfl (by first | exact .inl rfl | exact .inr rfl) (pe_lst da_nil))))
    (ss_cons (s_for PassesOwn.never rfl (di_rng2 (by rfl) T.z_range (da_cons d_int (da_cons d_int da_nil))) (dgk (dg_name (pg_name (i := 3) sc__law_needless.nd rfl (by first | exact .inl rfl | exact .inr rfl)))) (ss_one (s_if (dt_cmp (pt_cmpR (op_or op_in_seq (op_inD (un65 hr))) (d_var (pv 3)) (d_var (pv 1)) (by rfl)) dd_in) (ss_cons (to_k (kSet_eq _ _) (by first | exact s_setLc (ps_setLc (i := 4) (own := [("_law_other", 7)]) rfl sc__law_needless.nd rfl rfl (sw_true rfl rfl rfl (by decide +kernel)) (di_seq (d_var (pv 1))) (blkOk_by (N := ["_law_reaches_here", "_law_sizes", "_law_found", "_law_size_here", "_law_others", "_law_needing", "_law_lonely", "_law_other", "_law_row"]) (sc := (defScope s__law_needless)) (by decide +kernel)) (fun _ _ _ _ _ => (dgk (dg_name (pg_name (i := 7) sc__law_needless.nd rfl (by first | exact .inl rfl | exact .inr rfl))))) (fun _ _ _ _ _ => (dts_one (dt_cmp (pt_cmpR (op_or (op_neD hr.units) op_ne) (d_var (pv 7)) (d_var (pv 3)) (nomark _)) dd_ne))) (fun _ _ _ _ _ => (d_var (pv 7)))) | exact s_set (ps_set (i := 4) sc__law_needless.nd rfl (by first | exact .inl rfl | exact .inr rfl) (d_lc (pe_lc (own := [("_law_other", 7)]) rfl sc__law_needless.nd (di_seq (d_var (pv 1))) (blkOk_by (N := ["_law_reaches_here", "_law_sizes", "_law_found", "_law_size_here", "_law_others", "_law_needing", "_law_lonely", "_law_other", "_law_row"]) (sc := (defScope s__law_needless)) (by decide +kernel)) (fun _ _ _ _ _ => (dgk (dg_name (pg_name (i := 7) sc__law_needless.nd rfl (by first | exact .inl rfl | exact .inr rfl))))) (fun _ _ _ _ _ => (dts_one (dt_cmp (pt_cmpR (op_or (op_neD hr.units) op_ne) (d_var (pv 7)) (d_var (pv 3)) (nomark _)) dd_ne))) (fun _ _ _ _ _ => (d_var (pv 7))))))))
    (ss_cons (to_k (kSet_eq _ _) (by first | exact s_setLc (ps_setLc (i := 5) (own := [("_law_row", 8)]) rfl sc__law_needless.nd rfl rfl (sw_true rfl rfl rfl (by decide +kernel)) (di_seq (d_var (pv 0))) (blkOk_by (N := ["_law_reaches_here", "_law_sizes", "_law_found", "_law_size_here", "_law_others", "_law_needing", "_law_lonely", "_law_other", "_law_row"]) (sc := (defScope s__law_needless)) (by decide +kernel)) (fun _ _ _ _ _ => (dgk (dg_name (pg_name (i := 8) sc__law_needless.nd rfl (by first | exact .inl rfl | exact .inr rfl))))) (fun _ _ _ _ _ => (dts_one (dt_cmp (pt_cmpR (op_or op_in_seq (op_inD (un65 hr))) (d_var (pv 3)) (d_var (pv 8)) (by rfl)) dd_in))) (fun _ _ _ _ _ => (d_var (pv 8)))) | exact s_set (ps_set (i := 5) sc__law_needless.nd rfl (by first | exact .inl rfl | exact .inr rfl) (d_lc (pe_lc (own := [("_law_row", 8)]) rfl sc__law_needless.nd (di_seq (d_var (pv 0))) (blkOk_by (N := ["_law_reaches_here", "_law_sizes", "_law_found", "_law_size_here", "_law_others", "_law_needing", "_law_lonely", "_law_other", "_law_row"]) (sc := (defScope s__law_needless)) (by decide +kernel)) (fun _ _ _ _ _ => (dgk (dg_name (pg_name (i := 8) sc__law_needless.nd rfl (by first | exact .inl rfl | exact .inr rfl))))) (fun _ _ _ _ _ => (dts_one (dt_cmp (pt_cmpR (op_or op_in_seq (op_inD (un65 hr))) (d_var (pv 3)) (d_var (pv 8)) (by rfl)) dd_in))) (fun _ _ _ _ _ => (d_var (pv 8))))))))
    (ss_cons (to_k (kSet_eq _ _) (by first | exact s_setLc (ps_setLc (i := 6) (own := [("_law_row", 8)]) rfl sc__law_needless.nd rfl rfl (sw_true rfl rfl rfl (by decide +kernel)) (di_seq (d_var (pv 5))) (blkOk_by (N := ["_law_reaches_here", "_law_sizes", "_law_found", "_law_size_here", "_law_others", "_law_needing", "_law_lonely", "_law_other", "_law_row"]) (sc := (defScope s__law_needless)) (by decide +kernel)) (fun _ _ _ _ _ => (dgk (dg_name (pg_name (i := 8) sc__law_needless.nd rfl (by first | exact .inl rfl | exact .inr rfl))))) (fun _ _ _ _ _ => (dts_one (dt_cmp (pt_cmpR (op_or (op_eqD hr.units) op_eq) (d_ds (pe_callB call_len_seq (by rfl) T.z_len PySem.boot_len (da_cons (d_lc (pe_lc (own := [("_law_other", 7)]) rfl sc__law_needless.nd (di_seq (d_var (pv 4))) (blkOk_by (N := ["_law_reaches_here", "_law_sizes", "_law_found", "_law_size_here", "_law_others", "_law_needing", "_law_lonely", "_law_other", "_law_row"]) (sc := (relS _ (defScope s__law_needless))) (by decide +kernel)) (fun _ _ _ _ _ => (dgk (dg_name (pg_name (i := 7) sc__law_needless.nd rfl (by first | exact .inl rfl | exact .inr rfl))))) (fun _ _ _ _ _ => (dts_one (dt_cmp (pt_cmpR (op_or op_in_seq (op_inD (un65 hr))) (d_var (pv 7)) (d_var (pv 8)) (by rfl)) dd_in))) (fun _ _ _ _ _ => (d_var (pv 7))))) da_nil)) (CaS.seq cs_len ct_len)) d_int (nomark _)) dd_eq))) (fun _ _ _ _ _ => (d_var (pv 8)))) | exact s_set (ps_set (i := 6) sc__law_needless.nd rfl (by first | exact .inl rfl | exact .inr rfl) (d_lc (pe_lc (own := [("_law_row", 8)]) rfl sc__law_needless.nd (di_seq (d_var (pv 5))) (blkOk_by (N := ["_law_reaches_here", "_law_sizes", "_law_found", "_law_size_here", "_law_others", "_law_needing", "_law_lonely", "_law_other", "_law_row"]) (sc := (defScope s__law_needless)) (by decide +kernel)) (fun _ _ _ _ _ => (dgk (dg_name (pg_name (i := 8) sc__law_needless.nd rfl (by first | exact .inl rfl | exact .inr rfl))))) (fun _ _ _ _ _ => (dts_one (dt_cmp (pt_cmpR (op_or (op_eqD hr.units) op_eq) (d_ds (pe_callB call_len_seq (by rfl) T.z_len PySem.boot_len (da_cons (d_lc (pe_lc (own := [("_law_other", 7)]) rfl sc__law_needless.nd (di_seq (d_var (pv 4))) (blkOk_by (N := ["_law_reaches_here", "_law_sizes", "_law_found", "_law_size_here", "_law_others", "_law_needing", "_law_lonely", "_law_other", "_law_row"]) (sc := (relS _ (defScope s__law_needless))) (by decide +kernel)) (fun _ _ _ _ _ => (dgk (dg_name (pg_name (i := 7) sc__law_needless.nd rfl (by first | exact .inl rfl | exact .inr rfl))))) (fun _ _ _ _ _ => (dts_one (dt_cmp (pt_cmpR (op_or op_in_seq (op_inD (un65 hr))) (d_var (pv 7)) (d_var (pv 8)) (by rfl)) dd_in))) (fun _ _ _ _ _ => (d_var (pv 7))))) da_nil)) (CaS.seq cs_len ct_len)) d_int (nomark _)) dd_eq))) (fun _ _ _ _ _ => (d_var (pv 8))))))))
    (ss_one (s_if (dt_cmp (pt_cmpR (op_or (op_eqD hr.units) op_eq) (d_ds (pe_callB call_len_seq (by rfl) T.z_len PySem.boot_len (da_cons (d_var (pv 6)) da_nil)) (CaS.seq cs_len ct_len)) d_int (nomark _)) dd_eq) (ss_one (to_k (kApp_eq _ _) (s_append (ps_expr (pe_bm PySem.F.plainAttrs_list PySem.F.slot_list_append PySem.F.type_list_append mt_append (pv 2) (pa_cons (d_var (pv 3)) pa_nil)))))) ss_nil))))) ss_nil)))
    (ss_one (to_k (kRet_eq _) (s_ret (d_s1 (pe_callTy call_tuple_of (by rfl) T.z_tuple PyProof.Rows.boot_tuple (pa_cons (d_sqvar (pv 2)) pa_nil)) cs_tuple))))))
theorem ok_Lattice_held {P : Program} {w : World} {K : PySem.W.Frag} {mg : Str → Option Value} {base : Heap} {cl : Cl} {f cd tb : Nat → Addr} {fd : Nat → FuncData} (T : Txt K mg cl f fd cd tb) (TB : Tbs base mg cd tb) : FnOk P w K mg base CX0 1 (f 28) (fd 28) ["self", "number"] (spD K cl m_Lattice_held) := by
  refine T.F28.ok sc_Lattice_held kspD_len (fun cdv A outer s H vs Q E hr h => ⟨tS K cl _, ?_, kfun_of (k := 2) (n := 0) rfl h⟩)
  exact (ss_one (to_k (kRet_eq _) (s_ret (d_ix (d_fld (d_var (pv 0)) T.cl_Lattice T.n_Lattice__below) (d_var (pv 1))))))
theorem ok_Lattice_ratio {P : Program} {w : World} {K : PySem.W.Frag} {mg : Str → Option Value} {base : Heap} {cl : Cl} {f cd tb : Nat → Addr} {fd : Nat → FuncData} (T : Txt K mg cl f fd cd tb) (TB : Tbs base mg cd tb) : FnOk P w K mg base CX0 1 (f 32) (fd 32) ["self", "number", "other"] (spD K cl m_Lattice_ratio) := by
  refine T.F32.ok sc_Lattice_ratio kspD_len (fun cdv A outer s H vs Q E hr h => ⟨tS K cl _, ?_, kfun_of (k := 3) (n := 0) rfl h⟩)
  exact (ss_one (to_k (kRet_eq _) (s_ret (d_bin (pe_op op_fdivN (d_ds (pe_callB call_len_seq (by rfl) T.z_len PySem.boot_len (da_cons (d_ix (d_fld (d_var (pv 0)) T.cl_Lattice T.n_Lattice_groups) (d_var (pv 1))) da_nil)) (CaS.seq cs_len ct_len)) (d_ds (pe_callB call_len_seq (by rfl) T.z_len PySem.boot_len (da_cons (d_ix (d_fld (d_var (pv 0)) T.cl_Lattice T.n_Lattice_groups) (d_var (pv 2))) da_nil)) (CaS.seq cs_len ct_len))) dd_fdiv))))
theorem ok_own_sizes {P : Program} {w : World} {K : PySem.W.Frag} {mg : Str → Option Value} {base : Heap} {cl : Cl} {f cd tb : Nat → Addr} {fd : Nat → FuncData} (T : Txt K mg cl f fd cd tb) (TB : Tbs base mg cd tb) : FnOk P w K mg base CX0 2 (f 2) (fd 2) ["lattice", "base", "top"] (spD K cl m_own_sizes) := by
  refine T.F2.ok sc_own_sizes kspD_len (fun cdv A outer s H vs Q E hr h => ⟨tS K cl _, ?_, kfun_of (k := 3) (n := 6) rfl h⟩)
  exact (ss_cons (to_k (kSet_eq _ _) (by first | exact s_setLc (ps_setLc (i := 3) (own := [("held", 6)]) rfl sc_own_sizes.nd rfl rfl (sw_true rfl rfl rfl (by decide +kernel)) (di_seq (d_meth (pe_meth (d_var (pv 0)) T.cl_Lattice T.me28 (ok_Lattice_held T TB) (hr.mono (by decide)) T.b28 .nil pass0 (da_cons (d_var (pv 1)) da_nil)))) (blkOk_by (N := ["lattice", "base", "top", "ratios", "reached", "size", "held", "_", "ratio"]) (sc := (defScope s_own_sizes)) (by decide +kernel)) (fun _ _ _ _ _ => (dgk (dg_name (pg_name (i := 6) sc_own_sizes.nd rfl (by first | exact .inl rfl | exact .inr rfl))))) (fun _ _ _ _ _ => (dts_one (dt_cmp (pt_cmpR (op_or (op_neD hr.units) op_ne) (d_var (pv 6)) (d_var (pv 1)) (nomark _)) dd_ne))) (fun _ _ _ _ _ => (d_meth (pe_meth (d_var (pv 0)) T.cl_Lattice T.me32 (ok_Lattice_ratio T TB) (hr.mono (by decide)) T.b32 .nil pass0 (da_cons (d_var (pv 1)) (da_cons (d_var (pv 6)) da_nil)))))) | exact s_set (ps_set (i := 3) sc_own_sizes.nd rfl (by first | exact .inl rfl | exact .inr rfl) (d_lc (pe_lc (own := [("held", 6)]) rfl sc_own_sizes.nd (di_seq (d_meth (pe_meth (d_var (pv 0)) T.cl_Lattice T.me28 (ok_Lattice_held T TB) (hr.mono (by decide)) T.b28 .nil pass0 (da_cons (d_var (pv 1)) da_nil)))) (blkOk_by (N := ["lattice", "base", "top", "ratios", "reached", "size", "held", "_", "ratio"]) (sc := (defScope s_own_sizes)) (by decide +kernel)) (fun _ _ _ _ _ => (dgk (dg_name (pg_name (i := 6) sc_own_sizes.nd rfl (by first | exact .inl rfl | exact .inr rfl))))) (fun _ _ _ _ _ => (dts_one (dt_cmp (pt_cmpR (op_or (op_neD hr.units) op_ne) (d_var (pv 6)) (d_var (pv 1)) (nomark _)) dd_ne))) (fun _ _ _ _ _ => (d_meth (pe_meth (d_var (pv 0)) T.cl_Lattice T.me32 (ok_Lattice_ratio T TB) (hr.mono (by decide)) T.b32 .nil pass0 (da_cons (d_var (pv 1)) (da_cons (d_var (pv 6)) da_nil))))))))))
    (ss_cons (s_ownN (ps_set (i := 4) sc_own_sizes.nd rfl (by first | exact .inl rfl | exact .inr rfl) (n_cat (d_lst (da_cons d_bl da_nil)) (d_lc (pe_lc (own := [("_", 7)]) rfl sc_own_sizes.nd (di_rng1 (by rfl) T.z_range (da_cons (d_var (pv 2)) da_nil)) (blkOk_by (N := ["lattice", "base", "top", "ratios", "reached", "size", "held", "_", "ratio"]) (sc := (defScope s_own_sizes)) (by decide +kernel)) (fun _ _ _ _ _ => (dgk (dg_name (pg_name (i := 7) sc_own_sizes.nd rfl (by first | exact .inl rfl | exact .inr rfl))))) (fun _ _ _ _ _ => dts_nil) (fun _ _ _ _ _ => d_bl))))))
    (ss_cons (s_for PassesOwn.never rfl (di_rng2 (by rfl) T.z_range (da_cons d_int (da_cons (d_bin (pe_op (op_or op_add (op_or op_cat op_catA)) (d_var (pv 2)) d_int) dd_add) da_nil))) (dgk (dg_name (pg_name (i := 5) sc_own_sizes.nd rfl (by first | exact .inl rfl | exact .inr rfl)))) (ss_one (s_putL (ps_asg (d_ds (pe_callB (cr_any rfl) (by rfl) T.z_any PyProof.Rows.boot_any (da_cons (d_lc (pe_lc (own := [("ratio", 8)]) rfl sc_own_sizes.nd (di_seq (d_var (pv 3))) (blkOk_by (N := ["lattice", "base", "top", "ratios", "reached", "size", "held", "_", "ratio"]) (sc := (defScope s_own_sizes)) (by decide +kernel)) (fun _ _ _ _ _ => (dgk (dg_name (pg_name (i := 8) sc_own_sizes.nd rfl (by first | exact .inl rfl | exact .inr rfl))))) (fun _ _ _ _ _ => dts_nil) (fun _ _ _ _ _ => (d_and (d_bin (pe_cmpR op_le (d_var (pv 8)) (d_var (pv 5)) (nomark _)) dd_cmp) (pe_one (d_ixS (d_sqvar (pv 4)) (d_bin (pe_op op_sub (d_var (pv 5)) (d_var (pv 8))) dd_sub))))))) da_nil)) (CaS.lst cs_any)) (pg_sub (pv 4) (d_var (pv 5)) set_list)))))
    (ss_one (to_k (kRet_eq _) (s_ret (d_lc (pe_lc (own := [("size", 5)]) rfl sc_own_sizes.nd (di_rng2 (by rfl) T.z_range (da_cons d_int (da_cons (d_bin (pe_op (op_or op_add (op_or op_cat op_catA)) (d_var (pv 2)) d_int) dd_add) da_nil))) (blkOk_by (N := ["lattice", "base", "top", "ratios", "reached", "size", "held", "_", "ratio"]) (sc := (defScope s_own_sizes)) (by decide +kernel)) (fun _ _ _ _ _ => (dgk (dg_name (pg_name (i := 5) sc_own_sizes.nd rfl (by first | exact .inl rfl | exact .inr rfl))))) (fun _ _ _ _ _ => (dts_one (dt_tru (d_ixS (d_sqvar (pv 4)) (d_var (pv 5)))))) (fun _ _ _ _ _ => (d_var (pv 5)))))))))))
theorem ok_sizes_by_group {P : Program} {w : World} {K : PySem.W.Frag} {mg : Str → Option Value} {base : Heap} {cl : Cl} {f cd tb : Nat → Addr} {fd : Nat → FuncData} (T : Txt K mg cl f fd cd tb) (TB : Tbs base mg cd tb) : FnOk P w K mg base CX0 3 (f 3) (fd 3) ["lattice", "numbers", "top"] (spD K cl m_sizes_by_group) := by
  refine T.F3.ok sc_sizes_by_group kspD_len (fun cdv A outer s H vs Q E hr h => ⟨tS K cl _, ?_, kfun_of (k := 3) (n := 6) rfl h⟩)
  exact (ss_cons (s_ownK (ps_set (i := 3) sc_sizes_by_group.nd rfl (by first | exact .inl rfl | exact .inr rfl) pe_dnewK))
    (ss_cons (s_for PassesOwn.never rfl (di_seq (d_var (pv 1))) (dgk (dg_name (pg_name (i := 4) sc_sizes_by_group.nd rfl (by first | exact .inl rfl | exact .inr rfl)))) (ss_one (s_for PassesOwn.never rfl (di_seq (d_meth (pe_meth (d_var (pv 0)) T.cl_Lattice T.me28 (ok_Lattice_held T TB) (hr.mono (by decide)) T.b28 .nil pass0 (da_cons (d_var (pv 4)) da_nil)))) (dgk (dg_name (pg_name (i := 5) sc_sizes_by_group.nd rfl (by first | exact .inl rfl | exact .inr rfl)))) (ss_one (s_if (dt_inON (pt_cmp (pc_dnotin (un1 hr) (d_var (pv 5)) (pv 3)))) (ss_one (to_k (kPut_eq _ _ _) (s_put (ps_dput (un1 hr) (pv 3) (d_var (pv 5)) (d_call (pe_call (ok_own_sizes T TB) (hr.mono (by decide)) (by rfl) T.g_own_sizes (T.kp2) T.b2 .nil pass0 (da_cons (d_var (pv 0)) (da_cons (d_var (pv 5)) (da_cons (d_var (pv 2)) da_nil))))) rfl)))) ss_nil)))))
    (ss_one (to_k (kRet_eq _) (s_ret (to_kE (kDcK1_eq _ _ _ _ _ _) (d_dcK1 (own := [("group", 8)]) (pe_dcP (own := [("group", 8)]) rfl hr.units0 sc_sizes_by_group.nd (di_seq (d_var (pv 1))) (blkOk_by (N := ["lattice", "numbers", "top", "own", "number", "base", "held", "size", "group"]) (sc := (defScope s_sizes_by_group)) (by decide +kernel)) emptyK (fun _ _ _ _ _ => (dgk (dg_name (pg_name (i := 8) sc_sizes_by_group.nd rfl (by first | exact .inl rfl | exact .inr rfl))))) (fun _ _ _ _ _ => dts_nil) (fun _ _ _ _ _ => (d_var (pv 8))) (fun _ _ _ _ _ => (d_ds (pe_callTy call_tuple_of (by rfl) T.z_tuple PyProof.Rows.boot_tuple (da_cons (d_sortSc (sc2_of (by decide) (by decide)) (pe_callB (cr_sortedSet rfl) (by rfl) T.z_sorted PyProof.Rows.boot_sorted (pa_cons (pe_sc2i (own := [("held", 6), ("size", 7)]) (vs1 := [7]) rfl sc_sizes_by_group.nd (di_seq (d_meth (pe_meth (d_var (pv 0)) T.cl_Lattice T.me28 (ok_Lattice_held T TB) (hr.mono (by decide)) T.b28 .nil pass0 (da_cons (d_var (pv 8)) da_nil)))) (blkOk_by (N := ["lattice", "numbers", "top", "own", "number", "base", "held", "size", "group"]) (sc := (relS _ (defScope s_sizes_by_group))) (by decide +kernel)) (by decide) (fun _ _ _ _ _ => (dgk (dg_name (pg_name (i := 6) sc_sizes_by_group.nd rfl (by first | exact .inl rfl | exact .inr rfl))))) (fun _ _ _ _ _ => dts_nil) (fun _ _ _ _ _ => (di_seq (d_getO (un1 hr) (pv 3) (d_var (pv 6))))) (fun _ _ _ _ _ => (dgk (dg_name (pg_name (i := 7) sc_sizes_by_group.nd rfl (by first | exact .inl rfl | exact .inr rfl))))) (fun _ _ _ _ _ => dts_nil) (fun _ _ _ _ _ => (d_var (pv 7)))) pa_nil))) da_nil)) (CaS.seq cs_tuple ct_tuple)))))))))))
theorem ok_is_needless {P : Program} {w : World} {K : PySem.W.Frag} {mg : Str → Option Value} {base : Heap} {cl : Cl} {f cd tb : Nat → Addr} {fd : Nat → FuncData} (T : Txt K mg cl f fd cd tb) (TB : Tbs base mg cd tb) : FnOk P w K mg base CX0 1 (f 4) (fd 4) ["size", "sizes", "helping"] (spD K cl m_is_needless) := by
  refine T.F4.ok sc_is_needless kspD_len (fun cdv A outer s H vs Q E hr h => ⟨tS K cl _, ?_, kfun_of (k := 3) (n := 3) rfl h⟩)
  exact (ss_cons (to_k (kSet_eq _ _) (by first | exact s_setLc (ps_setLc (i := 3) (own := [("other", 4)]) rfl sc_is_needless.nd rfl rfl (sw_true rfl rfl rfl (by decide +kernel)) (di_seq (d_var (pv 1))) (blkOk_by (N := ["size", "sizes", "helping", "others", "other", "lot"]) (sc := (defScope s_is_needless)) (by decide +kernel)) (fun _ _ _ _ _ => (dgk (dg_name (pg_name (i := 4) sc_is_needless.nd rfl (by first | exact .inl rfl | exact .inr rfl))))) (fun _ _ _ _ _ => (dts_one (dt_cmp (pt_cmpR (op_or (op_neD hr.units) op_ne) (d_var (pv 4)) (d_var (pv 0)) (nomark _)) dd_ne))) (fun _ _ _ _ _ => (d_var (pv 4)))) | exact s_set (ps_set (i := 3) sc_is_needless.nd rfl (by first | exact .inl rfl | exact .inr rfl) (d_lc (pe_lc (own := [("other", 4)]) rfl sc_is_needless.nd (di_seq (d_var (pv 1))) (blkOk_by (N := ["size", "sizes", "helping", "others", "other", "lot"]) (sc := (defScope s_is_needless)) (by decide +kernel)) (fun _ _ _ _ _ => (dgk (dg_name (pg_name (i := 4) sc_is_needless.nd rfl (by first | exact .inl rfl | exact .inr rfl))))) (fun _ _ _ _ _ => (dts_one (dt_cmp (pt_cmpR (op_or (op_neD hr.units) op_ne) (d_var (pv 4)) (d_var (pv 0)) (nomark _)) dd_ne))) (fun _ _ _ _ _ => (d_var (pv 4))))))))
    (ss_one (to_k (kRet_eq _) (s_ret (d_ds (pe_callB (cr_all rfl) (by rfl) T.z_all PyProof.Rows.boot_all (da_cons (d_lc (pe_lc (own := [("lot", 5)]) rfl sc_is_needless.nd (di_seq (d_var (pv 2))) (blkOk_by (N := ["size", "sizes", "helping", "others", "other", "lot"]) (sc := (defScope s_is_needless)) (by decide +kernel)) (fun _ _ _ _ _ => (dgk (dg_name (pg_name (i := 5) sc_is_needless.nd rfl (by first | exact .inl rfl | exact .inr rfl))))) (fun _ _ _ _ _ => (dts_one (dt_cmp (pt_cmpR (op_or op_in_seq (op_inD (un65 hr))) (d_var (pv 0)) (d_var (pv 5)) (by rfl)) dd_in))) (fun _ _ _ _ _ => (d_ds (pe_callB (cr_any rfl) (by rfl) T.z_any PyProof.Rows.boot_any (da_cons (d_lc (pe_lc (own := [("other", 4)]) rfl sc_is_needless.nd (di_seq (d_var (pv 3))) (blkOk_by (N := ["size", "sizes", "helping", "others", "other", "lot"]) (sc := (relS _ (defScope s_is_needless))) (by decide +kernel)) (fun _ _ _ _ _ => (dgk (dg_name (pg_name (i := 4) sc_is_needless.nd rfl (by first | exact .inl rfl | exact .inr rfl))))) (fun _ _ _ _ _ => dts_nil) (fun _ _ _ _ _ => (d_bin (pe_cmpR (op_or op_in_seq (op_inD (un65 hr))) (d_var (pv 4)) (d_var (pv 5)) (by rfl)) dd_in)))) da_nil)) (CaS.lst cs_any))))) da_nil)) (CaS.lst cs_all))))))
theorem ok_needless_sizes {P : Program} {w : World} {K : PySem.W.Frag} {mg : Str → Option Value} {base : Heap} {cl : Cl} {f cd tb : Nat → Addr} {fd : Nat → FuncData} (T : Txt K mg cl f fd cd tb) (TB : Tbs base mg cd tb) : FnOk P w K mg base CX0 4 (f 5) (fd 5) ["lattice", "sizes"] (spD K cl m_needless_sizes) := by
  refine T.F5.ok sc_needless_sizes kspD_len (fun cdv A outer s H vs Q E hr h => ⟨tS K cl _, ?_, kfun_of (k := 2) (n := 5) rfl h⟩)
  exact (ss_cons (to_k (kSet_eq _ _) (s_set (ps_set (i := 2) sc_needless_sizes.nd rfl (by first | exact .inl rfl | exact .inr rfl) (d_lrg1 rfl (by rfl) T.z_list (by rfl) T.z_range (d_ds (pe_callB call_len_seq (by rfl) T.z_len PySem.boot_len (da_cons (d_fld (d_var (pv 0)) T.cl_Lattice T.n_Lattice_groups) da_nil)) (CaS.seq cs_len ct_len))))))
    (ss_cons (to_k (kSet_eq _ _) (s_set (ps_set (i := 3) sc_needless_sizes.nd rfl (by first | exact .inl rfl | exact .inr rfl) (d_call (pe_call (ok_sizes_by_group T TB) (hr.mono (by decide)) (by rfl) T.g_sizes_by_group (T.kp3) T.b3 .nil pass0 (da_cons (d_var (pv 0)) (da_cons (d_var (pv 2)) (da_cons (d_maxD (pe_callBK (cr_maxD rfl (un1 hr)) (by rfl) T.z_max (by decide +kernel) (pa_cons (d_var (pv 1)) pa_nil) (pk_cons pe_int pk_nil))) da_nil))))))))
    (ss_cons (to_k (kSet_eq _ _) (by first | exact s_setLc (ps_setLc (i := 4) (own := [("number", 5)]) rfl sc_needless_sizes.nd rfl rfl (sw_true rfl rfl rfl (by decide +kernel)) (di_seq (d_var (pv 2))) (blkOk_by (N := ["lattice", "sizes", "numbers", "found", "helping", "number", "size"]) (sc := (defScope s_needless_sizes)) (by decide +kernel)) (fun _ _ _ _ _ => (dgk (dg_name (pg_name (i := 5) sc_needless_sizes.nd rfl (by first | exact .inl rfl | exact .inr rfl))))) (fun _ _ _ _ _ => dts_nil) (fun _ _ _ _ _ => (d_get (un1 hr) (d_var (pv 3)) (d_var (pv 5))))) | exact s_set (ps_set (i := 4) sc_needless_sizes.nd rfl (by first | exact .inl rfl | exact .inr rfl) (d_lc (pe_lc (own := [("number", 5)]) rfl sc_needless_sizes.nd (di_seq (d_var (pv 2))) (blkOk_by (N := ["lattice", "sizes", "numbers", "found", "helping", "number", "size"]) (sc := (defScope s_needless_sizes)) (by decide +kernel)) (fun _ _ _ _ _ => (dgk (dg_name (pg_name (i := 5) sc_needless_sizes.nd rfl (by first | exact .inl rfl | exact .inr rfl))))) (fun _ _ _ _ _ => dts_nil) (fun _ _ _ _ _ => (d_get (un1 hr) (d_var (pv 3)) (d_var (pv 5)))))))))
    (ss_one (to_k (kRet_eq _) (s_ret (d_ds (pe_callTy call_tuple_of (by rfl) T.z_tuple PyProof.Rows.boot_tuple (da_cons (d_lc (pe_lc (own := [("size", 6)]) rfl sc_needless_sizes.nd (di_seq (d_sortsetA (pe_callB (cr_sortedSet rfl) (by rfl) T.z_sorted PyProof.Rows.boot_sorted (pa_cons (pe_callTy (cr_setA rfl) (by rfl) T.z_set Dl.boot_set (da_cons (d_var (pv 1)) da_nil)) pa_nil)))) (blkOk_by (N := ["lattice", "sizes", "numbers", "found", "helping", "number", "size"]) (sc := (defScope s_needless_sizes)) (by decide +kernel)) (fun _ _ _ _ _ => (dgk (dg_name (pg_name (i := 6) sc_needless_sizes.nd rfl (by first | exact .inl rfl | exact .inr rfl))))) (fun _ _ _ _ _ => (dts_one (dt_tru (d_call (pe_call (ok_is_needless T TB) (hr.mono (by decide)) (by rfl) T.g_is_needless (T.kp4) T.b4 .nil pass0 (da_cons (d_var (pv 6)) (da_cons (d_var (pv 1)) (da_cons (d_var (pv 4)) da_nil)))))))) (fun _ _ _ _ _ => (d_var (pv 6))))) da_nil)) (CaS.seq cs_tuple ct_tuple))))))))
theorem ok__law_needless_fits {P : Program} {w : World} {K : PySem.W.Frag} {mg : Str → Option Value} {base : Heap} {cl : Cl} {f cd tb : Nat → Addr} {fd : Nat → FuncData} (T : Txt K mg cl f fd cd tb) (TB : Tbs base mg cd tb) : FnOkG P w K mg base CX0 5 (f 42) (fd 42) ["_law_lattice", "_law_reaches_here", "_law_sizes"] (spD K cl m__law_needless_fits) := by
  refine T.F42.okG0 sc__law_needless_fits kspD_len (fun cdv A outer s H vs Q E hG hr h => ⟨tS K cl _, ?_, kfun_of (k := 3) (n := 2) rfl h⟩)
  exact (ss_cons (to_k (kSet_eq _ _) (s_set (ps_set (i := 3) sc__law_needless_fits.nd rfl (by first | exact .inl rfl | exact .inr rfl) (d_ds (pe_callB (cr_reprA hG hr.units) (by rfl) T.z_repr (by decide +kernel) (da_cons (d_var (pv 2)) da_nil)) ca_repr))))
    (ss_cons (to_k (kSet_eq _ _) (s_set (ps_set (i := 4) sc__law_needless_fits.nd rfl (by first | exact .inl rfl | exact .inr rfl) (d_ds (pe_callB (cr_reprA hG hr.units) (by rfl) T.z_repr (by decide +kernel) (da_cons (d_call (pe_call (ok__law_needless T TB) (hr.mono (by decide)) (by rfl) T.g__law_needless (T.kp41) T.b41 .nil pass0 (da_cons (d_var (pv 1)) (da_cons (d_var (pv 2)) da_nil)))) da_nil)) ca_repr))))
    (ss_cons (s_if (PW.pt (dw_or (dt_cmp (pt_cmpR (op_or (op_neD hr.units) op_ne) (d_ds (pe_callB (cr_reprA hG hr.units) (by rfl) T.z_repr (by decide +kernel) (da_cons (d_call (pe_call (ok_needless_sizes T TB) (hr.mono (by decide)) (by rfl) T.g_needless_sizes (T.kp5) T.b5 .nil pass0 (da_cons (d_var (pv 0)) (da_cons (d_var (pv 2)) da_nil)))) da_nil)) ca_repr) (d_var (pv 4)) (nomark _)) dd_ne) (dw_or1 (dt_cmp (pt_cmpR (op_or (op_neD hr.units) op_ne) (d_ds (pe_callB (cr_reprA hG hr.units) (by rfl) T.z_repr (by decide +kernel) (da_cons (d_call (pe_call (ok_needless_sizes T TB) (hr.mono (by decide)) (by rfl) T.g_needless_sizes (T.kp5) T.b5 .nil pass0 (da_cons (d_var (pv 0)) (da_cons (d_ds (pe_callTy call_tuple_of (by rfl) T.z_tuple PyProof.Rows.boot_tuple (da_cons (d_var (pv 2)) da_nil)) (CaS.seq cs_tuple ct_tuple)) da_nil)))) da_nil)) ca_repr) (d_var (pv 4)) (nomark _)) dd_ne)))) (ss_one (to_k (kRet_eq _) (s_ret d_bl))) ss_nil)
    (ss_one (to_k (kRet_eq _) (s_ret (d_bin (pe_cmpR (op_or (op_eqD hr.units) op_eq) (d_ds (pe_callB (cr_reprA hG hr.units) (by rfl) T.z_repr (by decide +kernel) (da_cons (d_var (pv 2)) da_nil)) ca_repr) (d_var (pv 3)) (nomark _)) dd_eq)))))))
theorem okw__law_world {P : Program} {w : World} {K : PySem.W.Frag} {mg : Str → Option Value} {base : Heap} {cl : Cl} {f cd tb : Nat → Addr} {fd : Nat → FuncData} (T : Txt K mg cl f fd cd tb) (TB : Tbs base mg cd tb) : FnOk P w K mg base CX0 2 (f 39) (fd 39) ["_law_pool_here"] (spN K cl w__law_world) := by
  refine T.F39.ok sc__law_world spN_len (fun cdv A outer s H vs Q E hr h => ⟨tWS K cl noW _, ?_, wfun_of (k := 1) (n := 1) rfl h⟩)
  exact (wss_cons (ws_s (to_k (kSet_eq _ _) (s_set (ps_set (i := 1) sc__law_world.nd rfl (by first | exact .inl rfl | exact .inr rfl) (d_lst (da_cons (d_tup (da_cons d_int da_nil)) (da_cons (d_tup (da_cons d_int (da_cons d_int da_nil))) (da_cons (d_tup (da_cons d_int da_nil)) (da_cons (d_tup (da_cons d_int (da_cons d_int da_nil))) (da_cons (d_tup (da_cons d_int (da_cons d_int da_nil))) (da_cons (d_tup (da_cons d_int da_nil)) (da_cons (d_tup (da_cons d_int (da_cons d_int da_nil))) (da_cons (d_tup (da_cons d_int da_nil)) (da_cons (d_tup (da_cons d_int da_nil)) (da_cons (d_tup (da_cons d_int (da_cons d_int da_nil))) (da_cons (d_tup (da_cons d_int (da_cons d_int da_nil))) (da_cons (d_tup (da_cons d_int (da_cons d_int da_nil))) (da_cons (d_tup (da_cons d_int da_nil)) (da_cons (d_tup (da_cons d_int da_nil)) (da_cons (d_tup (da_cons d_int (da_cons d_int da_nil))) (da_cons (d_tup (da_cons d_int da_nil)) da_nil)))))))))))))))))))))
    (wss_one (ws_ret (w_bin (pe_ix ix_seq (w_lift (d_var (pv 1))) (w_call (pe_call (okw__law_take T TB) (hr.mono (by decide)) (by rfl) T.g__law_take (T.kp35) T.b35 .nil pass0 (ws_lift (da_cons (d_var (pv 0)) (da_cons d_int da_nil))))) (fun _ _ => rfl)) dd_ix))))
theorem ok__law_held {P : Program} {w : World} {K : PySem.W.Frag} {mg : Str → Option Value} {base : Heap} {cl : Cl} {f cd tb : Nat → Addr} {fd : Nat → FuncData} (T : Txt K mg cl f fd cd tb) (TB : Tbs base mg cd tb) : FnOk P w K mg base CX0 1 (f 36) (fd 36) ["_law_groups"] (spD K cl m__law_held) := by
  refine T.F36.ok sc__law_held kspD_len (fun cdv A outer s H vs Q E hr h => ⟨tS K cl _, ?_, kfun_of (k := 1) (n := 4) rfl h⟩)
  exact (ss_cons (to_k (kOwn_eq _ _) (s_own (ps_set (i := 1) sc__law_held.nd rfl (by first | exact .inl rfl | exact .inr rfl) (pe_lst da_nil))))
    (ss_cons (s_for PassesOwn.never rfl (di_seq (d_var (pv 0))) (dgk (dg_name (pg_name (i := 2) sc__law_held.nd rfl (by first | exact .inl rfl | exact .inr rfl)))) (ss_one (to_k (kApp_eq _ _) (s_append (ps_expr (pe_bm PySem.F.plainAttrs_list PySem.F.slot_list_append PySem.F.type_list_append mt_append (pv 1) (pa_cons (d_lc (pe_lc (own := [("_law_k", 3)]) rfl sc__law_held.nd (di_rng1 (by rfl) T.z_range (da_cons (d_ds (pe_callB call_len_seq (by rfl) T.z_len PySem.boot_len (da_cons (d_var (pv 0)) da_nil)) (CaS.seq cs_len ct_len)) da_nil)) (blkOk_by (N := ["_law_groups", "_law_held_here", "_law_group", "_law_k", "_law_x"]) (sc := (defScope s__law_held)) (by decide +kernel)) (fun _ _ _ _ _ => (dgk (dg_name (pg_name (i := 3) sc__law_held.nd rfl (by first | exact .inl rfl | exact .inr rfl))))) (fun _ _ _ _ _ => (dts_one (dt_cmp (pt_cmpR (op_or (op_eqD hr.units) op_eq) (d_ds (pe_callB call_len_seq (by rfl) T.z_len PySem.boot_len (da_cons (d_lc (pe_lc (own := [("_law_x", 4)]) rfl sc__law_held.nd (di_seq (d_ix (d_var (pv 0)) (d_var (pv 3)))) (blkOk_by (N := ["_law_groups", "_law_held_here", "_law_group", "_law_k", "_law_x"]) (sc := (relS _ (defScope s__law_held))) (by decide +kernel)) (fun _ _ _ _ _ => (dgk (dg_name (pg_name (i := 4) sc__law_held.nd rfl (by first | exact .inl rfl | exact .inr rfl))))) (fun _ _ _ _ _ => (dts_one (dt_cmp (pt_cmpR (op_or op_notIn_seq (op_notInD (un65 hr))) (d_var (pv 4)) (d_var (pv 2)) (by rfl)) dd_notIn))) (fun _ _ _ _ _ => (d_var (pv 4))))) da_nil)) (CaS.seq cs_len ct_len)) d_int (nomark _)) dd_eq))) (fun _ _ _ _ _ => (d_var (pv 3))))) pa_nil)))))))
    (ss_one (s_retO (pv 1)))))
theorem ok_joined_sizes {P : Program} {w : World} {K : PySem.W.Frag} {mg : Str → Option Value} {base : Heap} {cl : Cl} {f cd tb : Nat → Addr} {fd : Nat → FuncData} (T : Txt K mg cl f fd cd tb) (TB : Tbs base mg cd tb) : FnR P w K mg base CX0 1 (f 33) (spD K cl mR_joined_sizes) := by
  obtain ⟨oc, od, kV, doc, pm, an, cdv, ct, osl, e, lk, hcd⟩ := T.F33.ex
  rw [e] at lk
  refine star_imp (StX.fn_star (ps := []) lk hcd sc_joined_sizes cxUp0 (bind_star0 (B := fun as => bindArgs (PySem.W.fnOf _ _ (defArgs s_joined_sizes) (defBody s_joined_sizes) (defScope s_joined_sizes) .none kV doc pm an cdv ct) ⟨as, []⟩) rfl fun _ _ => rfl) (fun A outer s H vs Q E hr h => ?_))
  obtain ⟨t, h1, q⟩ : ∃ t, PSs (cxOf CX0 P w K mg base ["lots", "lot", "size"] "joined_sizes" (defScope s_joined_sizes) (f 33) cdv A outer s H E).nox (defBody s_joined_sizes) t ∧ t { nx := fun _ H' => Q .non H', rt := Q } (L2.start ["lots", "lot", "size"] vs) H :=
    ⟨tS K cl _, (ss_one (to_k (kRet_eq _) (s_ret (d_ds (pe_callTy call_tuple_of (by rfl) T.z_tuple PyProof.Rows.boot_tuple (da_cons (d_sortSc (sc2_of (by decide) (by decide)) (pe_callB (cr_sortedSet rfl) (by rfl) T.z_sorted PyProof.Rows.boot_sorted (pa_cons (pe_sc2i (own := [("lot", 1), ("size", 2)]) (vs1 := [2]) rfl sc_joined_sizes.nd (di_seq (d_var (pv 0))) (blkOk_by (N := ["lots", "lot", "size"]) (sc := (defScope s_joined_sizes)) (by decide +kernel)) (by decide) (fun _ _ _ _ _ => (dgk (dg_name (pg_name (i := 1) sc_joined_sizes.nd rfl (by first | exact .inl rfl | exact .inr rfl))))) (fun _ _ _ _ _ => dts_nil) (fun _ _ _ _ _ => (di_seq (d_var (pv 1)))) (fun _ _ _ _ _ => (dgk (dg_name (pg_name (i := 2) sc_joined_sizes.nd rfl (by first | exact .inl rfl | exact .inr rfl))))) (fun _ _ _ _ _ => dts_nil) (fun _ _ _ _ _ => (d_var (pv 2)))) pa_nil))) da_nil)) (CaS.seq cs_tuple ct_tuple))))), kfun_of (k := 1) (n := 2) rfl h⟩
  exact ⟨t, h1.nox, q⟩
theorem ok__law_joined {P : Program} {w : World} {K : PySem.W.Frag} {mg : Str → Option Value} {base : Heap} {cl : Cl} {f cd tb : Nat → Addr} {fd : Nat → FuncData} (T : Txt K mg cl f fd cd tb) (TB : Tbs base mg cd tb) : FnOk P w K mg base CX0 2 (f 44) (fd 44) ["_law_lots"] (spD K cl m__law_joined) := by
  refine T.F44.ok sc__law_joined kspD_len (fun cdv A outer s H vs Q E hr h => ⟨tS K cl _, ?_, kfun_of (k := 1) (n := 0) rfl h⟩)
  exact (ss_cons (s_if (dt_cmp (pt_cmpR (op_or (op_eqD hr.units) op_eq) (d_ds (pe_callB call_len_seq (by rfl) T.z_len PySem.boot_len (da_cons (d_var (pv 0)) da_nil)) (CaS.seq cs_len ct_len)) d_int (nomark _)) dd_eq) (ss_one (to_k (kRet_eq _) (s_ret (d_call0 (pe_callR0 (ok_joined_sizes T TB) (hr.mono (by decide)) (by rfl) T.g_joined_sizes (T.kp33) pass0))))) ss_nil)
    (ss_cons (s_if (dt_cmp (pt_cmpR (op_or (op_eqD hr.units) op_eq) (d_ds (pe_callB call_len_seq (by rfl) T.z_len PySem.boot_len (da_cons (d_var (pv 0)) da_nil)) (CaS.seq cs_len ct_len)) d_int (nomark _)) dd_eq) (ss_one (to_k (kRet_eq _) (s_ret (d_call (pe_callR (ok_joined_sizes T TB) (hr.mono (by decide)) (by rfl) T.g_joined_sizes (T.kp33) pass0 (da_cons (d_ix (d_var (pv 0)) d_int) da_nil)))))) ss_nil)
    (ss_cons (s_if (dt_cmp (pt_cmpR (op_or (op_eqD hr.units) op_eq) (d_ds (pe_callB call_len_seq (by rfl) T.z_len PySem.boot_len (da_cons (d_var (pv 0)) da_nil)) (CaS.seq cs_len ct_len)) d_int (nomark _)) dd_eq) (ss_one (to_k (kRet_eq _) (s_ret (d_call (pe_callR (ok_joined_sizes T TB) (hr.mono (by decide)) (by rfl) T.g_joined_sizes (T.kp33) pass0 (da_cons (d_ix (d_var (pv 0)) d_int) (da_cons (d_ix (d_var (pv 0)) d_int) da_nil))))))) ss_nil)
    (ss_cons (s_if (dt_cmp (pt_cmpR (op_or (op_eqD hr.units) op_eq) (d_ds (pe_callB call_len_seq (by rfl) T.z_len PySem.boot_len (da_cons (d_var (pv 0)) da_nil)) (CaS.seq cs_len ct_len)) d_int (nomark _)) dd_eq) (ss_one (to_k (kRet_eq _) (s_ret (d_call (pe_callR (ok_joined_sizes T TB) (hr.mono (by decide)) (by rfl) T.g_joined_sizes (T.kp33) pass0 (da_cons (d_ix (d_var (pv 0)) d_int) (da_cons (d_ix (d_var (pv 0)) d_int) (da_cons (d_ix (d_var (pv 0)) d_int) da_nil)))))))) ss_nil)
    (ss_one (to_k (kRet_eq _) (s_ret (d_call (pe_callR (ok_joined_sizes T TB) (hr.mono (by decide)) (by rfl) T.g_joined_sizes (T.kp33) pass0 (da_cons (d_ix (d_var (pv 0)) d_int) (da_cons (d_ix (d_var (pv 0)) d_int) (da_cons (d_ix (d_var (pv 0)) d_int) (da_cons (d_ix (d_var (pv 0)) d_int) da_nil)))))))))))))
theorem law_body {P : Program} {w : World} {K : PySem.W.Frag} {mg : Str → Option Value} {base : Heap} {cl : Cl} {f cd tb : Nat → Addr} {fd : Nat → FuncData} (T : Txt K mg cl f fd cd tb) (TB : Tbs base mg cd tb) {cdv : Value} {A : Around} {outer : List Env} {s : Shared} {H : Hp} {vs : List V} {Q : VK} {E : XK} (hr : Room 19 (A.deeper (envOfC "law" (defScope s_law) s.heap.objs.size (f 45) cdv)))
    (hG : (A.deeper (envOfC "law" (defScope s_law) s.heap.objs.size (f 45) cdv)).guards = some []) (h : spN K cl w_law vs H Q E) :
    ∃ t, PSs (cxOf CX0 P w K mg base ["_law_script", "_law_pool_here", "_law_lattices", "_law_reaches_here", "_law_lattice", "_law_groups", "_law_few", "_law_sizes", "_law_turn", "_law_lots", "_law_kept", "_law_due", "_law_size_here", "_law_lot_here"] "law" (defScope s_law) (f 45) cdv A outer s H E).nox (defBody s_law) t ∧ t { nx := fun _ H' => Q .non H', rt := Q } (L2.start ["_law_script", "_law_pool_here", "_law_lattices", "_law_reaches_here", "_law_lattice", "_law_groups", "_law_few", "_law_sizes", "_law_turn", "_law_lots", "_law_kept", "_law_due", "_law_size_here", "_law_lot_here"] vs) H := by
  refine ⟨tWS K cl noW _, ?_, wfun_of (k := 1) (n := 13) rfl h⟩
  exact (wss_cons (ws_set (ps_set (i := 1) sc_law.nd rfl (by first | exact .inl rfl | exact .inr rfl) (w_call (pe_call (okw__law_pool T TB) (hr.mono (by decide)) (by rfl) T.g__law_pool (T.kp34) T.b34 .nil pass0 (ws_lift (da_cons (d_var (pv 0)) (da_cons d_int da_nil)))))))
    (wss_cons (by first | exact ws_setLc (ps_setLc (i := 2) (own := [("_law_turn", 8)]) rfl sc_law.nd rfl rfl (sw_true rfl rfl rfl (by decide +kernel)) (wi_lift (di_rng1 (by rfl) T.z_range (da_cons d_int da_nil))) (blkOk_by (N := ["_law_script", "_law_pool_here", "_law_lattices", "_law_reaches_here", "_law_lattice", "_law_groups", "_law_few", "_law_sizes", "_law_turn", "_law_lots", "_law_kept", "_law_due", "_law_size_here", "_law_lot_here"]) (sc := (defScope s_law)) (by decide +kernel)) (fun _ _ _ _ _ => (dgk (dg_name (pg_name (i := 8) sc_law.nd rfl (by first | exact .inl rfl | exact .inr rfl))))) (fun _ _ _ _ _ => wts_nil) (fun _ _ _ _ _ => (w_make (pe_make T.mk_Lattice (ok_Lattice_init T TB) (hr.mono (by decide)) (by rfl) T.g_Lattice T.b23 .nil pass0 (wa_cons (w_make (pe_make T.mk_World (ok_World_init T TB) (hr.mono (by decide)) (by rfl) T.g_World T.b9 .nil pass0 (wa_cons (w_call (pe_call (okw__law_world T TB) (hr.mono (by decide)) (by rfl) T.g__law_world (T.kp39) T.b39 .nil pass0 (ws_lift (da_cons (d_var (pv 1)) da_nil)))) wa_nil))) wa_nil))))) | exact ws_set (ps_set (i := 2) sc_law.nd rfl (by first | exact .inl rfl | exact .inr rfl) (w_new (wn_lc (own := [("_law_turn", 8)]) (pe_lc (own := [("_law_turn", 8)]) rfl sc_law.nd (wi_lift (di_rng1 (by rfl) T.z_range (da_cons d_int da_nil))) (blkOk_by (N := ["_law_script", "_law_pool_here", "_law_lattices", "_law_reaches_here", "_law_lattice", "_law_groups", "_law_few", "_law_sizes", "_law_turn", "_law_lots", "_law_kept", "_law_due", "_law_size_here", "_law_lot_here"]) (sc := (defScope s_law)) (by decide +kernel)) (fun _ _ _ _ _ => (dgk (dg_name (pg_name (i := 8) sc_law.nd rfl (by first | exact .inl rfl | exact .inr rfl))))) (fun _ _ _ _ _ => wts_nil) (fun _ _ _ _ _ => (w_make (pe_make T.mk_Lattice (ok_Lattice_init T TB) (hr.mono (by decide)) (by rfl) T.g_Lattice T.b23 .nil pass0 (wa_cons (w_make (pe_make T.mk_World (ok_World_init T TB) (hr.mono (by decide)) (by rfl) T.g_World T.b9 .nil pass0 (wa_cons (w_call (pe_call (okw__law_world T TB) (hr.mono (by decide)) (by rfl) T.g__law_world (T.kp39) T.b39 .nil pass0 (ws_lift (da_cons (d_var (pv 1)) da_nil)))) wa_nil))) wa_nil)))))))))
    (wss_cons (ws_s (to_k (kOwn_eq _ _) (s_own (ps_set (i := 3) sc_law.nd rfl (by first | exact .inl rfl | exact .inr rfl) (pe_lst da_nil)))))
    (wss_cons (ws_s (s_for PassesOwn.never rfl (di_seq (d_var (pv 2))) (dgk (dg_name (pg_name (i := 4) sc_law.nd rfl (by first | exact .inl rfl | exact .inr rfl)))) (ss_cons (to_k (kSet_eq _ _) (s_set (ps_set (i := 5) sc_law.nd rfl (by first | exact .inl rfl | exact .inr rfl) (d_ds (pe_callTy call_list_of (by rfl) T.z_list PyProof.Rows.boot_list (da_cons (d_fld (d_var (pv 4)) T.cl_Lattice T.n_Lattice_groups) da_nil)) (CaS.seq cs_list ct_list)))))
    (ss_one (to_k (kApp_eq _ _) (s_append (ps_expr (pe_bm PySem.F.plainAttrs_list PySem.F.slot_list_append PySem.F.type_list_append mt_append (pv 3) (pa_cons (d_call (pe_call (ok__law_reaches T TB) (hr.mono (by decide)) (by rfl) T.g__law_reaches (T.kp38) T.b38 .nil pass0 (da_cons (d_var (pv 5)) (da_cons (d_call (pe_call (ok__law_held T TB) (hr.mono (by decide)) (by rfl) T.g__law_held (T.kp36) T.b36 .nil pass0 (da_cons (d_var (pv 5)) da_nil))) da_nil)))) pa_nil)))))))))
    (wss_cons (ws_set (ps_set (i := 1) sc_law.nd rfl (by first | exact .inl rfl | exact .inr rfl) (w_call (pe_call (okw__law_pool T TB) (hr.mono (by decide)) (by rfl) T.g__law_pool (T.kp34) T.b34 .nil pass0 (ws_lift (da_cons (d_var (pv 0)) (da_cons d_int da_nil)))))))
    (wss_cons (ws_set (ps_set (i := 6) sc_law.nd rfl (by first | exact .inl rfl | exact .inr rfl) (w_bin (pe_ix ix_seq (w_lift (d_lst (da_cons d_int (da_cons d_int (da_cons d_int (da_cons d_int (da_cons d_int (da_cons d_int (da_cons d_int (da_cons d_int da_nil)))))))))) (w_call (pe_call (okw__law_take T TB) (hr.mono (by decide)) (by rfl) T.g__law_take (T.kp35) T.b35 .nil pass0 (ws_lift (da_cons (d_var (pv 1)) (da_cons d_int da_nil))))) (fun _ _ => rfl)) dd_ix)))
    (wss_cons (by first | exact ws_ownLc (ps_setLc (i := 7) (own := [("_law_turn", 8)]) rfl sc_law.nd rfl rfl (sw_true rfl rfl rfl (by decide +kernel)) (wi_lift (di_rng1 (by rfl) T.z_range (da_cons (d_var (pv 6)) da_nil))) (blkOk_by (N := ["_law_script", "_law_pool_here", "_law_lattices", "_law_reaches_here", "_law_lattice", "_law_groups", "_law_few", "_law_sizes", "_law_turn", "_law_lots", "_law_kept", "_law_due", "_law_size_here", "_law_lot_here"]) (sc := (defScope s_law)) (by decide +kernel)) (fun _ _ _ _ _ => (dgk (dg_name (pg_name (i := 8) sc_law.nd rfl (by first | exact .inl rfl | exact .inr rfl))))) (fun _ _ _ _ _ => wts_nil) (fun _ _ _ _ _ => (w_call (pe_call (okw__law_size T TB) (hr.mono (by decide)) (by rfl) T.g__law_size (T.kp40) T.b40 .nil pass0 (ws_lift (da_cons (d_var (pv 1)) da_nil)))))) | exact ws_own (ps_set (i := 7) sc_law.nd rfl (by first | exact .inl rfl | exact .inr rfl) (wn_lc (own := [("_law_turn", 8)]) (pe_lc (own := [("_law_turn", 8)]) rfl sc_law.nd (wi_lift (di_rng1 (by rfl) T.z_range (da_cons (d_var (pv 6)) da_nil))) (blkOk_by (N := ["_law_script", "_law_pool_here", "_law_lattices", "_law_reaches_here", "_law_lattice", "_law_groups", "_law_few", "_law_sizes", "_law_turn", "_law_lots", "_law_kept", "_law_due", "_law_size_here", "_law_lot_here"]) (sc := (defScope s_law)) (by decide +kernel)) (fun _ _ _ _ _ => (dgk (dg_name (pg_name (i := 8) sc_law.nd rfl (by first | exact .inl rfl | exact .inr rfl))))) (fun _ _ _ _ _ => wts_nil) (fun _ _ _ _ _ => (w_call (pe_call (okw__law_size T TB) (hr.mono (by decide)) (by rfl) T.g__law_size (T.kp40) T.b40 .nil pass0 (ws_lift (da_cons (d_var (pv 1)) da_nil)))))))))
    (wss_cons (ws_s (s_for PassesOwn.never rfl (di_seq (d_lst (da_cons d_int (da_cons d_int (da_cons d_int da_nil))))) (dgk (dg_name (pg_name (i := 8) sc_law.nd rfl (by first | exact .inl rfl | exact .inr rfl)))) (ss_one (s_if (dt_lend (i := 7) (dt_not (dt_tru (d_call (pe_callG (ok__law_needless_fits T TB) hG (hr.mono (by decide)) (by rfl) T.g__law_needless_fits (T.kp42) T.b42 .nil pass0 (da_cons (d_ix (d_var (pv 2)) (d_var (pv 8))) (da_cons (d_ixS (d_sqvar (pv 3)) (d_var (pv 8))) (da_cons (d_var (pv 7)) da_nil)))))))) (ss_one (to_k (kRet_eq _) (s_ret d_bl))) ss_nil))))
    (wss_cons (ws_append (ps_expr (pe_bm PySem.F.plainAttrs_list PySem.F.slot_list_append PySem.F.type_list_append mt_append (pv 7) (pa_cons (w_call (pe_call (okw__law_size T TB) (hr.mono (by decide)) (by rfl) T.g__law_size (T.kp40) T.b40 .nil pass0 (ws_lift (da_cons (d_var (pv 1)) da_nil)))) pa_nil))))
    (wss_cons (ws_s (s_for PassesOwn.never rfl (di_rng1 (by rfl) T.z_range (da_cons d_int da_nil)) (dgk (dg_name (pg_name (i := 8) sc_law.nd rfl (by first | exact .inl rfl | exact .inr rfl)))) (ss_one (s_if (dt_lend (i := 7) (dt_not (dt_tru (d_call (pe_callG (ok__law_needless_fits T TB) hG (hr.mono (by decide)) (by rfl) T.g__law_needless_fits (T.kp42) T.b42 .nil pass0 (da_cons (d_ix (d_var (pv 2)) (d_var (pv 8))) (da_cons (d_ixS (d_sqvar (pv 3)) (d_var (pv 8))) (da_cons (d_var (pv 7)) da_nil)))))))) (ss_one (to_k (kRet_eq _) (s_ret d_bl))) ss_nil))))
    (wss_cons (ws_set (ps_set (i := 1) sc_law.nd rfl (by first | exact .inl rfl | exact .inr rfl) (w_call (pe_call (okw__law_pool T TB) (hr.mono (by decide)) (by rfl) T.g__law_pool (T.kp34) T.b34 .nil pass0 (ws_lift (da_cons (d_var (pv 0)) (da_cons d_int da_nil)))))))
    (wss_cons (ws_set (ps_set (i := 6) sc_law.nd rfl (by first | exact .inl rfl | exact .inr rfl) (w_bin (pe_ix ix_seq (w_lift (d_lst (da_cons d_int (da_cons d_int (da_cons d_int (da_cons d_int (da_cons d_int (da_cons d_int (da_cons d_int (da_cons d_int da_nil)))))))))) (w_call (pe_call (okw__law_take T TB) (hr.mono (by decide)) (by rfl) T.g__law_take (T.kp35) T.b35 .nil pass0 (ws_lift (da_cons (d_var (pv 1)) (da_cons d_int da_nil))))) (fun _ _ => rfl)) dd_ix)))
    (wss_cons (by first | exact ws_setLc (ps_setLc (i := 9) (own := [("_law_turn", 8)]) rfl sc_law.nd rfl rfl (sw_true rfl rfl rfl (by decide +kernel)) (wi_lift (di_rng1 (by rfl) T.z_range (da_cons (d_var (pv 6)) da_nil))) (blkOk_by (N := ["_law_script", "_law_pool_here", "_law_lattices", "_law_reaches_here", "_law_lattice", "_law_groups", "_law_few", "_law_sizes", "_law_turn", "_law_lots", "_law_kept", "_law_due", "_law_size_here", "_law_lot_here"]) (sc := (defScope s_law)) (by decide +kernel)) (fun _ _ _ _ _ => (dgk (dg_name (pg_name (i := 8) sc_law.nd rfl (by first | exact .inl rfl | exact .inr rfl))))) (fun _ _ _ _ _ => wts_nil) (fun _ _ _ _ _ => (w_call (pe_call (okw__law_lot T TB) (hr.mono (by decide)) (by rfl) T.g__law_lot (T.kp43) T.b43 .nil pass0 (ws_lift (da_cons (d_var (pv 1)) da_nil)))))) | exact ws_set (ps_set (i := 9) sc_law.nd rfl (by first | exact .inl rfl | exact .inr rfl) (w_new (wn_lc (own := [("_law_turn", 8)]) (pe_lc (own := [("_law_turn", 8)]) rfl sc_law.nd (wi_lift (di_rng1 (by rfl) T.z_range (da_cons (d_var (pv 6)) da_nil))) (blkOk_by (N := ["_law_script", "_law_pool_here", "_law_lattices", "_law_reaches_here", "_law_lattice", "_law_groups", "_law_few", "_law_sizes", "_law_turn", "_law_lots", "_law_kept", "_law_due", "_law_size_here", "_law_lot_here"]) (sc := (defScope s_law)) (by decide +kernel)) (fun _ _ _ _ _ => (dgk (dg_name (pg_name (i := 8) sc_law.nd rfl (by first | exact .inl rfl | exact .inr rfl))))) (fun _ _ _ _ _ => wts_nil) (fun _ _ _ _ _ => (w_call (pe_call (okw__law_lot T TB) (hr.mono (by decide)) (by rfl) T.g__law_lot (T.kp43) T.b43 .nil pass0 (ws_lift (da_cons (d_var (pv 1)) da_nil))))))))))
    (wss_cons (ws_s (to_k (kSet_eq _ _) (s_set (ps_set (i := 10) sc_law.nd rfl (by first | exact .inl rfl | exact .inr rfl) (d_ds (pe_callB (cr_reprA hG hr.units) (by rfl) T.z_repr (by decide +kernel) (da_cons (d_var (pv 9)) da_nil)) ca_repr)))))
    (wss_cons (ws_s (to_k (kSet_eq _ _) (s_set (ps_set (i := 11) sc_law.nd rfl (by first | exact .inl rfl | exact .inr rfl) (d_ds (pe_callTy call_tuple_of (by rfl) T.z_tuple PyProof.Rows.boot_tuple (da_cons (d_lc (pe_lc (own := [("_law_size_here", 12)]) rfl sc_law.nd (di_rng2 (by rfl) T.z_range (da_cons d_int (da_cons d_int da_nil))) (blkOk_by (N := ["_law_script", "_law_pool_here", "_law_lattices", "_law_reaches_here", "_law_lattice", "_law_groups", "_law_few", "_law_sizes", "_law_turn", "_law_lots", "_law_kept", "_law_due", "_law_size_here", "_law_lot_here"]) (sc := (defScope s_law)) (by decide +kernel)) (fun _ _ _ _ _ => (dgk (dg_name (pg_name (i := 12) sc_law.nd rfl (by first | exact .inl rfl | exact .inr rfl))))) (fun _ _ _ _ _ => (dts_one (dt_cmp (pt_cmpR op_gt (d_ds (pe_callB call_len_seq (by rfl) T.z_len PySem.boot_len (da_cons (d_lc (pe_lc (own := [("_law_lot_here", 13)]) rfl sc_law.nd (di_seq (d_var (pv 9))) (blkOk_by (N := ["_law_script", "_law_pool_here", "_law_lattices", "_law_reaches_here", "_law_lattice", "_law_groups", "_law_few", "_law_sizes", "_law_turn", "_law_lots", "_law_kept", "_law_due", "_law_size_here", "_law_lot_here"]) (sc := (relS _ (defScope s_law))) (by decide +kernel)) (fun _ _ _ _ _ => (dgk (dg_name (pg_name (i := 13) sc_law.nd rfl (by first | exact .inl rfl | exact .inr rfl))))) (fun _ _ _ _ _ => (dts_one (dt_cmp (pt_cmpR (op_or op_in_seq (op_inD (un65 hr))) (d_var (pv 12)) (d_var (pv 13)) (by rfl)) dd_in))) (fun _ _ _ _ _ => (d_var (pv 13))))) da_nil)) (CaS.seq cs_len ct_len)) d_int (nomark _)) dd_cmp))) (fun _ _ _ _ _ => (d_var (pv 12))))) da_nil)) (CaS.seq cs_tuple ct_tuple))))))
    (wss_one (ws_s (to_k (kRet_eq _) (s_ret (d_and (d_bin (pe_cmpR (op_or (op_eqD hr.units) op_eq) (d_ds (pe_callB (cr_reprA hG hr.units) (by rfl) T.z_repr (by decide +kernel) (da_cons (d_call (pe_call (ok__law_joined T TB) (hr.mono (by decide)) (by rfl) T.g__law_joined (T.kp44) T.b44 .nil pass0 (da_cons (d_var (pv 9)) da_nil))) da_nil)) ca_repr) (d_ds (pe_callB (cr_reprA hG hr.units) (by rfl) T.z_repr (by decide +kernel) (da_cons (d_var (pv 11)) da_nil)) ca_repr) (nomark _)) dd_eq) (pe_one (d_bin (pe_cmpR (op_or (op_eqD hr.units) op_eq) (d_ds (pe_callB (cr_reprA hG hr.units) (by rfl) T.z_repr (by decide +kernel) (da_cons (d_var (pv 9)) da_nil)) ca_repr) (d_var (pv 10)) (nomark _)) dd_eq))))))))))))))))))))))
end K40
set_option maxRecDepth 100000
set_option maxHeartbeats 4000000
/-! the end: the law called by the caller itself -/
namespace Dl
open PySem PySem.Spec PyProof.Rows L2
abbrev emptyTab : Obj := { cls := .none, data := .fields #[] }
section
variable {P : Program} {w : World} {K : PySem.W.Frag} {mg mb : Str → Option Value} {fa a : Addr} {cs : List (Addr × Addr)} {t : Shared} {vs : List Value} {ns : List Int}
theorem end_run (KX : K.In t.heap) (gl : t.heap.Ns mainGlobals mg) (bl : t.heap.Ns builtinsNs mb) (bb : ∀ x : Str, x ≠ "__name__" → mb x = bootBuiltins x) (lim : t.heap.NoLimit) (ge : t.gens = #[])
    (tabs : ∀ p ∈ cs, t.heap.get? p.2 = some emptyTab) (noK : ∀ p ∈ cs, K.lookup p.2 = none) (hd : ∀ p ∈ cs, PySem.W.CodeHd t.heap p.1 p.2)
    (main : ∃ (bm : Addr) (ob : Obj), mg "__builtins__" = some (.ref bm) ∧ bm ≠ builtinsNs ∧ t.heap.get? bm = some ob ∧ ob.cls = .type "module" ∧ ob.dict = some builtinsNs ∧ ob.data = .plain)
    (la : t.heap.get? a = some { cls := .type "list", data := .seq vs.toArray }) (isI : IntsAre vs ns) (short : ns.length ≤ sizeLine)
    (go : ∀ (base : Heap) (H : Hp), K.In base → base.Ns mainGlobals mg → (∀ p ∈ cs, LamX.TabB base mg p.1 p.2) → (∀ p ∈ cs, H p.2 = some (.tbl #[])) → SqL K H a (ns.map V.int) → Env0 P w K mg base callerA [] t H →
      codeAny (model P w) callerA (.call (.ref fa) ⟨[.ref a], []⟩) (CR CX0 [] P w H t (fun v _ => v = .bl true) E0) t) :
    codeAny (model P w) callerA (.call (.ref fa) ⟨[.ref a], []⟩) (fun r s' => r = .ok (.ret (.bool true)) ∧ OldK t.heap s'.heap ∧ s'.os = t.os ∧ AllBare s'.gens) t := by
  have rv := vals_ints isI
  have inT : ∀ {b : Addr}, b ∈ cs.map (·.2) → ∃ p ∈ cs, p.2 = b := fun {b} hb => let ⟨p, h1, h2⟩ := List.mem_map.mp hb; ⟨p, h1, h2⟩
  have tabAt : ∀ {b : Addr}, b ∈ cs.map (·.2) → t.heap.get? b = some emptyTab ∧ K.lookup b = none := fun {b} hb => by
    obtain ⟨p, h1, rfl⟩ := inT hb
    exact ⟨tabs p h1, noK p h1⟩
  have aT : a ∉ cs.map (·.2) := fun z => by
    have q := (tabAt z).1
    rw [la] at q
    cases q
  generalize eH : (fun b => if b ∈ cs.map (·.2) then some (HO.tbl #[]) else if b = a ∧ K.lookup a = none then some (HO.frz { cls := .type "list", data := .seq vs.toArray } (.lst (ns.map V.int))) else none : Hp) = H
  have H1 : ∀ p ∈ cs, H p.2 = some (.tbl #[]) := fun p hp => by rw [← eH]; exact if_pos (List.mem_map.mpr ⟨p, hp, rfl⟩)
  have Hsome : ∀ b u, H b = some u → (b ∈ cs.map (·.2) ∧ u = .tbl #[]) ∨ (b = a ∧ K.lookup a = none ∧ u = .frz { cls := .type "list", data := .seq vs.toArray } (.lst (ns.map V.int))) := fun b u e => by
    rw [← eH] at e
    replace e : (if b ∈ cs.map (·.2) then some (HO.tbl #[]) else if b = a ∧ K.lookup a = none then some (HO.frz { cls := .type "list", data := .seq vs.toArray } (.lst (ns.map V.int))) else none) = some u := e
    split at e
    · rename_i hb; cases e; exact .inl ⟨hb, rfl⟩
    · split at e
      · rename_i hb; cases e; exact .inr ⟨hb.1, hb.2, rfl⟩
      · cases e
  have Ha : SqL K H a (ns.map V.int) := by
    cases ek : K.lookup a with
    | some o =>
      have e := KX a o ek
      rw [la] at e
      cases e
      exact .inr ⟨_, vs.toArray, _, ek, rfl, rfl, rfl, by rw [List.size_toArray, isI.length]; exact short, by simpa using rv⟩
    | none => exact .inl (.inr ⟨{ cls := .type "list", data := .seq vs.toArray }, by rw [← eH]; show (if a ∈ cs.map (·.2) then _ else if a = a ∧ K.lookup a = none then _ else _) = _; rw [if_neg aT, if_pos ⟨rfl, ek⟩]⟩)
  have Hok : HOk P w H t.heap := fun b u e => by
    rcases Hsome b u e with ⟨hb, rfl⟩ | ⟨rfl, _, rfl⟩
    · exact (tabAt hb).1
    · exact ⟨la, by rw [List.length_map]; exact short, vs, _, rv, la⟩
  have freeOf : ∀ {b : Addr} {o : Obj}, t.heap.get? b = some o → (∀ xs n, o.data ≠ .seq xs n) → o.data ≠ .fields #[] → H b = none := fun {b o} e n1 n2 => by
    cases q : H b with
    | none => rfl
    | some u =>
      rcases Hsome b u q with ⟨hb, _⟩ | ⟨rfl, _, _⟩
      · have e2 := (tabAt hb).1
        rw [e] at e2; cases e2
        exact (n2 rfl).elim
      · rw [la] at e; cases e
        exact (n1 _ _ rfl).elim
  have freeK : ∀ {b : Addr} {o : Obj}, K.lookup b = some o → H b = none := fun {b o} e => by
    cases q : H b with
    | none => rfl
    | some u =>
      rcases Hsome b u q with ⟨hb, _⟩ | ⟨rfl, hk, _⟩
      · rw [(tabAt hb).2] at e; cases e
      · rw [hk] at e; cases e
  have KB : K.In (hidT t.heap H) := fun b o e => hidT_get (KX b o e) (freeK e)
  have nsB : ∀ {b : Addr} {m : Str → Option Value}, t.heap.Ns b m → (hidT t.heap H).Ns b m := fun {b m} ⟨o, es, ep, e, d, r⟩ => ⟨o, es, ep, hidT_get e (freeOf e (fun xs n z => by rw [d] at z; cases z) (fun z => by rw [d] at z; cases z)), d, r⟩
  have M : L2.Mod K mg (hidT t.heap H) := ⟨KB, nsB gl, ⟨mb, nsB bl, bb⟩, let ⟨mc, z1, z2⟩ := lim; ⟨mc, nsB z1, z2⟩⟩
  have E0' : Env0 P w K mg (hidT t.heap H) callerA [] t H := ⟨rfl, M, fun b o e => of_hidT e, Nat.le_of_eq (hidT_size _ _), trivial, (fun b hb => absurd (show b ∈ ([] : List Addr) from hb) (by simp)), Hok, .of_eq ge⟩
  have neT : ∀ {b P' : Addr} {o o' : Obj}, t.heap.get? b = some o → t.heap.get? P' = some o' → o.data ≠ o'.data → b ≠ P' := fun {b P' o o'} e1 e2 n z => by
    rw [z, e2] at e1; cases e1; exact n rfl
  have TB : ∀ p ∈ cs, LamX.TabB (hidT t.heap H) mg p.1 p.2 := fun p hp => by
    refine ⟨?_, ?_, ?_⟩
    · obtain ⟨o, us, file, tf, flags, tg, inF, text, tt, e1, r1, r2, r3, r4⟩ := hd p hp
      refine ⟨o, us, file, tf, flags, tg, inF, text, tt, hidT_get e1 (freeOf e1 (fun xs n z => by rw [r2] at z; cases z) fun z => ?_), r1, r2, r3, r4⟩
      rw [r2] at z
      cases z
      simp at r3
    · obtain ⟨bm, ob, b1, b2, b3, b4, b5, b6⟩ := main
      have nG : bm ≠ mainGlobals := by
        obtain ⟨o, es, ep, e, d, _⟩ := gl
        exact neT b3 e (by rw [b6, d]; exact fun z => nomatch z)
      exact ⟨bm, ob, b1, b2, nG, neT b3 (tabs p hp) (by rw [b6]; exact fun z => nomatch z), hidT_get b3 (freeOf b3 (fun xs n z => by rw [b6] at z; cases z) (fun z => by rw [b6] at z; cases z)), b4, b5, b6⟩
    · obtain ⟨o, es, ep, e, d, _⟩ := gl
      exact neT e (tabs p hp) (by rw [d]; exact fun z => nomatch z)
  refine codeAny_mono (go _ H KB (nsB gl) TB H1 Ha E0') fun r s' h => ?_
  cases r with
  | error e => exact False.elim h
  | ok fl =>
    cases fl with
    | ret u =>
      obtain ⟨v, H', os, bare, un, ok', rv', rfl⟩ := h
      obtain rfl : u = Value.bool true := rv'
      refine ⟨rfl, ⟨fun b o e => ?_, fun b o e => ?_⟩, os, bare⟩
      · by_cases hb : b ∈ cs.map (·.2)
        · obtain ⟨p, hp, rfl⟩ := inT hb
          obtain ⟨more, z⟩ := un.tbls p.2 #[] (H1 p hp)
          have z2 := ok' p.2 _ z
          rw [tabs p hp] at e
          cases e
          exact .inr (.inl ⟨((hd p hp).tab (tabs p hp)).isCodeTable, rfl, #[], more, rfl, by rw [Array.empty_append] at z2 ⊢; exact z2⟩)
        · left
          cases q : H b with
          | none => exact un.keep b o e q (fun z => absurd (show b ∈ ([] : List Addr) from z) (by simp)) (by simp)
          | some u =>
            rcases Hsome b u q with ⟨hb', _⟩ | ⟨rfl, _, rfl⟩
            · exact (hb hb').elim
            · have z := ok' _ _ (un.frzs _ _ _ q)
              rw [la] at e
              cases e
              exact z.1
      · exact un.there b o e (by simp)
    | next => exact False.elim h
    | brk => exact False.elim h
    | cont => exact False.elim h
end
end Dl
set_option maxRecDepth 100000
set_option maxHeartbeats 0
namespace K40
open PySem PySem.Spec PyProof.Rows L2 Dl
abbrev RR : PySem.W.OpenRow := PySem.W.OpenLaw.row PySem.Challenge.rw_nonames_k40_needless_and_joined_sizes
def fns0 : List He.DefD := [
  ⟨("_law_pool", none), "_law_pool", "_law_pool", defArgs s__law_pool, defBody s__law_pool, defScope s__law_pool, [], []⟩,
  ⟨("classes_from", none), "classes_from", "classes_from", defArgs s_classes_from, defBody s_classes_from, defScope s_classes_from, [], []⟩,
  ⟨("World", some "then"), "then", "World.then", defArgs s_World_then, defBody s_World_then, defScope s_World_then, [], []⟩,
  ⟨("with_powers", none), "with_powers", "with_powers", defArgs s_with_powers, defBody s_with_powers, defScope s_with_powers, [], []⟩,
  ⟨("World", some "inverse"), "inverse", "World.inverse", defArgs s_World_inverse, defBody s_World_inverse, defScope s_World_inverse, [], []⟩,
  ⟨("carried_group", none), "carried_group", "carried_group", defArgs s_carried_group, defBody s_carried_group, defScope s_carried_group, [], []⟩,
  ⟨("grown_groups", none), "grown_groups", "grown_groups", defArgs s_grown_groups, defBody s_grown_groups, defScope s_grown_groups, [], []⟩,
  ⟨("all_groups", none), "all_groups", "all_groups", defArgs s_all_groups, defBody s_all_groups, defScope s_all_groups, [], []⟩,
  ⟨("holds_all", none), "holds_all", "holds_all", defArgs s_holds_all, defBody s_holds_all, defScope s_holds_all, [], []⟩,
  ⟨("Lattice", some "__init__"), "__init__", "Lattice.__init__", defArgs s_Lattice_init, defBody s_Lattice_init, defScope s_Lattice_init, [], []⟩,
  ⟨("_law_take", none), "_law_take", "_law_take", defArgs s__law_take, defBody s__law_take, defScope s__law_take, [], []⟩,
  ⟨("_law_size", none), "_law_size", "_law_size", defArgs s__law_size, defBody s__law_size, defScope s__law_size, [], []⟩,
  ⟨("_law_lot", none), "_law_lot", "_law_lot", defArgs s__law_lot, defBody s__law_lot, defScope s__law_lot, [], []⟩,
  ⟨("World", some "_allows"), "_allows", "World._allows", defArgs s_World__allows, defBody s_World__allows, defScope s_World__allows, [], []⟩,
  ⟨("orders_of", none), "orders_of", "orders_of", defArgs s_orders_of, defBody s_orders_of, defScope s_orders_of, [], []⟩,
  ⟨("renamings_of", none), "renamings_of", "renamings_of", defArgs s_renamings_of, defBody s_renamings_of, defScope s_renamings_of, [], []⟩,
  ⟨("after_another", none), "after_another", "after_another", defArgs s_after_another, defBody s_after_another, defScope s_after_another, [], []⟩,
  ⟨("World", some "__init__"), "__init__", "World.__init__", defArgs s_World_init, defBody s_World_init, defScope s_World_init, [], []⟩,
  ⟨("_law_sums", none), "_law_sums", "_law_sums", defArgs s__law_sums, defBody s__law_sums, defScope s__law_sums, [], []⟩,
  ⟨("_law_reaches", none), "_law_reaches", "_law_reaches", defArgs s__law_reaches, defBody s__law_reaches, defScope s__law_reaches, [], []⟩,
  ⟨("_law_needless", none), "_law_needless", "_law_needless", defArgs s__law_needless, defBody s__law_needless, defScope s__law_needless, [], []⟩,
  ⟨("Lattice", some "held"), "held", "Lattice.held", defArgs s_Lattice_held, defBody s_Lattice_held, defScope s_Lattice_held, [], []⟩,
  ⟨("Lattice", some "ratio"), "ratio", "Lattice.ratio", defArgs s_Lattice_ratio, defBody s_Lattice_ratio, defScope s_Lattice_ratio, [], []⟩,
  ⟨("own_sizes", none), "own_sizes", "own_sizes", defArgs s_own_sizes, defBody s_own_sizes, defScope s_own_sizes, [], []⟩,
  ⟨("sizes_by_group", none), "sizes_by_group", "sizes_by_group", defArgs s_sizes_by_group, defBody s_sizes_by_group, defScope s_sizes_by_group, [], []⟩,
  ⟨("is_needless", none), "is_needless", "is_needless", defArgs s_is_needless, defBody s_is_needless, defScope s_is_needless, [], []⟩,
  ⟨("needless_sizes", none), "needless_sizes", "needless_sizes", defArgs s_needless_sizes, defBody s_needless_sizes, defScope s_needless_sizes, [], []⟩,
  ⟨("_law_needless_fits", none), "_law_needless_fits", "_law_needless_fits", defArgs s__law_needless_fits, defBody s__law_needless_fits, defScope s__law_needless_fits, [], []⟩,
  ⟨("_law_world", none), "_law_world", "_law_world", defArgs s__law_world, defBody s__law_world, defScope s__law_world, [], []⟩,
  ⟨("_law_held", none), "_law_held", "_law_held", defArgs s__law_held, defBody s__law_held, defScope s__law_held, [], []⟩]
def fns1 : List He.DefD := [
  ⟨("joined_sizes", none), "joined_sizes", "joined_sizes", defArgs s_joined_sizes, defBody s_joined_sizes, defScope s_joined_sizes, [], []⟩,
  ⟨("_law_joined", none), "_law_joined", "_law_joined", defArgs s__law_joined, defBody s__law_joined, defScope s__law_joined, [], []⟩,
  ⟨("law", none), "law", "law", defArgs s_law, defBody s_law, defScope s_law, [], []⟩]
def fns : List He.DefD := fns0 ++ fns1
def fas0 : List He.Fa := [
  .glo "_law_pool",
  .glo "classes_from",
  .meth "World" "then",
  .glo "with_powers",
  .meth "World" "inverse",
  .glo "carried_group",
  .glo "grown_groups",
  .glo "all_groups",
  .glo "holds_all",
  .glo "_law_take",
  .glo "_law_size",
  .glo "_law_lot",
  .meth "World" "_allows",
  .glo "orders_of",
  .glo "renamings_of",
  .glo "after_another",
  .glo "_law_sums",
  .glo "_law_reaches",
  .glo "_law_needless",
  .meth "Lattice" "held",
  .meth "Lattice" "ratio",
  .glo "own_sizes",
  .glo "sizes_by_group",
  .glo "is_needless",
  .glo "needless_sizes",
  .glo "_law_needless_fits",
  .glo "_law_world",
  .glo "_law_held",
  .glo "joined_sizes",
  .glo "_law_joined"]
def fas1 : List He.Fa := [
  .glo "law",
  .glo "World",
  .cls "World",
  .mkr "World",
  .glo "Lattice",
  .cls "Lattice",
  .mkr "Lattice",
  .noat "World" "sizes",
  .noat "World" "things",
  .noat "World" "renamings",
  .noat "World" "order",
  .noat "World" "_numbers",
  .noat "World" "_table",
  .noat "World" "_inverses",
  .noat "Lattice" "world",
  .noat "Lattice" "groups",
  .noat "Lattice" "_numbers",
  .noat "Lattice" "_carries",
  .noat "Lattice" "classes",
  .noat "Lattice" "_places",
  .noat "Lattice" "_holdings",
  .noat "Lattice" "_below",
  .free "abs",
  .free "all",
  .free "any",
  .free "enumerate",
  .free "int",
  .free "len",
  .free "list",
  .free "max"]
def fas2 : List He.Fa := [
  .free "min",
  .free "range",
  .free "repr",
  .free "set",
  .free "sorted",
  .free "sum",
  .free "tuple"]
def fas : List He.Fa := fas0 ++ fas1 ++ fas2
def loose0 : List Str := [
  "_wall",
  "orders_of",
  "own_sizes",
  "sizes_by_group",
  "is_needless",
  "needless_sizes",
  "NonamesError",
  "BadWorld",
  "BadRenaming",
  "BadGroup",
  "renamings_of",
  "after_another",
  "World",
  "carried_group",
  "with_powers",
  "grown_groups",
  "all_groups",
  "holds_all",
  "classes_from",
  "Lattice",
  "joined_sizes",
  "_law_pool",
  "_law_take",
  "_law_held",
  "_law_sums",
  "_law_reaches",
  "_law_world",
  "_law_size",
  "_law_needless",
  "_law_needless_fits"]
def loose1 : List Str := [
  "_law_lot",
  "_law_joined"]
def loose : List Str := loose0 ++ loose1
def tfs : List He.Defn := [("all_groups", none)]
def exs (K : PySem.W.Frag) : Bool := (He.conB K "World" "LARGEST" (.int 4) && (He.conB K "World" "MOST" (.int 36) && (He.eqO (PySem.W.nsIn K mainGlobals "factorial") (some (some (.builtin "math.factorial"))) && decide ((tfs.map fun p => (He.cT K p).2).Nodup))))
abbrev hk : PySem.W.Hook := He.hookX 5 fas fns [] tfs exs
def ob (s : PySem.W.SharedT) : He.AlX := He.obsX 5 fas fns [] tfs exs (HeadRun.getT s)
theorem ob_eq (s : PySem.W.SharedT) : ob s = hk.obs s.abs := He.obsX_eq (HeadRun.getT_eq s)
theorem run (w : World) : HeadRun.RunEqI RR (PySem.W.view RR.prog [0, 41]) hk ob 8000 loose w := by
  unfold HeadRun.RunEqI
  kernel_rfl
end K40
set_option maxRecDepth 100000
set_option maxHeartbeats 0
namespace Dl
open PySem PySem.Spec PyProof.Rows L2
section
variable {K : PySem.W.Frag}
theorem funT_of {x qual : Str} {st : Stmt} {kws : List (Str × V)} {f : Addr} {fd : FuncData} (F : FunD K x qual (defArgs st) (defBody st) (defScope st) [] kws f fd) : Fun K x qual st f fd := by
  obtain ⟨oc, od, dV, kV, doc, pm, an, cdv, ct, osl, e, lk, hcd, hD, hK⟩ := F.ex
  rcases hD with ⟨_, rfl⟩ | ⟨e2, _⟩
  · exact ⟨⟨oc, od, kV, doc, pm, an, cdv, ct, osl, e, lk, hcd⟩, F.kp⟩
  · exact absurd rfl e2
theorem funC_of {x qual : Str} {st : Stmt} {kws : List (Str × V)} {f : Addr} {fd : FuncData} {p : He.Defn} (hf : He.fAd K p = f) (F : FunD K x qual (defArgs st) (defBody st) (defScope st) [] kws f fd) : FunC K x qual st f fd (He.codeOf K p) := by
  obtain ⟨oc, od, dV, kV, doc, pm, an, cdv, ct, osl, e, lk, hcd, hD, hK⟩ := F.ex
  rcases hD with ⟨_, rfl⟩ | ⟨e2, _⟩
  · obtain ⟨c, rfl⟩ := He.codeIn_ref hcd
    have ec : He.codeOf K p = c := He.codeOf_eq (by rw [hf]; exact lk) (by rw [e])
    rw [ec]
    exact ⟨⟨oc, od, kV, doc, pm, an, ct, osl, e, lk, hcd⟩, F.kp⟩
  · exact absurd rfl e2
theorem con_of {C f : Str} {i : Int} (h : He.conB K C f (.int i) = true) (hc : PySem.W.copiedNames.contains f = false := by decide) : ∃ t, Con K (He.ga K C) f (.int i) (.int i t) := by
  obtain ⟨u, q⟩ := He.conB_ok h hc
  obtain ⟨t, rfl⟩ := q.rel
  exact ⟨t, q⟩
theorem kbn_of {x qual : Str} {params : Arguments} {body : List Stmt} {scope : Scope} {kws : List (Str × V)} {f : Addr} {fd : FuncData} {ps ks : List Str} (F : FunD K x qual params body scope [] kws f fd) (n : Nat) (hk : kws ≠ [])
    (h : ∀ (D : Addr) (doc pm : Value) (an : Option Addr) (cdv ct : Value) (us ws : List Value), us.length = n → ws.length = ks.length →
      bindArgs (PySem.W.fnOf x qual params body scope .none (.ref D) doc pm an cdv ct) ⟨us, ks.zip ws⟩ = pure (ps.zip (us ++ ws))) : ∃ g, KBn K fd ps n ks g (fun a b => a ++ b) := by
  obtain ⟨mv, hb⟩ := F.kbinds0 n ks [] (fun a _ c => a ++ c) hk (fun q hq => nomatch hq) (fun r1 _ r3 => r1.append r3) (fun D doc pm an cdv ct us mv ws h1 _ h3 => h D doc pm an cdv ct us ws h1 h3)
  exact ⟨_, hb⟩
end
theorem one_at {l : List (Addr × Str)} (nd : (l.map (·.1)).Nodup) (i : Nat) {q : Addr × Str} (h : l[i]? = some q) : ∀ p ∈ l, p.1 = q.1 → p.2 = q.2 := by
  induction l generalizing i with
  | nil => simp at h
  | cons x l ih =>
    rw [List.map_cons, List.nodup_cons] at nd
    have mem : ∀ y ∈ l, y.1 ∈ l.map (·.1) := fun y hy => List.mem_map.mpr ⟨y, hy, rfl⟩
    cases i with
    | zero =>
      simp at h
      subst h
      intro p hp e
      rcases List.mem_cons.mp hp with rfl | hp
      · rfl
      · exact absurd (by rw [← e]; exact mem p hp) nd.1
    | succ i =>
      have h' : l[i]? = some q := by simpa using h
      intro p hp e
      rcases List.mem_cons.mp hp with rfl | hp
      · exact absurd (by rw [e]; exact mem q (List.mem_of_getElem? h')) nd.1
      · exact ih nd.2 i h' p hp e
/-- the law's own beginning: the script stands, nothing else -/
theorem scr_start {K : PySem.W.Frag} {cl : Cl} {H : Hp} {a : Addr} {ns : List Int} {w : List D → (D → Prop) → EK → Prop} {E : XK} (tabs : LamX.Tabs cl.tabs H) (Ha : SqL K H a (ns.map V.int)) (h : w [.scr] (fun d => d = .bl true) noEx) : spN K cl w [.ref a] H (fun v _ => v = .bl true) E := by
  have key : ∃ B, Cln B H ∧ SqL K B a (ns.map V.int) := by
    have one : ∀ o : HO, H a = some o → NoMk (some o) → (∀ ps, o ≠ .tbl ps) → Cln (fun b => if b = a then H a else none) H := fun o e nm nt => by
      refine ⟨fun b o' hb _ => ?_, fun b i j hb => ?_, fun b ps hb => ?_⟩
      · by_cases z : b = a
        · subst z
          simpa using hb
        · rw [if_neg z] at hb; cases hb
      · by_cases z : b = a
        · subst z
          rw [if_pos rfl, e] at hb
          exact absurd hb (nm i j)
        · rw [if_neg z] at hb; cases hb
      · by_cases z : b = a
        · subst z
          rw [if_pos rfl, e] at hb
          cases hb
          exact nt ps rfl
        · rw [if_neg z] at hb; cases hb
    rcases Ha with (z | ⟨o, z⟩) | z
    · exact ⟨_, one _ z (fun _ _ q => nomatch q) (fun _ q => nomatch q), .inl (.inl (by simpa using z))⟩
    · exact ⟨_, one _ z (fun _ _ q => nomatch q) (fun _ q => nomatch q), .inl (.inr ⟨o, by simpa using z⟩)⟩
    · exact ⟨fun _ => none, ⟨(fun _ _ q => nomatch q), (fun _ _ _ q => nomatch q), (fun _ _ q => nomatch q)⟩, .inr z⟩
  obtain ⟨B, hB, hs⟩ := key
  refine ⟨B, [.scr], _, hB, tabs, .one (.scr hs), h, fun d hd B' H' v x r => ?_⟩
  subst hd
  cases r
  rfl
end Dl
set_option maxRecDepth 100000
set_option maxHeartbeats 0
namespace K40
open PySem PySem.Spec PyProof.Rows L2 Dl
def atN : Nat → He.Defn
  | 1 => ("orders_of", none)
  | 2 => ("own_sizes", none)
  | 3 => ("sizes_by_group", none)
  | 4 => ("is_needless", none)
  | 5 => ("needless_sizes", none)
  | 7 => ("renamings_of", none)
  | 8 => ("after_another", none)
  | 9 => ("World", some "__init__")
  | 10 => ("World", some "_allows")
  | 14 => ("World", some "then")
  | 15 => ("World", some "inverse")
  | 17 => ("carried_group", none)
  | 18 => ("with_powers", none)
  | 19 => ("grown_groups", none)
  | 20 => ("all_groups", none)
  | 21 => ("holds_all", none)
  | 22 => ("classes_from", none)
  | 23 => ("Lattice", some "__init__")
  | 28 => ("Lattice", some "held")
  | 32 => ("Lattice", some "ratio")
  | 33 => ("joined_sizes", none)
  | 34 => ("_law_pool", none)
  | 35 => ("_law_take", none)
  | 36 => ("_law_held", none)
  | 37 => ("_law_sums", none)
  | 38 => ("_law_reaches", none)
  | 39 => ("_law_world", none)
  | 40 => ("_law_size", none)
  | 41 => ("_law_needless", none)
  | 42 => ("_law_needless_fits", none)
  | 43 => ("_law_lot", none)
  | 44 => ("_law_joined", none)
  | 45 => ("law", none)
  | _ => ("", none)
abbrev fF (K : PySem.W.Frag) (n : Nat) : Addr := He.fAd K (atN n)
abbrev cdF (K : PySem.W.Frag) (n : Nat) : Addr := He.codeOf K (atN n)
abbrev tbF (K : PySem.W.Frag) (n : Nat) : Addr := He.tabOf K (cdF K n)
abbrev lamL (K : PySem.W.Frag) : List (Addr × Str) := [(tbF K 20, (("all_groups" : Str) ++ ".<locals>.") ++ "<lambda>")] 
abbrev clF (K : PySem.W.Frag) : Cl := ⟨fun n => He.ga K (match n with | 0 => "World" | 1 => "Lattice" | _ => ""), lamL K, none⟩
theorem nd_of {K : PySem.W.Frag} (h : decide ((tfs.map fun p => (He.cT K p).2).Nodup) = true) : ((lamL K).map (·.1)).Nodup := of_decide_eq_true h
section
variable {K : PySem.W.Frag} {w : World} {h : Heap} {mg : Str → Option Value}
theorem txt_of (KX : K.In h) (GX : h.Ns mainGlobals mg) (c : He.SaysX fas fns [] tfs exs w h K) : ∃ fd : Nat → FuncData, Txt K mg (clF K) (fF K) fd (cdF K) (tbF K) := by
  obtain ⟨fd1, h1⟩ := c.t.d.def_ 14 rfl
  obtain ⟨fd2, h2⟩ := c.t.d.def_ 23 rfl
  obtain ⟨fd3, h3⟩ := c.t.d.def_ 24 rfl
  obtain ⟨fd4, h4⟩ := c.t.d.def_ 25 rfl
  obtain ⟨fd5, h5⟩ := c.t.d.def_ 26 rfl
  obtain ⟨fd7, h7⟩ := c.t.d.def_ 15 rfl
  obtain ⟨fd8, h8⟩ := c.t.d.def_ 16 rfl
  obtain ⟨fd9, h9⟩ := c.t.d.def_ 17 rfl
  obtain ⟨fd10, h10⟩ := c.t.d.def_ 13 rfl
  obtain ⟨fd14, h14⟩ := c.t.d.def_ 2 rfl
  obtain ⟨fd15, h15⟩ := c.t.d.def_ 4 rfl
  obtain ⟨fd17, h17⟩ := c.t.d.def_ 5 rfl
  obtain ⟨fd18, h18⟩ := c.t.d.def_ 3 rfl
  obtain ⟨fd19, h19⟩ := c.t.d.def_ 6 rfl
  obtain ⟨fd20, h20⟩ := c.t.d.def_ 7 rfl
  obtain ⟨fd21, h21⟩ := c.t.d.def_ 8 rfl
  obtain ⟨fd22, h22⟩ := c.t.d.def_ 1 rfl
  obtain ⟨fd23, h23⟩ := c.t.d.def_ 9 rfl
  obtain ⟨fd28, h28⟩ := c.t.d.def_ 21 rfl
  obtain ⟨fd32, h32⟩ := c.t.d.def_ 22 rfl
  obtain ⟨fd33, h33⟩ := c.t.d.def_ 30 rfl
  obtain ⟨fd34, h34⟩ := c.t.d.def_ 0 rfl
  obtain ⟨fd35, h35⟩ := c.t.d.def_ 10 rfl
  obtain ⟨fd36, h36⟩ := c.t.d.def_ 29 rfl
  obtain ⟨fd37, h37⟩ := c.t.d.def_ 18 rfl
  obtain ⟨fd38, h38⟩ := c.t.d.def_ 19 rfl
  obtain ⟨fd39, h39⟩ := c.t.d.def_ 28 rfl
  obtain ⟨fd40, h40⟩ := c.t.d.def_ 11 rfl
  obtain ⟨fd41, h41⟩ := c.t.d.def_ 20 rfl
  obtain ⟨fd42, h42⟩ := c.t.d.def_ 27 rfl
  obtain ⟨fd43, h43⟩ := c.t.d.def_ 12 rfl
  obtain ⟨fd44, h44⟩ := c.t.d.def_ 31 rfl
  obtain ⟨fd45, h45⟩ := c.t.d.def_ 32 rfl
  obtain ⟨e_World_LARGEST, m0⟩ := He.ba c.more
  obtain ⟨e_World_MOST, m1⟩ := He.ba m0
  obtain ⟨e_factorial, e_nodup⟩ := He.ba m1
  refine ⟨fun n => match n with | 1 => fd1 | 2 => fd2 | 3 => fd3 | 4 => fd4 | 5 => fd5 | 7 => fd7 | 8 => fd8 | 9 => fd9 | 10 => fd10 | 14 => fd14 | 15 => fd15 | 17 => fd17 | 18 => fd18 | 19 => fd19 | 20 => fd20 | 21 => fd21 | 22 => fd22 | 23 => fd23 | 28 => fd28 | 32 => fd32 | 33 => fd33 | 34 => fd34 | 35 => fd35 | 36 => fd36 | 37 => fd37 | 38 => fd38 | 39 => fd39 | 40 => fd40 | 41 => fd41 | 42 => fd42 | 43 => fd43 | 44 => fd44 | 45 => fd45 | _ => fd1, ?_⟩
  exact {
    F34 := funT_of h34
    b34 := FunD.bindsN h34 fun _ _ _ _ _ _ us hl => match us, hl with | [_, _], _ => rfl
    kp34 := h34.kp
    g__law_pool := He.glo_ok KX GX (c.t.d.fact 0 (f := .glo "_law_pool") rfl)
    F22 := funT_of h22
    b22 := FunD.bindsN h22 fun _ _ _ _ _ _ us hl => match us, hl with | [_], _ => rfl
    kp22 := h22.kp
    g_classes_from := He.glo_ok KX GX (c.t.d.fact 1 (f := .glo "classes_from") rfl)
    F14 := funT_of h14
    b14 := FunD.bindsN h14 fun _ _ _ _ _ _ us hl => match us, hl with | [_, _, _], _ => rfl
    kp14 := h14.kp
    me14 := He.meth_ok (c.t.d.fact 2 (f := .meth "World" "then") rfl)
    F18 := funT_of h18
    b18 := FunD.bindsN h18 fun _ _ _ _ _ _ us hl => match us, hl with | [_, _, _], _ => rfl
    kp18 := h18.kp
    g_with_powers := He.glo_ok KX GX (c.t.d.fact 3 (f := .glo "with_powers") rfl)
    F15 := funT_of h15
    b15 := FunD.bindsN h15 fun _ _ _ _ _ _ us hl => match us, hl with | [_, _], _ => rfl
    kp15 := h15.kp
    me15 := He.meth_ok (c.t.d.fact 4 (f := .meth "World" "inverse") rfl)
    F17 := funT_of h17
    b17 := FunD.bindsN h17 fun _ _ _ _ _ _ us hl => match us, hl with | [_, _, _], _ => rfl
    kp17 := h17.kp
    g_carried_group := He.glo_ok KX GX (c.t.d.fact 5 (f := .glo "carried_group") rfl)
    F19 := funT_of h19
    b19 := FunD.bindsN h19 fun _ _ _ _ _ _ us hl => match us, hl with | [_, _], _ => rfl
    kp19 := h19.kp
    g_grown_groups := He.glo_ok KX GX (c.t.d.fact 6 (f := .glo "grown_groups") rfl)
    F20 := funC_of rfl h20
    b20 := FunD.bindsN h20 fun _ _ _ _ _ _ us hl => match us, hl with | [_], _ => rfl
    kp20 := h20.kp
    in20 := by simp [clF]
    one20 := one_at (l := lamL K) (nd_of e_nodup) 0 rfl
    g_all_groups := He.glo_ok KX GX (c.t.d.fact 7 (f := .glo "all_groups") rfl)
    F21 := funT_of h21
    b21 := FunD.bindsN h21 fun _ _ _ _ _ _ us hl => match us, hl with | [_, _], _ => rfl
    kp21 := h21.kp
    g_holds_all := He.glo_ok KX GX (c.t.d.fact 8 (f := .glo "holds_all") rfl)
    F23 := funT_of h23
    b23 := FunD.bindsN h23 fun _ _ _ _ _ _ us hl => match us, hl with | [_, _], _ => rfl
    kp23 := h23.kp
    mk_Lattice := He.mkr_ok (c.t.d.fact 36 (f := .mkr "Lattice") rfl)
    g_Lattice := He.glo_ok KX GX (c.t.d.fact 34 (f := .glo "Lattice") rfl)
    F35 := funT_of h35
    b35 := FunD.bindsN h35 fun _ _ _ _ _ _ us hl => match us, hl with | [_, _], _ => rfl
    kp35 := h35.kp
    g__law_take := He.glo_ok KX GX (c.t.d.fact 9 (f := .glo "_law_take") rfl)
    F40 := funT_of h40
    b40 := FunD.bindsN h40 fun _ _ _ _ _ _ us hl => match us, hl with | [_], _ => rfl
    kp40 := h40.kp
    g__law_size := He.glo_ok KX GX (c.t.d.fact 10 (f := .glo "_law_size") rfl)
    F43 := funT_of h43
    b43 := FunD.bindsN h43 fun _ _ _ _ _ _ us hl => match us, hl with | [_], _ => rfl
    kp43 := h43.kp
    g__law_lot := He.glo_ok KX GX (c.t.d.fact 11 (f := .glo "_law_lot") rfl)
    F10 := funT_of h10
    b10 := FunD.bindsN h10 fun _ _ _ _ _ _ us hl => match us, hl with | [_, _], _ => rfl
    kp10 := h10.kp
    me10 := He.meth_ok (c.t.d.fact 12 (f := .meth "World" "_allows") rfl)
    F1 := funT_of h1
    b1 := FunD.bindsN h1 fun _ _ _ _ _ _ us hl => match us, hl with | [_], _ => rfl
    kp1 := h1.kp
    g_orders_of := He.glo_ok KX GX (c.t.d.fact 13 (f := .glo "orders_of") rfl)
    F7 := funT_of h7
    b7 := FunD.bindsN h7 fun _ _ _ _ _ _ us hl => match us, hl with | [_], _ => rfl
    kp7 := h7.kp
    g_renamings_of := He.glo_ok KX GX (c.t.d.fact 14 (f := .glo "renamings_of") rfl)
    F8 := funT_of h8
    b8 := FunD.bindsN h8 fun _ _ _ _ _ _ us hl => match us, hl with | [_, _], _ => rfl
    kp8 := h8.kp
    g_after_another := He.glo_ok KX GX (c.t.d.fact 15 (f := .glo "after_another") rfl)
    F9 := funT_of h9
    b9 := FunD.bindsN h9 fun _ _ _ _ _ _ us hl => match us, hl with | [_, _], _ => rfl
    kp9 := h9.kp
    mk_World := He.mkr_ok (c.t.d.fact 33 (f := .mkr "World") rfl)
    g_World := He.glo_ok KX GX (c.t.d.fact 31 (f := .glo "World") rfl)
    F37 := funT_of h37
    b37 := FunD.bindsN h37 fun _ _ _ _ _ _ us hl => match us, hl with | [_], _ => rfl
    kp37 := h37.kp
    g__law_sums := He.glo_ok KX GX (c.t.d.fact 16 (f := .glo "_law_sums") rfl)
    F38 := funT_of h38
    b38 := FunD.bindsN h38 fun _ _ _ _ _ _ us hl => match us, hl with | [_, _], _ => rfl
    kp38 := h38.kp
    g__law_reaches := He.glo_ok KX GX (c.t.d.fact 17 (f := .glo "_law_reaches") rfl)
    F41 := funT_of h41
    b41 := FunD.bindsN h41 fun _ _ _ _ _ _ us hl => match us, hl with | [_, _], _ => rfl
    kp41 := h41.kp
    g__law_needless := He.glo_ok KX GX (c.t.d.fact 18 (f := .glo "_law_needless") rfl)
    F28 := funT_of h28
    b28 := FunD.bindsN h28 fun _ _ _ _ _ _ us hl => match us, hl with | [_, _], _ => rfl
    kp28 := h28.kp
    me28 := He.meth_ok (c.t.d.fact 19 (f := .meth "Lattice" "held") rfl)
    F32 := funT_of h32
    b32 := FunD.bindsN h32 fun _ _ _ _ _ _ us hl => match us, hl with | [_, _, _], _ => rfl
    kp32 := h32.kp
    me32 := He.meth_ok (c.t.d.fact 20 (f := .meth "Lattice" "ratio") rfl)
    F2 := funT_of h2
    b2 := FunD.bindsN h2 fun _ _ _ _ _ _ us hl => match us, hl with | [_, _, _], _ => rfl
    kp2 := h2.kp
    g_own_sizes := He.glo_ok KX GX (c.t.d.fact 21 (f := .glo "own_sizes") rfl)
    F3 := funT_of h3
    b3 := FunD.bindsN h3 fun _ _ _ _ _ _ us hl => match us, hl with | [_, _, _], _ => rfl
    kp3 := h3.kp
    g_sizes_by_group := He.glo_ok KX GX (c.t.d.fact 22 (f := .glo "sizes_by_group") rfl)
    F4 := funT_of h4
    b4 := FunD.bindsN h4 fun _ _ _ _ _ _ us hl => match us, hl with | [_, _, _], _ => rfl
    kp4 := h4.kp
    g_is_needless := He.glo_ok KX GX (c.t.d.fact 23 (f := .glo "is_needless") rfl)
    F5 := funT_of h5
    b5 := FunD.bindsN h5 fun _ _ _ _ _ _ us hl => match us, hl with | [_, _], _ => rfl
    kp5 := h5.kp
    g_needless_sizes := He.glo_ok KX GX (c.t.d.fact 24 (f := .glo "needless_sizes") rfl)
    F42 := funT_of h42
    b42 := FunD.bindsN h42 fun _ _ _ _ _ _ us hl => match us, hl with | [_, _, _], _ => rfl
    kp42 := h42.kp
    g__law_needless_fits := He.glo_ok KX GX (c.t.d.fact 25 (f := .glo "_law_needless_fits") rfl)
    F39 := funT_of h39
    b39 := FunD.bindsN h39 fun _ _ _ _ _ _ us hl => match us, hl with | [_], _ => rfl
    kp39 := h39.kp
    g__law_world := He.glo_ok KX GX (c.t.d.fact 26 (f := .glo "_law_world") rfl)
    F36 := funT_of h36
    b36 := FunD.bindsN h36 fun _ _ _ _ _ _ us hl => match us, hl with | [_], _ => rfl
    kp36 := h36.kp
    g__law_held := He.glo_ok KX GX (c.t.d.fact 27 (f := .glo "_law_held") rfl)
    F33 := funT_of h33
    kp33 := h33.kp
    g_joined_sizes := He.glo_ok KX GX (c.t.d.fact 28 (f := .glo "joined_sizes") rfl)
    F44 := funT_of h44
    b44 := FunD.bindsN h44 fun _ _ _ _ _ _ us hl => match us, hl with | [_], _ => rfl
    kp44 := h44.kp
    g__law_joined := He.glo_ok KX GX (c.t.d.fact 29 (f := .glo "_law_joined") rfl)
    F45 := funT_of h45
    b45 := FunD.bindsN h45 fun _ _ _ _ _ _ us hl => match us, hl with | [_], _ => rfl
    kp45 := h45.kp
    g_law := He.glo_ok KX GX (c.t.d.fact 30 (f := .glo "law") rfl)
    cl_World := He.cls_ok (c.t.d.fact 32 (f := .cls "World") rfl)
    n_World_sizes := He.noat_ok (c.t.d.fact 37 (f := .noat "World" "sizes") rfl)
    n_World_things := He.noat_ok (c.t.d.fact 38 (f := .noat "World" "things") rfl)
    n_World_renamings := He.noat_ok (c.t.d.fact 39 (f := .noat "World" "renamings") rfl)
    n_World_order := He.noat_ok (c.t.d.fact 40 (f := .noat "World" "order") rfl)
    n_World__numbers := He.noat_ok (c.t.d.fact 41 (f := .noat "World" "_numbers") rfl)
    n_World__table := He.noat_ok (c.t.d.fact 42 (f := .noat "World" "_table") rfl)
    n_World__inverses := He.noat_ok (c.t.d.fact 43 (f := .noat "World" "_inverses") rfl)
    k_World_LARGEST := con_of e_World_LARGEST
    k_World_MOST := con_of e_World_MOST
    cl_Lattice := He.cls_ok (c.t.d.fact 35 (f := .cls "Lattice") rfl)
    n_Lattice_world := He.noat_ok (c.t.d.fact 44 (f := .noat "Lattice" "world") rfl)
    n_Lattice_groups := He.noat_ok (c.t.d.fact 45 (f := .noat "Lattice" "groups") rfl)
    n_Lattice__numbers := He.noat_ok (c.t.d.fact 46 (f := .noat "Lattice" "_numbers") rfl)
    n_Lattice__carries := He.noat_ok (c.t.d.fact 47 (f := .noat "Lattice" "_carries") rfl)
    n_Lattice_classes := He.noat_ok (c.t.d.fact 48 (f := .noat "Lattice" "classes") rfl)
    n_Lattice__places := He.noat_ok (c.t.d.fact 49 (f := .noat "Lattice" "_places") rfl)
    n_Lattice__holdings := He.noat_ok (c.t.d.fact 50 (f := .noat "Lattice" "_holdings") rfl)
    n_Lattice__below := He.noat_ok (c.t.d.fact 51 (f := .noat "Lattice" "_below") rfl)
    z_abs := He.free_ok KX GX (c.t.d.fact 52 (f := .free "abs") rfl)
    z_all := He.free_ok KX GX (c.t.d.fact 53 (f := .free "all") rfl)
    z_any := He.free_ok KX GX (c.t.d.fact 54 (f := .free "any") rfl)
    z_enumerate := He.free_ok KX GX (c.t.d.fact 55 (f := .free "enumerate") rfl)
    z_int := He.free_ok KX GX (c.t.d.fact 56 (f := .free "int") rfl)
    z_len := He.free_ok KX GX (c.t.d.fact 57 (f := .free "len") rfl)
    z_list := He.free_ok KX GX (c.t.d.fact 58 (f := .free "list") rfl)
    z_max := He.free_ok KX GX (c.t.d.fact 59 (f := .free "max") rfl)
    z_min := He.free_ok KX GX (c.t.d.fact 60 (f := .free "min") rfl)
    z_range := He.free_ok KX GX (c.t.d.fact 61 (f := .free "range") rfl)
    z_repr := He.free_ok KX GX (c.t.d.fact 62 (f := .free "repr") rfl)
    z_set := He.free_ok KX GX (c.t.d.fact 63 (f := .free "set") rfl)
    z_sorted := He.free_ok KX GX (c.t.d.fact 64 (f := .free "sorted") rfl)
    z_sum := He.free_ok KX GX (c.t.d.fact 65 (f := .free "sum") rfl)
    z_tuple := He.free_ok KX GX (c.t.d.fact 66 (f := .free "tuple") rfl)
    q_factorial := PySem.W.mg_of KX GX (He.eqO_ok e_factorial)
  }
end
end K40
set_option maxRecDepth 100000
set_option maxHeartbeats 4000000
/-! typed readings of the mirrors: lists of natural numbers -/
namespace Dl
open PySem PySem.Spec PyProof.Rows L2
abbrev nts (l : List Nat) : List D := l.map fun n => D.int (.ofNat n)
abbrev rows (P : List (List Nat)) : List D := P.map fun r => D.lst (nts r)
abbrev trows (P : List (List Nat)) : List D := P.map fun r => D.tup (nts r)
section
variable {α : Type} {bind : D → Rho → Option Rho} {tt : Rho → Option Bool} {te : Rho → Option D} {ρ : Rho} {gi : Rho → Option (List D)} {vs : List Nat} {e : α → D} {p : α → Bool} {h : α → D} {xs : List α}
/-- a comprehension over typed items -/
theorem lcRun_map : ∀ {xs : List α}, (∀ x ∈ xs, ∃ ρ1, bind (e x) ρ = some ρ1 ∧ tt ρ1 = some (p x) ∧ (p x = true → te ρ1 = some (h x))) → lcRun bind tt te ρ (xs.map e) = some ((xs.filter p).map h)
  | [], _ => rfl
  | x :: xs, hx => by
    obtain ⟨ρ1, h1, h2, h3⟩ := hx x List.mem_cons_self
    have ih := lcRun_map (xs := xs) fun y hy => hx y (List.mem_cons_of_mem _ hy)
    rw [List.map_cons]
    unfold lcRun
    rw [h1, Option.bind_some, h2, Option.bind_some]
    cases hp : p x with
    | true =>
      rw [if_pos rfl, h3 hp, Option.bind_some, ih, Option.bind_some, List.filter_cons_of_pos hp]
      rfl
    | false =>
      rw [if_neg (by decide), ih, List.filter_cons_of_neg (by rw [hp]; decide)]
theorem gLc_map (hi : gi ρ = some (xs.map e)) (hl : xs.length ≤ top) (hx : ∀ x ∈ xs, ∃ ρ1, bind (e x) (wipeR ρ vs) = some ρ1 ∧ tt ρ1 = some (p x) ∧ (p x = true → te ρ1 = some (h x))) : gLc gi bind tt te vs ρ = some (.lst ((xs.filter p).map h)) := by
  unfold gLc
  rw [hi, Option.bind_some, List.length_map, if_pos hl, lcRun_map hx]
  rfl
/-- without a test -/
theorem gLc_all (hi : gi ρ = some (xs.map e)) (hl : xs.length ≤ top) (hx : ∀ x ∈ xs, ∃ ρ1, bind (e x) (wipeR ρ vs) = some ρ1 ∧ te ρ1 = some (h x)) : gLc gi bind (fun _ => some true) te vs ρ = some (.lst (xs.map h)) := by
  rw [gLc_map (p := fun _ => true) hi hl fun x hx' => by obtain ⟨ρ1, h1, h2⟩ := hx x hx'; exact ⟨ρ1, h1, rfl, fun _ => h2⟩, List.filter_eq_self.mpr fun _ _ => rfl]
/-- a loop by an invariant -/
theorem forRun_I {body : M} (I : List α → Rho → Prop) : ∀ (xs pre : List α) (ρ : Rho), I pre ρ → (∀ pre x ρ, I pre ρ → x ∈ xs → ∃ ρ1 ρ2, bind (e x) ρ = some ρ1 ∧ body ρ1 = some (.nx ρ2) ∧ I (pre ++ [x]) ρ2) →
    ∃ ρ', forRun bind body ρ (xs.map e) = some (.nx ρ') ∧ I (pre ++ xs) ρ'
  | [], pre, ρ, h0, _ => ⟨ρ, rfl, by rw [List.append_nil]; exact h0⟩
  | x :: xs, pre, ρ, h0, hs => by
    obtain ⟨ρ1, ρ2, h1, h2, h3⟩ := hs pre x ρ h0 List.mem_cons_self
    obtain ⟨ρ', h4, h5⟩ := forRun_I I xs (pre ++ [x]) ρ2 h3 fun pre y ρ hI hy => hs pre y ρ hI (List.mem_cons_of_mem _ hy)
    refine ⟨ρ', ?_, by rw [List.append_assoc] at h5; exact h5⟩
    rw [List.map_cons]
    unfold forRun
    rw [h1, Option.bind_some, h2, Option.bind_some]
    exact h4
/-- the same, with what was gone through and what is to come -/
theorem forRun_P {body : M} {all : List α} (I : List α → Rho → Prop) (hs : ∀ pre x post ρ, all = pre ++ x :: post → I pre ρ → ∃ ρ1 ρ2, bind (e x) ρ = some ρ1 ∧ body ρ1 = some (.nx ρ2) ∧ I (pre ++ [x]) ρ2) : ∀ (xs pre : List α) (ρ : Rho), all = pre ++ xs → I pre ρ →
    ∃ ρ', forRun bind body ρ (xs.map e) = some (.nx ρ') ∧ I all ρ'
  | [], pre, ρ, ha, h0 => ⟨ρ, rfl, by rw [ha, List.append_nil]; exact h0⟩
  | x :: xs, pre, ρ, ha, h0 => by
    obtain ⟨ρ1, ρ2, h1, h2, h3⟩ := hs pre x xs ρ ha h0
    obtain ⟨ρ', h4, h5⟩ := forRun_P I hs xs (pre ++ [x]) ρ2 (by rw [ha, List.append_assoc]; rfl) h3
    refine ⟨ρ', ?_, h5⟩
    rw [List.map_cons]
    unfold forRun
    rw [h1, Option.bind_some, h2, Option.bind_some]
    exact h4
def outOf {α : Type} (r : α → D) (ρ : Rho) : Option α → Out
  | some x => .rt (r x)
  | none => .nx ρ
/-- a loop that returns at the first item that p takes -/
theorem forRun_find {body : M} {r : α → D} (I : Rho → Prop) : ∀ (xs : List α) (ρ : Rho), I ρ → (∀ x ρ, I ρ → x ∈ xs → ∃ ρ1, bind (e x) ρ = some ρ1 ∧ (p x = true → body ρ1 = some (.rt (r x))) ∧ (p x = false → ∃ ρ2, body ρ1 = some (.nx ρ2) ∧ I ρ2)) →
    ∃ ρ', I ρ' ∧ forRun bind body ρ (xs.map e) = some (outOf r ρ' (xs.find? p))
  | [], ρ, h0, _ => ⟨ρ, h0, rfl⟩
  | x :: xs, ρ, h0, hs => by
    obtain ⟨ρ1, h1, h2, h3⟩ := hs x ρ h0 List.mem_cons_self
    rw [List.map_cons]
    unfold forRun
    rw [h1, Option.bind_some]
    cases hp : p x with
    | true =>
      refine ⟨ρ, h0, ?_⟩
      rw [h2 hp, Option.bind_some, List.find?_cons_of_pos hp]
      rfl
    | false =>
      obtain ⟨ρ2, h4, h5⟩ := h3 hp
      obtain ⟨ρ', h6, h7⟩ := forRun_find I xs ρ2 h5 fun y ρ hI hy => hs y ρ hI (List.mem_cons_of_mem _ hy)
      refine ⟨ρ', h6, ?_⟩
      rw [h4, Option.bind_some, List.find?_cons_of_neg (by rw [hp]; decide)]
      exact h7
end
/-! ### numbers -/
theorem natIn_nts (v : Nat) : ∀ l : List Nat, natIn v (nts l) = some (l.contains v)
  | [] => rfl
  | x :: l => by
    show natIn v (D.int (.ofNat x) :: nts l) = _
    unfold natIn
    rw [natIn_nts v l, List.contains_cons]
    congr 2
    cases hb : Nat.beq x v with
    | true => rw [Nat.eq_of_beq_eq_true hb]; simp
    | false =>
      have : ¬ v = x := fun z => by subst z; simp [Nat.beq_refl] at hb
      simp [this]
theorem quick_nts (v : Nat) (l : List Nat) : quick (.int (.ofNat v)) (nts l) = some (l.contains v) := natIn_nts v l
theorem in_lst (neg : Bool) (v : Nat) (l : List Nat) : fIn neg (.int (.ofNat v)) (.lst (nts l)) = some (.bl (if neg then !(l.contains v) else l.contains v)) := by
  show (inB _ _).map _ = _
  unfold inB
  rw [quick_nts]
  rfl
theorem in_tup (neg : Bool) (v : Nat) (l : List Nat) : fIn neg (.int (.ofNat v)) (.tup (nts l)) = some (.bl (if neg then !(l.contains v) else l.contains v)) := by
  show (inT _ _).map _ = _
  unfold inT
  rw [quick_nts]
  rfl
theorem rng0 (n : Nat) : rngD 0 n = nts (List.range n) := by
  unfold rngD nts
  apply List.map_congr_left
  intro i _
  show D.int (0 + (i : Int)) = _
  rw [Int.zero_add]
  rfl
theorem rng_nts (a n : Nat) : rngD (.ofNat a) n = nts (List.range' a n) := by
  unfold rngD nts
  rw [List.range'_eq_map_range, List.map_map]
  rfl
theorem toInts_nts : ∀ l : List Nat, toInts (nts l) = some (l.map Int.ofNat)
  | [] => rfl
  | x :: l => by
    show toInts (D.int (.ofNat x) :: nts l) = _
    unfold toInts
    rw [toInts_nts l]
    rfl
theorem at_nts {l : List Nat} {i n : Nat} (h : l[i]? = some n) : (nts l)[i]? = some (.int (.ofNat n)) := by unfold nts; rw [List.getElem?_map, h]; rfl
theorem at_rows {l : List (List Nat)} {i : Nat} {r : List Nat} (h : l[i]? = some r) : (rows l)[i]? = some (.lst (nts r)) := by unfold rows; rw [List.getElem?_map, h]; rfl
theorem at_trows {l : List (List Nat)} {i : Nat} {r : List Nat} (h : l[i]? = some r) : (trows l)[i]? = some (.tup (nts r)) := by unfold trows; rw [List.getElem?_map, h]; rfl
/-! ### repr of numbers in a row -/
theorem oks_nts : ∀ (n : Nat) (l : List Nat), D.oks n (nts l) = true
  | n, [] => by cases n <;> simp [D.oks]
  | n, x :: l => by
    show D.oks n (D.int (.ofNat x) :: nts l) = true
    unfold D.oks
    rw [oks_nts n l]
    cases n <;> simp [D.ok]
theorem pys_nts (l : List Nat) : D.pys (nts l) = l.map fun n => PyData.int (.ofNat n) := by
  rw [pys_map, nts, List.map_map]
  apply List.map_congr_left
  intro x _
  show D.py (.int (.ofNat x)) = _
  simp [D.py]
theorem show_nts : ∀ {l : List Nat}, (∀ x ∈ l, x < 1000) → PyData.showableAll (l.map fun n => PyData.int (.ofNat n)) = true
  | [], _ => by simp [PyData.showableAll]
  | x :: l, h => by
    have h0 := h x List.mem_cons_self
    rw [List.map_cons]
    unfold PyData.showableAll PyData.showable
    rw [show_nts fun y hy => h y (List.mem_cons_of_mem _ hy), Bool.and_true]
    refine decide_eq_true ?_
    show x.log2 < 1920
    by_cases hz : x = 0
    · subst hz; decide
    · exact Nat.lt_of_lt_of_le ((Nat.log2_lt hz).mpr (Nat.lt_of_lt_of_le h0 (by decide : 1000 ≤ 2 ^ 10))) (by decide)
theorem dict_nts : ∀ l : List Nat, PyData.hasDictAll (l.map fun n => PyData.int (.ofNat n)) = false
  | [] => by simp [PyData.hasDictAll]
  | x :: l => by
    rw [List.map_cons]
    unfold PyData.hasDictAll PyData.hasDict
    rw [dict_nts l]
    rfl
theorem dep_nts (l : List Nat) : PyData.depthAll (l.map fun n => PyData.int (.ofNat n)) = 0 := by
  have := depth_ints (l.map Int.ofNat)
  rw [List.map_map] at this
  exact this
theorem len_int {x : Nat} (h : x < 1000) : (PyData.shown (.int (.ofNat x))).length ≤ 4 := by
  have key : ∀ x : Fin 1000, (PyData.shown (.int (.ofNat x.val))).length ≤ 4 := by decide +kernel
  exact key ⟨x, h⟩
theorem piled_nts : ∀ {l : List Nat}, (∀ x ∈ l, x < 1000) → ∀ (k : Nat) (acc : Str), (textFrom k acc (PyData.shownAll (l.map fun n => PyData.int (.ofNat n)))).length ≤ acc.length + 6 * l.length
  | [], _, k, acc => by simp [PyData.shownAll, textFrom]
  | x :: l, h, k, acc => by
    rw [List.map_cons]
    unfold PyData.shownAll textFrom
    have ih := piled_nts (l := l) (fun y hy => h y (List.mem_cons_of_mem _ hy)) (k + 1) (acc ++ (if k > 0 then ", " else "" : String) ++ PyData.shown (.int (.ofNat x)))
    have h1 := len_int (h x List.mem_cons_self)
    have h2 : ((if k > 0 then ", " else "" : String) : Str).length ≤ 2 := by split <;> decide
    rw [Str.length_append, Str.length_append] at ih
    rw [List.length_cons]
    omega
theorem join_nts : ∀ {l : List Nat}, (∀ x ∈ l, x < 1000) → (Str.join ", " (PyData.shownAll (l.map fun n => PyData.int (.ofNat n)))).length ≤ 6 * l.length
  | [], _ => by simp [PyData.shownAll, Str.join]; decide
  | [x], h => by
    have h1 := len_int (h x List.mem_cons_self)
    simp only [List.map_cons, List.map_nil, PyData.shownAll, Str.join, List.length_cons, List.length_nil]
    omega
  | x :: y :: l, h => by
    have ih := join_nts (l := y :: l) fun z hz => h z (List.mem_cons_of_mem _ hz)
    have h1 := len_int (h x List.mem_cons_self)
    simp only [List.map_cons, PyData.shownAll, Str.join, List.length_cons] at ih ⊢
    rw [Str.length_append, Str.length_append]
    have h2 : ((", " : String) : Str).length = 2 := by decide
    omega
theorem reprOk_lst {l : List Nat} (h : ∀ x ∈ l, x < 1000) (hl : l.length ≤ 1000) : reprOk (.lst (nts l)) = true := by
  have h8 : D.ok 8 (.lst (nts l)) = true := oks_nts 7 l
  unfold reprOk
  rw [h8, Bool.true_and]
  simp only [D.py, pys_nts, PyData.showable, show_nts h, PyData.hasDict, dict_nts, PyData.depth, dep_nts, PyData.shown, Bool.true_and, Bool.not_false, Bool.and_eq_true, decide_eq_true_eq]
  refine ⟨by omega, ?_⟩
  unfold listText
  rw [Str.length_append]
  have h1 := piled_nts h 0 "["
  have h2 : ((("[" : String) : Str).length) = 1 := by decide
  have h3 : ((("]" : String) : Str).length) = 1 := by decide
  rw [h2] at h1
  rw [h3]
  unfold sizeLine
  omega
theorem reprOk_tup {l : List Nat} (h : ∀ x ∈ l, x < 1000) (hl : l.length ≤ 1000) : reprOk (.tup (nts l)) = true := by
  have h8 : D.ok 8 (.tup (nts l)) = true := oks_nts 7 l
  unfold reprOk
  rw [h8, Bool.true_and]
  simp only [D.py, pys_nts, PyData.showable, show_nts h, PyData.hasDict, dict_nts, PyData.depth, dep_nts, PyData.shown, Bool.true_and, Bool.not_false, Bool.and_eq_true, decide_eq_true_eq]
  refine ⟨by omega, ?_⟩
  unfold tupleText
  rw [Str.length_append, Str.length_append]
  have h1 := join_nts h
  have h2 : ((("(" : String) : Str).length) = 1 := by decide
  have h3 : ∀ b : Bool, (((if b then ",)" else ")" : String) : Str).length) ≤ 2 := by decide
  have h4 := h3 ((PyData.shownAll (l.map fun n => PyData.int (.ofNat n))).length == 1)
  rw [h2]
  unfold sizeLine
  omega
theorem repr_lst {l : List Nat} (h : ∀ x ∈ l, x < 1000) (hl : l.length ≤ 1000) : fRepr [.lst (nts l)] = some (.str (D.lst (nts l)).py.shown) := by
  show (if reprOk (.lst (nts l)) = true then _ else _) = _
  rw [if_pos (reprOk_lst h hl)]
theorem repr_tup {l : List Nat} (h : ∀ x ∈ l, x < 1000) (hl : l.length ≤ 1000) : fRepr [.tup (nts l)] = some (.str (D.tup (nts l)).py.shown) := by
  show (if reprOk (.tup (nts l)) = true then _ else _) = _
  rw [if_pos (reprOk_tup h hl)]
theorem repr_int {n : Nat} (h : n < 1000) : fRepr [.int (.ofNat n)] = some (.str (toString (Int.ofNat n))) := by
  show (if n.log2 < 1920 then _ else _) = _
  refine if_pos ?_
  by_cases hz : n = 0
  · subst hz; decide
  · exact Nat.lt_of_lt_of_le ((Nat.log2_lt hz).mpr (Nat.lt_of_lt_of_le h (by decide : 1000 ≤ 2 ^ 10))) (by decide)
theorem eq_str (x : Str) : fEq (.str x) (.str x) = some (.bl true) := by
  show (some (decide (x = x))).map D.bl = _
  rw [decide_eq_true rfl]
  rfl
theorem ne_str (x : Str) : fNe (.str x) (.str x) = some (.bl false) := by
  show (some (decide (x = x))).map _ = _
  rw [decide_eq_true rfl]
  rfl
end Dl
set_option maxRecDepth 100000
set_option maxHeartbeats 4000000
/-! a world, its lattice -/
namespace Wl
open PySem PySem.Spec PyProof.Rows L2 Dl Mp
/-- L is the lattice of the world of these sizes; gr its groups, be the groups that each holds -/
structure Wor (s : List Nat) (L : D) (gr be : List (List Nat)) : Prop where
  made : ∃ W M, m_World_init [.tup (nts s)] = some W ∧ m_Lattice_init [.obj 0 W.1 W.2] = some M ∧ L = .obj 1 M.1 M.2
  flds : ∃ ns fs, L = .obj 1 ns fs ∧ fldAt ns fs "groups" = some (.tup (trows gr)) ∧ fldAt ns fs "_below" = some (.lst (trows be)) ∧ ns.contains "held" = false ∧ ns.contains "ratio" = false
end Wl
set_option maxRecDepth 100000
set_option maxHeartbeats 0
/-! own_sizes: from the ratios on -/
namespace Wl
open PySem PySem.Spec PyProof.Rows L2 Dl Mp
def oG : Rho → Option D := (gLc (gSeq (gMeth 1 "held" m_Lattice_held (gVar 0) (gCons (gVar 1) gNil))) (kName 6) (gTest (gBin fNe (gVar 6) (gVar 1))) (gMeth 1 "ratio" m_Lattice_ratio (gVar 0) (gCons (gVar 1) (gCons (gVar 6) gNil))) [6])
def oR : M := (mSeq (mOwnN 4 (nCat (gDs mkLst (gCons (gC (.bl true)) gNil)) (gLc (gRng1 (gCons (gVar 2) gNil)) (kName 7) (fun _ => some true) (gC (.bl false)) [7]))) (mSeq (mFor (gRng2 (gCons (gC (.int 1)) (gCons (gBin fAdd (gVar 2) (gC (.int 1))) gNil))) (kName 5) (mPutL 4 (gVar 5) (gDs (onLst fAny) (gCons (gLc (gSeq (gVar 3)) (kName 8) (fun _ => some true) (gAndV (gBin (fCmp fun i j => decide (i ≤ j)) (gVar 8) (gVar 5)) (gIxS (gSqVar 4) (gBin fSub (gVar 5) (gVar 8)))) [8]) gNil)))) (kRet (gLc (gRng2 (gCons (gC (.int 1)) (gCons (gBin fAdd (gVar 2) (gC (.int 1))) gNil))) (kName 5) (gTru (gIxS (gSqVar 4) (gVar 5))) (gVar 5) [5]))))
theorem own_eq : m_own_sizes = kFun 3 6 (mSeq (kSet 3 oG) oR) := rfl
def OwnRow (rs sm : List Nat) : Prop := ∀ (L b : D) (t : Nat), t < 13 → oR [.val L, .val b, .val (.int (.ofNat t)), .val (.lst (nts rs)), .un, .un, .un, .un, .un] = some (.rt (.lst (nts (sm.filter fun s => Nat.ble s t))))
theorem ow0 : OwnRow [] [] := fun L b t ht => match t, ht with | 0, _ => by kernel_rfl | 1, _ => by kernel_rfl | 2, _ => by kernel_rfl | 3, _ => by kernel_rfl | 4, _ => by kernel_rfl | 5, _ => by kernel_rfl | 6, _ => by kernel_rfl | 7, _ => by kernel_rfl | 8, _ => by kernel_rfl | 9, _ => by kernel_rfl | 10, _ => by kernel_rfl | 11, _ => by kernel_rfl | 12, _ => by kernel_rfl | n + 13, h => absurd h (by omega)
theorem ow1 : OwnRow [2] [2, 4, 6, 8, 10, 12] := fun L b t ht => match t, ht with | 0, _ => by kernel_rfl | 1, _ => by kernel_rfl | 2, _ => by kernel_rfl | 3, _ => by kernel_rfl | 4, _ => by kernel_rfl | 5, _ => by kernel_rfl | 6, _ => by kernel_rfl | 7, _ => by kernel_rfl | 8, _ => by kernel_rfl | 9, _ => by kernel_rfl | 10, _ => by kernel_rfl | 11, _ => by kernel_rfl | 12, _ => by kernel_rfl | n + 13, h => absurd h (by omega)
theorem ow2 : OwnRow [3] [3, 6, 9, 12] := fun L b t ht => match t, ht with | 0, _ => by kernel_rfl | 1, _ => by kernel_rfl | 2, _ => by kernel_rfl | 3, _ => by kernel_rfl | 4, _ => by kernel_rfl | 5, _ => by kernel_rfl | 6, _ => by kernel_rfl | 7, _ => by kernel_rfl | 8, _ => by kernel_rfl | 9, _ => by kernel_rfl | 10, _ => by kernel_rfl | 11, _ => by kernel_rfl | 12, _ => by kernel_rfl | n + 13, h => absurd h (by omega)
theorem ow3 : OwnRow [4, 2] [2, 4, 6, 8, 10, 12] := fun L b t ht => match t, ht with | 0, _ => by kernel_rfl | 1, _ => by kernel_rfl | 2, _ => by kernel_rfl | 3, _ => by kernel_rfl | 4, _ => by kernel_rfl | 5, _ => by kernel_rfl | 6, _ => by kernel_rfl | 7, _ => by kernel_rfl | 8, _ => by kernel_rfl | 9, _ => by kernel_rfl | 10, _ => by kernel_rfl | 11, _ => by kernel_rfl | 12, _ => by kernel_rfl | n + 13, h => absurd h (by omega)
theorem ow4 : OwnRow [4, 2, 2, 2] [2, 4, 6, 8, 10, 12] := fun L b t ht => match t, ht with | 0, _ => by kernel_rfl | 1, _ => by kernel_rfl | 2, _ => by kernel_rfl | 3, _ => by kernel_rfl | 4, _ => by kernel_rfl | 5, _ => by kernel_rfl | 6, _ => by kernel_rfl | 7, _ => by kernel_rfl | 8, _ => by kernel_rfl | 9, _ => by kernel_rfl | 10, _ => by kernel_rfl | 11, _ => by kernel_rfl | 12, _ => by kernel_rfl | n + 13, h => absurd h (by omega)
theorem ow5 : OwnRow [6, 3, 2] [2, 3, 4, 5, 6, 7, 8, 9, 10, 11, 12] := fun L b t ht => match t, ht with | 0, _ => by kernel_rfl | 1, _ => by kernel_rfl | 2, _ => by kernel_rfl | 3, _ => by kernel_rfl | 4, _ => by kernel_rfl | 5, _ => by kernel_rfl | 6, _ => by kernel_rfl | 7, _ => by kernel_rfl | 8, _ => by kernel_rfl | 9, _ => by kernel_rfl | 10, _ => by kernel_rfl | 11, _ => by kernel_rfl | 12, _ => by kernel_rfl | n + 13, h => absurd h (by omega)
theorem ow6 : OwnRow [6, 3, 3, 3, 2] [2, 3, 4, 5, 6, 7, 8, 9, 10, 11, 12] := fun L b t ht => match t, ht with | 0, _ => by kernel_rfl | 1, _ => by kernel_rfl | 2, _ => by kernel_rfl | 3, _ => by kernel_rfl | 4, _ => by kernel_rfl | 5, _ => by kernel_rfl | 6, _ => by kernel_rfl | 7, _ => by kernel_rfl | 8, _ => by kernel_rfl | 9, _ => by kernel_rfl | 10, _ => by kernel_rfl | 11, _ => by kernel_rfl | 12, _ => by kernel_rfl | n + 13, h => absurd h (by omega)
theorem ow7 : OwnRow [8, 4, 4, 4, 4, 4, 2, 2, 2] [2, 4, 6, 8, 10, 12] := fun L b t ht => match t, ht with | 0, _ => by kernel_rfl | 1, _ => by kernel_rfl | 2, _ => by kernel_rfl | 3, _ => by kernel_rfl | 4, _ => by kernel_rfl | 5, _ => by kernel_rfl | 6, _ => by kernel_rfl | 7, _ => by kernel_rfl | 8, _ => by kernel_rfl | 9, _ => by kernel_rfl | 10, _ => by kernel_rfl | 11, _ => by kernel_rfl | 12, _ => by kernel_rfl | n + 13, h => absurd h (by omega)
theorem ow8 : OwnRow [9, 3, 3, 3, 3] [3, 6, 9, 12] := fun L b t ht => match t, ht with | 0, _ => by kernel_rfl | 1, _ => by kernel_rfl | 2, _ => by kernel_rfl | 3, _ => by kernel_rfl | 4, _ => by kernel_rfl | 5, _ => by kernel_rfl | 6, _ => by kernel_rfl | 7, _ => by kernel_rfl | 8, _ => by kernel_rfl | 9, _ => by kernel_rfl | 10, _ => by kernel_rfl | 11, _ => by kernel_rfl | 12, _ => by kernel_rfl | n + 13, h => absurd h (by omega)
theorem ow9 : OwnRow [12, 6, 6, 6, 4, 4, 4, 4, 3] [3, 4, 6, 7, 8, 9, 10, 11, 12] := fun L b t ht => match t, ht with | 0, _ => by kernel_rfl | 1, _ => by kernel_rfl | 2, _ => by kernel_rfl | 3, _ => by kernel_rfl | 4, _ => by kernel_rfl | 5, _ => by kernel_rfl | 6, _ => by kernel_rfl | 7, _ => by kernel_rfl | 8, _ => by kernel_rfl | 9, _ => by kernel_rfl | 10, _ => by kernel_rfl | 11, _ => by kernel_rfl | 12, _ => by kernel_rfl | n + 13, h => absurd h (by omega)
theorem ow10 : OwnRow [12, 6, 6, 6, 6, 6, 6, 6, 4, 3, 3, 3, 2, 2, 2] [2, 3, 4, 5, 6, 7, 8, 9, 10, 11, 12] := fun L b t ht => match t, ht with | 0, _ => by kernel_rfl | 1, _ => by kernel_rfl | 2, _ => by kernel_rfl | 3, _ => by kernel_rfl | 4, _ => by kernel_rfl | 5, _ => by kernel_rfl | 6, _ => by kernel_rfl | 7, _ => by kernel_rfl | 8, _ => by kernel_rfl | 9, _ => by kernel_rfl | 10, _ => by kernel_rfl | 11, _ => by kernel_rfl | 12, _ => by kernel_rfl | n + 13, h => absurd h (by omega)
theorem ow11 : OwnRow [18, 9, 9, 9, 6, 6, 6, 6, 3, 3, 3, 3, 2] [2, 3, 4, 5, 6, 7, 8, 9, 10, 11, 12] := fun L b t ht => match t, ht with | 0, _ => by kernel_rfl | 1, _ => by kernel_rfl | 2, _ => by kernel_rfl | 3, _ => by kernel_rfl | 4, _ => by kernel_rfl | 5, _ => by kernel_rfl | 6, _ => by kernel_rfl | 7, _ => by kernel_rfl | 8, _ => by kernel_rfl | 9, _ => by kernel_rfl | 10, _ => by kernel_rfl | 11, _ => by kernel_rfl | 12, _ => by kernel_rfl | n + 13, h => absurd h (by omega)
theorem ow12 : OwnRow [18, 9, 9, 9, 9, 9, 9, 9, 9, 9, 6, 6, 6, 6, 3, 3, 3, 3, 3, 3, 3, 3, 3, 3, 3, 3, 2] [2, 3, 4, 5, 6, 7, 8, 9, 10, 11, 12] := fun L b t ht => match t, ht with | 0, _ => by kernel_rfl | 1, _ => by kernel_rfl | 2, _ => by kernel_rfl | 3, _ => by kernel_rfl | 4, _ => by kernel_rfl | 5, _ => by kernel_rfl | 6, _ => by kernel_rfl | 7, _ => by kernel_rfl | 8, _ => by kernel_rfl | 9, _ => by kernel_rfl | 10, _ => by kernel_rfl | 11, _ => by kernel_rfl | 12, _ => by kernel_rfl | n + 13, h => absurd h (by omega)
theorem ow13 : OwnRow [24, 12, 12, 12, 12, 12, 12, 12, 12, 12, 8, 8, 8, 8, 6, 6, 6, 6, 6, 6, 6, 4, 4, 4, 4, 3, 3, 3, 2] [2, 3, 4, 5, 6, 7, 8, 9, 10, 11, 12] := fun L b t ht => match t, ht with | 0, _ => by kernel_rfl | 1, _ => by kernel_rfl | 2, _ => by kernel_rfl | 3, _ => by kernel_rfl | 4, _ => by kernel_rfl | 5, _ => by kernel_rfl | 6, _ => by kernel_rfl | 7, _ => by kernel_rfl | 8, _ => by kernel_rfl | 9, _ => by kernel_rfl | 10, _ => by kernel_rfl | 11, _ => by kernel_rfl | 12, _ => by kernel_rfl | n + 13, h => absurd h (by omega)
theorem ow14 : OwnRow [36, 18, 18, 18, 18, 18, 18, 18, 18, 18, 18, 18, 18, 18, 18, 18, 12, 12, 12, 12, 9, 9, 9, 9, 9, 9, 9, 9, 9, 6, 6, 6, 6, 6, 6, 6, 6, 6, 6, 6, 6, 6, 6, 6, 6, 6, 6, 6, 6, 4, 3, 3, 3, 3, 3, 3, 2, 2, 2] [2, 3, 4, 5, 6, 7, 8, 9, 10, 11, 12] := fun L b t ht => match t, ht with | 0, _ => by kernel_rfl | 1, _ => by kernel_rfl | 2, _ => by kernel_rfl | 3, _ => by kernel_rfl | 4, _ => by kernel_rfl | 5, _ => by kernel_rfl | 6, _ => by kernel_rfl | 7, _ => by kernel_rfl | 8, _ => by kernel_rfl | 9, _ => by kernel_rfl | 10, _ => by kernel_rfl | 11, _ => by kernel_rfl | 12, _ => by kernel_rfl | n + 13, h => absurd h (by omega)
def otab : List (List Nat × List Nat) := [([], []), ([2], [2, 4, 6, 8, 10, 12]), ([3], [3, 6, 9, 12]), ([4, 2], [2, 4, 6, 8, 10, 12]), ([4, 2, 2, 2], [2, 4, 6, 8, 10, 12]), ([6, 3, 2], [2, 3, 4, 5, 6, 7, 8, 9, 10, 11, 12]), ([6, 3, 3, 3, 2], [2, 3, 4, 5, 6, 7, 8, 9, 10, 11, 12]), ([8, 4, 4, 4, 4, 4, 2, 2, 2], [2, 4, 6, 8, 10, 12]), ([9, 3, 3, 3, 3], [3, 6, 9, 12]), ([12, 6, 6, 6, 4, 4, 4, 4, 3], [3, 4, 6, 7, 8, 9, 10, 11, 12]), ([12, 6, 6, 6, 6, 6, 6, 6, 4, 3, 3, 3, 2, 2, 2], [2, 3, 4, 5, 6, 7, 8, 9, 10, 11, 12]), ([18, 9, 9, 9, 6, 6, 6, 6, 3, 3, 3, 3, 2], [2, 3, 4, 5, 6, 7, 8, 9, 10, 11, 12]), ([18, 9, 9, 9, 9, 9, 9, 9, 9, 9, 6, 6, 6, 6, 3, 3, 3, 3, 3, 3, 3, 3, 3, 3, 3, 3, 2], [2, 3, 4, 5, 6, 7, 8, 9, 10, 11, 12]), ([24, 12, 12, 12, 12, 12, 12, 12, 12, 12, 8, 8, 8, 8, 6, 6, 6, 6, 6, 6, 6, 4, 4, 4, 4, 3, 3, 3, 2], [2, 3, 4, 5, 6, 7, 8, 9, 10, 11, 12]), ([36, 18, 18, 18, 18, 18, 18, 18, 18, 18, 18, 18, 18, 18, 18, 18, 12, 12, 12, 12, 9, 9, 9, 9, 9, 9, 9, 9, 9, 6, 6, 6, 6, 6, 6, 6, 6, 6, 6, 6, 6, 6, 6, 6, 6, 6, 6, 6, 6, 4, 3, 3, 3, 3, 3, 3, 2, 2, 2], [2, 3, 4, 5, 6, 7, 8, 9, 10, 11, 12])]
theorem otab_ok : ∀ p ∈ otab, OwnRow p.1 p.2 := by
  unfold otab
  simp only [List.forall_mem_cons]
  exact ⟨ow0, ow1, ow2, ow3, ow4, ow5, ow6, ow7, ow8, ow9, ow10, ow11, ow12, ow13, ow14, fun _ h => nomatch h⟩
end Wl
set_option maxRecDepth 100000
set_option maxHeartbeats 4000000
/-! sizes: the package's own functions on typed data -/
namespace Wl
open PySem PySem.Spec PyProof.Rows L2 Dl Mp
theorem ne_nat (x b : Nat) : fNe (.int (.ofNat x)) (.int (.ofNat b)) = some (.bl (!(x == b))) := by
  show (some (Int.ofNat x == Int.ofNat b)).map _ = _
  rw [Option.map_some]
  congr 3
  by_cases h : x = b
  · subst h; simp
  · have : ¬ (Int.ofNat x = Int.ofNat b) := fun z => h (Int.ofNat.inj z)
    rw [beq_false_of_ne this, beq_false_of_ne h]
theorem eq_nat (x b : Nat) : fEq (.int (.ofNat x)) (.int (.ofNat b)) = some (.bl (x == b)) := by
  show (some (Int.ofNat x == Int.ofNat b)).map _ = _
  rw [Option.map_some]
  congr 2
  by_cases h : x = b
  · subst h; simp
  · have : ¬ (Int.ofNat x = Int.ofNat b) := fun z => h (Int.ofNat.inj z)
    rw [beq_false_of_ne this, beq_false_of_ne h]
/-- the ratios of what a group holds -/
def rat (gr be : List (List Nat)) (b : Nat) : List Nat := ((be.getD b []).filter fun h => !(h == b)).map fun h => (gr.getD b []).length / (gr.getD h []).length
def smOf (rs : List Nat) : List Nat := match otab.find? (fun p => p.1 == rs) with | some p => p.2 | none => []
def okS (gr be : List (List Nat)) : Bool := be.length == gr.length && decide (gr.length ≤ 40) && be.all (fun row => row.all (fun h => decide (h < gr.length)) && decide (row.length ≤ 40)) && gr.all (fun g => decide (0 < g.length) && decide (g.length < 1000)) &&
  (List.range gr.length).all fun b => otab.any (fun p => p.1 == rat gr be b)
def own (gr be : List (List Nat)) (b t : Nat) : List Nat := (smOf (rat gr be b)).filter fun s => Nat.ble s t
theorem own_rest {rs : List Nat} (h : otab.any (fun p => p.1 == rs) = true) : OwnRow rs (smOf rs) := by
  unfold smOf
  cases e : otab.find? (fun p => p.1 == rs) with
  | none =>
    rw [List.find?_eq_none] at e
    obtain ⟨p, hp, hq⟩ := List.any_eq_true.mp h
    exact absurd hq (e p hp)
  | some p =>
    have h1 := List.find?_some e
    have h2 := otab_ok p (List.mem_of_find?_eq_some e)
    rw [← eq_of_beq h1]
    exact h2
theorem le_top {n : Nat} (h : n ≤ 40) : n ≤ top := by unfold top; omega
section
variable {s : List Nat} {L : D} {gr be : List (List Nat)}
structure OkS (gr be : List (List Nat)) : Prop where
  len : be.length = gr.length
  few : gr.length ≤ 40
  row : ∀ row ∈ be, (∀ h ∈ row, h < gr.length) ∧ row.length ≤ 40
  grp : ∀ g ∈ gr, 0 < g.length ∧ g.length < 1000
  tab : ∀ b, b < gr.length → otab.any (fun p => p.1 == rat gr be b) = true
theorem okS_of (h : okS gr be = true) : OkS gr be := by
  unfold okS at h
  simp only [Bool.and_eq_true, List.all_eq_true, decide_eq_true_eq, beq_iff_eq, List.mem_range] at h
  obtain ⟨⟨⟨⟨h1, h2⟩, h3⟩, h4⟩, h5⟩ := h
  exact ⟨h1, h2, fun r hr => h3 r hr, fun g hg => h4 g hg, h5⟩
theorem held_at (w : Wor s L gr be) {b : Nat} {row : List Nat} (h : be[b]? = some row) : m_Lattice_held [L, .int (.ofNat b)] = some (.tup (nts row)) := by
  obtain ⟨ns, fs, rfl, hg, hb, _⟩ := w.flds
  unfold m_Lattice_held
  simp only [kFun_eq, kSet_eq, kRet_eq, kName_eq, kOwn_eq, kApp_eq, kPut_eq, mFun, mSeq, mSet, mRet, bName, gVar, Dl.gCons, Dl.gNil, gC, gDs, gBin, gU, gTest, gTru, gNot, gAnd, gOr, gSeq, mIf, mFor, List.map_cons, List.map_nil, List.length_cons, List.length_nil, List.replicate, List.cons_append, List.nil_append, List.set, List.getElem?_cons_zero, List.getElem?_cons_succ, Option.bind_some, Option.map_some, if_true, Nat.reduceAdd, reduceIte, gFld]
  rw [hb]
  simp only [Option.bind_some, fIx, atD]
  rw [at_trows h]
  rfl
theorem ratio_at (w : Wor s L gr be) {b h : Nat} {x y : List Nat} (hb : gr[b]? = some x) (hh : gr[h]? = some y) (h0 : 0 < y.length) (h1 : y.length < 1000) : m_Lattice_ratio [L, .int (.ofNat b), .int (.ofNat h)] = some (.int (.ofNat (x.length / y.length))) := by
  obtain ⟨ns, fs, rfl, hg, hbe, _⟩ := w.flds
  unfold m_Lattice_ratio
  simp only [kFun_eq, kSet_eq, kRet_eq, kName_eq, kOwn_eq, kApp_eq, kPut_eq, mFun, mSeq, mSet, mRet, bName, gVar, Dl.gCons, Dl.gNil, gC, gDs, gBin, gU, gTest, gTru, gNot, gAnd, gOr, gSeq, mIf, mFor, List.map_cons, List.map_nil, List.length_cons, List.length_nil, List.replicate, List.cons_append, List.nil_append, List.set, List.getElem?_cons_zero, List.getElem?_cons_succ, Option.bind_some, Option.map_some, if_true, Nat.reduceAdd, reduceIte, gFld]
  rw [hg]
  simp only [Option.bind_some, fIx, atD]
  rw [at_trows hb, at_trows hh]
  simp only [Option.bind_some, onSeq, fLen, List.length_map, fFdiv]
  rw [if_pos (by omega), ← Int.ofNat_fdiv]
  rfl
theorem meth_held (w : Wor s L gr be) {g : Rho → Option D} {gs : Rho → Option (List D)} {ρ : Rho} {b : Nat} {row : List Nat} (hr : be[b]? = some row) (h1 : g ρ = some L) (h2 : gs ρ = some [.int (.ofNat b)]) : gMeth 1 "held" m_Lattice_held g gs ρ = some (.tup (nts row)) := by
  rw [← held_at w hr]
  obtain ⟨ns, fs, rfl, hg, hbe, h3, _⟩ := w.flds
  unfold gMeth
  rw [h1]
  simp only [Option.bind_some]
  rw [if_pos ⟨trivial, h3⟩, h2]
  rfl
theorem meth_ratio (w : Wor s L gr be) {g : Rho → Option D} {gs : Rho → Option (List D)} {ρ : Rho} {b h : Nat} {x y : List Nat} (hb : gr[b]? = some x) (hh : gr[h]? = some y) (h0 : 0 < y.length) (h1 : y.length < 1000) (e1 : g ρ = some L) (e2 : gs ρ = some [.int (.ofNat b), .int (.ofNat h)]) : gMeth 1 "ratio" m_Lattice_ratio g gs ρ = some (.int (.ofNat (x.length / y.length))) := by
  rw [← ratio_at w hb hh h0 h1]
  obtain ⟨ns, fs, rfl, hg, hbe, h3, h4⟩ := w.flds
  unfold gMeth
  rw [e1]
  simp only [Option.bind_some]
  rw [if_pos ⟨trivial, h4⟩, e2]
  rfl
theorem getD_at {α : Type} {l : List α} {i : Nat} {x d : α} (h : l[i]? = some x) : l.getD i d = x := by rw [List.getD_eq_getElem?_getD, h]; rfl
theorem get_lt {α : Type} {l : List α} {i : Nat} (h : i < l.length) : ∃ x, l[i]? = some x := ⟨l[i], List.getElem?_eq_getElem h⟩
theorem ratios_at (w : Wor s L gr be) (ok : OkS gr be) {b : Nat} (t : D) (hb : b < gr.length) : oG [.val L, .val (.int (.ofNat b)), .val t, .un, .un, .un, .un, .un, .un] = some (.lst (nts (rat gr be b))) := by
  obtain ⟨row, hr⟩ := get_lt (l := be) (i := b) (by rw [ok.len]; exact hb)
  obtain ⟨x, hx⟩ := get_lt hb
  obtain ⟨hr1, hr2⟩ := ok.row row (List.mem_of_getElem? hr)
  unfold oG
  have e1 : rat gr be b = (row.filter fun h => !(h == b)).map fun h => x.length / (gr.getD h []).length := by
    unfold rat
    rw [getD_at hr, getD_at hx]
  rw [gLc_map (e := fun n => D.int (.ofNat n)) (xs := row) (p := fun h => !(h == b)) (h := fun h => .int (.ofNat (x.length / (gr.getD h []).length)))]
  · rw [e1, nts, List.map_map]
    rfl
  · unfold gSeq
    rw [meth_held w hr rfl rfl]
  · exact le_top hr2
  · intro h hh
    obtain ⟨y, hy⟩ := get_lt (hr1 h hh)
    obtain ⟨y0, y1⟩ := ok.grp y (List.mem_of_getElem? hy)
    refine ⟨_, by rw [kName_eq]; rfl, ?_, fun _ => ?_⟩
    · simp only [kFun_eq, kSet_eq, kRet_eq, kName_eq, kOwn_eq, kApp_eq, kPut_eq, mFun, mSeq, mSet, mRet, bName, gVar, Dl.gCons, Dl.gNil, gC, gDs, gBin, gU, gTest, gTru, gNot, gAnd, gOr, gSeq, mIf, mFor, List.map_cons, List.map_nil, List.length_cons, List.length_nil, List.replicate, List.cons_append, List.nil_append, List.set, List.getElem?_cons_zero, List.getElem?_cons_succ, Option.bind_some, Option.map_some, if_true, Nat.reduceAdd, reduceIte, wipeR, ne_nat]
    · rw [meth_ratio w hx hy y0 y1 rfl rfl, getD_at hy]
theorem own_a {og : Rho → Option D} {o : M} {b t r x : D} (eG : og [.val L, .val b, .val t, .un, .un, .un, .un, .un, .un] = some r) (eR : o [.val L, .val b, .val t, .val r, .un, .un, .un, .un, .un] = some (.rt x)) : kFun 3 6 (mSeq (kSet 3 og) o) [L, b, t] = some x := by
  simp only [kFun_eq, kSet_eq, kRet_eq, kName_eq, kOwn_eq, kApp_eq, kPut_eq, mFun, mSeq, mSet, mRet, bName, gVar, Dl.gCons, Dl.gNil, gC, gDs, gBin, gU, gTest, gTru, gNot, gAnd, gOr, gSeq, mIf, mFor, List.map_cons, List.map_nil, List.length_cons, List.length_nil, List.replicate, List.cons_append, List.nil_append, List.set, List.getElem?_cons_zero, List.getElem?_cons_succ, Option.bind_some, Option.map_some, if_true, Nat.reduceAdd, reduceIte, eG, eR]
theorem own_at (w : Wor s L gr be) (ok : OkS gr be) {b t : Nat} (hb : b < gr.length) (ht : t < 13) : m_own_sizes [L, .int (.ofNat b), .int (.ofNat t)] = some (.lst (nts (own gr be b t))) := by
  unfold own
  rw [own_eq]
  exact own_a (ratios_at w ok (.int (.ofNat t)) hb) (own_rest (ok.tab b hb) L (.int (.ofNat b)) t ht)
end
/-! ### dicts whose values are a function of the keys -/
theorem putT_fun {α κ : Type} [DecidableEq κ] {k : α → κ} {v : α → D} (inj : ∀ a b, k a = k b → a = b) (a : α) : ∀ gs : List α, (∃ gs' : List α, putT (gs.map k) (gs.map v) (k a) (v a) = (gs'.map k, gs'.map v) ∧ (∀ x, x ∈ gs' ↔ x ∈ gs ∨ x = a) ∧ (gs.Nodup → gs'.Nodup) ∧ gs'.length ≤ gs.length + 1)
  | [] => ⟨[a], rfl, fun x => by simp, fun _ => by simp, Nat.le_refl _⟩
  | g :: gs => by
    obtain ⟨gs', h1, h2, h3, h4⟩ := putT_fun inj a gs
    rw [List.map_cons, List.map_cons]
    unfold putT
    by_cases e : k g = k a
    · have := inj _ _ e
      subst this
      rw [if_pos rfl]
      exact ⟨g :: gs, rfl, fun x => by simp only [List.mem_cons]; constructor <;> (intro h; rcases h with h | h <;> simp_all), fun h => h, Nat.le_succ _⟩
    · rw [if_neg e]
      refine ⟨g :: gs', by rw [h1]; rfl, fun x => ?_, fun nd => ?_, by simp only [List.length_cons]; omega⟩
      · simp only [List.mem_cons, h2, or_assoc]
      · rw [List.nodup_cons] at nd ⊢
        refine ⟨fun h => ?_, h3 nd.2⟩
        rcases (h2 g).mp h with h | h
        · exact nd.1 h
        · subst h; exact e rfl
theorem dAt_fun {α : Type} {k : α → Key} {v : α → D} (inj : ∀ a b, k a = k b → a = b) (a : α) : ∀ gs : List α, a ∈ gs → dAt (gs.map k) (gs.map v) (k a) = some (v a)
  | [], h => by cases h
  | g :: gs, h => by
    rw [List.map_cons, List.map_cons]
    unfold dAt
    by_cases e : k g = k a
    · rw [if_pos e, inj _ _ e]
    · rw [if_neg e]
      rcases List.mem_cons.mp h with rfl | h
      · exact absurd rfl e
      · exact dAt_fun inj a gs h
/-- an int key -/
abbrev ik (n : Nat) : Key := .inl (.ofNat n)
theorem ik_inj (a b : Nat) (h : ik a = ik b) : a = b := by injection h with h; exact Int.ofNat.inj h
theorem ik_any (b : Nat) : ∀ gs : List Nat, ((gs.map ik).any fun z => decide (z = ik b)) = gs.contains b
  | [] => rfl
  | g :: gs => by
    rw [List.map_cons, List.any_cons, ik_any b gs, List.contains_cons]
    congr 1
    by_cases h : b = g
    · subst h; simp
    · rw [beq_false_of_ne h]
      exact decide_eq_false fun z => h (ik_inj _ _ z).symm
theorem ik_nodup {gs : List Nat} (h : gs.Nodup) : (gs.map ik).Nodup := List.Pairwise.map ik (fun a b q e => q (ik_inj a b e)) h
theorem nodup_le : ∀ (n : Nat) (gs : List Nat), gs.Nodup → (∀ x ∈ gs, x < n) → gs.length ≤ n
  | 0, gs, _, h => by
    cases gs with
    | nil => exact Nat.le_refl _
    | cons g gs => exact absurd (h g List.mem_cons_self) (Nat.not_lt_zero _)
  | n + 1, gs, nd, h => by
    have h1 := nodup_le n (gs.erase n) (nd.erase n) fun x hx => by
      have := (List.Nodup.mem_erase_iff nd).mp hx
      have := h x this.2
      omega
    rw [List.length_erase] at h1
    split at h1 <;> omega
/-! ### sizes_by_group -/
section
variable {s : List Nat} {L : D} {gr be : List (List Nat)}
abbrev ov (gr be : List (List Nat)) (t : Nat) (b : Nat) : D := .lst (nts (own gr be b t))
abbrev sR (L nums : D) (gr be : List (List Nat)) (t : Nat) (gs : List Nat) (s4 s5 s6 s7 s8 : SV) : Rho := [.val L, .val nums, .val (.int (.ofNat t)), .ownK (gs.map ik) (gs.map (ov gr be t)), s4, s5, s6, s7, s8]
def sBody : M := mIf (gTest (gInO true (gVar 5) 3)) (kPut 3 (gVar 5) (gDs m_own_sizes (Dl.gCons (gVar 0) (Dl.gCons (gVar 5) (Dl.gCons (gVar 2) Dl.gNil))))) mNil
structure GsOk (n : Nat) (gs : List Nat) : Prop where
  nd : gs.Nodup
  lt : ∀ x ∈ gs, x < n
theorem body_at (w : Wor s L gr be) (ok : OkS gr be) {nums : D} {t b : Nat} {gs : List Nat} {s4 s6 s7 s8 : SV} (ht : t < 13) (hb : b < gr.length) (hg : GsOk gr.length gs) :
    ∃ gs', sBody (sR L nums gr be t gs s4 (.val (.int (.ofNat b))) s6 s7 s8) = some (.nx (sR L nums gr be t gs' s4 (.val (.int (.ofNat b))) s6 s7 s8)) ∧ GsOk gr.length gs' ∧ b ∈ gs' ∧ ∀ x ∈ gs, x ∈ gs' := by
  unfold sBody
  have e1 : gInO true (gVar 5) 3 (sR L nums gr be t gs s4 (.val (.int (.ofNat b))) s6 s7 s8) = some (.bl (!(gs.contains b))) := by
    simp only [kFun_eq, kSet_eq, kRet_eq, kName_eq, kOwn_eq, kApp_eq, kPut_eq, mFun, mSeq, mSet, mRet, bName, gVar, Dl.gCons, Dl.gNil, gC, gDs, gBin, gU, gTest, gTru, gNot, gAnd, gOr, gSeq, mIf, mFor, List.map_cons, List.map_nil, List.length_cons, List.length_nil, List.replicate, List.cons_append, List.nil_append, List.set, List.getElem?_cons_zero, List.getElem?_cons_succ, Option.bind_some, Option.map_some, if_true, Nat.reduceAdd, reduceIte, gInO, D.key, ik_any]
  have e2 : gDs m_own_sizes (Dl.gCons (gVar 0) (Dl.gCons (gVar 5) (Dl.gCons (gVar 2) Dl.gNil))) (sR L nums gr be t gs s4 (.val (.int (.ofNat b))) s6 s7 s8) = some (ov gr be t b) := by
    simp only [kFun_eq, kSet_eq, kRet_eq, kName_eq, kOwn_eq, kApp_eq, kPut_eq, mFun, mSeq, mSet, mRet, bName, gVar, Dl.gCons, Dl.gNil, gC, gDs, gBin, gU, gTest, gTru, gNot, gAnd, gOr, gSeq, mIf, mFor, List.map_cons, List.map_nil, List.length_cons, List.length_nil, List.replicate, List.cons_append, List.nil_append, List.set, List.getElem?_cons_zero, List.getElem?_cons_succ, Option.bind_some, Option.map_some, if_true, Nat.reduceAdd, reduceIte, own_at w ok hb ht]
  generalize gDs m_own_sizes (Dl.gCons (gVar 0) (Dl.gCons (gVar 5) (Dl.gCons (gVar 2) Dl.gNil))) = og at e2 ⊢
  cases hc : gs.contains b with
  | true =>
    rw [hc] at e1
    refine ⟨gs, ?_, hg, by simpa using hc, fun x hx => hx⟩
    simp only [mIf, gTest, e1, Option.bind_some, Bool.not_true, mNil]
    rfl
  | false =>
    rw [hc] at e1
    have hl : (gs.map ik).length < top := by
      rw [List.length_map]
      have h1 := nodup_le _ gs hg.nd hg.lt
      have h2 := ok.few
      unfold top
      omega
    obtain ⟨gs', p1, p2, p3, _⟩ := putT_fun (k := ik) (v := ov gr be t) ik_inj b gs
    refine ⟨gs', ?_, ⟨p3 hg.nd, fun x hx => ?_⟩, (p2 b).mpr (.inr rfl), fun x hx => (p2 x).mpr (.inl hx)⟩
    · simp only [mIf, gTest, e1, Option.bind_some, Bool.not_false, if_true, kPut_eq, mPut, List.getElem?_cons_succ, List.getElem?_cons_zero, e2, gVar, D.key]
      rw [if_pos ⟨ik_nodup hg.nd, hl⟩]
      rw [show (Sum.inl (Int.ofNat b) : Key) = ik b from rfl, p1]
      rfl
    · rcases (p2 x).mp hx with h | h
      · exact hg.lt x h
      · subst h; exact hb
end
end Wl
set_option maxRecDepth 100000
set_option maxHeartbeats 4000000
/-! sizes_by_group on typed data -/
namespace Wl
open PySem PySem.Spec PyProof.Rows L2 Dl Mp
section
variable {s : List Nat} {L : D} {gr be : List (List Nat)}
def sHeld (i : Nat) : Rho → Option (List D) := gSeq (gMeth 1 "held" m_Lattice_held (gVar 0) (Dl.gCons (gVar i) Dl.gNil))
theorem inner_at (w : Wor s L gr be) (ok : OkS gr be) {nums : D} {t g : Nat} {row gs : List Nat} {s5 s6 s7 s8 : SV} (ht : t < 13) (hr : be[g]? = some row) (hg : GsOk gr.length gs) :
    ∃ gs' t5, mFor (sHeld 4) (kName 5) sBody (sR L nums gr be t gs (.val (.int (.ofNat g))) s5 s6 s7 s8) = some (.nx (sR L nums gr be t gs' (.val (.int (.ofNat g))) t5 s6 s7 s8)) ∧ GsOk gr.length gs' ∧ (∀ x ∈ row, x ∈ gs') ∧ ∀ x ∈ gs, x ∈ gs' := by
  have hrow := (ok.row row (List.mem_of_getElem? hr)).1
  have e1 : sHeld 4 (sR L nums gr be t gs (.val (.int (.ofNat g))) s5 s6 s7 s8) = some (nts row) := by
    unfold sHeld gSeq
    rw [meth_held w hr rfl rfl]
  unfold mFor
  rw [e1, Option.bind_some]
  obtain ⟨ρ', h1, ⟨gs', t5, rfl, h2, h3, h4⟩⟩ := forRun_I (bind := kName 5) (body := sBody) (e := fun n : Nat => D.int (.ofNat n)) (fun pre ρ => ∃ gs' t5, ρ = sR L nums gr be t gs' (.val (.int (.ofNat g))) t5 s6 s7 s8 ∧ GsOk gr.length gs' ∧ (∀ x ∈ pre, x ∈ gs') ∧ ∀ x ∈ gs, x ∈ gs') row []
    (sR L nums gr be t gs (.val (.int (.ofNat g))) s5 s6 s7 s8) ⟨gs, s5, rfl, hg, (fun _ h => nomatch h), fun x hx => hx⟩ (fun pre x ρ hI hx => by
      obtain ⟨gs1, t5, rfl, g1, g2, g3⟩ := hI
      obtain ⟨gs2, b1, b2, b3, b4⟩ := body_at w ok (nums := nums) (s4 := .val (.int (.ofNat g))) (s6 := s6) (s7 := s7) (s8 := s8) ht (hrow x hx) g1
      exact ⟨_, _, by rw [kName_eq]; rfl, b1, gs2, _, rfl, b2, (fun y hy => by
        rcases List.mem_append.mp hy with hy | hy
        · exact b4 y (g2 y hy)
        · rw [List.mem_singleton] at hy; subst hy; exact b3), fun y hy => b4 y (g3 y hy)⟩)
  exact ⟨gs', t5, h1, h2, fun x hx => h3 x (by simpa using hx), h4⟩
/-- numbers as a tuple or a list -/
inductive Nums : D → List Nat → Prop
  | lst (ns : List Nat) : Nums (.lst (nts ns)) ns
  | tup (ns : List Nat) : Nums (.tup (nts ns)) ns
theorem Nums.seq {d : D} {ns : List Nat} (h : Nums d ns) {g : Rho → Option D} {ρ : Rho} (e : g ρ = some d) : gSeq g ρ = some (nts ns) := by
  unfold gSeq
  rw [e]
  cases h <;> rfl
theorem outer_at (w : Wor s L gr be) (ok : OkS gr be) {nums : D} {t : Nat} {ns gs : List Nat} {s4 s5 s6 s7 s8 : SV} (hN : Nums nums ns) (hn : ∀ x ∈ ns, x < gr.length) (ht : t < 13) (hg : GsOk gr.length gs) :
    ∃ gs' t4 t5, mFor (gSeq (gVar 1)) (kName 4) (mFor (sHeld 4) (kName 5) sBody) (sR L nums gr be t gs s4 s5 s6 s7 s8) = some (.nx (sR L nums gr be t gs' t4 t5 s6 s7 s8)) ∧ GsOk gr.length gs' ∧ (∀ g ∈ ns, ∀ row, be[g]? = some row → ∀ x ∈ row, x ∈ gs') := by
  unfold mFor
  rw [hN.seq rfl, Option.bind_some]
  obtain ⟨ρ', h1, ⟨gs', t4, t5, rfl, h2, h3⟩⟩ := forRun_I (bind := kName 4) (body := mFor (sHeld 4) (kName 5) sBody) (e := fun n : Nat => D.int (.ofNat n)) (fun pre ρ => ∃ gs' t4 t5, ρ = sR L nums gr be t gs' t4 t5 s6 s7 s8 ∧ GsOk gr.length gs' ∧ (∀ g ∈ pre, ∀ row, be[g]? = some row → ∀ x ∈ row, x ∈ gs')) ns []
    (sR L nums gr be t gs s4 s5 s6 s7 s8) ⟨gs, s4, s5, rfl, hg, (fun _ h => nomatch h)⟩ (fun pre x ρ hI hx => by
      obtain ⟨gs1, t4, t5, rfl, g1, g2⟩ := hI
      obtain ⟨row, hr⟩ := get_lt (l := be) (i := x) (by rw [ok.len]; exact hn x hx)
      obtain ⟨gs2, u5, b1, b2, b3, b4⟩ := inner_at w ok (nums := nums) (s5 := t5) (s6 := s6) (s7 := s7) (s8 := s8) ht hr g1
      exact ⟨_, _, by rw [kName_eq]; rfl, b1, gs2, _, _, rfl, b2, (fun y hy row' hr' z hz => by
        rcases List.mem_append.mp hy with hy | hy
        · exact b4 z (g2 y hy row' hr' z hz)
        · rw [List.mem_singleton] at hy
          subst hy
          rw [hr] at hr'
          cases hr'
          exact b3 z hz)⟩)
  exact ⟨gs', t4, t5, h1, h2, fun g hg => h3 g (by simpa using hg)⟩
/-- the sizes that a group reaches, up to t -/
def reach (gr be : List (List Nat)) (t g : Nat) : List Nat := (List.range' 1 12).filter fun s => Nat.ble s t && (be.getD g []).any fun h => (smOf (rat gr be h)).contains s
theorem otab_rng : ∀ p ∈ otab, ∀ s ∈ p.2, 1 ≤ s ∧ s < 13 := by decide +kernel
theorem smOf_rng {rs : List Nat} {s : Nat} (h : s ∈ smOf rs) : 1 ≤ s ∧ s < 13 := by
  unfold smOf at h
  cases e : otab.find? (fun p => p.1 == rs) with
  | none => rw [e] at h; cases h
  | some p => rw [e] at h; exact otab_rng p (List.mem_of_find?_eq_some e) s h
theorem otab_len : ∀ p ∈ otab, p.2.length ≤ 12 := by decide +kernel
theorem smOf_len (rs : List Nat) : (smOf rs).length ≤ 12 := by
  unfold smOf
  cases e : otab.find? (fun p => p.1 == rs) with
  | none => exact Nat.zero_le _
  | some p => exact otab_len p (List.mem_of_find?_eq_some e)
theorem mem_reach {t g x : Nat} : x ∈ reach gr be t g ↔ x ≤ t ∧ ∃ h ∈ be.getD g [], x ∈ smOf (rat gr be h) := by
  unfold reach
  rw [List.mem_filter, List.mem_range'_1, Bool.and_eq_true, List.any_eq_true]
  constructor
  · rintro ⟨_, h1, h, h2, h3⟩
    exact ⟨Nat.le_of_ble_eq_true h1, h, h2, by simpa using h3⟩
  · rintro ⟨h1, h, h2, h3⟩
    have := smOf_rng h3
    exact ⟨by omega, Nat.ble_eq_true_of_le h1, h, h2, by simpa using h3⟩
theorem reach_pw (t g : Nat) : (reach gr be t g).Pairwise (· < ·) := List.Pairwise.filter _ (List.pairwise_lt_range' ..)
theorem reach_len (t g : Nat) : (reach gr be t g).length ≤ 12 := Nat.le_trans (List.length_filter_le _ _) (by rw [List.length_range']; exact Nat.le_refl _)
theorem usort_nat {l m : List Nat} (hp : m.Pairwise (· < ·)) (h : ∀ x, x ∈ l ↔ x ∈ m) : usort (l.map Int.ofNat) = m.map Int.ofNat := by
  refine strict_eq (usort_pw _) (List.Pairwise.map _ (fun a b q => Int.ofNat_lt.mpr q) hp) fun k => ?_
  rw [usort_mem, List.mem_map, List.mem_map]
  constructor
  · rintro ⟨a, ha, e⟩
    exact ⟨a, (h a).mp ha, e⟩
  · rintro ⟨a, ha, e⟩
    exact ⟨a, (h a).mpr ha, e⟩
theorem lc2Run_map {α β : Type} {bind bind1 : D → Rho → Option Rho} {te : Rho → Option D} {gi1 : Rho → Option (List D)} {vs1 : List Nat} {ρ : Rho} {e : α → D} {e1 : β → D} {f : α → List β} : ∀ {xs : List α}, (∀ x ∈ xs, ∃ ρ1, bind (e x) ρ = some ρ1 ∧ gi1 ρ1 = some ((f x).map e1) ∧ ∀ y ∈ f x, ∃ ρ2, bind1 (e1 y) (wipeR ρ1 vs1) = some ρ2 ∧ te ρ2 = some (e1 y)) →
    lc2Run bind (fun _ => some true) gi1 bind1 (fun _ => some true) te vs1 ρ (xs.map e) = some ((xs.flatMap f).map e1)
  | [], _ => rfl
  | x :: xs, h => by
    obtain ⟨ρ1, h1, h2, h3⟩ := h x List.mem_cons_self
    have ih := lc2Run_map (xs := xs) fun y hy => h y (List.mem_cons_of_mem _ hy)
    have h4 := lcRun_map (bind := bind1) (tt := fun _ => some true) (te := te) (ρ := wipeR ρ1 vs1) (e := e1) (p := fun _ => true) (h := e1) (xs := f x) fun y hy => by
      obtain ⟨ρ2, g1, g2⟩ := h3 y hy
      exact ⟨ρ2, g1, rfl, fun _ => g2⟩
    rw [List.filter_eq_self.mpr fun _ _ => rfl] at h4
    rw [List.map_cons]
    unfold lc2Run
    rw [h1, Option.bind_some, Option.bind_some, if_pos rfl, h2, Option.bind_some, h4, Option.bind_some, ih, Option.bind_some, List.flatMap_cons, List.map_append]
def sVal : Rho → Option D := gDs (onSeq fTuple) (Dl.gCons (gSorted (lc2Of (sHeld 8) (kName 6) (fun _ => some true) (gSeq (gGetO 3 (gVar 6))) (kName 7) (fun _ => some true) (gVar 7) [6, 7] [7])) Dl.gNil)
theorem flat_len {f : Nat → List Nat} {k : Nat} : ∀ {l : List Nat}, (∀ x ∈ l, (f x).length ≤ k) → (l.flatMap f).length ≤ l.length * k
  | [], _ => by simp
  | x :: l, h => by
    have h1 := h x List.mem_cons_self
    have ih := flat_len (l := l) fun y hy => h y (List.mem_cons_of_mem _ hy)
    rw [List.flatMap_cons, List.length_append, List.length_cons, Nat.succ_mul]
    omega
theorem val_at (w : Wor s L gr be) (ok : OkS gr be) {nums : D} {t g : Nat} {row gs : List Nat} {s4 s5 s6 s7 : SV} (hr : be[g]? = some row) (hs : ∀ x ∈ row, x ∈ gs) : sVal (sR L nums gr be t gs s4 s5 s6 s7 (.val (.int (.ofNat g)))) = some (.tup (nts (reach gr be t g))) := by
  have e1 : lc2Of (sHeld 8) (kName 6) (fun _ => some true) (gSeq (gGetO 3 (gVar 6))) (kName 7) (fun _ => some true) (gVar 7) [6, 7] [7] (sR L nums gr be t gs s4 s5 s6 s7 (.val (.int (.ofNat g)))) = some (nts (row.flatMap fun b => own gr be b t)) := by
    unfold lc2Of
    have eh : sHeld 8 (sR L nums gr be t gs s4 s5 s6 s7 (.val (.int (.ofNat g)))) = some (nts row) := by
      unfold sHeld gSeq
      rw [meth_held w hr rfl rfl]
    rw [eh, Option.bind_some, lc2Run_map (e := fun n : Nat => D.int (.ofNat n)) (e1 := fun n : Nat => D.int (.ofNat n)) (f := fun b => own gr be b t), Option.bind_some, if_pos]
    · rw [List.length_map]
      have h1 := flat_len (f := fun b => own gr be b t) (k := 12) (l := row) fun x _ => Nat.le_trans (List.length_filter_le _ _) (smOf_len _)
      have h2 := (ok.row row (List.mem_of_getElem? hr)).2
      omega
    · intro b hb
      refine ⟨_, by rw [kName_eq]; rfl, ?_, fun y _ => ⟨_, by rw [kName_eq]; rfl, rfl⟩⟩
      have e2 : gGetO 3 (gVar 6) (sR L nums gr be t gs s4 s5 (.val (.int (.ofNat b))) .un (.val (.int (.ofNat g)))) = some (ov gr be t b) := by
        simp only [kFun_eq, kSet_eq, kRet_eq, kName_eq, kOwn_eq, kApp_eq, kPut_eq, mFun, mSeq, mSet, mRet, bName, gVar, Dl.gCons, Dl.gNil, gC, gDs, gBin, gU, gTest, gTru, gNot, gAnd, gOr, gSeq, mIf, mFor, List.map_cons, List.map_nil, List.length_cons, List.length_nil, List.replicate, List.cons_append, List.nil_append, List.set, List.getElem?_cons_zero, List.getElem?_cons_succ, Option.bind_some, Option.map_some, if_true, Nat.reduceAdd, reduceIte, gGetO, D.key]
        exact dAt_fun (k := ik) (v := ov gr be t) ik_inj b gs (hs b hb)
      unfold gSeq
      show (match gGetO 3 (gVar 6) (sR L nums gr be t gs s4 s5 (.val (.int (.ofNat b))) .un (.val (.int (.ofNat g)))) with | some (.lst ds) => some ds | some (.tup ds) => some ds | _ => none) = _
      rw [e2]
  have e2 : usort ((row.flatMap fun b => own gr be b t).map Int.ofNat) = (reach gr be t g).map Int.ofNat := usort_nat (reach_pw t g) fun x => by
    rw [mem_reach, List.mem_flatMap, getD_at hr]
    constructor
    · rintro ⟨b, hb, hx⟩
      unfold own at hx
      rw [List.mem_filter] at hx
      exact ⟨Nat.le_of_ble_eq_true hx.2, b, hb, hx.1⟩
    · rintro ⟨h1, b, hb, hx⟩
      exact ⟨b, hb, by unfold own; rw [List.mem_filter]; exact ⟨hx, Nat.ble_eq_true_of_le h1⟩⟩
  have e3 : gSorted (lc2Of (sHeld 8) (kName 6) (fun _ => some true) (gSeq (gGetO 3 (gVar 6))) (kName 7) (fun _ => some true) (gVar 7) [6, 7] [7]) (sR L nums gr be t gs s4 s5 s6 s7 (.val (.int (.ofNat g)))) = some (.lst (nts (reach gr be t g))) := by
    unfold gSorted
    rw [e1, Option.bind_some, toInts_nts, Option.bind_some, e2, if_pos (by rw [List.length_map]; have := reach_len (gr := gr) (be := be) t g; omega), List.map_map]
    rfl
  unfold sVal gDs Dl.gCons Dl.gNil
  rw [e3]
  rfl
end
end Wl
set_option maxRecDepth 100000
set_option maxHeartbeats 4000000
namespace Wl
open PySem PySem.Spec PyProof.Rows L2 Dl Mp
section
variable {s : List Nat} {L : D} {gr be : List (List Nat)}
theorem dcK1_fun {bind : D → Rho → Option Rho} {kg vg : Rho → Option D} {ρ : Rho} {v : Nat → D} : ∀ {xs gs : List Nat}, (∀ x ∈ xs, ∃ ρ1, bind (.int (.ofNat x)) ρ = some ρ1 ∧ kg ρ1 = some (.int (.ofNat x)) ∧ vg ρ1 = some (v x)) →
    ∃ gs' : List Nat, dcK1 bind (fun _ => some true) kg vg ρ (nts xs) (gs.map ik) (gs.map v) = some (gs'.map ik, gs'.map v) ∧ ∀ x, x ∈ gs' ↔ x ∈ gs ∨ x ∈ xs
  | [], gs, _ => ⟨gs, rfl, fun x => by simp⟩
  | x :: xs, gs, h => by
    obtain ⟨ρ1, h1, h2, h3⟩ := h x List.mem_cons_self
    obtain ⟨gs1, p1, p2, _⟩ := putT_fun (k := ik) (v := v) ik_inj x gs
    obtain ⟨gs2, q1, q2⟩ := dcK1_fun (xs := xs) (gs := gs1) fun y hy => h y (List.mem_cons_of_mem _ hy)
    refine ⟨gs2, ?_, fun y => by rw [q2, p2, List.mem_cons, or_assoc]⟩
    show dcK1 bind (fun _ => some true) kg vg ρ (D.int (.ofNat x) :: nts xs) _ _ = _
    unfold dcK1
    rw [h1, Option.bind_some, Option.bind_some, if_pos rfl, h2, Option.bind_some, h3, Option.bind_some]
    show (some (ik x)).bind _ = _
    rw [Option.bind_some, p1]
    exact q1
/-- what sizes_by_group answers -/
def SizesOk (gr be : List (List Nat)) (t : Nat) (ns : List Nat) (d : D) : Prop := ∃ ks xs, d = .dK ks xs ∧ ∀ g ∈ ns, dAt ks xs (ik g) = some (.tup (nts (reach gr be t g)))
def sDict : Rho → Option D := kDcK1 (gSeq (gVar 1)) (kName 8) (fun _ => some true) (gVar 8) sVal [8]
theorem sizes_eq : m_sizes_by_group = kFun 3 6 (mSeq (fun ρ => some (.nx (ρ.set 3 (.ownK [] [])))) (mSeq (mFor (gSeq (gVar 1)) (kName 4) (mFor (sHeld 4) (kName 5) sBody)) (kRet sDict))) := rfl
theorem dict_at (w : Wor s L gr be) (ok : OkS gr be) {nums : D} {t : Nat} {ns gs : List Nat} {s4 s5 s6 s7 s8 : SV} (hN : Nums nums ns) (hn : ∀ x ∈ ns, x < gr.length) (hl : ns.length ≤ 40) (hs : ∀ g ∈ ns, ∀ row, be[g]? = some row → ∀ x ∈ row, x ∈ gs) :
    ∃ d, sDict (sR L nums gr be t gs s4 s5 s6 s7 s8) = some d ∧ SizesOk gr be t ns d := by
  unfold sDict
  rw [kDcK1_eq]
  unfold gDcK1
  rw [hN.seq rfl, Option.bind_some, if_pos (by rw [List.length_map]; exact le_top hl)]
  obtain ⟨gs', h1, h2⟩ := dcK1_fun (bind := kName 8) (kg := gVar 8) (vg := sVal) (ρ := wipeR (sR L nums gr be t gs s4 s5 s6 s7 s8) [8]) (v := fun g => .tup (nts (reach gr be t g))) (xs := ns) (gs := []) fun g hg => by
    obtain ⟨row, hr⟩ := get_lt (l := be) (i := g) (by rw [ok.len]; exact hn g hg)
    exact ⟨_, by rw [kName_eq]; rfl, rfl, val_at w ok hr (hs g hg row hr)⟩
  rw [show dcK1 (kName 8) (fun _ => some true) (gVar 8) sVal (wipeR (sR L nums gr be t gs s4 s5 s6 s7 s8) [8]) (nts ns) [] [] = _ from h1]
  refine ⟨_, rfl, _, _, rfl, fun g hg => dAt_fun (k := ik) ik_inj g gs' ((h2 g).mpr (.inr hg))⟩
theorem run_sizes {m1 : M} {gd : Rho → Option D} {a b c d : D} {ρ : Rho} (e1 : m1 [.val a, .val b, .val c, .ownK [] [], .un, .un, .un, .un, .un] = some (.nx ρ)) (e2 : gd ρ = some d) : kFun 3 6 (mSeq (fun ρ => some (.nx (ρ.set 3 (.ownK [] [])))) (mSeq m1 (kRet gd))) [a, b, c] = some d := by
  simp only [kFun_eq, kSet_eq, kRet_eq, kName_eq, kOwn_eq, kApp_eq, kPut_eq, mFun, mSeq, mSet, mRet, bName, gVar, Dl.gCons, Dl.gNil, gC, gDs, gBin, gU, gTest, gTru, gNot, gAnd, gOr, gSeq, mIf, mFor, List.map_cons, List.map_nil, List.length_cons, List.length_nil, List.replicate, List.cons_append, List.nil_append, List.set, List.getElem?_cons_zero, List.getElem?_cons_succ, Option.bind_some, Option.map_some, if_true, Nat.reduceAdd, reduceIte, e1, e2]
theorem sizes_at (w : Wor s L gr be) (ok : OkS gr be) {nums : D} {t : Nat} {ns : List Nat} (hN : Nums nums ns) (hn : ∀ x ∈ ns, x < gr.length) (hl : ns.length ≤ 40) (ht : t < 13) : ∃ d, m_sizes_by_group [L, nums, .int (.ofNat t)] = some d ∧ SizesOk gr be t ns d := by
  obtain ⟨gs, t4, t5, h1, h2, h3⟩ := outer_at w ok (nums := nums) (gs := []) (s4 := .un) (s5 := .un) (s6 := .un) (s7 := .un) (s8 := .un) hN hn ht ⟨List.nodup_nil, fun _ h => nomatch h⟩
  obtain ⟨d, d1, d2⟩ := dict_at w ok (t := t) (s4 := t4) (s5 := t5) (s6 := .un) (s7 := .un) (s8 := .un) hN hn hl h3
  exact ⟨d, by rw [sizes_eq]; exact run_sizes h1 d1, d2⟩
theorem SizesOk.get {t g : Nat} {ns : List Nat} {d : D} (h : SizesOk gr be t ns d) (hg : g ∈ ns) : fGet d (.int (.ofNat g)) = some (.tup (nts (reach gr be t g))) := by
  obtain ⟨ks, xs, rfl, h1⟩ := h
  exact h1 g hg
theorem reachable_at (w : Wor s L gr be) (ok : OkS gr be) {t g : Nat} (hg : g < gr.length) (ht : t < 13) : m_reachable_sizes [L, .int (.ofNat g), .int (.ofNat t)] = some (.tup (nts (reach gr be t g))) := by
  obtain ⟨d, h1, h2⟩ := sizes_at w ok (t := t) (.tup [g]) (by intro x hx; rw [List.mem_singleton] at hx; subst hx; exact hg) (by simp) ht
  have h3 := h2.get List.mem_cons_self
  have h1' : m_sizes_by_group [L, D.tup [D.int (.ofNat g)], .int (.ofNat t)] = some d := h1
  unfold m_reachable_sizes
  generalize m_sizes_by_group = ms at h1' ⊢
  simp only [kFun_eq, kSet_eq, kRet_eq, kName_eq, kOwn_eq, kApp_eq, kPut_eq, mFun, mSeq, mSet, mRet, bName, gVar, Dl.gCons, Dl.gNil, gC, gDs, gBin, gU, gTest, gTru, gNot, gAnd, gOr, gSeq, mIf, mFor, List.map_cons, List.map_nil, List.length_cons, List.length_nil, List.replicate, List.cons_append, List.nil_append, List.set, List.getElem?_cons_zero, List.getElem?_cons_succ, Option.bind_some, Option.map_some, if_true, Nat.reduceAdd, reduceIte, mkTup]
  rw [if_pos (show 1 ≤ top by unfold top; omega), Option.bind_some]
  simp only [kFun_eq, kSet_eq, kRet_eq, kName_eq, kOwn_eq, kApp_eq, kPut_eq, mFun, mSeq, mSet, mRet, bName, gVar, Dl.gCons, Dl.gNil, gC, gDs, gBin, gU, gTest, gTru, gNot, gAnd, gOr, gSeq, mIf, mFor, List.map_cons, List.map_nil, List.length_cons, List.length_nil, List.replicate, List.cons_append, List.nil_append, List.set, List.getElem?_cons_zero, List.getElem?_cons_succ, Option.bind_some, Option.map_some, if_true, Nat.reduceAdd, reduceIte, h1']
  simp only [kFun_eq, kSet_eq, kRet_eq, kName_eq, kOwn_eq, kApp_eq, kPut_eq, mFun, mSeq, mSet, mRet, bName, gVar, Dl.gCons, Dl.gNil, gC, gDs, gBin, gU, gTest, gTru, gNot, gAnd, gOr, gSeq, mIf, mFor, List.map_cons, List.map_nil, List.length_cons, List.length_nil, List.replicate, List.cons_append, List.nil_append, List.set, List.getElem?_cons_zero, List.getElem?_cons_succ, Option.bind_some, Option.map_some, if_true, Nat.reduceAdd, reduceIte, h3]
/-! ### unmet_group -/
def maxL : List Nat → Nat
  | [] => 0
  | x :: l => max x (maxL l)
theorem foldl_max (a : Nat) : ∀ l : List Nat, (l.map Int.ofNat).foldl max (Int.ofNat a) = Int.ofNat (max a (maxL l))
  | [] => by simp [maxL]
  | x :: l => by
    rw [List.map_cons, List.foldl_cons]
    have e : max (Int.ofNat a) (Int.ofNat x) = Int.ofNat (max a x) := by
      show max (a : Int) (x : Int) = ((max a x : Nat) : Int)
      omega
    rw [e, foldl_max (max a x) l, Nat.max_assoc]
    rfl
theorem maxD_nts (l : List Nat) : fMaxD 0 (nts l) = some (.int (.ofNat (maxL l))) := by
  unfold fMaxD
  rw [toInts_nts]
  cases l with
  | nil => rfl
  | cons x l =>
    simp only [Option.map_some, List.map_cons]
    rw [foldl_max]
    rfl
theorem maxL_lt {k : Nat} (hk : 0 < k) : ∀ {l : List Nat}, (∀ x ∈ l, x < k) → maxL l < k
  | [], _ => hk
  | x :: l, h => by
    have h1 := h x List.mem_cons_self
    have h2 := maxL_lt hk (l := l) fun y hy => h y (List.mem_cons_of_mem _ hy)
    unfold maxL
    omega
theorem le_maxL : ∀ {l : List Nat} {x : Nat}, x ∈ l → x ≤ maxL l
  | y :: l, x, h => by
    unfold maxL
    rcases List.mem_cons.mp h with rfl | h
    · exact Nat.le_max_left _ _
    · exact Nat.le_trans (le_maxL h) (Nat.le_max_right _ _)
/-- none of the sizes is reached -/
def lone (gr be : List (List Nat)) (sizes : List Nat) (g : Nat) : Bool := !(sizes.any fun x => (reach gr be 12 g).contains x)
theorem reach_max {sizes : List Nat} {x g : Nat} (hx : x ∈ sizes) (h : ∀ y ∈ sizes, y < 13) : (reach gr be (maxL sizes) g).contains x = (reach gr be 12 g).contains x := by
  have h1 := le_maxL hx
  have h2 := h x hx
  have h3 : x ∈ reach gr be (maxL sizes) g ↔ x ∈ reach gr be 12 g := by
    rw [mem_reach, mem_reach]
    constructor
    · rintro ⟨_, q⟩; exact ⟨by omega, q⟩
    · rintro ⟨_, q⟩; exact ⟨h1, q⟩
  cases e : (reach gr be 12 g).contains x with
  | true => simpa using h3.mpr (by simpa using e)
  | false =>
    cases e2 : (reach gr be (maxL sizes) g).contains x with
    | false => rfl
    | true =>
      have := h3.mp (by simpa using e2)
      simp [this] at e
def unmet (gr be : List (List Nat)) (start goal sizes : List Nat) : Option Nat := (start.filter fun g => !(goal.contains g)).find? (lone gr be sizes)
def natD : Option Nat → D
  | some n => .int (.ofNat n)
  | none => .non
def uW : Rho → Option D := gLc (gSeq (gVar 1)) (kName 6) (gTest (gBin (fIn true) (gVar 6) (gVar 2))) (gVar 6) [6]
def uS : Rho → Option D := gDs m_sizes_by_group (Dl.gCons (gVar 0) (Dl.gCons (gVar 4) (Dl.gCons (gSeqF (fMaxD 0) (gVar 3)) Dl.gNil)))
def uA : Rho → Option D := gDs (onLst fAny) (Dl.gCons (gLc (gSeq (gVar 3)) (kName 7) (fun _ => some true) (gBin (fIn false) (gVar 7) (gBin fGet (gVar 5) (gVar 6))) [7]) Dl.gNil)
def uB : M := mIf (gNot (gTru uA)) (kRet (gVar 6)) mNil
theorem unmet_eq : m_unmet_group = kFun 4 4 (mSeq (kSet 4 uW) (mSeq (kSet 5 uS) (mSeq (mFor (gSeq (gVar 4)) (kName 6) uB) (kRet (gC .non))))) := rfl
theorem toBools_map {α : Type} (f : α → Bool) : ∀ l : List α, toBools (l.map fun x => D.bl (f x)) = some (l.map f)
  | [] => rfl
  | x :: l => by
    rw [List.map_cons]
    unfold toBools
    rw [toBools_map f l]
    rfl
theorem any_bools {α : Type} (f : α → Bool) (l : List α) : fAny (l.map fun x => D.bl (f x)) = some (.bl (l.any f)) := by
  unfold fAny
  rw [toBools_map, Option.map_some, List.any_map]
  rfl
theorem run_unmet {gw gs : Rho → Option D} {bd : M} {a b c d x y r : D} {o : Out} (e1 : gw [.val a, .val b, .val c, .val d, .un, .un, .un, .un] = some x) (e2 : gs [.val a, .val b, .val c, .val d, .val x, .un, .un, .un] = some y)
    (e3 : mFor (gSeq (gVar 4)) (kName 6) bd [.val a, .val b, .val c, .val d, .val x, .val y, .un, .un] = some o) (e4 : o = .rt r ∨ (∃ ρ, o = .nx ρ) ∧ r = .non) : kFun 4 4 (mSeq (kSet 4 gw) (mSeq (kSet 5 gs) (mSeq (mFor (gSeq (gVar 4)) (kName 6) bd) (kRet (gC .non))))) [a, b, c, d] = some r := by
  generalize mFor (gSeq (gVar 4)) (kName 6) bd = m at e3 ⊢
  rcases e4 with rfl | ⟨⟨ρ, rfl⟩, rfl⟩
  · simp only [kFun_eq, kSet_eq, kRet_eq, kName_eq, kOwn_eq, kApp_eq, kPut_eq, mFun, mSeq, mSet, mRet, bName, gVar, Dl.gCons, Dl.gNil, gC, gDs, gBin, gU, gTest, gTru, gNot, gAnd, gOr, gSeq, mIf, mFor, List.map_cons, List.map_nil, List.length_cons, List.length_nil, List.replicate, List.cons_append, List.nil_append, List.set, List.getElem?_cons_zero, List.getElem?_cons_succ, Option.bind_some, Option.map_some, if_true, Nat.reduceAdd, reduceIte, e1, e2, e3]
  · simp only [kFun_eq, kSet_eq, kRet_eq, kName_eq, kOwn_eq, kApp_eq, kPut_eq, mFun, mSeq, mSet, mRet, bName, gVar, Dl.gCons, Dl.gNil, gC, gDs, gBin, gU, gTest, gTru, gNot, gAnd, gOr, gSeq, mIf, mFor, List.map_cons, List.map_nil, List.length_cons, List.length_nil, List.replicate, List.cons_append, List.nil_append, List.set, List.getElem?_cons_zero, List.getElem?_cons_succ, Option.bind_some, Option.map_some, if_true, Nat.reduceAdd, reduceIte, e1, e2, e3]
theorem unmet_at (w : Wor s L gr be) (ok : OkS gr be) {dst dgo dsi : D} {start goal sizes : List Nat} (h1 : Nums dst start) (h2 : dgo = .tup (nts goal)) (h3 : Nums dsi sizes) (hn : ∀ x ∈ start, x < gr.length) (hl : start.length ≤ 40) (hs : ∀ x ∈ sizes, x < 13) (hsl : sizes.length ≤ 40) :
    m_unmet_group [L, dst, dgo, dsi] = some (natD (unmet gr be start goal sizes)) := by
  subst h2
  rw [unmet_eq]
  have e1 : uW [.val L, .val dst, .val (.tup (nts goal)), .val dsi, .un, .un, .un, .un] = some (.lst (nts (start.filter fun g => !(goal.contains g)))) := by
    unfold uW
    rw [gLc_map (e := fun n : Nat => D.int (.ofNat n)) (xs := start) (p := fun g => !(goal.contains g)) (h := fun n => .int (.ofNat n)) (h1.seq rfl) (le_top hl)]
    intro g hg
    refine ⟨_, by rw [kName_eq]; rfl, ?_, fun _ => rfl⟩
    simp only [kFun_eq, kSet_eq, kRet_eq, kName_eq, kOwn_eq, kApp_eq, kPut_eq, mFun, mSeq, mSet, mRet, bName, gVar, Dl.gCons, Dl.gNil, gC, gDs, gBin, gU, gTest, gTru, gNot, gAnd, gOr, gSeq, mIf, mFor, List.map_cons, List.map_nil, List.length_cons, List.length_nil, List.replicate, List.cons_append, List.nil_append, List.set, List.getElem?_cons_zero, List.getElem?_cons_succ, Option.bind_some, Option.map_some, if_true, Nat.reduceAdd, reduceIte, wipeR, in_tup]
  have hw : ∀ x ∈ start.filter (fun g => !(goal.contains g)), x < gr.length := fun x hx => hn x (List.mem_filter.mp hx).1
  obtain ⟨d, d1, d2⟩ := sizes_at w ok (t := maxL sizes) (.lst (start.filter fun g => !(goal.contains g))) hw (Nat.le_trans (List.length_filter_le _ _) hl) (maxL_lt (by decide) hs)
  have e2 : uS [.val L, .val dst, .val (.tup (nts goal)), .val dsi, .val (.lst (nts (start.filter fun g => !(goal.contains g)))), .un, .un, .un] = some d := by
    have em : gSeqF (fMaxD 0) (gVar 3) [.val L, .val dst, .val (.tup (nts goal)), .val dsi, .val (.lst (nts (start.filter fun g => !(goal.contains g)))), .un, .un, .un] = some (.int (.ofNat (maxL sizes))) := by
      unfold gSeqF
      simp only [kFun_eq, kSet_eq, kRet_eq, kName_eq, kOwn_eq, kApp_eq, kPut_eq, mFun, mSeq, mSet, mRet, bName, gVar, Dl.gCons, Dl.gNil, gC, gDs, gBin, gU, gTest, gTru, gNot, gAnd, gOr, gSeq, mIf, mFor, List.map_cons, List.map_nil, List.length_cons, List.length_nil, List.replicate, List.cons_append, List.nil_append, List.set, List.getElem?_cons_zero, List.getElem?_cons_succ, Option.bind_some, Option.map_some, if_true, Nat.reduceAdd, reduceIte]
      cases h3 <;> exact maxD_nts _
    unfold uS
    simp only [gDs, Dl.gCons, Dl.gNil, em, Option.bind_some]
    exact d1
  obtain ⟨ρ', -, hf⟩ := forRun_find (bind := kName 6) (body := uB) (e := fun n : Nat => D.int (.ofNat n)) (p := lone gr be sizes) (r := fun n : Nat => D.int (.ofNat n))
    (fun ρ => ∃ s6 s7, ρ = [.val L, .val dst, .val (.tup (nts goal)), .val dsi, .val (.lst (nts (start.filter fun g => !(goal.contains g)))), .val d, s6, s7]) (start.filter fun g => !(goal.contains g))
    [.val L, .val dst, .val (.tup (nts goal)), .val dsi, .val (.lst (nts (start.filter fun g => !(goal.contains g)))), .val d, .un, .un] ⟨_, _, rfl⟩ (fun g ρ hI hg => by
      obtain ⟨s6, s7, rfl⟩ := hI
      have eA : uA [.val L, .val dst, .val (.tup (nts goal)), .val dsi, .val (.lst (nts (start.filter fun g => !(goal.contains g)))), .val d, .val (.int (.ofNat g)), s7] = some (.bl (sizes.any fun x => (reach gr be 12 g).contains x)) := by
        have el := gLc_all (gi := gSeq (gVar 3)) (bind := kName 7) (te := gBin (fIn false) (gVar 7) (gBin fGet (gVar 5) (gVar 6))) (vs := [7]) (ρ := [.val L, .val dst, .val (.tup (nts goal)), .val dsi, .val (.lst (nts (start.filter fun g => !(goal.contains g)))), .val d, .val (.int (.ofNat g)), s7])
          (e := fun n : Nat => D.int (.ofNat n)) (xs := sizes) (h := fun x => .bl ((reach gr be 12 g).contains x)) (h3.seq rfl) (le_top hsl) (fun x hx => by
            refine ⟨_, by rw [kName_eq]; rfl, ?_⟩
            simp only [kFun_eq, kSet_eq, kRet_eq, kName_eq, kOwn_eq, kApp_eq, kPut_eq, mFun, mSeq, mSet, mRet, bName, gVar, Dl.gCons, Dl.gNil, gC, gDs, gBin, gU, gTest, gTru, gNot, gAnd, gOr, gSeq, mIf, mFor, List.map_cons, List.map_nil, List.length_cons, List.length_nil, List.replicate, List.cons_append, List.nil_append, List.set, List.getElem?_cons_zero, List.getElem?_cons_succ, Option.bind_some, Option.map_some, if_true, Nat.reduceAdd, reduceIte, wipeR, d2.get hg, in_tup]
            rw [reach_max hx hs]
            rfl)
        unfold uA
        simp only [gDs, Dl.gCons, Dl.gNil, el, Option.bind_some, onLst, any_bools]
      refine ⟨_, by rw [kName_eq]; rfl, fun hp => ?_, fun hp => ⟨[.val L, .val dst, .val (.tup (nts goal)), .val dsi, .val (.lst (nts (start.filter fun g => !(goal.contains g)))), .val d, .val (.int (.ofNat g)), s7], ?_, _, _, rfl⟩⟩
      · unfold uB lone at *
        generalize uA = ua at eA ⊢
        have hq : (sizes.any fun x => (reach gr be 12 g).contains x) = false := by simpa using hp
        rw [hq] at eA
        simp only [kFun_eq, kSet_eq, kRet_eq, kName_eq, kOwn_eq, kApp_eq, kPut_eq, mFun, mSeq, mSet, mRet, bName, gVar, Dl.gCons, Dl.gNil, gC, gDs, gBin, gU, gTest, gTru, gNot, gAnd, gOr, gSeq, mIf, mFor, List.map_cons, List.map_nil, List.length_cons, List.length_nil, List.replicate, List.cons_append, List.nil_append, List.set, List.getElem?_cons_zero, List.getElem?_cons_succ, Option.bind_some, Option.map_some, if_true, Nat.reduceAdd, reduceIte, eA, fTru]
        rfl
      · unfold uB lone at *
        generalize uA = ua at eA ⊢
        have hq : (sizes.any fun x => (reach gr be 12 g).contains x) = true := by simpa using hp
        rw [hq] at eA
        simp only [kFun_eq, kSet_eq, kRet_eq, kName_eq, kOwn_eq, kApp_eq, kPut_eq, mFun, mSeq, mSet, mRet, bName, gVar, Dl.gCons, Dl.gNil, gC, gDs, gBin, gU, gTest, gTru, gNot, gAnd, gOr, gSeq, mIf, mFor, List.map_cons, List.map_nil, List.length_cons, List.length_nil, List.replicate, List.cons_append, List.nil_append, List.set, List.getElem?_cons_zero, List.getElem?_cons_succ, Option.bind_some, Option.map_some, if_true, Nat.reduceAdd, reduceIte, eA, fTru]
        rfl)
  refine run_unmet e1 e2 (o := outOf (fun n : Nat => D.int (.ofNat n)) ρ' ((start.filter fun g => !(goal.contains g)).find? (lone gr be sizes))) ?_ ?_
  · unfold mFor
    rw [(Nums.lst _).seq rfl, Option.bind_some]
    exact hf
  · unfold unmet
    cases (start.filter fun g => !(goal.contains g)).find? (lone gr be sizes) with
    | some x => exact .inl rfl
    | none => exact .inr ⟨⟨_, rfl⟩, rfl⟩
theorem enough_at (w : Wor s L gr be) (ok : OkS gr be) {dst dgo dsi : D} {start goal sizes : List Nat} (h1 : Nums dst start) (h2 : dgo = .tup (nts goal)) (h3 : Nums dsi sizes) (hn : ∀ x ∈ start, x < gr.length) (hl : start.length ≤ 40) (hs : ∀ x ∈ sizes, x < 13) (hsl : sizes.length ≤ 40) :
    m_sizes_enough [L, dst, dgo, dsi] = some (.bl (unmet gr be start goal sizes).isNone) := by
  have h := unmet_at w ok h1 h2 h3 hn hl hs hsl
  unfold m_sizes_enough
  generalize m_unmet_group = mu at h ⊢
  simp only [kFun_eq, kSet_eq, kRet_eq, kName_eq, kOwn_eq, kApp_eq, kPut_eq, mFun, mSeq, mSet, mRet, bName, gVar, Dl.gCons, Dl.gNil, gC, gDs, gBin, gU, gTest, gTru, gNot, gAnd, gOr, gSeq, mIf, mFor, List.map_cons, List.map_nil, List.length_cons, List.length_nil, List.replicate, List.cons_append, List.nil_append, List.set, List.getElem?_cons_zero, List.getElem?_cons_succ, Option.bind_some, Option.map_some, if_true, Nat.reduceAdd, reduceIte, h]
  cases unmet gr be start goal sizes <;> rfl
end
end Wl
set_option maxRecDepth 100000
set_option maxHeartbeats 4000000
namespace Wl
open PySem PySem.Spec PyProof.Rows L2 Dl Mp
def reaches (gr be : List (List Nat)) : List (List Nat) := (List.range gr.length).map (reach gr be 12)
/-- a world, its lattice, and what the law makes of its groups -/
structure Wre (s : List Nat) (L : D) (gr be : List (List Nat)) : Prop where
  w : Wor s L gr be
  ok : OkS gr be
  held : m__law_held [.lst (trows gr)] = some (.lst (rows be))
  rea : m__law_reaches [.lst (trows gr), .lst (rows be)] = some (.lst (rows (reaches gr be)))
theorem wre_of {s : List Nat} {L : D} {gr be re : List (List Nat)} (w : Wor s L gr be) (ok : okS gr be = true) (h1 : m__law_held [.lst (trows gr)] = some (.lst (rows be))) (h2 : m__law_reaches [.lst (trows gr), .lst (rows be)] = some (.lst (rows re))) (h3 : re = reaches gr be) : Wre s L gr be :=
  ⟨w, okS_of ok, h1, by rw [← h3]; exact h2⟩
end Wl
set_option maxRecDepth 100000
set_option maxHeartbeats 4000000
/-! steps through a law -/
namespace Dl
open PySem PySem.Spec PyProof.Rows L2
/-- the reading m goes on from ρ (a structure, so that nothing unfolds it unasked) -/
structure Go (m : MW) (ρ : Rho) (Po : Out → Prop) (Er : Rho → EK) : Prop where
  out : m ρ Po Er
section
variable {ρ ρ' : Rho} {Po : Out → Prop} {Er : Rho → EK} {REST m n : MW} {i : Nat} {g : Rho → Option D} {gs : Rho → Option (List D)} {d : D}
theorem seq_lift {m : M} (hm : m ρ = some (.nx ρ')) (h : Go REST ρ' Po Er) : Go (mwSeq (mwLift m) REST) ρ Po Er := by
  constructor
  show wOpt (m ρ) _
  rw [hm]
  exact h.out
theorem end_ret (hg : g ρ = some d) (h : Po (.rt d)) : Go (mwLift (kRet g)) ρ Po Er := by
  constructor
  show wOpt (kRet g ρ) _
  rw [kRet_eq]
  unfold mRet
  rw [hg]
  exact h
theorem seq_ret (hg : g ρ = some d) (h : Po (.rt d)) : Go (mwSeq (mwLift (kRet g)) REST) ρ Po Er := by
  constructor
  show wOpt (kRet g ρ) _
  rw [kRet_eq]
  unfold mRet
  rw [hg]
  exact h
theorem seq_set (hg : g ρ = some d) (h : Go REST (ρ.set i (.val d)) Po Er) : Go (mwSeq (mwLift (kSet i g)) REST) ρ Po Er := by
  refine seq_lift (ρ' := ρ.set i (.val d)) ?_ h
  rw [kSet_eq]
  unfold mSet
  rw [hg]
  rfl
theorem seq_pool {k : Nat} (hg : gs ρ = some [.scr, .int (.ofNat k)]) (h : Go REST (ρ.set i (.val (.vol 0))) Po Er) : Go (mwSeq (mwSet i (wCall mPool (wLift gs))) REST) ρ Po Er := by
  constructor
  show wOpt (gs ρ) _
  rw [hg]
  exact ⟨_, rfl, Int.natCast_nonneg k, h.out⟩
/-- a drawn number -/
theorem take_any {k : Nat} {Pd : D → Prop} {E : EK} (hg : gs ρ = some [.vol 0, .int (.ofNat k)]) (h0 : 0 < k) (h1 : k < 1000000) (h : ∀ r : Nat, r < k → Pd (.int (.ofNat r))) : wCall mTake (wLift gs) ρ Pd E := by
  show wOpt (gs ρ) _
  rw [hg]
  refine ⟨_, rfl, Int.natCast_pos.mpr h0, ?_, fun r r0 r1 => ?_⟩
  · show (k : Int) < 1000000
    omega
  · obtain ⟨r, rfl⟩ := Int.eq_ofNat_of_zero_le r0
    exact h r (by have : (r : Int) < (k : Int) := r1; omega)
theorem seq_setW {w : GW} {T : D → Prop} (hw : ∀ Q : D → Prop, (∀ d, T d → Q d) → w ρ Q (Er ρ)) (h : ∀ d, T d → Go REST (ρ.set i (.val d)) Po Er) : Go (mwSeq (mwSet i w) REST) ρ Po Er := by
  constructor
  show w ρ _ (Er ρ)
  exact hw _ fun d hd => (h d hd).out
theorem seq_take {k : Nat} (hg : gs ρ = some [.vol 0, .int (.ofNat k)]) (h0 : 0 < k) (h1 : k < 1000000) (h : ∀ r : Nat, r < k → Go REST (ρ.set i (.val (.int (.ofNat r)))) Po Er) : Go (mwSeq (mwSet i (wCall mTake (wLift gs))) REST) ρ Po Er := by
  constructor
  show wCall mTake (wLift gs) ρ _ (Er ρ)
  exact take_any hg h0 h1 fun r hr => (h r hr).out
/-- a test that may go either way -/
theorem seq_if {t : GWx Bool} (ht : ∀ Pb : Bool → Prop, (∀ b, Pb b) → t ρ Pb (Er ρ)) (h1 : Go (mwSeq m REST) ρ Po Er) (h2 : Go (mwSeq n REST) ρ Po Er) : Go (mwSeq (mwIf t m n) REST) ρ Po Er := by
  constructor
  show t ρ _ (Er ρ)
  refine ht _ fun b => ?_
  cases b
  · exact h2.out
  · exact h1.out
theorem seq_skip {t : Rho → Option Bool} {m : M} (ht : t ρ = some false) (h : Go REST ρ Po Er) : Go (mwSeq (mwLift (mIf t m mNil)) REST) ρ Po Er := by
  refine seq_lift (ρ' := ρ) ?_ h
  unfold mIf
  rw [ht]
  rfl
theorem seq_for {α : Type} {bind : D → Rho → Option Rho} {body : M} {gi : Rho → Option (List D)} {e : α → D} {xs : List α} (I : List α → Rho → Prop) (hi : gi ρ = some (xs.map e)) (h0 : I [] ρ)
    (hs : ∀ pre x post ρ, xs = pre ++ x :: post → I pre ρ → ∃ ρ1 ρ2, bind (e x) ρ = some ρ1 ∧ body ρ1 = some (.nx ρ2) ∧ I (pre ++ [x]) ρ2) (h : ∀ ρ', I xs ρ' → Go REST ρ' Po Er) : Go (mwSeq (mwLift (mFor gi bind body)) REST) ρ Po Er := by
  obtain ⟨ρ', h1, h2⟩ := forRun_P (bind := bind) (body := body) I hs xs [] ρ rfl h0
  refine seq_lift (ρ' := ρ') ?_ (h ρ' h2)
  unfold mFor
  rw [hi, Option.bind_some]
  exact h1
/-- set again in one of two ways -/
theorem seq_ifset {t : GWx Bool} {w : GW} {T : D → Prop} {d0 : D} (ht : ∀ Pb : Bool → Prop, (∀ b, Pb b) → t ρ Pb (Er ρ)) (h0 : T d0) (hρ : ρ.set i (.val d0) = ρ) (hw : ∀ Q : D → Prop, (∀ d, T d → Q d) → w ρ Q (Er ρ)) (h : ∀ d, T d → Go REST (ρ.set i (.val d)) Po Er) : Go (mwSeq (mwIf t (mwSet i w) mwNil) REST) ρ Po Er := by
  refine seq_if ht (seq_setW hw h) ⟨?_⟩
  show REST ρ Po Er
  have := (h d0 h0).out
  rw [hρ] at this
  exact this
theorem call_3 {w : List D → (D → Prop) → EK → Prop} {g0 g1 : Rho → Option D} {w2 : GW} {d0 d1 : D} {Q : D → Prop} {E : EK} (h0 : g0 ρ = some d0) (h1 : g1 ρ = some d1) (h2 : w2 ρ (fun d2 => w [d0, d1, d2] Q noEx) E) : wCall w (wCons (wLift g0) (wCons (wLift g1) (wCons w2 wNil))) ρ Q E := by
  show wOpt (g0 ρ) _
  rw [h0]
  show wOpt (g1 ρ) _
  rw [h1]
  exact h2
theorem seq_nil (h : Go REST ρ Po Er) : Go (mwSeq mwNil REST) ρ Po Er := ⟨h.out⟩
theorem test_take {k j : Nat} {Pb : Bool → Prop} {E : EK} (hg : gs ρ = some [.vol 0, .int (.ofNat k)]) (h0 : 0 < k) (h1 : k < 1000000) (h : ∀ b, Pb b) : wTest (wBin fEq (wCall mTake (wLift gs)) (wLift (gC (.int (.ofNat j))))) ρ Pb E := by
  show wCall mTake (wLift gs) ρ _ E
  refine take_any hg h0 h1 fun r _ => ?_
  show wOpt (some _) _
  exact ⟨_, rfl, h _⟩
/-- 1 + a drawn number -/
theorem add_take {k a : Nat} {Pd : D → Prop} {E : EK} (hg : gs ρ = some [.vol 0, .int (.ofNat k)]) (h0 : 0 < k) (h1 : k < 1000000) (h : ∀ r : Nat, r < k → Pd (.int (.ofNat (a + r)))) : wBin fAdd (wLift (gC (.int (.ofNat a)))) (wCall mTake (wLift gs)) ρ Pd E := by
  show wCall mTake (wLift gs) ρ _ E
  refine take_any hg h0 h1 fun r hr => ?_
  show wOpt (fAdd (.int (.ofNat a)) (.int (.ofNat r))) _
  have e : fAdd (.int (.ofNat a)) (.int (.ofNat r)) = some (.int (.ofNat (a + r))) := rfl
  rw [e]
  exact h r hr
/-- a comprehension whose items are drawn -/
theorem wlc_typed {α : Type} {e : α → D} {T : α → Prop} {bind : D → Rho → Option Rho} {te : GW} {Pd : List D → Prop} : ∀ (ds : List D) (acc : List α), (∀ x ∈ ds, ∃ ρ1, bind x ρ = some ρ1 ∧ ∀ Q : D → Prop, (∀ a, T a → Q (e a)) → te ρ1 Q noEx) →
    (∀ as : List α, as.length = ds.length → (∀ a ∈ as, T a) → Pd ((acc ++ as).map e)) → wlcRun bind (fun _ Po _ => Po true) te ρ ds (acc.map e) Pd
  | [], acc, _, h => by
    have := h [] rfl (fun _ z => nomatch z)
    rw [List.append_nil] at this
    exact this
  | x :: ds, acc, hb, h => by
    obtain ⟨ρ1, h1, h2⟩ := hb x List.mem_cons_self
    refine ⟨ρ1, h1, ?_⟩
    show te ρ1 _ noEx
    refine h2 _ fun a ha => ?_
    have := wlc_typed (e := e) (T := T) (bind := bind) (te := te) (Pd := Pd) ds (acc ++ [a]) (fun y hy => hb y (List.mem_cons_of_mem _ hy)) fun as hl hT => by
      rw [List.append_assoc]
      exact h (a :: as) (by rw [List.length_cons, hl, List.length_cons]) fun b hb' => by
        rcases List.mem_cons.mp hb' with rfl | hb'
        · exact ha
        · exact hT b hb'
    rw [List.map_append] at this
    exact this
theorem wLcs_typed {α : Type} {e : α → D} {T : α → Prop} {gi : Rho → Option (List D)} {bind : D → Rho → Option Rho} {te : GW} {vs : List Nat} {ds : List D} {Pd : List D → Prop} {E : EK} (hi : gi ρ = some ds) (hl : ds.length ≤ 40) (hb : ∀ x ∈ ds, ∃ ρ1, bind x (wipeR ρ vs) = some ρ1 ∧ ∀ Q : D → Prop, (∀ a, T a → Q (e a)) → te ρ1 Q noEx)
    (h : ∀ as : List α, as.length = ds.length → (∀ a ∈ as, T a) → Pd (as.map e)) : wLcs (wLift gi) bind (fun _ Po _ => Po true) te vs ρ Pd E := by
  show wOpt (gi ρ) _
  rw [hi]
  refine ⟨Nat.le_trans hl (by unfold top; omega), ?_⟩
  exact wlc_typed (e := e) (T := T) ds [] hb h
theorem seq_setLc {α : Type} {e : α → D} {T : α → Prop} {gi : Rho → Option (List D)} {bind : D → Rho → Option Rho} {te : GW} {vs : List Nat} {ds : List D} (hi : gi ρ = some ds) (hl : ds.length ≤ 40) (hb : ∀ x ∈ ds, ∃ ρ1, bind x (wipeR ρ vs) = some ρ1 ∧ ∀ Q : D → Prop, (∀ a, T a → Q (e a)) → te ρ1 Q noEx)
    (h : ∀ as : List α, as.length = ds.length → (∀ a ∈ as, T a) → Go REST (ρ.set i (.val (.lst (as.map e)))) Po Er) : Go (mwSeq (mwSet i (wOf (wLcs (wLift gi) bind (fun _ Po _ => Po true) te vs))) REST) ρ Po Er := by
  constructor
  show wLcs (wLift gi) bind (fun _ Po _ => Po true) te vs ρ _ (Er ρ)
  exact wLcs_typed hi hl hb fun as h1 h2 => (h as h1 h2).out
theorem seq_ownLc {α : Type} {e : α → D} {T : α → Prop} {gi : Rho → Option (List D)} {bind : D → Rho → Option Rho} {te : GW} {vs : List Nat} {ds : List D} (hi : gi ρ = some ds) (hl : ds.length ≤ 40) (hb : ∀ x ∈ ds, ∃ ρ1, bind x (wipeR ρ vs) = some ρ1 ∧ ∀ Q : D → Prop, (∀ a, T a → Q (e a)) → te ρ1 Q noEx)
    (h : ∀ as : List α, as.length = ds.length → (∀ a ∈ as, T a) → Go REST (ρ.set i (.own (as.map e))) Po Er) : Go (mwSeq (mwOwn i (wLcs (wLift gi) bind (fun _ Po _ => Po true) te vs)) REST) ρ Po Er := by
  constructor
  show wLcs (wLift gi) bind (fun _ Po _ => Po true) te vs ρ _ (Er ρ)
  exact wLcs_typed hi hl hb fun as h1 h2 => (h as h1 h2).out
theorem seq_appT {ds : List D} {w : GW} (hi : ρ[i]? = some (.own ds)) (hl : ds.length < 100) {T : D → Prop} (hw : ∀ Q : D → Prop, (∀ d, T d → Q d) → w ρ Q (Er ρ)) (h : ∀ d, T d → Go REST (ρ.set i (.own (ds ++ [d]))) Po Er) : Go (mwSeq (mwApp i w) REST) ρ Po Er := by
  constructor
  show mwApp i w ρ _ Er
  unfold mwApp
  rw [hi]
  exact hw _ fun d hd => ⟨by unfold top; omega, (h d hd).out⟩
/-- a world by drawn sizes, its lattice -/
theorem seq_lat {ws : List D → (D → Prop) → EK → Prop} {m1 m2 : List D → Option (List Str × List D)} {menu : List (List Nat)} (hs : ∀ (Pd : D → Prop), (∀ s ∈ menu, Pd (.tup (nts s))) → ws [.vol 0] Pd noEx) (hv : gs ρ = some [.vol 0])
    (h : ∀ s ∈ menu, ∃ W M, m1 [.tup (nts s)] = some W ∧ m2 [.obj 0 W.1 W.2] = some M ∧ Go REST (ρ.set i (.val (.obj 1 M.1 M.2))) Po Er) : Go (mwSeq (mwSet i (wMake 1 m2 (wCons (wMake 0 m1 (wCons (wCall ws (wLift gs)) wNil)) wNil))) REST) ρ Po Er := by
  constructor
  show wOpt (gs ρ) _
  rw [hv]
  refine hs _ fun s hm => ?_
  obtain ⟨W, M, h1, h2, h3⟩ := h s hm
  show wOpt (m1 [.tup (nts s)]) _
  rw [h1]
  show wOpt (m2 [.obj 0 W.1 W.2]) _
  rw [h2]
  exact h3.out
/-- one of a row -/
theorem ret_one {k : Nat} {xs : List D} (hx : g ρ = some (.lst xs)) (hg : gs ρ = some [.vol 0, .int (.ofNat k)]) (hk : xs.length = k) (h0 : 0 < k) (h1 : k < 1000000) (h : ∀ x ∈ xs, Po (.rt x)) : Go (mwRet (wBin fIx (wLift g) (wCall mTake (wLift gs)))) ρ Po Er := by
  constructor
  show wOpt (g ρ) _
  rw [hx]
  show wCall mTake (wLift gs) ρ _ (Er ρ)
  refine take_any hg h0 h1 fun r hr => ?_
  obtain ⟨x, hx'⟩ : ∃ x, xs[r]? = some x := ⟨xs[r]'(by omega), List.getElem?_eq_getElem (by omega)⟩
  show wOpt (atD xs (.ofNat r)) _
  unfold atD
  show wOpt (xs[r]?) _
  rw [hx']
  exact h x (List.mem_of_getElem? hx')
/-! ### steps through a def that is data -/
theorem m_set {R : M} {o : Option Out} (hg : g ρ = some d) (h : R (ρ.set i (.val d)) = o) : mSeq (kSet i g) R ρ = o := by
  rw [kSet_eq]
  unfold mSeq mSet
  rw [hg]
  exact h
theorem m_own {R : M} {ds : List D} {o : Option Out} (hg : gs ρ = some ds) (hl : ds.length ≤ 100) (h : R (ρ.set i (.own ds)) = o) : mSeq (kOwn i gs) R ρ = o := by
  rw [kOwn_eq]
  unfold mSeq mOwn
  rw [hg, Option.bind_some, if_pos (by unfold top; omega)]
  exact h
theorem m_then {m R : M} {o : Option Out} (hm : m ρ = some (.nx ρ')) (h : R ρ' = o) : mSeq m R ρ = o := by
  unfold mSeq
  rw [hm]
  exact h
theorem m_skip {t : Rho → Option Bool} {m R : M} {o : Option Out} (ht : t ρ = some false) (h : R ρ = o) : mSeq (mIf t m mNil) R ρ = o := by
  refine m_then (ρ' := ρ) ?_ h
  unfold mIf
  rw [ht]
  rfl
theorem m_if {t : Rho → Option Bool} {m R : M} {o : Option Out} (b : Bool) (ht : t ρ = some b) (h1 : b = true → mSeq m R ρ = o) (h2 : b = false → R ρ = o) : mSeq (mIf t m mNil) R ρ = o := by
  cases b with
  | true =>
    have := h1 rfl
    unfold mSeq mIf at *
    rw [ht]
    exact this
  | false => exact m_skip ht (h2 rfl)
theorem m_ret (hg : g ρ = some d) : kRet g ρ = some (.rt d) := by
  rw [kRet_eq]
  unfold mRet
  rw [hg]
  rfl
theorem fun_ret {k n : Nat} {body : M} {ds : List D} (hk : ds.length = k) (h : body (ds.map SV.val ++ List.replicate n .un) = some (.rt d)) : kFun k n body ds = some d := by
  rw [kFun_eq]
  unfold mFun
  rw [if_pos hk, h]
  rfl
theorem for_I {α : Type} {bind : D → Rho → Option Rho} {body : M} {gi : Rho → Option (List D)} {e : α → D} {xs : List α} (I : List α → Rho → Prop) (hi : gi ρ = some (xs.map e)) (h0 : I [] ρ)
    (hs : ∀ pre x post ρ, xs = pre ++ x :: post → I pre ρ → ∃ ρ1 ρ2, bind (e x) ρ = some ρ1 ∧ body ρ1 = some (.nx ρ2) ∧ I (pre ++ [x]) ρ2) : ∃ ρ', mFor gi bind body ρ = some (.nx ρ') ∧ I xs ρ' := by
  unfold mFor
  rw [hi, Option.bind_some]
  exact forRun_P I hs xs [] ρ rfl h0
theorem m_app {ds : List D} (hi : ρ[i]? = some (.own ds)) (hg : g ρ = some d) (hl : ds.length < 100) : kApp i g ρ = some (.nx (ρ.set i (.own (ds ++ [d])))) := by
  rw [kApp_eq]
  unfold mApp
  rw [hi]
  simp only [hg, Option.bind_some]
  rw [if_pos (by unfold top; omega)]
theorem m_ifT {t : Rho → Option Bool} {m n : M} (ht : t ρ = some true) : mIf t m n ρ = m ρ := by unfold mIf; rw [ht]; rfl
theorem m_ifF {t : Rho → Option Bool} {m n : M} (ht : t ρ = some false) : mIf t m n ρ = n ρ := by unfold mIf; rw [ht]; rfl
end
theorem wfun_i {k n : Nat} {body : MW} {ds : List D} {Pd : D → Prop} {E : EK} {ρ : Rho} (hk : ds.length = k) (hr : ds.map SV.val ++ List.replicate n .un = ρ) (h : ∀ Po : Out → Prop, (∀ d, Pd d → Po (.rt d)) → (∀ ρ', Pd .non → Po (.nx ρ')) → Go body ρ Po (fun _ => E)) : wFun k n body ds Pd E := by
  refine ⟨hk, ?_⟩
  rw [hr]
  exact (h _ (fun _ h => h) (fun _ h => h)).out
theorem gDs_1 {ρ : Rho} {f : List D → Option D} {g0 : Rho → Option D} {d0 : D} {r : Option D} (h0 : g0 ρ = some d0) (h : f [d0] = r) : gDs f (Dl.gCons g0 Dl.gNil) ρ = r := by
  unfold gDs Dl.gCons Dl.gNil
  simp only [h0, Option.bind_some, h]
theorem gDs_2 {ρ : Rho} {f : List D → Option D} {g0 g1 : Rho → Option D} {d0 d1 : D} {r : Option D} (h0 : g0 ρ = some d0) (h1 : g1 ρ = some d1) (h : f [d0, d1] = r) : gDs f (Dl.gCons g0 (Dl.gCons g1 Dl.gNil)) ρ = r := by
  unfold gDs Dl.gCons Dl.gNil
  simp only [h0, h1, Option.bind_some, h]
theorem gDs_3 {ρ : Rho} {f : List D → Option D} {g0 g1 g2 : Rho → Option D} {d0 d1 d2 : D} {r : Option D} (h0 : g0 ρ = some d0) (h1 : g1 ρ = some d1) (h2 : g2 ρ = some d2) (h : f [d0, d1, d2] = r) : gDs f (Dl.gCons g0 (Dl.gCons g1 (Dl.gCons g2 Dl.gNil))) ρ = r := by
  unfold gDs Dl.gCons Dl.gNil
  simp only [h0, h1, h2, Option.bind_some, h]
theorem gDs_4 {ρ : Rho} {f : List D → Option D} {g0 g1 g2 g3 : Rho → Option D} {d0 d1 d2 d3 : D} {r : Option D} (h0 : g0 ρ = some d0) (h1 : g1 ρ = some d1) (h2 : g2 ρ = some d2) (h3 : g3 ρ = some d3) (h : f [d0, d1, d2, d3] = r) : gDs f (Dl.gCons g0 (Dl.gCons g1 (Dl.gCons g2 (Dl.gCons g3 Dl.gNil)))) ρ = r := by
  unfold gDs Dl.gCons Dl.gNil
  simp only [h0, h1, h2, h3, Option.bind_some, h]
theorem gDs_5 {ρ : Rho} {f : List D → Option D} {g0 g1 g2 g3 g4 : Rho → Option D} {d0 d1 d2 d3 d4 : D} {r : Option D} (h0 : g0 ρ = some d0) (h1 : g1 ρ = some d1) (h2 : g2 ρ = some d2) (h3 : g3 ρ = some d3) (h4 : g4 ρ = some d4) (h : f [d0, d1, d2, d3, d4] = r) : gDs f (Dl.gCons g0 (Dl.gCons g1 (Dl.gCons g2 (Dl.gCons g3 (Dl.gCons g4 Dl.gNil))))) ρ = r := by
  unfold gDs Dl.gCons Dl.gNil
  simp only [h0, h1, h2, h3, h4, Option.bind_some, h]
theorem bin_at {ρ : Rho} {f : D → D → Option D} {g h : Rho → Option D} {a c : D} {r : Option D} (h1 : g ρ = some a) (h2 : h ρ = some c) (h3 : f a c = r) : gBin f g h ρ = r := by
  unfold gBin
  rw [h1, Option.bind_some, h2, Option.bind_some, h3]
theorem test_at {ρ : Rho} {g : Rho → Option D} {b : Bool} (h : g ρ = some (.bl b)) : gTest g ρ = some b := by
  unfold gTest
  rw [h]
theorem test_bin {ρ : Rho} {f : D → D → Option D} {g h : Rho → Option D} {a c : D} {b : Bool} (h1 : g ρ = some a) (h2 : h ρ = some c) (h3 : f a c = some (.bl b)) : gTest (gBin f g h) ρ = some b := test_at (bin_at h1 h2 h3)
theorem ne_bl (b : Bool) : fNe (.bl b) (.bl b) = some (.bl false) := by cases b <;> kernel_rfl
theorem eq_bl (b : Bool) : fEq (.bl b) (.bl b) = some (.bl true) := by cases b <;> kernel_rfl
end Dl
set_option maxRecDepth 100000
set_option maxHeartbeats 4000000
set_option maxRecDepth 100000
set_option maxHeartbeats 4000000
/-! drawn lots of groups, sizes drawn: what several laws share -/
namespace Wl
open PySem PySem.Spec PyProof.Rows L2 Dl Mp
/-- len([..]) of a filtered row of numbers -/
theorem len_filter {α : Type} {ρ : Rho} {gi : Rho → Option (List D)} {bind : D → Rho → Option Rho} {tt : Rho → Option Bool} {te : Rho → Option D} {vs : List Nat} {e : α → D} {p : α → Bool} {h : α → D} {xs : List α} (hi : gi ρ = some (xs.map e)) (hl : xs.length ≤ 40)
    (hx : ∀ x ∈ xs, ∃ ρ1, bind (e x) (wipeR ρ vs) = some ρ1 ∧ tt ρ1 = some (p x) ∧ (p x = true → te ρ1 = some (h x))) : gDs (onSeq fLen) (Dl.gCons (gLc gi bind tt te vs) Dl.gNil) ρ = some (.int (.ofNat (xs.filter p).length)) := by
  have e1 := gLc_map hi (le_top hl) hx
  unfold gDs Dl.gCons Dl.gNil
  rw [e1]
  simp only [Option.bind_some, onSeq, fLen, List.length_map]
  rfl
theorem gt0 (n : Nat) : fCmp (fun i j => decide (j < i)) (.int (.ofNat n)) (.int 0) = some (.bl (decide (0 < n))) := by
  show some (D.bl (decide ((0 : Int) < Int.ofNat n))) = _
  congr 2
  exact decide_eq_decide.mpr (by show (0 : Int) < (n : Int) ↔ 0 < n; omega)
theorem eq0 (n : Nat) : fEq (.int (.ofNat n)) (.int 0) = some (.bl (n == 0)) := eq_nat n 0
theorem len_pos {α : Type} (p : α → Bool) (l : List α) : decide (0 < (l.filter p).length) = l.any p := by
  induction l with
  | nil => rfl
  | cons x l ih =>
    rw [List.any_cons]
    cases h : p x with
    | true => rw [List.filter_cons_of_pos h]; simp
    | false => rw [List.filter_cons_of_neg (by rw [h]; decide), ih, Bool.false_or]
theorem len_zero {α : Type} (p : α → Bool) (l : List α) : ((l.filter p).length == 0) = !(l.any p) := by
  rw [← len_pos]
  cases (l.filter p).length <;> simp
theorem len_gDs {ρ : Rho} {g : Rho → Option D} {ds : List D} (h : g ρ = some (.lst ds)) : gDs (onSeq fLen) (Dl.gCons g Dl.gNil) ρ = some (.int (.ofNat ds.length)) := by
  unfold gDs Dl.gCons Dl.gNil
  rw [h]
  rfl
theorem tup_gDs {ρ : Rho} {g : Rho → Option D} {ds : List D} (h : g ρ = some (.lst ds)) : gDs (onSeq fTuple) (Dl.gCons g Dl.gNil) ρ = some (.tup ds) := by
  unfold gDs Dl.gCons Dl.gNil
  rw [h]
  rfl
theorem lst_gDs {ρ : Rho} {g : Rho → Option D} {ds : List D} (h : g ρ = some (.tup ds)) : gDs (onSeq fList) (Dl.gCons g Dl.gNil) ρ = some (.lst ds) := by
  unfold gDs Dl.gCons Dl.gNil
  rw [h]
  rfl
theorem rng_gDs {ρ : Rho} {g : Rho → Option D} {n : Nat} (h : g ρ = some (.int (.ofNat n))) (hn : n ≤ 100) : gRng1 (Dl.gCons g Dl.gNil) ρ = some (nts (List.range n)) := by
  unfold gRng1 Dl.gCons Dl.gNil
  rw [h]
  simp only [Option.bind_some]
  rw [if_pos (by unfold big; show -1000000 < (n : Int) ∧ (n : Int) < 1000000; omega), rng0]
  rfl
section
variable {be : List (List Nat)}
def belowS (be : List (List Nat)) (sel : List Nat) : List Nat := (List.range be.length).filter fun k => sel.any fun c => (be.getD c []).contains k
theorem below_spec {few : Nat} {Pd : D → Prop} (hf : few ≤ 40) (h0 : 0 < be.length) (h1 : be.length ≤ 40) (h : ∀ sel : List Nat, sel.length = few → (∀ c ∈ sel, c < be.length) → Pd (.tup (nts (belowS be sel)))) : w__law_below [.vol 0, .lst (rows be), .int (.ofNat few)] Pd noEx := by
  unfold w__law_below
  refine wfun_i (ρ := [.val (.vol 0), .val (.lst (rows be)), .val (.int (.ofNat few)), .un, .un, .un, .un]) rfl rfl fun Po hP _ => ?_
  refine seq_setLc (e := fun n : Nat => D.int (.ofNat n)) (T := fun n => n < be.length) (ds := nts (List.range few)) ?_ (by rw [List.length_map, List.length_range]; exact hf) (fun x hx => ?_) (fun sel hl hs => ?_)
  · exact rng_gDs rfl (by omega)
  · refine ⟨_, by rw [kName_eq]; rfl, fun Q hQ => ?_⟩
    refine take_any (k := be.length) ?_ h0 (by omega) hQ
    have e1 : gDs (onSeq fLen) (Dl.gCons (gVar 1) Dl.gNil) ([SV.val (.vol 0), .val (.lst (rows be)), .val (.int (.ofNat few)), .un, .un, .un, .un].set 4 (.val x)) = some (.int (.ofNat (rows be).length)) := len_gDs rfl
    show (gCons (gVar 0) _ _) = _
    unfold Dl.gCons
    rw [show wipeR [SV.val (.vol 0), .val (.lst (rows be)), .val (.int (.ofNat few)), .un, .un, .un, .un] [4] = [SV.val (.vol 0), .val (.lst (rows be)), .val (.int (.ofNat few)), .un, .un, .un, .un] from rfl]
    unfold Dl.gCons at e1
    rw [e1, List.length_map]
    rfl
  · rw [List.length_map, List.length_range] at hl
    refine end_ret (d := .tup (nts (belowS be sel))) ?_ (hP _ (h sel hl hs))
    have e2 : gLc (gRng1 (Dl.gCons (gDs (onSeq fLen) (Dl.gCons (gVar 1) Dl.gNil)) Dl.gNil)) (kName 5) (gTest (gBin (fCmp fun i j => decide (j < i)) (gDs (onSeq fLen) (Dl.gCons (gLc (gSeq (gVar 3)) (kName 6) (gTest (gBin (fIn false) (gVar 5) (gBin fIx (gVar 1) (gVar 6)))) (gVar 6) [6]) Dl.gNil)) (gC (.int 0)))) (gVar 5) [5]
        [SV.val (.vol 0), .val (.lst (rows be)), .val (.int (.ofNat few)), .val (.lst (nts sel)), .un, .un, .un] = some (.lst (nts (belowS be sel))) := by
      unfold belowS
      refine gLc_map (e := fun n : Nat => D.int (.ofNat n)) (h := fun n => .int (.ofNat n)) (xs := List.range be.length) ?_ (by rw [List.length_range]; exact le_top h1) fun k hk => ⟨_, by rw [kName_eq]; rfl, ?_, fun _ => rfl⟩
      · rw [rng_gDs (n := (rows be).length) (len_gDs rfl) (by rw [List.length_map]; omega), List.length_map]
      · have e3 := len_filter (ρ := [SV.val (.vol 0), .val (.lst (rows be)), .val (.int (.ofNat few)), .val (.lst (nts sel)), .un, .val (.int (.ofNat k)), .un]) (gi := gSeq (gVar 3)) (bind := kName 6) (tt := gTest (gBin (fIn false) (gVar 5) (gBin fIx (gVar 1) (gVar 6)))) (te := gVar 6) (vs := [6]) (e := fun n : Nat => D.int (.ofNat n))
            (p := fun c => (be.getD c []).contains k) (h := fun n => .int (.ofNat n)) (xs := sel) rfl (by omega) (fun c hc => by
              refine ⟨_, by rw [kName_eq]; rfl, ?_, fun _ => rfl⟩
              obtain ⟨row, hr⟩ := get_lt (hs c hc)
              have e4 : gBin fIx (gVar 1) (gVar 6) [SV.val (.vol 0), .val (.lst (rows be)), .val (.int (.ofNat few)), .val (.lst (nts sel)), .un, .val (.int (.ofNat k)), .val (.int (.ofNat c))] = some (.lst (nts row)) := at_rows hr
              rw [getD_at hr]
              show gTest (gBin (fIn false) (gVar 5) (gBin fIx (gVar 1) (gVar 6))) [SV.val (.vol 0), .val (.lst (rows be)), .val (.int (.ofNat few)), .val (.lst (nts sel)), .un, .val (.int (.ofNat k)), .val (.int (.ofNat c))] = _
              generalize gBin fIx (gVar 1) (gVar 6) = gx at e4 ⊢
              simp only [kFun_eq, kSet_eq, kRet_eq, kName_eq, kOwn_eq, kApp_eq, kPut_eq, mFun, mSeq, mSet, mRet, bName, gVar, Dl.gCons, Dl.gNil, gC, gDs, gBin, gU, gTest, gTru, gNot, gAnd, gOr, gSeq, mIf, mFor, List.map_cons, List.map_nil, List.length_cons, List.length_nil, List.replicate, List.cons_append, List.nil_append, List.set, List.getElem?_cons_zero, List.getElem?_cons_succ, Option.bind_some, Option.map_some, if_true, Nat.reduceAdd, reduceIte, e4, in_lst]
              rfl)
        show gTest (gBin _ _ _) [SV.val (.vol 0), .val (.lst (rows be)), .val (.int (.ofNat few)), .val (.lst (nts sel)), .un, .val (.int (.ofNat k)), .un] = _
        generalize gDs (onSeq fLen) (Dl.gCons (gLc (gSeq (gVar 3)) (kName 6) (gTest (gBin (fIn false) (gVar 5) (gBin fIx (gVar 1) (gVar 6)))) (gVar 6) [6]) Dl.gNil) = gl at e3 ⊢
        simp only [kFun_eq, kSet_eq, kRet_eq, kName_eq, kOwn_eq, kApp_eq, kPut_eq, mFun, mSeq, mSet, mRet, bName, gVar, Dl.gCons, Dl.gNil, gC, gDs, gBin, gU, gTest, gTru, gNot, gAnd, gOr, gSeq, mIf, mFor, List.map_cons, List.map_nil, List.length_cons, List.length_nil, List.replicate, List.cons_append, List.nil_append, List.set, List.getElem?_cons_zero, List.getElem?_cons_succ, Option.bind_some, Option.map_some, if_true, Nat.reduceAdd, reduceIte, e3, gt0]
        rw [len_pos]
    exact tup_gDs e2
end
end Wl
set_option maxRecDepth 100000
set_option maxHeartbeats 4000000
/-! data whose repr is short: closed under lists and tuples -/
namespace Dl
open PySem PySem.Spec PyProof.Rows L2
/-- at most n deep, the text at most k long -/
structure Shw (n k : Nat) (d : D) : Prop where
  ok : ∀ m, n ≤ m → D.ok m d = true
  sh : d.py.showable = true
  nd : d.py.hasDict = false
  dp : d.py.depth ≤ n
  ln : d.py.shown.length ≤ k
theorem Shw.mono {n k m j : Nat} {d : D} (h : Shw n k d) (h1 : n ≤ m) (h2 : k ≤ j) : Shw m j d := ⟨fun i hi => h.ok i (Nat.le_trans h1 hi), h.sh, h.nd, Nat.le_trans h.dp h1, Nat.le_trans h.ln h2⟩
theorem Shw.nat {x : Nat} (h : x < 1000) : Shw 0 4 (.int (.ofNat x)) := by
  refine ⟨fun m _ => by cases m <;> simp [D.ok], ?_, by simp [D.py, PyData.hasDict], by simp [D.py, PyData.depth], by rw [show D.py (.int (.ofNat x)) = .int (.ofNat x) by simp [D.py]]; exact len_int h⟩
  have := show_nts (l := [x]) (by intro y hy; rw [List.mem_singleton] at hy; subst hy; exact h)
  rw [show D.py (.int (.ofNat x)) = .int (.ofNat x) by simp [D.py]]
  rw [List.map_cons, List.map_nil] at this
  unfold PyData.showableAll at this
  exact (Bool.and_eq_true _ _ ▸ this).1
structure Shws (n k : Nat) (ds : List D) : Prop where
  ok : ∀ m, n ≤ m → D.oks m ds = true
  sh : PyData.showableAll (D.pys ds) = true
  nd : PyData.hasDictAll (D.pys ds) = false
  dp : PyData.depthAll (D.pys ds) ≤ n
  pl : ∀ j acc, (textFrom j acc (PyData.shownAll (D.pys ds))).length ≤ acc.length + (k + 2) * ds.length
  jn : (Str.join ", " (PyData.shownAll (D.pys ds))).length ≤ (k + 2) * ds.length
theorem Shws.of {n k : Nat} : ∀ {ds : List D}, (∀ d ∈ ds, Shw n k d) → Shws n k ds
  | [], _ => ⟨fun m _ => by cases m <;> simp [D.oks], by simp [D.pys, PyData.showableAll], by simp [D.pys, PyData.hasDictAll], by simp [D.pys, PyData.depthAll], fun j acc => by simp [D.pys, PyData.shownAll, textFrom], by simp [D.pys, PyData.shownAll, Str.join]; decide⟩
  | d :: ds, h => by
    have h1 := h d List.mem_cons_self
    have h2 := Shws.of (ds := ds) fun x hx => h x (List.mem_cons_of_mem _ hx)
    have e : D.pys (d :: ds) = d.py :: D.pys ds := by rw [D.pys]
    refine ⟨fun m hm => ?_, ?_, ?_, ?_, fun j acc => ?_, ?_⟩
    · unfold D.oks
      rw [h1.ok m hm, h2.ok m hm]
      rfl
    · rw [e]; unfold PyData.showableAll; rw [h1.sh, h2.sh]; rfl
    · rw [e]; unfold PyData.hasDictAll; rw [h1.nd, h2.nd]; rfl
    · rw [e]; unfold PyData.depthAll
      have a := h1.dp
      have b := h2.dp
      omega
    · rw [e]; unfold PyData.shownAll textFrom
      have ih := h2.pl (j + 1) (acc ++ (if j > 0 then ", " else "" : String) ++ d.py.shown)
      have hl := h1.ln
      have hc : ((if j > 0 then ", " else "" : String) : Str).length ≤ 2 := by split <;> decide
      rw [Str.length_append, Str.length_append] at ih
      rw [List.length_cons, Nat.mul_add]
      omega
    · rw [e]
      cases ds with
      | nil =>
        have hl := h1.ln
        simp only [D.pys, PyData.shownAll, Str.join, List.length_cons, List.length_nil]
        omega
      | cons d2 ds =>
        have ih := h2.jn
        have hl := h1.ln
        have e2 : D.pys (d2 :: ds) = d2.py :: D.pys ds := by rw [D.pys]
        rw [e2] at ih ⊢
        simp only [PyData.shownAll, Str.join] at ih ⊢
        rw [Str.length_append, Str.length_append]
        have h2 : ((", " : String) : Str).length = 2 := by decide
        rw [List.length_cons, Nat.mul_add]
        omega
theorem Shw.lst {n k : Nat} {ds : List D} (h : ∀ d ∈ ds, Shw n k d) : Shw (n + 1) (2 + (k + 2) * ds.length) (.lst ds) := by
  have s := Shws.of h
  refine ⟨fun m hm => ?_, ?_, ?_, ?_, ?_⟩
  · cases m with
    | zero => omega
    | succ m => rw [D.ok]; exact s.ok m (by omega)
  · simp only [D.py, PyData.showable, s.sh]
  · simp only [D.py, PyData.hasDict, s.nd]
  · simp only [D.py, PyData.depth]
    have := s.dp
    omega
  · simp only [D.py, PyData.shown]
    unfold listText
    rw [Str.length_append]
    have h1 := s.pl 0 "["
    have h2 : ((("[" : String) : Str).length) = 1 := by decide
    have h3 : ((("]" : String) : Str).length) = 1 := by decide
    omega
theorem Shw.tup {n k : Nat} {ds : List D} (h : ∀ d ∈ ds, Shw n k d) : Shw (n + 1) (3 + (k + 2) * ds.length) (.tup ds) := by
  have s := Shws.of h
  refine ⟨fun m hm => ?_, ?_, ?_, ?_, ?_⟩
  · cases m with
    | zero => omega
    | succ m => rw [D.ok]; exact s.ok m (by omega)
  · simp only [D.py, PyData.showable, s.sh]
  · simp only [D.py, PyData.hasDict, s.nd]
  · simp only [D.py, PyData.depth]
    have := s.dp
    omega
  · simp only [D.py, PyData.shown]
    unfold tupleText
    rw [Str.length_append, Str.length_append]
    have h1 := s.jn
    have h2 : ((("(" : String) : Str).length) = 1 := by decide
    have h3 : ∀ b : Bool, (((if b then ",)" else ")" : String) : Str).length) ≤ 2 := by decide
    have h4 := h3 ((PyData.shownAll (D.pys ds)).length == 1)
    omega
theorem Shw.nts {l : List Nat} (h : ∀ x ∈ l, x < 1000) : ∀ d ∈ Dl.nts l, Shw 0 4 d := fun d hd => by
  obtain ⟨x, hx, rfl⟩ := List.mem_map.mp hd
  exact Shw.nat (h x hx)
theorem repr_lstS {n k : Nat} {ds : List D} (h : Shw n k (.lst ds)) (hn : n ≤ 8 := by decide) (hk : k ≤ 100000 := by omega) : fRepr [.lst ds] = some (.str (D.lst ds).py.shown) := by
  show (if reprOk (.lst ds) = true then _ else _) = _
  refine if_pos ?_
  unfold reprOk
  rw [h.ok 8 hn, h.sh, h.nd]
  have a := h.dp
  have b := h.ln
  rw [decide_eq_true (Nat.le_trans a hn), decide_eq_true (show (D.lst ds).py.shown.length ≤ sizeLine by unfold sizeLine; omega)]
  rfl
theorem repr_tupS {n k : Nat} {ds : List D} (h : Shw n k (.tup ds)) (hn : n ≤ 8 := by decide) (hk : k ≤ 100000 := by omega) : fRepr [.tup ds] = some (.str (D.tup ds).py.shown) := by
  show (if reprOk (.tup ds) = true then _ else _) = _
  refine if_pos ?_
  unfold reprOk
  rw [h.ok 8 hn, h.sh, h.nd]
  have a := h.dp
  have b := h.ln
  rw [decide_eq_true (Nat.le_trans a hn), decide_eq_true (show (D.tup ds).py.shown.length ≤ sizeLine by unfold sizeLine; omega)]
  rfl
end Dl
set_option maxRecDepth 100000
set_option maxHeartbeats 4000000
/-! more steps, shared by laws -/
namespace Wl
open PySem PySem.Spec PyProof.Rows L2 Dl Mp
theorem gSeq_l {ρ : Rho} {g : Rho → Option D} {ds : List D} (h : g ρ = some (.lst ds)) : gSeq g ρ = some ds := by unfold gSeq; rw [h]
theorem m_for {ρ : Rho} {R : M} {o : Option Out} {α : Type} {bind : D → Rho → Option Rho} {body : M} {gi : Rho → Option (List D)} {e : α → D} {xs : List α} (I : List α → Rho → Prop) (hi : gi ρ = some (xs.map e)) (h0 : I [] ρ)
    (hs : ∀ pre x post ρ, xs = pre ++ x :: post → I pre ρ → ∃ ρ1 ρ2, bind (e x) ρ = some ρ1 ∧ body ρ1 = some (.nx ρ2) ∧ I (pre ++ [x]) ρ2) (h : ∀ ρ', I xs ρ' → R ρ' = o) : mSeq (mFor gi bind body) R ρ = o := by
  obtain ⟨ρ', h1, h2⟩ := for_I I hi h0 hs
  exact m_then h1 (h ρ' h2)
theorem all_bools {α : Type} (f : α → Bool) (l : List α) : fAll (l.map fun x => D.bl (f x)) = some (.bl (l.all f)) := by
  unfold fAll
  rw [toBools_map, Option.map_some, List.all_map]
  rfl
theorem rng2_gDs {ρ : Rho} : gRng2 (Dl.gCons (gC (.int 1)) (Dl.gCons (gC (.int 13)) Dl.gNil)) ρ = some (nts (List.range' 1 12)) := by
  kernel_rfl
theorem any_mem {α : Type} {p q : α → Bool} : ∀ {l : List α}, (∀ x ∈ l, p x = q x) → l.any p = l.any q
  | [], _ => rfl
  | x :: l, h => by rw [List.any_cons, List.any_cons, h x List.mem_cons_self, any_mem (l := l) fun y hy => h y (List.mem_cons_of_mem _ hy)]
theorem all_mem {α : Type} {p q : α → Bool} : ∀ {l : List α}, (∀ x ∈ l, p x = q x) → l.all p = l.all q
  | [], _ => rfl
  | x :: l, h => by rw [List.all_cons, List.all_cons, h x List.mem_cons_self, all_mem (l := l) fun y hy => h y (List.mem_cons_of_mem _ hy)]
theorem all_filt {α : Type} (p q : α → Bool) : ∀ l : List α, (l.filter p).all q = l.all fun x => !(p x) || q x
  | [] => rfl
  | x :: l => by
    rw [List.all_cons]
    cases h : p x with
    | true => rw [List.filter_cons_of_pos h, List.all_cons, all_filt p q l]; rfl
    | false => rw [List.filter_cons_of_neg (by rw [h]; decide), all_filt p q l]; rfl
theorem flat_len' {α : Type} {f : α → List Nat} {k : Nat} : ∀ {l : List α}, (∀ x ∈ l, (f x).length ≤ k) → (l.flatMap f).length ≤ l.length * k
  | [], _ => by simp
  | x :: l, h => by
    have h1 := h x List.mem_cons_self
    have ih := flat_len' (l := l) fun y hy => h y (List.mem_cons_of_mem _ hy)
    rw [List.flatMap_cons, List.length_append, List.length_cons, Nat.succ_mul]
    omega
/-- a comprehension over a drawn number of turns -/
theorem seq_setLcF {f : List D → Option (List D)} {ρ : Rho} {Po : Out → Prop} {Er : Rho → EK} {REST : MW} {i : Nat} {gs : Rho → Option (List D)} {k : Nat} {α : Type} {e : α → D} {T : α → Prop} {bind : D → Rho → Option Rho} {te : GW} {vs : List Nat} (hg : gs ρ = some [.vol 0, .int (.ofNat k)]) (h0 : 0 < k) (h1 : k ≤ 40) (hf : ∀ r : Nat, r < k → f [.int (.ofNat r)] = some (nts (List.range r)))
    (hb : ∀ (r : Nat) (x : D), r < k → x ∈ nts (List.range r) → ∃ ρ1, bind x (wipeR ρ vs) = some ρ1 ∧ ∀ Q : D → Prop, (∀ a, T a → Q (e a)) → te ρ1 Q noEx)
    (h : ∀ (r : Nat) (as : List α), r < k → as.length = r → (∀ a ∈ as, T a) → Go REST (ρ.set i (.val (.lst (as.map e)))) Po Er) : Go (mwSeq (mwSet i (wOf (wLcs (wRng f (wCons (wCall mTake (wLift gs)) wNil)) bind (fun _ Po _ => Po true) te vs))) REST) ρ Po Er := by
  constructor
  show wCall mTake (wLift gs) ρ _ (Er ρ)
  refine take_any hg h0 (by omega) fun r hr => ?_
  have e1 := hf r hr
  have hl : (nts (List.range r)).length ≤ top := by rw [List.length_map, List.length_range]; exact le_top (by omega)
  show wOpt (f [.int (.ofNat r)]) _
  rw [e1]
  exact ⟨hl, wlc_typed (e := e) (T := T) (nts (List.range r)) [] (fun x hx => hb r x hr hx) fun as hl hT => (h r as hr (by rw [hl, List.length_map, List.length_range]) hT).out⟩
theorem rng1_nat {r : Nat} (hr : r ≤ 100) : fRng1 [.int (.ofNat r)] = some (nts (List.range r)) := by
  unfold fRng1
  show (if _ then _ else _) = _
  rw [if_pos (by unfold big; show -1000000 < (r : Int) ∧ (r : Int) < 1000000; omega), rng0]
  rfl
theorem seq_setLcD {ρ : Rho} {Po : Out → Prop} {Er : Rho → EK} {REST : MW} {i : Nat} {gs : Rho → Option (List D)} {k : Nat} {α : Type} {e : α → D} {T : α → Prop} {bind : D → Rho → Option Rho} {te : GW} {vs : List Nat} (hg : gs ρ = some [.vol 0, .int (.ofNat k)]) (h0 : 0 < k) (h1 : k ≤ 40)
    (hb : ∀ (r : Nat) (x : D), r < k → x ∈ nts (List.range r) → ∃ ρ1, bind x (wipeR ρ vs) = some ρ1 ∧ ∀ Q : D → Prop, (∀ a, T a → Q (e a)) → te ρ1 Q noEx)
    (h : ∀ (r : Nat) (as : List α), r < k → as.length = r → (∀ a ∈ as, T a) → Go REST (ρ.set i (.val (.lst (as.map e)))) Po Er) : Go (mwSeq (mwSet i (wOf (wLcs (wRng fRng1 (wCons (wCall mTake (wLift gs)) wNil)) bind (fun _ Po _ => Po true) te vs))) REST) ρ Po Er :=
  seq_setLcF hg h0 h1 (fun r hr => rng1_nat (by omega)) hb h
theorem few_spec {xs : List D} {gs : Rho → Option (List D)} {g : Rho → Option D} {ρ : Rho} {Q : D → Prop} {E : EK} {k : Nat} (hx : g ρ = some (.lst xs)) (hg : gs ρ = some [.vol 0, .int (.ofNat k)]) (hk : xs.length = k) (h0 : 0 < k) (h1 : k < 1000000) (h : ∀ x ∈ xs, Q x) : wBin fIx (wLift g) (wCall mTake (wLift gs)) ρ Q E := by
  show wOpt (g ρ) _
  rw [hx]
  show wCall mTake (wLift gs) ρ _ E
  refine take_any hg h0 h1 fun r hr => ?_
  obtain ⟨x, hx'⟩ : ∃ x, xs[r]? = some x := ⟨xs[r]'(by omega), List.getElem?_eq_getElem (by omega)⟩
  show wOpt (atD xs (.ofNat r)) _
  unfold atD
  show wOpt (xs[r]?) _
  rw [hx']
  exact h x (List.mem_of_getElem? hx')
theorem sorted_at {ρ : Rho} {g : Rho → Option (List D)} {l m : List Nat} (h : g ρ = some (nts l)) (h2 : usort (l.map Int.ofNat) = m.map Int.ofNat) (h3 : m.length < 60) : gSorted g ρ = some (.lst (nts m)) := by
  unfold gSorted
  rw [h, Option.bind_some, toInts_nts, Option.bind_some, h2, if_pos (by rw [List.length_map]; exact h3), List.map_map]
  rfl
theorem m_retT {ρ : Rho} {R : M} {t : Rho → Option Bool} {g : Rho → Option D} {d : D} (ht : t ρ = some true) (hg : g ρ = some d) : mSeq (mIf t (kRet g) mNil) R ρ = some (.rt d) := by
  unfold mSeq
  rw [m_ifT ht, m_ret hg]
  rfl
/-! steps told of what is sealed later -/
section
variable {ρ : Rho} {Po : Out → Prop} {Er : Rho → EK} {REST : MW} {w : GW} {E : EK} {Q : D → Prop}
theorem seq_retW (h : w ρ (fun d => Po (.rt d)) (Er ρ)) : Go (mwSeq (mwRet w) REST) ρ Po Er := ⟨h⟩
theorem end_retW (h : w ρ (fun d => Po (.rt d)) (Er ρ)) : Go (mwRet w) ρ Po Er := ⟨h⟩
theorem call_W {m : List D → (D → Prop) → EK → Prop} {gs : Rho → Option (List D)} {ds : List D} (hg : gs ρ = some ds) (h : m ds Q noEx) : wCall m (wLift gs) ρ Q E := by
  show wOpt (gs ρ) _
  rw [hg]
  exact h
theorem make_lat {ws : List D → (D → Prop) → EK → Prop} {m1 m2 : List D → Option (List Str × List D)} {menu : List (List Nat)} {gs : Rho → Option (List D)} (hs : ∀ (Pd : D → Prop), (∀ s ∈ menu, Pd (.tup (nts s))) → ws [.vol 0] Pd noEx) (hv : gs ρ = some [.vol 0])
    (h : ∀ s ∈ menu, ∃ W M, m1 [.tup (nts s)] = some W ∧ m2 [.obj 0 W.1 W.2] = some M ∧ Q (.obj 1 M.1 M.2)) : wMake 1 m2 (wCons (wMake 0 m1 (wCons (wCall ws (wLift gs)) wNil)) wNil) ρ Q E := by
  show wOpt (gs ρ) _
  rw [hv]
  refine hs _ fun s hm => ?_
  obtain ⟨W, M, h1, h2, h3⟩ := h s hm
  show wOpt (m1 [.tup (nts s)]) _
  rw [h1]
  show wOpt (m2 [.obj 0 W.1 W.2]) _
  rw [h2]
  exact h3
end
end Wl
set_option maxRecDepth 100000
set_option maxHeartbeats 4000000
namespace K40
open PySem PySem.Spec PyProof.Rows L2 Dl Mp Wl
/-! ### needless sizes -/
/-- the sizes, ascending, each once -/
def ssz (l : List Nat) : List Nat := (List.range' 1 12).filter fun s => l.contains s
theorem ssz_pw (l : List Nat) : (ssz l).Pairwise (· < ·) := List.Pairwise.filter _ (List.pairwise_lt_range' ..)
theorem ssz_len (l : List Nat) : (ssz l).length ≤ 12 := Nat.le_trans (List.length_filter_le _ _) (by rw [List.length_range']; exact Nat.le_refl _)
theorem sort_set {l : List Nat} (h : ∀ x ∈ l, 1 ≤ x ∧ x < 13) : usort (l.map Int.ofNat) = (ssz l).map Int.ofNat := usort_nat (ssz_pw l) fun x => by
  unfold ssz
  rw [List.mem_filter, List.mem_range'_1, List.contains_iff_mem]
  constructor
  · intro hx; exact ⟨by have := h x hx; omega, hx⟩
  · intro hx; exact hx.2
def nd (hs : List (List Nat)) (sizes : List Nat) (s : Nat) : Bool := (hs.filter fun r => r.contains s).all fun r => (sizes.filter fun o => !(o == s)).any fun o => r.contains o
section
variable {s : List Nat} {L : D} {gr be : List (List Nat)} {dsi : D} {sizes : List Nat}
theorem needless_at {hs : List (List Nat)} {x : Nat} (h : Nums dsi sizes) (hl : sizes.length ≤ 40) (hh : hs.length ≤ 40) : m_is_needless [.int (.ofNat x), dsi, .lst (trows hs)] = some (.bl (nd hs sizes x)) := by
  unfold m_is_needless
  refine fun_ret rfl ?_
  refine m_set (d := .lst (nts (sizes.filter fun o => !(o == x)))) ?_ ?_
  · refine gLc_map (e := fun n : Nat => D.int (.ofNat n)) (h := fun n => .int (.ofNat n)) (h.seq rfl) (le_top hl) fun o ho => ⟨_, by rw [kName_eq]; rfl, ?_, fun _ => rfl⟩
    simp only [kFun_eq, kSet_eq, kRet_eq, kName_eq, kOwn_eq, kApp_eq, kPut_eq, mFun, mSeq, mSet, mRet, bName, gVar, Dl.gCons, Dl.gNil, gC, gDs, gBin, gU, gTest, gTru, gNot, gAnd, gOr, gSeq, mIf, mFor, List.map_cons, List.map_nil, List.length_cons, List.length_nil, List.replicate, List.cons_append, List.nil_append, List.set, List.getElem?_cons_zero, List.getElem?_cons_succ, Option.bind_some, Option.map_some, if_true, Nat.reduceAdd, reduceIte, wipeR, ne_nat]
  refine m_ret ?_
  refine gDs_1 (d0 := .lst ((hs.filter fun r => r.contains x).map fun r => .bl ((sizes.filter fun o => !(o == x)).any fun o => r.contains o))) ?_ ?_
  rotate_left
  · exact all_bools _ _
  refine gLc_map (e := fun r => D.tup (nts r)) (p := fun r => r.contains x) (h := fun r => .bl ((sizes.filter fun o => !(o == x)).any fun o => r.contains o)) (xs := hs) rfl (le_top hh) fun r hr => ⟨_, by rw [kName_eq]; rfl, ?_, fun _ => ?_⟩
  · simp only [kFun_eq, kSet_eq, kRet_eq, kName_eq, kOwn_eq, kApp_eq, kPut_eq, mFun, mSeq, mSet, mRet, bName, gVar, Dl.gCons, Dl.gNil, gC, gDs, gBin, gU, gTest, gTru, gNot, gAnd, gOr, gSeq, mIf, mFor, List.map_cons, List.map_nil, List.length_cons, List.length_nil, List.replicate, List.cons_append, List.nil_append, List.set, List.getElem?_cons_zero, List.getElem?_cons_succ, Option.bind_some, Option.map_some, if_true, Nat.reduceAdd, reduceIte, wipeR, in_tup]
    rfl
  · refine gDs_1 (d0 := .lst ((sizes.filter fun o => !(o == x)).map fun o => .bl (r.contains o))) ?_ (any_bools _ _)
    refine gLc_all (e := fun n : Nat => D.int (.ofNat n)) (h := fun o => .bl (r.contains o)) (xs := sizes.filter fun o => !(o == x)) rfl (le_top (Nat.le_trans (List.length_filter_le _ _) hl)) fun o ho => ⟨_, by rw [kName_eq]; rfl, ?_⟩
    simp only [kFun_eq, kSet_eq, kRet_eq, kName_eq, kOwn_eq, kApp_eq, kPut_eq, mFun, mSeq, mSet, mRet, bName, gVar, Dl.gCons, Dl.gNil, gC, gDs, gBin, gU, gTest, gTru, gNot, gAnd, gOr, gSeq, mIf, mFor, List.map_cons, List.map_nil, List.length_cons, List.length_nil, List.replicate, List.cons_append, List.nil_append, List.set, List.getElem?_cons_zero, List.getElem?_cons_succ, Option.bind_some, Option.map_some, if_true, Nat.reduceAdd, reduceIte, wipeR, in_tup]
    rfl
theorem needless_sizes_at (w : Wor s L gr be) (ok : OkS gr be) (h : Nums dsi sizes) (hs : ∀ x ∈ sizes, 1 ≤ x ∧ x < 13) (hl : sizes.length ≤ 40) :
    m_needless_sizes [L, dsi] = some (.tup (nts ((ssz sizes).filter (nd ((List.range gr.length).map (reach gr be (maxL sizes))) sizes)))) := by
  have few := ok.few
  have hs' : ∀ x ∈ sizes, x < 13 := fun x hx => (hs x hx).2
  obtain ⟨d, d1, d2⟩ := sizes_at w ok (t := maxL sizes) (.lst (List.range gr.length)) (fun x hx => List.mem_range.mp hx) (by rw [List.length_range]; exact few) (maxL_lt (by decide) hs')
  obtain ⟨ns, fs, eL, hg, _⟩ := w.flds
  unfold m_needless_sizes
  refine fun_ret rfl ?_
  refine m_set (d := .lst (nts (List.range gr.length))) ?_ ?_
  · have e1 : gDs (onSeq fLen) (Dl.gCons (gFld 1 "groups" (gVar 0)) Dl.gNil) [SV.val L, .val dsi, .un, .un, .un, .un, .un] = some (.int (.ofNat gr.length)) := by
      refine gDs_1 (d0 := .tup (trows gr)) ?_ ?_
      · subst eL
        unfold gFld
        simp only [kFun_eq, kSet_eq, kRet_eq, kName_eq, kOwn_eq, kApp_eq, kPut_eq, mFun, mSeq, mSet, mRet, bName, gVar, Dl.gCons, Dl.gNil, gC, gDs, gBin, gU, gTest, gTru, gNot, gAnd, gOr, gSeq, mIf, mFor, List.map_cons, List.map_nil, List.length_cons, List.length_nil, List.replicate, List.cons_append, List.nil_append, List.set, List.getElem?_cons_zero, List.getElem?_cons_succ, Option.bind_some, Option.map_some, if_true, Nat.reduceAdd, reduceIte]
        exact hg
      · show fLen (trows gr) = _
        unfold fLen
        rw [List.length_map]
        rfl
    show gLRg1 _ [SV.val L, .val dsi, .un, .un, .un, .un, .un] = _
    unfold gLRg1
    rw [e1]
    simp only
    rw [if_pos (by unfold big; show -1000000 < (gr.length : Int) ∧ (gr.length : Int) < 1000000; omega), rng0]
    rfl
  refine m_set (d := d) ?_ ?_
  · refine gDs_3 rfl rfl (d2 := .int (.ofNat (maxL sizes))) ?_ d1
    unfold gSeqF
    simp only [kFun_eq, kSet_eq, kRet_eq, kName_eq, kOwn_eq, kApp_eq, kPut_eq, mFun, mSeq, mSet, mRet, bName, gVar, Dl.gCons, Dl.gNil, gC, gDs, gBin, gU, gTest, gTru, gNot, gAnd, gOr, gSeq, mIf, mFor, List.map_cons, List.map_nil, List.length_cons, List.length_nil, List.replicate, List.cons_append, List.nil_append, List.set, List.getElem?_cons_zero, List.getElem?_cons_succ, Option.bind_some, Option.map_some, if_true, Nat.reduceAdd, reduceIte]
    cases h <;> exact maxD_nts _
  have eH : gLc (gSeq (gVar 2)) (kName 5) (fun _ => some true) (gBin fGet (gVar 3) (gVar 5)) [5] [SV.val L, .val dsi, .val (.lst (nts (List.range gr.length))), .val d, .un, .un, .un] = some (.lst (trows ((List.range gr.length).map (reach gr be (maxL sizes))))) := by
    have := gLc_all (gi := gSeq (gVar 2)) (bind := kName 5) (te := gBin fGet (gVar 3) (gVar 5)) (vs := [5]) (ρ := [SV.val L, .val dsi, .val (.lst (nts (List.range gr.length))), .val d, .un, .un, .un]) (e := fun n : Nat => D.int (.ofNat n)) (xs := List.range gr.length) (h := fun g => .tup (nts (reach gr be (maxL sizes) g))) rfl (by rw [List.length_range]; exact le_top few) fun g hg => by
      refine ⟨_, by rw [kName_eq]; rfl, ?_⟩
      simp only [kFun_eq, kSet_eq, kRet_eq, kName_eq, kOwn_eq, kApp_eq, kPut_eq, mFun, mSeq, mSet, mRet, bName, gVar, Dl.gCons, Dl.gNil, gC, gDs, gBin, gU, gTest, gTru, gNot, gAnd, gOr, gSeq, mIf, mFor, List.map_cons, List.map_nil, List.length_cons, List.length_nil, List.replicate, List.cons_append, List.nil_append, List.set, List.getElem?_cons_zero, List.getElem?_cons_succ, Option.bind_some, Option.map_some, if_true, Nat.reduceAdd, reduceIte, wipeR, d2.get hg]
    rw [this, trows, List.map_map]
    rfl
  refine m_set (d := .lst (trows ((List.range gr.length).map (reach gr be (maxL sizes))))) eH ?_
  refine m_ret ?_
  refine gDs_1 (d0 := .lst (nts ((ssz sizes).filter (nd ((List.range gr.length).map (reach gr be (maxL sizes))) sizes)))) ?_ rfl
  have eS : gDs fSortSetA (Dl.gCons (gVar 1) Dl.gNil) [SV.val L, .val dsi, .val (.lst (nts (List.range gr.length))), .val d, .val (.lst (trows ((List.range gr.length).map (reach gr be (maxL sizes))))), .un, .un] = some (.lst (nts (ssz sizes))) := by
    refine gDs_1 (d0 := dsi) rfl ?_
    have e2 : (toInts (nts sizes)).bind (fun ns => if ns.length < 60 then some (D.lst ((usort ns).map D.int)) else none) = some (.lst (nts (ssz sizes))) := by
      rw [toInts_nts, Option.bind_some, if_pos (by rw [List.length_map]; omega), sort_set hs, List.map_map]
      rfl
    cases h <;> exact e2
  refine gLc_map (e := fun n : Nat => D.int (.ofNat n)) (h := fun n => .int (.ofNat n)) (xs := ssz sizes) ?_ (le_top (by have := ssz_len sizes; omega)) fun x hx => ⟨_, by rw [kName_eq]; rfl, ?_, fun _ => rfl⟩
  · exact gSeq_l eS
  · unfold gTru
    rw [gDs_3 (r := some (.bl (nd ((List.range gr.length).map (reach gr be (maxL sizes))) sizes x))) rfl rfl rfl (needless_at h hl (by rw [List.length_map, List.length_range]; exact few))]
    rfl
/-! ### the law's own -/
def ln (re : List (List Nat)) (sizes : List Nat) (x : Nat) : Bool := sizes.contains x && (((re.filter fun r => r.contains x).filter fun r => ((sizes.filter fun o => !(o == x)).filter fun o => r.contains o).length == 0).length == 0)
def lnL (re : List (List Nat)) (sizes : List Nat) : List Nat := (List.range' 1 12).filter (ln re sizes)
theorem nd_ln (re : List (List Nat)) (sizes : List Nat) (x : Nat) : ln re sizes x = (sizes.contains x && nd re sizes x) := by
  unfold ln nd
  rw [len_zero]
  congr 1
  simp only [len_zero]
  rw [List.not_any_eq_all_not]
  congr 1
  funext r
  rw [Bool.not_not]
abbrev nR (re : List (List Nat)) (sizes acc : List Nat) (s3 s4 s5 s6 : SV) : Rho := [.val (.lst (rows re)), .val (.lst (nts sizes)), .own (nts acc), s3, s4, s5, s6, .un, .un]
theorem law_needless {re : List (List Nat)} (hl : sizes.length ≤ 40) (hh : re.length ≤ 40) : m__law_needless [.lst (rows re), .lst (nts sizes)] = some (.tup (nts (lnL re sizes))) := by
  unfold m__law_needless
  refine fun_ret rfl ?_
  refine m_own (ds := []) rfl (by decide) ?_
  refine m_for (e := fun n : Nat => D.int (.ofNat n)) (xs := List.range' 1 12) (fun pre ρ => ∃ s3 s4 s5 s6, ρ = nR re sizes (pre.filter (ln re sizes)) s3 s4 s5 s6) rng2_gDs ⟨_, _, _, _, rfl⟩ (fun pre x post ρ ha hI => ?_) fun ρ' hI => ?_
  rotate_left
  · obtain ⟨s3, s4, s5, s6, rfl⟩ := hI
    exact m_ret rfl
  obtain ⟨s3, s4, s5, s6, rfl⟩ := hI
  have hp : (pre.filter (ln re sizes)).length < 40 := by
    have h1 := List.length_filter_le (ln re sizes) pre
    have h2 : (List.range' 1 12).length = pre.length + (post.length + 1) := by rw [ha, List.length_append, List.length_cons]
    rw [List.length_range'] at h2
    omega
  have fin : ∀ {body : M}, (∃ s4' s5' s6', body (nR re sizes (pre.filter (ln re sizes)) (.val (.int (.ofNat x))) s4 s5 s6) = some (.nx (nR re sizes (pre.filter (ln re sizes) ++ if ln re sizes x then [x] else []) (.val (.int (.ofNat x))) s4' s5' s6'))) →
      ∃ ρ1 ρ2, kName 3 (.int (.ofNat x)) (nR re sizes (pre.filter (ln re sizes)) s3 s4 s5 s6) = some ρ1 ∧ body ρ1 = some (.nx ρ2) ∧ ∃ s3 s4 s5 s6, ρ2 = nR re sizes ((pre ++ [x]).filter (ln re sizes)) s3 s4 s5 s6 := fun {body} ⟨s4', s5', s6', h⟩ => by
    refine ⟨_, _, by rw [kName_eq]; rfl, h, (.val (.int (.ofNat x))), s4', s5', s6', ?_⟩
    rw [List.filter_append]
    congr
    cases h : ln re sizes x <;> simp [h]
  refine fin ?_
  generalize pre.filter (ln re sizes) = acc at hp ⊢
  have eC : gTest (gBin (fIn false) (gVar 3) (gVar 1)) (nR re sizes acc (.val (.int (.ofNat x))) s4 s5 s6) = some (sizes.contains x) := by
    simp only [kFun_eq, kSet_eq, kRet_eq, kName_eq, kOwn_eq, kApp_eq, kPut_eq, mFun, mSeq, mSet, mRet, bName, gVar, Dl.gCons, Dl.gNil, gC, gDs, gBin, gU, gTest, gTru, gNot, gAnd, gOr, gSeq, mIf, mFor, List.map_cons, List.map_nil, List.length_cons, List.length_nil, List.replicate, List.cons_append, List.nil_append, List.set, List.getElem?_cons_zero, List.getElem?_cons_succ, Option.bind_some, Option.map_some, if_true, Nat.reduceAdd, reduceIte, in_lst]
    rfl
  cases hc : sizes.contains x with
  | false =>
    rw [hc] at eC
    refine ⟨s4, s5, s6, ?_⟩
    rw [m_ifF eC]
    unfold ln
    rw [hc]
    simp [mNil]
  | true =>
    rw [hc] at eC
    refine ⟨.val (.lst (nts (sizes.filter fun o => !(o == x)))), .val (.lst (rows (re.filter fun r => r.contains x))), .val (.lst (rows ((re.filter fun r => r.contains x).filter fun r => ((sizes.filter fun o => !(o == x)).filter fun o => r.contains o).length == 0))), ?_⟩
    rw [m_ifT eC]
    refine m_set (d := .lst (nts (sizes.filter fun o => !(o == x)))) ?_ ?_
    · refine gLc_map (e := fun n : Nat => D.int (.ofNat n)) (h := fun n => .int (.ofNat n)) (xs := sizes) rfl (le_top hl) fun o ho => ⟨_, by rw [kName_eq]; rfl, ?_, fun _ => rfl⟩
      simp only [kFun_eq, kSet_eq, kRet_eq, kName_eq, kOwn_eq, kApp_eq, kPut_eq, mFun, mSeq, mSet, mRet, bName, gVar, Dl.gCons, Dl.gNil, gC, gDs, gBin, gU, gTest, gTru, gNot, gAnd, gOr, gSeq, mIf, mFor, List.map_cons, List.map_nil, List.length_cons, List.length_nil, List.replicate, List.cons_append, List.nil_append, List.set, List.getElem?_cons_zero, List.getElem?_cons_succ, Option.bind_some, Option.map_some, if_true, Nat.reduceAdd, reduceIte, wipeR, ne_nat]
    refine m_set (d := .lst (rows (re.filter fun r => r.contains x))) ?_ ?_
    · refine gLc_map (e := fun r => D.lst (nts r)) (h := fun r => .lst (nts r)) (xs := re) rfl (le_top hh) fun r hr => ⟨_, by rw [kName_eq]; rfl, ?_, fun _ => rfl⟩
      simp only [kFun_eq, kSet_eq, kRet_eq, kName_eq, kOwn_eq, kApp_eq, kPut_eq, mFun, mSeq, mSet, mRet, bName, gVar, Dl.gCons, Dl.gNil, gC, gDs, gBin, gU, gTest, gTru, gNot, gAnd, gOr, gSeq, mIf, mFor, List.map_cons, List.map_nil, List.length_cons, List.length_nil, List.replicate, List.cons_append, List.nil_append, List.set, List.getElem?_cons_zero, List.getElem?_cons_succ, Option.bind_some, Option.map_some, if_true, Nat.reduceAdd, reduceIte, wipeR, in_lst]
      rfl
    refine m_set (d := .lst (rows ((re.filter fun r => r.contains x).filter fun r => ((sizes.filter fun o => !(o == x)).filter fun o => r.contains o).length == 0))) ?_ ?_
    · refine gLc_map (e := fun r => D.lst (nts r)) (h := fun r => .lst (nts r)) (xs := re.filter fun r => r.contains x) rfl (le_top (Nat.le_trans (List.length_filter_le _ _) hh)) fun r hr => ⟨_, by rw [kName_eq]; rfl, ?_, fun _ => rfl⟩
      refine test_bin (a := .int (.ofNat ((sizes.filter fun o => !(o == x)).filter fun o => r.contains o).length)) ?_ rfl (eq0 _)
      refine len_filter (e := fun n : Nat => D.int (.ofNat n)) (h := fun n => .int (.ofNat n)) (xs := sizes.filter fun o => !(o == x)) rfl (Nat.le_trans (List.length_filter_le _ _) hl) fun o ho => ⟨_, by rw [kName_eq]; rfl, ?_, fun _ => rfl⟩
      simp only [kFun_eq, kSet_eq, kRet_eq, kName_eq, kOwn_eq, kApp_eq, kPut_eq, mFun, mSeq, mSet, mRet, bName, gVar, Dl.gCons, Dl.gNil, gC, gDs, gBin, gU, gTest, gTru, gNot, gAnd, gOr, gSeq, mIf, mFor, List.map_cons, List.map_nil, List.length_cons, List.length_nil, List.replicate, List.cons_append, List.nil_append, List.set, List.getElem?_cons_zero, List.getElem?_cons_succ, Option.bind_some, Option.map_some, if_true, Nat.reduceAdd, reduceIte, wipeR, in_lst]
      rfl
    have eL : gTest (gBin fEq (gDs (onSeq fLen) (Dl.gCons (gVar 6) Dl.gNil)) (gC (.int 0))) (nR re sizes acc (.val (.int (.ofNat x))) (.val (.lst (nts (sizes.filter fun o => !(o == x))))) (.val (.lst (rows (re.filter fun r => r.contains x)))) (.val (.lst (rows ((re.filter fun r => r.contains x).filter fun r => ((sizes.filter fun o => !(o == x)).filter fun o => r.contains o).length == 0))))) = some (ln re sizes x) := by
      refine test_bin (len_gDs rfl) rfl ?_
      rw [List.length_map]
      refine (eq0 _).trans ?_
      unfold ln
      rw [hc, Bool.true_and]
    cases hn : ln re sizes x with
    | false =>
      rw [hn] at eL
      refine (m_ifF eL).trans ?_
      simp [mNil]
    | true =>
      rw [hn] at eL
      refine (m_ifT eL).trans ?_
      refine (m_app (ds := nts acc) rfl (d := .int (.ofNat x)) rfl (by rw [List.length_map]; omega)).trans ?_
      have e : nts (acc ++ [x]) = nts acc ++ [D.int (.ofNat x)] := List.map_append
      rw [if_pos rfl]
      unfold nR
      rw [e]
      rfl
theorem same_needless (hs : ∀ y ∈ sizes, y < 13) : (ssz sizes).filter (nd ((List.range gr.length).map (reach gr be (maxL sizes))) sizes) = lnL (reaches gr be) sizes := by
  unfold ssz lnL
  rw [List.filter_filter]
  apply List.filter_congr
  intro x _
  rw [nd_ln, Bool.and_comm]
  cases hc : sizes.contains x with
  | false => rfl
  | true =>
    have hx : x ∈ sizes := by simpa using hc
    rw [Bool.true_and, Bool.true_and]
    unfold nd reaches
    rw [all_filt, all_filt, List.all_map, List.all_map]
    apply all_mem
    intro g _
    show (!((reach gr be (maxL sizes) g).contains x) || _) = (!((reach gr be 12 g).contains x) || _)
    rw [reach_max hx hs]
    congr 1
    apply any_mem
    intro o ho
    exact reach_max (List.mem_filter.mp ho).1 hs
theorem lnL_lt {re : List (List Nat)} {x : Nat} (h : x ∈ lnL re sizes) : x < 1000 := by
  have := List.mem_range'_1.mp (List.mem_filter.mp h).1
  omega
theorem lnL_len (re : List (List Nat)) : (lnL re sizes).length ≤ 12 := Nat.le_trans (List.length_filter_le _ _) (by rw [List.length_range']; exact Nat.le_refl _)
theorem fits_at (w : Wre s L gr be) (hs : ∀ x ∈ sizes, 1 ≤ x ∧ x < 13) (hl : sizes.length ≤ 40) : m__law_needless_fits [L, .lst (rows (reaches gr be)), .lst (nts sizes)] = some (.bl true) := by
  have hs' : ∀ x ∈ sizes, x < 13 := fun x hx => (hs x hx).2
  have few := w.ok.few
  have n1 := needless_sizes_at w.w w.ok (.lst sizes) hs hl
  have n2 := needless_sizes_at w.w w.ok (.tup sizes) hs hl
  rw [same_needless hs'] at n1 n2
  have nl := law_needless (re := reaches gr be) hl (by unfold reaches; rw [List.length_map, List.length_range]; exact few)
  have rs := repr_lst (l := sizes) (fun x hx => by have := hs x hx; omega) (by omega)
  have rn := repr_tup (l := lnL (reaches gr be) sizes) (fun x hx => lnL_lt hx) (by have := lnL_len (sizes := sizes) (reaches gr be); omega)
  unfold m__law_needless_fits
  generalize m_needless_sizes = mn at n1 n2 ⊢
  generalize m__law_needless = ml at nl ⊢
  refine fun_ret rfl ?_
  refine m_set (d := .str (D.lst (nts sizes)).py.shown) (gDs_1 rfl rs) ?_
  refine m_set (d := .str (D.tup (nts (lnL (reaches gr be) sizes))).py.shown) (gDs_1 (gDs_2 rfl rfl nl) rn) ?_
  refine m_skip ?_ ?_
  · unfold gOr
    rw [test_bin (gDs_1 (gDs_2 rfl rfl n1) rn) rfl (Dl.ne_str _), Option.bind_some, if_neg (by decide), test_bin (gDs_1 (gDs_2 rfl (gDs_1 rfl rfl) n2) rn) rfl (Dl.ne_str _)]
  refine m_ret ?_
  exact bin_at (gDs_1 rfl rs) rfl (Dl.eq_str _)
end
end K40
set_option maxRecDepth 1000000
set_option maxHeartbeats 0
namespace Wl
open PySem PySem.Spec PyProof.Rows L2 Dl Mp
def gr3 : List (List Nat) := [[0], [0, 1], [0, 2], [0, 5], [0, 3, 4], [0, 1, 2, 3, 4, 5]]
def be3 : List (List Nat) := [[0], [0, 1], [0, 2], [0, 3], [0, 4], [0, 1, 2, 3, 4, 5]]
def W3_0 : D := .tup [.int (.ofNat 3)]
def W3_1 : D := .int (.ofNat 3)
def W3_2 : D := .tup [.tup [.int (.ofNat 0), .int (.ofNat 1), .int (.ofNat 2)], .tup [.int (.ofNat 0), .int (.ofNat 2), .int (.ofNat 1)], .tup [.int (.ofNat 1), .int (.ofNat 0), .int (.ofNat 2)], .tup [.int (.ofNat 1), .int (.ofNat 2), .int (.ofNat 0)], .tup [.int (.ofNat 2), .int (.ofNat 0), .int (.ofNat 1)], .tup [.int (.ofNat 2), .int (.ofNat 1), .int (.ofNat 0)]]
def W3_3 : D := .int (.ofNat 6)
def W3_4 : D := .dT [[.inl (.ofNat 0), .inl (.ofNat 1), .inl (.ofNat 2)], [.inl (.ofNat 0), .inl (.ofNat 2), .inl (.ofNat 1)], [.inl (.ofNat 1), .inl (.ofNat 0), .inl (.ofNat 2)], [.inl (.ofNat 1), .inl (.ofNat 2), .inl (.ofNat 0)], [.inl (.ofNat 2), .inl (.ofNat 0), .inl (.ofNat 1)], [.inl (.ofNat 2), .inl (.ofNat 1), .inl (.ofNat 0)]] [.int (.ofNat 0), .int (.ofNat 1), .int (.ofNat 2), .int (.ofNat 3), .int (.ofNat 4), .int (.ofNat 5)]
def W3_5 : D := .lst [.lst [.int (.ofNat 0), .int (.ofNat 1), .int (.ofNat 2), .int (.ofNat 3), .int (.ofNat 4), .int (.ofNat 5)], .lst [.int (.ofNat 1), .int (.ofNat 0), .int (.ofNat 3), .int (.ofNat 2), .int (.ofNat 5), .int (.ofNat 4)], .lst [.int (.ofNat 2), .int (.ofNat 4), .int (.ofNat 0), .int (.ofNat 5), .int (.ofNat 1), .int (.ofNat 3)], .lst [.int (.ofNat 3), .int (.ofNat 5), .int (.ofNat 1), .int (.ofNat 4), .int (.ofNat 0), .int (.ofNat 2)], .lst [.int (.ofNat 4), .int (.ofNat 2), .int (.ofNat 5), .int (.ofNat 0), .int (.ofNat 3), .int (.ofNat 1)], .lst [.int (.ofNat 5), .int (.ofNat 3), .int (.ofNat 4), .int (.ofNat 1), .int (.ofNat 2), .int (.ofNat 0)]]
def W3_6 : D := .lst [.int (.ofNat 0), .int (.ofNat 1), .int (.ofNat 2), .int (.ofNat 4), .int (.ofNat 3), .int (.ofNat 5)]
def W3 : List Str × List D := (["sizes", "things", "renamings", "order", "_numbers", "_table", "_inverses"], [W3_0, W3_1, W3_2, W3_3, W3_4, W3_5, W3_6])
def L3_0 : D := .obj 0 W3.1 W3.2
def L3_1 : D := .tup [.tup [.int (.ofNat 0)], .tup [.int (.ofNat 0), .int (.ofNat 1)], .tup [.int (.ofNat 0), .int (.ofNat 2)], .tup [.int (.ofNat 0), .int (.ofNat 5)], .tup [.int (.ofNat 0), .int (.ofNat 3), .int (.ofNat 4)], .tup [.int (.ofNat 0), .int (.ofNat 1), .int (.ofNat 2), .int (.ofNat 3), .int (.ofNat 4), .int (.ofNat 5)]]
def L3_2 : D := .dT [[.inl (.ofNat 0)], [.inl (.ofNat 0), .inl (.ofNat 1)], [.inl (.ofNat 0), .inl (.ofNat 2)], [.inl (.ofNat 0), .inl (.ofNat 5)], [.inl (.ofNat 0), .inl (.ofNat 3), .inl (.ofNat 4)], [.inl (.ofNat 0), .inl (.ofNat 1), .inl (.ofNat 2), .inl (.ofNat 3), .inl (.ofNat 4), .inl (.ofNat 5)]] [.int (.ofNat 0), .int (.ofNat 1), .int (.ofNat 2), .int (.ofNat 3), .int (.ofNat 4), .int (.ofNat 5)]
def L3_3 : D := .lst [.lst [.int (.ofNat 0), .int (.ofNat 0), .int (.ofNat 0), .int (.ofNat 0), .int (.ofNat 0), .int (.ofNat 0)], .lst [.int (.ofNat 1), .int (.ofNat 1), .int (.ofNat 3), .int (.ofNat 3), .int (.ofNat 2), .int (.ofNat 2)], .lst [.int (.ofNat 2), .int (.ofNat 3), .int (.ofNat 2), .int (.ofNat 1), .int (.ofNat 3), .int (.ofNat 1)], .lst [.int (.ofNat 3), .int (.ofNat 2), .int (.ofNat 1), .int (.ofNat 2), .int (.ofNat 1), .int (.ofNat 3)], .lst [.int (.ofNat 4), .int (.ofNat 4), .int (.ofNat 4), .int (.ofNat 4), .int (.ofNat 4), .int (.ofNat 4)], .lst [.int (.ofNat 5), .int (.ofNat 5), .int (.ofNat 5), .int (.ofNat 5), .int (.ofNat 5), .int (.ofNat 5)]]
def L3_4 : D := .tup [.tup [.int (.ofNat 0)], .tup [.int (.ofNat 1), .int (.ofNat 2), .int (.ofNat 3)], .tup [.int (.ofNat 4)], .tup [.int (.ofNat 5)]]
def L3_5 : D := .dK [.inl (.ofNat 0), .inl (.ofNat 1), .inl (.ofNat 2), .inl (.ofNat 3), .inl (.ofNat 4), .inl (.ofNat 5)] [.int (.ofNat 0), .int (.ofNat 1), .int (.ofNat 1), .int (.ofNat 1), .int (.ofNat 2), .int (.ofNat 3)]
def L3_6 : D := .lst [.lst [.bl true, .bl false, .bl false, .bl false, .bl false, .bl false], .lst [.bl true, .bl true, .bl false, .bl false, .bl false, .bl false], .lst [.bl true, .bl false, .bl true, .bl false, .bl false, .bl false], .lst [.bl true, .bl false, .bl false, .bl true, .bl false, .bl false], .lst [.bl true, .bl false, .bl false, .bl false, .bl true, .bl false], .lst [.bl true, .bl true, .bl true, .bl true, .bl true, .bl true]]
def L3_7 : D := .lst [.tup [.int (.ofNat 0)], .tup [.int (.ofNat 0), .int (.ofNat 1)], .tup [.int (.ofNat 0), .int (.ofNat 2)], .tup [.int (.ofNat 0), .int (.ofNat 3)], .tup [.int (.ofNat 0), .int (.ofNat 4)], .tup [.int (.ofNat 0), .int (.ofNat 1), .int (.ofNat 2), .int (.ofNat 3), .int (.ofNat 4), .int (.ofNat 5)]]
def L3 : List Str × List D := (["world", "groups", "_numbers", "_carries", "classes", "_places", "_holdings", "_below"], [L3_0, L3_1, L3_2, L3_3, L3_4, L3_5, L3_6, L3_7])
theorem e3_1 : m_World_init [.tup (nts [3])] = some W3 := by kernel_rfl
theorem e3_2 : m_Lattice_init [.obj 0 W3.1 W3.2] = some L3 := by kernel_rfl
theorem w3 : Wor [3] (.obj 1 L3.1 L3.2) gr3 be3 := ⟨⟨_, _, e3_1, e3_2, rfl⟩, ⟨_, _, rfl, by kernel_rfl, by kernel_rfl, by kernel_rfl, by kernel_rfl⟩⟩
end Wl
set_option maxRecDepth 1000000
set_option maxHeartbeats 0
namespace Wl
open PySem PySem.Spec PyProof.Rows L2 Dl Mp
def re3 : List (List Nat) := [[], [2, 4, 6, 8, 10, 12], [2, 4, 6, 8, 10, 12], [2, 4, 6, 8, 10, 12], [3, 6, 9, 12], [2, 3, 4, 5, 6, 7, 8, 9, 10, 11, 12]]
theorem r3_1 : okS gr3 be3 = true := by decide +kernel
theorem r3_2 : m__law_held [.lst (trows gr3)] = some (.lst (rows be3)) := by kernel_rfl
theorem r3_3 : m__law_reaches [.lst (trows gr3), .lst (rows be3)] = some (.lst (rows re3)) := by kernel_rfl
theorem r3_4 : re3 = reaches gr3 be3 := by decide +kernel
theorem wr3 : Wre [3] (.obj 1 L3.1 L3.2) gr3 be3 := wre_of w3 r3_1 r3_2 r3_3 r3_4
end Wl
set_option maxRecDepth 1000000
set_option maxHeartbeats 0
namespace Wl
open PySem PySem.Spec PyProof.Rows L2 Dl Mp
def gr22 : List (List Nat) := [[0], [0, 1], [0, 2], [0, 3], [0, 1, 2, 3]]
def be22 : List (List Nat) := [[0], [0, 1], [0, 2], [0, 3], [0, 1, 2, 3, 4]]
def W22_0 : D := .tup [.int (.ofNat 2), .int (.ofNat 2)]
def W22_1 : D := .int (.ofNat 4)
def W22_2 : D := .tup [.tup [.int (.ofNat 0), .int (.ofNat 1), .int (.ofNat 2), .int (.ofNat 3)], .tup [.int (.ofNat 0), .int (.ofNat 1), .int (.ofNat 3), .int (.ofNat 2)], .tup [.int (.ofNat 1), .int (.ofNat 0), .int (.ofNat 2), .int (.ofNat 3)], .tup [.int (.ofNat 1), .int (.ofNat 0), .int (.ofNat 3), .int (.ofNat 2)]]
def W22_3 : D := .int (.ofNat 4)
def W22_4 : D := .dT [[.inl (.ofNat 0), .inl (.ofNat 1), .inl (.ofNat 2), .inl (.ofNat 3)], [.inl (.ofNat 0), .inl (.ofNat 1), .inl (.ofNat 3), .inl (.ofNat 2)], [.inl (.ofNat 1), .inl (.ofNat 0), .inl (.ofNat 2), .inl (.ofNat 3)], [.inl (.ofNat 1), .inl (.ofNat 0), .inl (.ofNat 3), .inl (.ofNat 2)]] [.int (.ofNat 0), .int (.ofNat 1), .int (.ofNat 2), .int (.ofNat 3)]
def W22_5 : D := .lst [.lst [.int (.ofNat 0), .int (.ofNat 1), .int (.ofNat 2), .int (.ofNat 3)], .lst [.int (.ofNat 1), .int (.ofNat 0), .int (.ofNat 3), .int (.ofNat 2)], .lst [.int (.ofNat 2), .int (.ofNat 3), .int (.ofNat 0), .int (.ofNat 1)], .lst [.int (.ofNat 3), .int (.ofNat 2), .int (.ofNat 1), .int (.ofNat 0)]]
def W22_6 : D := .lst [.int (.ofNat 0), .int (.ofNat 1), .int (.ofNat 2), .int (.ofNat 3)]
def W22 : List Str × List D := (["sizes", "things", "renamings", "order", "_numbers", "_table", "_inverses"], [W22_0, W22_1, W22_2, W22_3, W22_4, W22_5, W22_6])
def L22_0 : D := .obj 0 W22.1 W22.2
def L22_1 : D := .tup [.tup [.int (.ofNat 0)], .tup [.int (.ofNat 0), .int (.ofNat 1)], .tup [.int (.ofNat 0), .int (.ofNat 2)], .tup [.int (.ofNat 0), .int (.ofNat 3)], .tup [.int (.ofNat 0), .int (.ofNat 1), .int (.ofNat 2), .int (.ofNat 3)]]
def L22_2 : D := .dT [[.inl (.ofNat 0)], [.inl (.ofNat 0), .inl (.ofNat 1)], [.inl (.ofNat 0), .inl (.ofNat 2)], [.inl (.ofNat 0), .inl (.ofNat 3)], [.inl (.ofNat 0), .inl (.ofNat 1), .inl (.ofNat 2), .inl (.ofNat 3)]] [.int (.ofNat 0), .int (.ofNat 1), .int (.ofNat 2), .int (.ofNat 3), .int (.ofNat 4)]
def L22_3 : D := .lst [.lst [.int (.ofNat 0), .int (.ofNat 0), .int (.ofNat 0), .int (.ofNat 0)], .lst [.int (.ofNat 1), .int (.ofNat 1), .int (.ofNat 1), .int (.ofNat 1)], .lst [.int (.ofNat 2), .int (.ofNat 2), .int (.ofNat 2), .int (.ofNat 2)], .lst [.int (.ofNat 3), .int (.ofNat 3), .int (.ofNat 3), .int (.ofNat 3)], .lst [.int (.ofNat 4), .int (.ofNat 4), .int (.ofNat 4), .int (.ofNat 4)]]
def L22_4 : D := .tup [.tup [.int (.ofNat 0)], .tup [.int (.ofNat 1)], .tup [.int (.ofNat 2)], .tup [.int (.ofNat 3)], .tup [.int (.ofNat 4)]]
def L22_5 : D := .dK [.inl (.ofNat 0), .inl (.ofNat 1), .inl (.ofNat 2), .inl (.ofNat 3), .inl (.ofNat 4)] [.int (.ofNat 0), .int (.ofNat 1), .int (.ofNat 2), .int (.ofNat 3), .int (.ofNat 4)]
def L22_6 : D := .lst [.lst [.bl true, .bl false, .bl false, .bl false, .bl false], .lst [.bl true, .bl true, .bl false, .bl false, .bl false], .lst [.bl true, .bl false, .bl true, .bl false, .bl false], .lst [.bl true, .bl false, .bl false, .bl true, .bl false], .lst [.bl true, .bl true, .bl true, .bl true, .bl true]]
def L22_7 : D := .lst [.tup [.int (.ofNat 0)], .tup [.int (.ofNat 0), .int (.ofNat 1)], .tup [.int (.ofNat 0), .int (.ofNat 2)], .tup [.int (.ofNat 0), .int (.ofNat 3)], .tup [.int (.ofNat 0), .int (.ofNat 1), .int (.ofNat 2), .int (.ofNat 3), .int (.ofNat 4)]]
def L22 : List Str × List D := (["world", "groups", "_numbers", "_carries", "classes", "_places", "_holdings", "_below"], [L22_0, L22_1, L22_2, L22_3, L22_4, L22_5, L22_6, L22_7])
theorem e22_1 : m_World_init [.tup (nts [2, 2])] = some W22 := by kernel_rfl
theorem e22_2 : m_Lattice_init [.obj 0 W22.1 W22.2] = some L22 := by kernel_rfl
theorem w22 : Wor [2, 2] (.obj 1 L22.1 L22.2) gr22 be22 := ⟨⟨_, _, e22_1, e22_2, rfl⟩, ⟨_, _, rfl, by kernel_rfl, by kernel_rfl, by kernel_rfl, by kernel_rfl⟩⟩
end Wl
set_option maxRecDepth 1000000
set_option maxHeartbeats 0
namespace Wl
open PySem PySem.Spec PyProof.Rows L2 Dl Mp
def re22 : List (List Nat) := [[], [2, 4, 6, 8, 10, 12], [2, 4, 6, 8, 10, 12], [2, 4, 6, 8, 10, 12], [2, 4, 6, 8, 10, 12]]
theorem r22_1 : okS gr22 be22 = true := by decide +kernel
theorem r22_2 : m__law_held [.lst (trows gr22)] = some (.lst (rows be22)) := by kernel_rfl
theorem r22_3 : m__law_reaches [.lst (trows gr22), .lst (rows be22)] = some (.lst (rows re22)) := by kernel_rfl
theorem r22_4 : re22 = reaches gr22 be22 := by decide +kernel
theorem wr22 : Wre [2, 2] (.obj 1 L22.1 L22.2) gr22 be22 := wre_of w22 r22_1 r22_2 r22_3 r22_4
end Wl
set_option maxRecDepth 1000000
set_option maxHeartbeats 0
namespace Wl
open PySem PySem.Spec PyProof.Rows L2 Dl Mp
def gr2 : List (List Nat) := [[0], [0, 1]]
def be2 : List (List Nat) := [[0], [0, 1]]
def W2_0 : D := .tup [.int (.ofNat 2)]
def W2_1 : D := .int (.ofNat 2)
def W2_2 : D := .tup [.tup [.int (.ofNat 0), .int (.ofNat 1)], .tup [.int (.ofNat 1), .int (.ofNat 0)]]
def W2_3 : D := .int (.ofNat 2)
def W2_4 : D := .dT [[.inl (.ofNat 0), .inl (.ofNat 1)], [.inl (.ofNat 1), .inl (.ofNat 0)]] [.int (.ofNat 0), .int (.ofNat 1)]
def W2_5 : D := .lst [.lst [.int (.ofNat 0), .int (.ofNat 1)], .lst [.int (.ofNat 1), .int (.ofNat 0)]]
def W2_6 : D := .lst [.int (.ofNat 0), .int (.ofNat 1)]
def W2 : List Str × List D := (["sizes", "things", "renamings", "order", "_numbers", "_table", "_inverses"], [W2_0, W2_1, W2_2, W2_3, W2_4, W2_5, W2_6])
def L2_0 : D := .obj 0 W2.1 W2.2
def L2_1 : D := .tup [.tup [.int (.ofNat 0)], .tup [.int (.ofNat 0), .int (.ofNat 1)]]
def L2_2 : D := .dT [[.inl (.ofNat 0)], [.inl (.ofNat 0), .inl (.ofNat 1)]] [.int (.ofNat 0), .int (.ofNat 1)]
def L2_3 : D := .lst [.lst [.int (.ofNat 0), .int (.ofNat 0)], .lst [.int (.ofNat 1), .int (.ofNat 1)]]
def L2_4 : D := .tup [.tup [.int (.ofNat 0)], .tup [.int (.ofNat 1)]]
def L2_5 : D := .dK [.inl (.ofNat 0), .inl (.ofNat 1)] [.int (.ofNat 0), .int (.ofNat 1)]
def L2_6 : D := .lst [.lst [.bl true, .bl false], .lst [.bl true, .bl true]]
def L2_7 : D := .lst [.tup [.int (.ofNat 0)], .tup [.int (.ofNat 0), .int (.ofNat 1)]]
def L2 : List Str × List D := (["world", "groups", "_numbers", "_carries", "classes", "_places", "_holdings", "_below"], [L2_0, L2_1, L2_2, L2_3, L2_4, L2_5, L2_6, L2_7])
theorem e2_1 : m_World_init [.tup (nts [2])] = some W2 := by kernel_rfl
theorem e2_2 : m_Lattice_init [.obj 0 W2.1 W2.2] = some L2 := by kernel_rfl
theorem w2 : Wor [2] (.obj 1 L2.1 L2.2) gr2 be2 := ⟨⟨_, _, e2_1, e2_2, rfl⟩, ⟨_, _, rfl, by kernel_rfl, by kernel_rfl, by kernel_rfl, by kernel_rfl⟩⟩
end Wl
set_option maxRecDepth 1000000
set_option maxHeartbeats 0
namespace Wl
open PySem PySem.Spec PyProof.Rows L2 Dl Mp
def re2 : List (List Nat) := [[], [2, 4, 6, 8, 10, 12]]
theorem r2_1 : okS gr2 be2 = true := by decide +kernel
theorem r2_2 : m__law_held [.lst (trows gr2)] = some (.lst (rows be2)) := by kernel_rfl
theorem r2_3 : m__law_reaches [.lst (trows gr2), .lst (rows be2)] = some (.lst (rows re2)) := by kernel_rfl
theorem r2_4 : re2 = reaches gr2 be2 := by decide +kernel
theorem wr2 : Wre [2] (.obj 1 L2.1 L2.2) gr2 be2 := wre_of w2 r2_1 r2_2 r2_3 r2_4
end Wl
set_option maxRecDepth 1000000
set_option maxHeartbeats 0
namespace Wl
open PySem PySem.Spec PyProof.Rows L2 Dl Mp
def gr21 : List (List Nat) := [[0], [0, 1]]
def be21 : List (List Nat) := [[0], [0, 1]]
def W21_0 : D := .tup [.int (.ofNat 2), .int (.ofNat 1)]
def W21_1 : D := .int (.ofNat 3)
def W21_2 : D := .tup [.tup [.int (.ofNat 0), .int (.ofNat 1), .int (.ofNat 2)], .tup [.int (.ofNat 1), .int (.ofNat 0), .int (.ofNat 2)]]
def W21_3 : D := .int (.ofNat 2)
def W21_4 : D := .dT [[.inl (.ofNat 0), .inl (.ofNat 1), .inl (.ofNat 2)], [.inl (.ofNat 1), .inl (.ofNat 0), .inl (.ofNat 2)]] [.int (.ofNat 0), .int (.ofNat 1)]
def W21_5 : D := .lst [.lst [.int (.ofNat 0), .int (.ofNat 1)], .lst [.int (.ofNat 1), .int (.ofNat 0)]]
def W21_6 : D := .lst [.int (.ofNat 0), .int (.ofNat 1)]
def W21 : List Str × List D := (["sizes", "things", "renamings", "order", "_numbers", "_table", "_inverses"], [W21_0, W21_1, W21_2, W21_3, W21_4, W21_5, W21_6])
def L21_0 : D := .obj 0 W21.1 W21.2
def L21_1 : D := .tup [.tup [.int (.ofNat 0)], .tup [.int (.ofNat 0), .int (.ofNat 1)]]
def L21_2 : D := .dT [[.inl (.ofNat 0)], [.inl (.ofNat 0), .inl (.ofNat 1)]] [.int (.ofNat 0), .int (.ofNat 1)]
def L21_3 : D := .lst [.lst [.int (.ofNat 0), .int (.ofNat 0)], .lst [.int (.ofNat 1), .int (.ofNat 1)]]
def L21_4 : D := .tup [.tup [.int (.ofNat 0)], .tup [.int (.ofNat 1)]]
def L21_5 : D := .dK [.inl (.ofNat 0), .inl (.ofNat 1)] [.int (.ofNat 0), .int (.ofNat 1)]
def L21_6 : D := .lst [.lst [.bl true, .bl false], .lst [.bl true, .bl true]]
def L21_7 : D := .lst [.tup [.int (.ofNat 0)], .tup [.int (.ofNat 0), .int (.ofNat 1)]]
def L21 : List Str × List D := (["world", "groups", "_numbers", "_carries", "classes", "_places", "_holdings", "_below"], [L21_0, L21_1, L21_2, L21_3, L21_4, L21_5, L21_6, L21_7])
theorem e21_1 : m_World_init [.tup (nts [2, 1])] = some W21 := by kernel_rfl
theorem e21_2 : m_Lattice_init [.obj 0 W21.1 W21.2] = some L21 := by kernel_rfl
theorem w21 : Wor [2, 1] (.obj 1 L21.1 L21.2) gr21 be21 := ⟨⟨_, _, e21_1, e21_2, rfl⟩, ⟨_, _, rfl, by kernel_rfl, by kernel_rfl, by kernel_rfl, by kernel_rfl⟩⟩
end Wl
set_option maxRecDepth 1000000
set_option maxHeartbeats 0
namespace Wl
open PySem PySem.Spec PyProof.Rows L2 Dl Mp
def re21 : List (List Nat) := [[], [2, 4, 6, 8, 10, 12]]
theorem r21_1 : okS gr21 be21 = true := by decide +kernel
theorem r21_2 : m__law_held [.lst (trows gr21)] = some (.lst (rows be21)) := by kernel_rfl
theorem r21_3 : m__law_reaches [.lst (trows gr21), .lst (rows be21)] = some (.lst (rows re21)) := by kernel_rfl
theorem r21_4 : re21 = reaches gr21 be21 := by decide +kernel
theorem wr21 : Wre [2, 1] (.obj 1 L21.1 L21.2) gr21 be21 := wre_of w21 r21_1 r21_2 r21_3 r21_4
end Wl
set_option maxRecDepth 1000000
set_option maxHeartbeats 0
namespace Wl
open PySem PySem.Spec PyProof.Rows L2 Dl Mp
def gr12 : List (List Nat) := [[0], [0, 1]]
def be12 : List (List Nat) := [[0], [0, 1]]
def W12_0 : D := .tup [.int (.ofNat 1), .int (.ofNat 2)]
def W12_1 : D := .int (.ofNat 3)
def W12_2 : D := .tup [.tup [.int (.ofNat 0), .int (.ofNat 1), .int (.ofNat 2)], .tup [.int (.ofNat 0), .int (.ofNat 2), .int (.ofNat 1)]]
def W12_3 : D := .int (.ofNat 2)
def W12_4 : D := .dT [[.inl (.ofNat 0), .inl (.ofNat 1), .inl (.ofNat 2)], [.inl (.ofNat 0), .inl (.ofNat 2), .inl (.ofNat 1)]] [.int (.ofNat 0), .int (.ofNat 1)]
def W12_5 : D := .lst [.lst [.int (.ofNat 0), .int (.ofNat 1)], .lst [.int (.ofNat 1), .int (.ofNat 0)]]
def W12_6 : D := .lst [.int (.ofNat 0), .int (.ofNat 1)]
def W12 : List Str × List D := (["sizes", "things", "renamings", "order", "_numbers", "_table", "_inverses"], [W12_0, W12_1, W12_2, W12_3, W12_4, W12_5, W12_6])
def L12_0 : D := .obj 0 W12.1 W12.2
def L12_1 : D := .tup [.tup [.int (.ofNat 0)], .tup [.int (.ofNat 0), .int (.ofNat 1)]]
def L12_2 : D := .dT [[.inl (.ofNat 0)], [.inl (.ofNat 0), .inl (.ofNat 1)]] [.int (.ofNat 0), .int (.ofNat 1)]
def L12_3 : D := .lst [.lst [.int (.ofNat 0), .int (.ofNat 0)], .lst [.int (.ofNat 1), .int (.ofNat 1)]]
def L12_4 : D := .tup [.tup [.int (.ofNat 0)], .tup [.int (.ofNat 1)]]
def L12_5 : D := .dK [.inl (.ofNat 0), .inl (.ofNat 1)] [.int (.ofNat 0), .int (.ofNat 1)]
def L12_6 : D := .lst [.lst [.bl true, .bl false], .lst [.bl true, .bl true]]
def L12_7 : D := .lst [.tup [.int (.ofNat 0)], .tup [.int (.ofNat 0), .int (.ofNat 1)]]
def L12 : List Str × List D := (["world", "groups", "_numbers", "_carries", "classes", "_places", "_holdings", "_below"], [L12_0, L12_1, L12_2, L12_3, L12_4, L12_5, L12_6, L12_7])
theorem e12_1 : m_World_init [.tup (nts [1, 2])] = some W12 := by kernel_rfl
theorem e12_2 : m_Lattice_init [.obj 0 W12.1 W12.2] = some L12 := by kernel_rfl
theorem w12 : Wor [1, 2] (.obj 1 L12.1 L12.2) gr12 be12 := ⟨⟨_, _, e12_1, e12_2, rfl⟩, ⟨_, _, rfl, by kernel_rfl, by kernel_rfl, by kernel_rfl, by kernel_rfl⟩⟩
end Wl
set_option maxRecDepth 1000000
set_option maxHeartbeats 0
namespace Wl
open PySem PySem.Spec PyProof.Rows L2 Dl Mp
def re12 : List (List Nat) := [[], [2, 4, 6, 8, 10, 12]]
theorem r12_1 : okS gr12 be12 = true := by decide +kernel
theorem r12_2 : m__law_held [.lst (trows gr12)] = some (.lst (rows be12)) := by kernel_rfl
theorem r12_3 : m__law_reaches [.lst (trows gr12), .lst (rows be12)] = some (.lst (rows re12)) := by kernel_rfl
theorem r12_4 : re12 = reaches gr12 be12 := by decide +kernel
theorem wr12 : Wre [1, 2] (.obj 1 L12.1 L12.2) gr12 be12 := wre_of w12 r12_1 r12_2 r12_3 r12_4
end Wl
set_option maxRecDepth 1000000
set_option maxHeartbeats 0
namespace Wl
open PySem PySem.Spec PyProof.Rows L2 Dl Mp
def gr1 : List (List Nat) := [[0]]
def be1 : List (List Nat) := [[0]]
def W1_0 : D := .tup [.int (.ofNat 1)]
def W1_1 : D := .int (.ofNat 1)
def W1_2 : D := .tup [.tup [.int (.ofNat 0)]]
def W1_3 : D := .int (.ofNat 1)
def W1_4 : D := .dT [[.inl (.ofNat 0)]] [.int (.ofNat 0)]
def W1_5 : D := .lst [.lst [.int (.ofNat 0)]]
def W1_6 : D := .lst [.int (.ofNat 0)]
def W1 : List Str × List D := (["sizes", "things", "renamings", "order", "_numbers", "_table", "_inverses"], [W1_0, W1_1, W1_2, W1_3, W1_4, W1_5, W1_6])
def L1_0 : D := .obj 0 W1.1 W1.2
def L1_1 : D := .tup [.tup [.int (.ofNat 0)]]
def L1_2 : D := .dT [[.inl (.ofNat 0)]] [.int (.ofNat 0)]
def L1_3 : D := .lst [.lst [.int (.ofNat 0)]]
def L1_4 : D := .tup [.tup [.int (.ofNat 0)]]
def L1_5 : D := .dK [.inl (.ofNat 0)] [.int (.ofNat 0)]
def L1_6 : D := .lst [.lst [.bl true]]
def L1_7 : D := .lst [.tup [.int (.ofNat 0)]]
def L1 : List Str × List D := (["world", "groups", "_numbers", "_carries", "classes", "_places", "_holdings", "_below"], [L1_0, L1_1, L1_2, L1_3, L1_4, L1_5, L1_6, L1_7])
theorem e1_1 : m_World_init [.tup (nts [1])] = some W1 := by kernel_rfl
theorem e1_2 : m_Lattice_init [.obj 0 W1.1 W1.2] = some L1 := by kernel_rfl
theorem w1 : Wor [1] (.obj 1 L1.1 L1.2) gr1 be1 := ⟨⟨_, _, e1_1, e1_2, rfl⟩, ⟨_, _, rfl, by kernel_rfl, by kernel_rfl, by kernel_rfl, by kernel_rfl⟩⟩
end Wl
set_option maxRecDepth 1000000
set_option maxHeartbeats 0
namespace Wl
open PySem PySem.Spec PyProof.Rows L2 Dl Mp
def re1 : List (List Nat) := [[]]
theorem r1_1 : okS gr1 be1 = true := by decide +kernel
theorem r1_2 : m__law_held [.lst (trows gr1)] = some (.lst (rows be1)) := by kernel_rfl
theorem r1_3 : m__law_reaches [.lst (trows gr1), .lst (rows be1)] = some (.lst (rows re1)) := by kernel_rfl
theorem r1_4 : re1 = reaches gr1 be1 := by decide +kernel
theorem wr1 : Wre [1] (.obj 1 L1.1 L1.2) gr1 be1 := wre_of w1 r1_1 r1_2 r1_3 r1_4
end Wl
set_option maxRecDepth 1000000
set_option maxHeartbeats 0
namespace Wl
open PySem PySem.Spec PyProof.Rows L2 Dl Mp
def gr0 : List (List Nat) := [[0]]
def be0 : List (List Nat) := [[0]]
def W0_0 : D := .tup [.int (.ofNat 0)]
def W0_1 : D := .int (.ofNat 0)
def W0_2 : D := .tup [.tup []]
def W0_3 : D := .int (.ofNat 1)
def W0_4 : D := .dT [[]] [.int (.ofNat 0)]
def W0_5 : D := .lst [.lst [.int (.ofNat 0)]]
def W0_6 : D := .lst [.int (.ofNat 0)]
def W0 : List Str × List D := (["sizes", "things", "renamings", "order", "_numbers", "_table", "_inverses"], [W0_0, W0_1, W0_2, W0_3, W0_4, W0_5, W0_6])
def L0_0 : D := .obj 0 W0.1 W0.2
def L0_1 : D := .tup [.tup [.int (.ofNat 0)]]
def L0_2 : D := .dT [[.inl (.ofNat 0)]] [.int (.ofNat 0)]
def L0_3 : D := .lst [.lst [.int (.ofNat 0)]]
def L0_4 : D := .tup [.tup [.int (.ofNat 0)]]
def L0_5 : D := .dK [.inl (.ofNat 0)] [.int (.ofNat 0)]
def L0_6 : D := .lst [.lst [.bl true]]
def L0_7 : D := .lst [.tup [.int (.ofNat 0)]]
def L0 : List Str × List D := (["world", "groups", "_numbers", "_carries", "classes", "_places", "_holdings", "_below"], [L0_0, L0_1, L0_2, L0_3, L0_4, L0_5, L0_6, L0_7])
theorem e0_1 : m_World_init [.tup (nts [0])] = some W0 := by kernel_rfl
theorem e0_2 : m_Lattice_init [.obj 0 W0.1 W0.2] = some L0 := by kernel_rfl
theorem w0 : Wor [0] (.obj 1 L0.1 L0.2) gr0 be0 := ⟨⟨_, _, e0_1, e0_2, rfl⟩, ⟨_, _, rfl, by kernel_rfl, by kernel_rfl, by kernel_rfl, by kernel_rfl⟩⟩
end Wl
set_option maxRecDepth 1000000
set_option maxHeartbeats 0
namespace Wl
open PySem PySem.Spec PyProof.Rows L2 Dl Mp
def re0 : List (List Nat) := [[]]
theorem r0_1 : okS gr0 be0 = true := by decide +kernel
theorem r0_2 : m__law_held [.lst (trows gr0)] = some (.lst (rows be0)) := by kernel_rfl
theorem r0_3 : m__law_reaches [.lst (trows gr0), .lst (rows be0)] = some (.lst (rows re0)) := by kernel_rfl
theorem r0_4 : re0 = reaches gr0 be0 := by decide +kernel
theorem wr0 : Wre [0] (.obj 1 L0.1 L0.2) gr0 be0 := wre_of w0 r0_1 r0_2 r0_3 r0_4
end Wl
set_option maxRecDepth 1000000
set_option maxHeartbeats 0
namespace Wl
open PySem PySem.Spec PyProof.Rows L2 Dl Mp
def gr31 : List (List Nat) := [[0], [0, 1], [0, 2], [0, 5], [0, 3, 4], [0, 1, 2, 3, 4, 5]]
def be31 : List (List Nat) := [[0], [0, 1], [0, 2], [0, 3], [0, 4], [0, 1, 2, 3, 4, 5]]
def W31_0 : D := .tup [.int (.ofNat 3), .int (.ofNat 1)]
def W31_1 : D := .int (.ofNat 4)
def W31_2 : D := .tup [.tup [.int (.ofNat 0), .int (.ofNat 1), .int (.ofNat 2), .int (.ofNat 3)], .tup [.int (.ofNat 0), .int (.ofNat 2), .int (.ofNat 1), .int (.ofNat 3)], .tup [.int (.ofNat 1), .int (.ofNat 0), .int (.ofNat 2), .int (.ofNat 3)], .tup [.int (.ofNat 1), .int (.ofNat 2), .int (.ofNat 0), .int (.ofNat 3)], .tup [.int (.ofNat 2), .int (.ofNat 0), .int (.ofNat 1), .int (.ofNat 3)], .tup [.int (.ofNat 2), .int (.ofNat 1), .int (.ofNat 0), .int (.ofNat 3)]]
def W31_3 : D := .int (.ofNat 6)
def W31_4 : D := .dT [[.inl (.ofNat 0), .inl (.ofNat 1), .inl (.ofNat 2), .inl (.ofNat 3)], [.inl (.ofNat 0), .inl (.ofNat 2), .inl (.ofNat 1), .inl (.ofNat 3)], [.inl (.ofNat 1), .inl (.ofNat 0), .inl (.ofNat 2), .inl (.ofNat 3)], [.inl (.ofNat 1), .inl (.ofNat 2), .inl (.ofNat 0), .inl (.ofNat 3)], [.inl (.ofNat 2), .inl (.ofNat 0), .inl (.ofNat 1), .inl (.ofNat 3)], [.inl (.ofNat 2), .inl (.ofNat 1), .inl (.ofNat 0), .inl (.ofNat 3)]] [.int (.ofNat 0), .int (.ofNat 1), .int (.ofNat 2), .int (.ofNat 3), .int (.ofNat 4), .int (.ofNat 5)]
def W31_5 : D := .lst [.lst [.int (.ofNat 0), .int (.ofNat 1), .int (.ofNat 2), .int (.ofNat 3), .int (.ofNat 4), .int (.ofNat 5)], .lst [.int (.ofNat 1), .int (.ofNat 0), .int (.ofNat 3), .int (.ofNat 2), .int (.ofNat 5), .int (.ofNat 4)], .lst [.int (.ofNat 2), .int (.ofNat 4), .int (.ofNat 0), .int (.ofNat 5), .int (.ofNat 1), .int (.ofNat 3)], .lst [.int (.ofNat 3), .int (.ofNat 5), .int (.ofNat 1), .int (.ofNat 4), .int (.ofNat 0), .int (.ofNat 2)], .lst [.int (.ofNat 4), .int (.ofNat 2), .int (.ofNat 5), .int (.ofNat 0), .int (.ofNat 3), .int (.ofNat 1)], .lst [.int (.ofNat 5), .int (.ofNat 3), .int (.ofNat 4), .int (.ofNat 1), .int (.ofNat 2), .int (.ofNat 0)]]
def W31_6 : D := .lst [.int (.ofNat 0), .int (.ofNat 1), .int (.ofNat 2), .int (.ofNat 4), .int (.ofNat 3), .int (.ofNat 5)]
def W31 : List Str × List D := (["sizes", "things", "renamings", "order", "_numbers", "_table", "_inverses"], [W31_0, W31_1, W31_2, W31_3, W31_4, W31_5, W31_6])
def L31_0 : D := .obj 0 W31.1 W31.2
def L31_1 : D := .tup [.tup [.int (.ofNat 0)], .tup [.int (.ofNat 0), .int (.ofNat 1)], .tup [.int (.ofNat 0), .int (.ofNat 2)], .tup [.int (.ofNat 0), .int (.ofNat 5)], .tup [.int (.ofNat 0), .int (.ofNat 3), .int (.ofNat 4)], .tup [.int (.ofNat 0), .int (.ofNat 1), .int (.ofNat 2), .int (.ofNat 3), .int (.ofNat 4), .int (.ofNat 5)]]
def L31_2 : D := .dT [[.inl (.ofNat 0)], [.inl (.ofNat 0), .inl (.ofNat 1)], [.inl (.ofNat 0), .inl (.ofNat 2)], [.inl (.ofNat 0), .inl (.ofNat 5)], [.inl (.ofNat 0), .inl (.ofNat 3), .inl (.ofNat 4)], [.inl (.ofNat 0), .inl (.ofNat 1), .inl (.ofNat 2), .inl (.ofNat 3), .inl (.ofNat 4), .inl (.ofNat 5)]] [.int (.ofNat 0), .int (.ofNat 1), .int (.ofNat 2), .int (.ofNat 3), .int (.ofNat 4), .int (.ofNat 5)]
def L31_3 : D := .lst [.lst [.int (.ofNat 0), .int (.ofNat 0), .int (.ofNat 0), .int (.ofNat 0), .int (.ofNat 0), .int (.ofNat 0)], .lst [.int (.ofNat 1), .int (.ofNat 1), .int (.ofNat 3), .int (.ofNat 3), .int (.ofNat 2), .int (.ofNat 2)], .lst [.int (.ofNat 2), .int (.ofNat 3), .int (.ofNat 2), .int (.ofNat 1), .int (.ofNat 3), .int (.ofNat 1)], .lst [.int (.ofNat 3), .int (.ofNat 2), .int (.ofNat 1), .int (.ofNat 2), .int (.ofNat 1), .int (.ofNat 3)], .lst [.int (.ofNat 4), .int (.ofNat 4), .int (.ofNat 4), .int (.ofNat 4), .int (.ofNat 4), .int (.ofNat 4)], .lst [.int (.ofNat 5), .int (.ofNat 5), .int (.ofNat 5), .int (.ofNat 5), .int (.ofNat 5), .int (.ofNat 5)]]
def L31_4 : D := .tup [.tup [.int (.ofNat 0)], .tup [.int (.ofNat 1), .int (.ofNat 2), .int (.ofNat 3)], .tup [.int (.ofNat 4)], .tup [.int (.ofNat 5)]]
def L31_5 : D := .dK [.inl (.ofNat 0), .inl (.ofNat 1), .inl (.ofNat 2), .inl (.ofNat 3), .inl (.ofNat 4), .inl (.ofNat 5)] [.int (.ofNat 0), .int (.ofNat 1), .int (.ofNat 1), .int (.ofNat 1), .int (.ofNat 2), .int (.ofNat 3)]
def L31_6 : D := .lst [.lst [.bl true, .bl false, .bl false, .bl false, .bl false, .bl false], .lst [.bl true, .bl true, .bl false, .bl false, .bl false, .bl false], .lst [.bl true, .bl false, .bl true, .bl false, .bl false, .bl false], .lst [.bl true, .bl false, .bl false, .bl true, .bl false, .bl false], .lst [.bl true, .bl false, .bl false, .bl false, .bl true, .bl false], .lst [.bl true, .bl true, .bl true, .bl true, .bl true, .bl true]]
def L31_7 : D := .lst [.tup [.int (.ofNat 0)], .tup [.int (.ofNat 0), .int (.ofNat 1)], .tup [.int (.ofNat 0), .int (.ofNat 2)], .tup [.int (.ofNat 0), .int (.ofNat 3)], .tup [.int (.ofNat 0), .int (.ofNat 4)], .tup [.int (.ofNat 0), .int (.ofNat 1), .int (.ofNat 2), .int (.ofNat 3), .int (.ofNat 4), .int (.ofNat 5)]]
def L31 : List Str × List D := (["world", "groups", "_numbers", "_carries", "classes", "_places", "_holdings", "_below"], [L31_0, L31_1, L31_2, L31_3, L31_4, L31_5, L31_6, L31_7])
theorem e31_1 : m_World_init [.tup (nts [3, 1])] = some W31 := by kernel_rfl
theorem e31_2 : m_Lattice_init [.obj 0 W31.1 W31.2] = some L31 := by kernel_rfl
theorem w31 : Wor [3, 1] (.obj 1 L31.1 L31.2) gr31 be31 := ⟨⟨_, _, e31_1, e31_2, rfl⟩, ⟨_, _, rfl, by kernel_rfl, by kernel_rfl, by kernel_rfl, by kernel_rfl⟩⟩
end Wl
set_option maxRecDepth 1000000
set_option maxHeartbeats 0
namespace Wl
open PySem PySem.Spec PyProof.Rows L2 Dl Mp
def re31 : List (List Nat) := [[], [2, 4, 6, 8, 10, 12], [2, 4, 6, 8, 10, 12], [2, 4, 6, 8, 10, 12], [3, 6, 9, 12], [2, 3, 4, 5, 6, 7, 8, 9, 10, 11, 12]]
theorem r31_1 : okS gr31 be31 = true := by decide +kernel
theorem r31_2 : m__law_held [.lst (trows gr31)] = some (.lst (rows be31)) := by kernel_rfl
theorem r31_3 : m__law_reaches [.lst (trows gr31), .lst (rows be31)] = some (.lst (rows re31)) := by kernel_rfl
theorem r31_4 : re31 = reaches gr31 be31 := by decide +kernel
theorem wr31 : Wre [3, 1] (.obj 1 L31.1 L31.2) gr31 be31 := wre_of w31 r31_1 r31_2 r31_3 r31_4
end Wl
set_option maxRecDepth 1000000
set_option maxHeartbeats 0
namespace Wl
open PySem PySem.Spec PyProof.Rows L2 Dl Mp
def gr11 : List (List Nat) := [[0]]
def be11 : List (List Nat) := [[0]]
def W11_0 : D := .tup [.int (.ofNat 1), .int (.ofNat 1)]
def W11_1 : D := .int (.ofNat 2)
def W11_2 : D := .tup [.tup [.int (.ofNat 0), .int (.ofNat 1)]]
def W11_3 : D := .int (.ofNat 1)
def W11_4 : D := .dT [[.inl (.ofNat 0), .inl (.ofNat 1)]] [.int (.ofNat 0)]
def W11_5 : D := .lst [.lst [.int (.ofNat 0)]]
def W11_6 : D := .lst [.int (.ofNat 0)]
def W11 : List Str × List D := (["sizes", "things", "renamings", "order", "_numbers", "_table", "_inverses"], [W11_0, W11_1, W11_2, W11_3, W11_4, W11_5, W11_6])
def L11_0 : D := .obj 0 W11.1 W11.2
def L11_1 : D := .tup [.tup [.int (.ofNat 0)]]
def L11_2 : D := .dT [[.inl (.ofNat 0)]] [.int (.ofNat 0)]
def L11_3 : D := .lst [.lst [.int (.ofNat 0)]]
def L11_4 : D := .tup [.tup [.int (.ofNat 0)]]
def L11_5 : D := .dK [.inl (.ofNat 0)] [.int (.ofNat 0)]
def L11_6 : D := .lst [.lst [.bl true]]
def L11_7 : D := .lst [.tup [.int (.ofNat 0)]]
def L11 : List Str × List D := (["world", "groups", "_numbers", "_carries", "classes", "_places", "_holdings", "_below"], [L11_0, L11_1, L11_2, L11_3, L11_4, L11_5, L11_6, L11_7])
theorem e11_1 : m_World_init [.tup (nts [1, 1])] = some W11 := by kernel_rfl
theorem e11_2 : m_Lattice_init [.obj 0 W11.1 W11.2] = some L11 := by kernel_rfl
theorem w11 : Wor [1, 1] (.obj 1 L11.1 L11.2) gr11 be11 := ⟨⟨_, _, e11_1, e11_2, rfl⟩, ⟨_, _, rfl, by kernel_rfl, by kernel_rfl, by kernel_rfl, by kernel_rfl⟩⟩
end Wl
set_option maxRecDepth 1000000
set_option maxHeartbeats 0
namespace Wl
open PySem PySem.Spec PyProof.Rows L2 Dl Mp
def re11 : List (List Nat) := [[]]
theorem r11_1 : okS gr11 be11 = true := by decide +kernel
theorem r11_2 : m__law_held [.lst (trows gr11)] = some (.lst (rows be11)) := by kernel_rfl
theorem r11_3 : m__law_reaches [.lst (trows gr11), .lst (rows be11)] = some (.lst (rows re11)) := by kernel_rfl
theorem r11_4 : re11 = reaches gr11 be11 := by decide +kernel
theorem wr11 : Wre [1, 1] (.obj 1 L11.1 L11.2) gr11 be11 := wre_of w11 r11_1 r11_2 r11_3 r11_4
end Wl
set_option maxRecDepth 1000000
set_option maxHeartbeats 0
namespace Wl
open PySem PySem.Spec PyProof.Rows L2 Dl Mp
def gr02 : List (List Nat) := [[0], [0, 1]]
def be02 : List (List Nat) := [[0], [0, 1]]
def W02_0 : D := .tup [.int (.ofNat 0), .int (.ofNat 2)]
def W02_1 : D := .int (.ofNat 2)
def W02_2 : D := .tup [.tup [.int (.ofNat 0), .int (.ofNat 1)], .tup [.int (.ofNat 1), .int (.ofNat 0)]]
def W02_3 : D := .int (.ofNat 2)
def W02_4 : D := .dT [[.inl (.ofNat 0), .inl (.ofNat 1)], [.inl (.ofNat 1), .inl (.ofNat 0)]] [.int (.ofNat 0), .int (.ofNat 1)]
def W02_5 : D := .lst [.lst [.int (.ofNat 0), .int (.ofNat 1)], .lst [.int (.ofNat 1), .int (.ofNat 0)]]
def W02_6 : D := .lst [.int (.ofNat 0), .int (.ofNat 1)]
def W02 : List Str × List D := (["sizes", "things", "renamings", "order", "_numbers", "_table", "_inverses"], [W02_0, W02_1, W02_2, W02_3, W02_4, W02_5, W02_6])
def L02_0 : D := .obj 0 W02.1 W02.2
def L02_1 : D := .tup [.tup [.int (.ofNat 0)], .tup [.int (.ofNat 0), .int (.ofNat 1)]]
def L02_2 : D := .dT [[.inl (.ofNat 0)], [.inl (.ofNat 0), .inl (.ofNat 1)]] [.int (.ofNat 0), .int (.ofNat 1)]
def L02_3 : D := .lst [.lst [.int (.ofNat 0), .int (.ofNat 0)], .lst [.int (.ofNat 1), .int (.ofNat 1)]]
def L02_4 : D := .tup [.tup [.int (.ofNat 0)], .tup [.int (.ofNat 1)]]
def L02_5 : D := .dK [.inl (.ofNat 0), .inl (.ofNat 1)] [.int (.ofNat 0), .int (.ofNat 1)]
def L02_6 : D := .lst [.lst [.bl true, .bl false], .lst [.bl true, .bl true]]
def L02_7 : D := .lst [.tup [.int (.ofNat 0)], .tup [.int (.ofNat 0), .int (.ofNat 1)]]
def L02 : List Str × List D := (["world", "groups", "_numbers", "_carries", "classes", "_places", "_holdings", "_below"], [L02_0, L02_1, L02_2, L02_3, L02_4, L02_5, L02_6, L02_7])
theorem e02_1 : m_World_init [.tup (nts [0, 2])] = some W02 := by kernel_rfl
theorem e02_2 : m_Lattice_init [.obj 0 W02.1 W02.2] = some L02 := by kernel_rfl
theorem w02 : Wor [0, 2] (.obj 1 L02.1 L02.2) gr02 be02 := ⟨⟨_, _, e02_1, e02_2, rfl⟩, ⟨_, _, rfl, by kernel_rfl, by kernel_rfl, by kernel_rfl, by kernel_rfl⟩⟩
end Wl
set_option maxRecDepth 1000000
set_option maxHeartbeats 0
namespace Wl
open PySem PySem.Spec PyProof.Rows L2 Dl Mp
def re02 : List (List Nat) := [[], [2, 4, 6, 8, 10, 12]]
theorem r02_1 : okS gr02 be02 = true := by decide +kernel
theorem r02_2 : m__law_held [.lst (trows gr02)] = some (.lst (rows be02)) := by kernel_rfl
theorem r02_3 : m__law_reaches [.lst (trows gr02), .lst (rows be02)] = some (.lst (rows re02)) := by kernel_rfl
theorem r02_4 : re02 = reaches gr02 be02 := by decide +kernel
theorem wr02 : Wre [0, 2] (.obj 1 L02.1 L02.2) gr02 be02 := wre_of w02 r02_1 r02_2 r02_3 r02_4
end Wl
set_option maxRecDepth 1000000
set_option maxHeartbeats 0
namespace Wl
open PySem PySem.Spec PyProof.Rows L2 Dl Mp
def gr20 : List (List Nat) := [[0], [0, 1]]
def be20 : List (List Nat) := [[0], [0, 1]]
def W20_0 : D := .tup [.int (.ofNat 2), .int (.ofNat 0)]
def W20_1 : D := .int (.ofNat 2)
def W20_2 : D := .tup [.tup [.int (.ofNat 0), .int (.ofNat 1)], .tup [.int (.ofNat 1), .int (.ofNat 0)]]
def W20_3 : D := .int (.ofNat 2)
def W20_4 : D := .dT [[.inl (.ofNat 0), .inl (.ofNat 1)], [.inl (.ofNat 1), .inl (.ofNat 0)]] [.int (.ofNat 0), .int (.ofNat 1)]
def W20_5 : D := .lst [.lst [.int (.ofNat 0), .int (.ofNat 1)], .lst [.int (.ofNat 1), .int (.ofNat 0)]]
def W20_6 : D := .lst [.int (.ofNat 0), .int (.ofNat 1)]
def W20 : List Str × List D := (["sizes", "things", "renamings", "order", "_numbers", "_table", "_inverses"], [W20_0, W20_1, W20_2, W20_3, W20_4, W20_5, W20_6])
def L20_0 : D := .obj 0 W20.1 W20.2
def L20_1 : D := .tup [.tup [.int (.ofNat 0)], .tup [.int (.ofNat 0), .int (.ofNat 1)]]
def L20_2 : D := .dT [[.inl (.ofNat 0)], [.inl (.ofNat 0), .inl (.ofNat 1)]] [.int (.ofNat 0), .int (.ofNat 1)]
def L20_3 : D := .lst [.lst [.int (.ofNat 0), .int (.ofNat 0)], .lst [.int (.ofNat 1), .int (.ofNat 1)]]
def L20_4 : D := .tup [.tup [.int (.ofNat 0)], .tup [.int (.ofNat 1)]]
def L20_5 : D := .dK [.inl (.ofNat 0), .inl (.ofNat 1)] [.int (.ofNat 0), .int (.ofNat 1)]
def L20_6 : D := .lst [.lst [.bl true, .bl false], .lst [.bl true, .bl true]]
def L20_7 : D := .lst [.tup [.int (.ofNat 0)], .tup [.int (.ofNat 0), .int (.ofNat 1)]]
def L20 : List Str × List D := (["world", "groups", "_numbers", "_carries", "classes", "_places", "_holdings", "_below"], [L20_0, L20_1, L20_2, L20_3, L20_4, L20_5, L20_6, L20_7])
theorem e20_1 : m_World_init [.tup (nts [2, 0])] = some W20 := by kernel_rfl
theorem e20_2 : m_Lattice_init [.obj 0 W20.1 W20.2] = some L20 := by kernel_rfl
theorem w20 : Wor [2, 0] (.obj 1 L20.1 L20.2) gr20 be20 := ⟨⟨_, _, e20_1, e20_2, rfl⟩, ⟨_, _, rfl, by kernel_rfl, by kernel_rfl, by kernel_rfl, by kernel_rfl⟩⟩
end Wl
set_option maxRecDepth 1000000
set_option maxHeartbeats 0
namespace Wl
open PySem PySem.Spec PyProof.Rows L2 Dl Mp
def re20 : List (List Nat) := [[], [2, 4, 6, 8, 10, 12]]
theorem r20_1 : okS gr20 be20 = true := by decide +kernel
theorem r20_2 : m__law_held [.lst (trows gr20)] = some (.lst (rows be20)) := by kernel_rfl
theorem r20_3 : m__law_reaches [.lst (trows gr20), .lst (rows be20)] = some (.lst (rows re20)) := by kernel_rfl
theorem r20_4 : re20 = reaches gr20 be20 := by decide +kernel
theorem wr20 : Wre [2, 0] (.obj 1 L20.1 L20.2) gr20 be20 := wre_of w20 r20_1 r20_2 r20_3 r20_4
end Wl
set_option maxRecDepth 1000000
set_option maxHeartbeats 0
namespace Wl
open PySem PySem.Spec PyProof.Rows L2 Dl Mp
def gr13 : List (List Nat) := [[0], [0, 1], [0, 2], [0, 5], [0, 3, 4], [0, 1, 2, 3, 4, 5]]
def be13 : List (List Nat) := [[0], [0, 1], [0, 2], [0, 3], [0, 4], [0, 1, 2, 3, 4, 5]]
def W13_0 : D := .tup [.int (.ofNat 1), .int (.ofNat 3)]
def W13_1 : D := .int (.ofNat 4)
def W13_2 : D := .tup [.tup [.int (.ofNat 0), .int (.ofNat 1), .int (.ofNat 2), .int (.ofNat 3)], .tup [.int (.ofNat 0), .int (.ofNat 1), .int (.ofNat 3), .int (.ofNat 2)], .tup [.int (.ofNat 0), .int (.ofNat 2), .int (.ofNat 1), .int (.ofNat 3)], .tup [.int (.ofNat 0), .int (.ofNat 2), .int (.ofNat 3), .int (.ofNat 1)], .tup [.int (.ofNat 0), .int (.ofNat 3), .int (.ofNat 1), .int (.ofNat 2)], .tup [.int (.ofNat 0), .int (.ofNat 3), .int (.ofNat 2), .int (.ofNat 1)]]
def W13_3 : D := .int (.ofNat 6)
def W13_4 : D := .dT [[.inl (.ofNat 0), .inl (.ofNat 1), .inl (.ofNat 2), .inl (.ofNat 3)], [.inl (.ofNat 0), .inl (.ofNat 1), .inl (.ofNat 3), .inl (.ofNat 2)], [.inl (.ofNat 0), .inl (.ofNat 2), .inl (.ofNat 1), .inl (.ofNat 3)], [.inl (.ofNat 0), .inl (.ofNat 2), .inl (.ofNat 3), .inl (.ofNat 1)], [.inl (.ofNat 0), .inl (.ofNat 3), .inl (.ofNat 1), .inl (.ofNat 2)], [.inl (.ofNat 0), .inl (.ofNat 3), .inl (.ofNat 2), .inl (.ofNat 1)]] [.int (.ofNat 0), .int (.ofNat 1), .int (.ofNat 2), .int (.ofNat 3), .int (.ofNat 4), .int (.ofNat 5)]
def W13_5 : D := .lst [.lst [.int (.ofNat 0), .int (.ofNat 1), .int (.ofNat 2), .int (.ofNat 3), .int (.ofNat 4), .int (.ofNat 5)], .lst [.int (.ofNat 1), .int (.ofNat 0), .int (.ofNat 3), .int (.ofNat 2), .int (.ofNat 5), .int (.ofNat 4)], .lst [.int (.ofNat 2), .int (.ofNat 4), .int (.ofNat 0), .int (.ofNat 5), .int (.ofNat 1), .int (.ofNat 3)], .lst [.int (.ofNat 3), .int (.ofNat 5), .int (.ofNat 1), .int (.ofNat 4), .int (.ofNat 0), .int (.ofNat 2)], .lst [.int (.ofNat 4), .int (.ofNat 2), .int (.ofNat 5), .int (.ofNat 0), .int (.ofNat 3), .int (.ofNat 1)], .lst [.int (.ofNat 5), .int (.ofNat 3), .int (.ofNat 4), .int (.ofNat 1), .int (.ofNat 2), .int (.ofNat 0)]]
def W13_6 : D := .lst [.int (.ofNat 0), .int (.ofNat 1), .int (.ofNat 2), .int (.ofNat 4), .int (.ofNat 3), .int (.ofNat 5)]
def W13 : List Str × List D := (["sizes", "things", "renamings", "order", "_numbers", "_table", "_inverses"], [W13_0, W13_1, W13_2, W13_3, W13_4, W13_5, W13_6])
def L13_0 : D := .obj 0 W13.1 W13.2
def L13_1 : D := .tup [.tup [.int (.ofNat 0)], .tup [.int (.ofNat 0), .int (.ofNat 1)], .tup [.int (.ofNat 0), .int (.ofNat 2)], .tup [.int (.ofNat 0), .int (.ofNat 5)], .tup [.int (.ofNat 0), .int (.ofNat 3), .int (.ofNat 4)], .tup [.int (.ofNat 0), .int (.ofNat 1), .int (.ofNat 2), .int (.ofNat 3), .int (.ofNat 4), .int (.ofNat 5)]]
def L13_2 : D := .dT [[.inl (.ofNat 0)], [.inl (.ofNat 0), .inl (.ofNat 1)], [.inl (.ofNat 0), .inl (.ofNat 2)], [.inl (.ofNat 0), .inl (.ofNat 5)], [.inl (.ofNat 0), .inl (.ofNat 3), .inl (.ofNat 4)], [.inl (.ofNat 0), .inl (.ofNat 1), .inl (.ofNat 2), .inl (.ofNat 3), .inl (.ofNat 4), .inl (.ofNat 5)]] [.int (.ofNat 0), .int (.ofNat 1), .int (.ofNat 2), .int (.ofNat 3), .int (.ofNat 4), .int (.ofNat 5)]
def L13_3 : D := .lst [.lst [.int (.ofNat 0), .int (.ofNat 0), .int (.ofNat 0), .int (.ofNat 0), .int (.ofNat 0), .int (.ofNat 0)], .lst [.int (.ofNat 1), .int (.ofNat 1), .int (.ofNat 3), .int (.ofNat 3), .int (.ofNat 2), .int (.ofNat 2)], .lst [.int (.ofNat 2), .int (.ofNat 3), .int (.ofNat 2), .int (.ofNat 1), .int (.ofNat 3), .int (.ofNat 1)], .lst [.int (.ofNat 3), .int (.ofNat 2), .int (.ofNat 1), .int (.ofNat 2), .int (.ofNat 1), .int (.ofNat 3)], .lst [.int (.ofNat 4), .int (.ofNat 4), .int (.ofNat 4), .int (.ofNat 4), .int (.ofNat 4), .int (.ofNat 4)], .lst [.int (.ofNat 5), .int (.ofNat 5), .int (.ofNat 5), .int (.ofNat 5), .int (.ofNat 5), .int (.ofNat 5)]]
def L13_4 : D := .tup [.tup [.int (.ofNat 0)], .tup [.int (.ofNat 1), .int (.ofNat 2), .int (.ofNat 3)], .tup [.int (.ofNat 4)], .tup [.int (.ofNat 5)]]
def L13_5 : D := .dK [.inl (.ofNat 0), .inl (.ofNat 1), .inl (.ofNat 2), .inl (.ofNat 3), .inl (.ofNat 4), .inl (.ofNat 5)] [.int (.ofNat 0), .int (.ofNat 1), .int (.ofNat 1), .int (.ofNat 1), .int (.ofNat 2), .int (.ofNat 3)]
def L13_6 : D := .lst [.lst [.bl true, .bl false, .bl false, .bl false, .bl false, .bl false], .lst [.bl true, .bl true, .bl false, .bl false, .bl false, .bl false], .lst [.bl true, .bl false, .bl true, .bl false, .bl false, .bl false], .lst [.bl true, .bl false, .bl false, .bl true, .bl false, .bl false], .lst [.bl true, .bl false, .bl false, .bl false, .bl true, .bl false], .lst [.bl true, .bl true, .bl true, .bl true, .bl true, .bl true]]
def L13_7 : D := .lst [.tup [.int (.ofNat 0)], .tup [.int (.ofNat 0), .int (.ofNat 1)], .tup [.int (.ofNat 0), .int (.ofNat 2)], .tup [.int (.ofNat 0), .int (.ofNat 3)], .tup [.int (.ofNat 0), .int (.ofNat 4)], .tup [.int (.ofNat 0), .int (.ofNat 1), .int (.ofNat 2), .int (.ofNat 3), .int (.ofNat 4), .int (.ofNat 5)]]
def L13 : List Str × List D := (["world", "groups", "_numbers", "_carries", "classes", "_places", "_holdings", "_below"], [L13_0, L13_1, L13_2, L13_3, L13_4, L13_5, L13_6, L13_7])
theorem e13_1 : m_World_init [.tup (nts [1, 3])] = some W13 := by kernel_rfl
theorem e13_2 : m_Lattice_init [.obj 0 W13.1 W13.2] = some L13 := by kernel_rfl
theorem w13 : Wor [1, 3] (.obj 1 L13.1 L13.2) gr13 be13 := ⟨⟨_, _, e13_1, e13_2, rfl⟩, ⟨_, _, rfl, by kernel_rfl, by kernel_rfl, by kernel_rfl, by kernel_rfl⟩⟩
end Wl
set_option maxRecDepth 1000000
set_option maxHeartbeats 0
namespace Wl
open PySem PySem.Spec PyProof.Rows L2 Dl Mp
def re13 : List (List Nat) := [[], [2, 4, 6, 8, 10, 12], [2, 4, 6, 8, 10, 12], [2, 4, 6, 8, 10, 12], [3, 6, 9, 12], [2, 3, 4, 5, 6, 7, 8, 9, 10, 11, 12]]
theorem r13_1 : okS gr13 be13 = true := by decide +kernel
theorem r13_2 : m__law_held [.lst (trows gr13)] = some (.lst (rows be13)) := by kernel_rfl
theorem r13_3 : m__law_reaches [.lst (trows gr13), .lst (rows be13)] = some (.lst (rows re13)) := by kernel_rfl
theorem r13_4 : re13 = reaches gr13 be13 := by decide +kernel
theorem wr13 : Wre [1, 3] (.obj 1 L13.1 L13.2) gr13 be13 := wre_of w13 r13_1 r13_2 r13_3 r13_4
end Wl
set_option maxRecDepth 1000000
set_option maxHeartbeats 0
namespace Wl
open PySem PySem.Spec PyProof.Rows L2 Dl Mp
def gr23 : List (List Nat) := [[0], [0, 1], [0, 2], [0, 5], [0, 6], [0, 7], [0, 8], [0, 11], [0, 3, 4], [0, 1, 6, 7], [0, 2, 6, 8], [0, 5, 6, 11], [0, 1, 2, 3, 4, 5], [0, 3, 4, 6, 9, 10], [0, 3, 4, 7, 8, 11], [0, 1, 2, 3, 4, 5, 6, 7, 8, 9, 10, 11]]
def be23 : List (List Nat) := [[0], [0, 1], [0, 2], [0, 3], [0, 4], [0, 5], [0, 6], [0, 7], [0, 8], [0, 1, 4, 5, 9], [0, 2, 4, 6, 10], [0, 3, 4, 7, 11], [0, 1, 2, 3, 8, 12], [0, 4, 8, 13], [0, 5, 6, 7, 8, 14], [0, 1, 2, 3, 4, 5, 6, 7, 8, 9, 10, 11, 12, 13, 14, 15]]
def W23_0 : D := .tup [.int (.ofNat 2), .int (.ofNat 3)]
def W23_1 : D := .int (.ofNat 5)
def W23_2 : D := .tup [.tup [.int (.ofNat 0), .int (.ofNat 1), .int (.ofNat 2), .int (.ofNat 3), .int (.ofNat 4)], .tup [.int (.ofNat 0), .int (.ofNat 1), .int (.ofNat 2), .int (.ofNat 4), .int (.ofNat 3)], .tup [.int (.ofNat 0), .int (.ofNat 1), .int (.ofNat 3), .int (.ofNat 2), .int (.ofNat 4)], .tup [.int (.ofNat 0), .int (.ofNat 1), .int (.ofNat 3), .int (.ofNat 4), .int (.ofNat 2)], .tup [.int (.ofNat 0), .int (.ofNat 1), .int (.ofNat 4), .int (.ofNat 2), .int (.ofNat 3)], .tup [.int (.ofNat 0), .int (.ofNat 1), .int (.ofNat 4), .int (.ofNat 3), .int (.ofNat 2)], .tup [.int (.ofNat 1), .int (.ofNat 0), .int (.ofNat 2), .int (.ofNat 3), .int (.ofNat 4)], .tup [.int (.ofNat 1), .int (.ofNat 0), .int (.ofNat 2), .int (.ofNat 4), .int (.ofNat 3)], .tup [.int (.ofNat 1), .int (.ofNat 0), .int (.ofNat 3), .int (.ofNat 2), .int (.ofNat 4)], .tup [.int (.ofNat 1), .int (.ofNat 0), .int (.ofNat 3), .int (.ofNat 4), .int (.ofNat 2)], .tup [.int (.ofNat 1), .int (.ofNat 0), .int (.ofNat 4), .int (.ofNat 2), .int (.ofNat 3)], .tup [.int (.ofNat 1), .int (.ofNat 0), .int (.ofNat 4), .int (.ofNat 3), .int (.ofNat 2)]]
def W23_3 : D := .int (.ofNat 12)
def W23_4 : D := .dT [[.inl (.ofNat 0), .inl (.ofNat 1), .inl (.ofNat 2), .inl (.ofNat 3), .inl (.ofNat 4)], [.inl (.ofNat 0), .inl (.ofNat 1), .inl (.ofNat 2), .inl (.ofNat 4), .inl (.ofNat 3)], [.inl (.ofNat 0), .inl (.ofNat 1), .inl (.ofNat 3), .inl (.ofNat 2), .inl (.ofNat 4)], [.inl (.ofNat 0), .inl (.ofNat 1), .inl (.ofNat 3), .inl (.ofNat 4), .inl (.ofNat 2)], [.inl (.ofNat 0), .inl (.ofNat 1), .inl (.ofNat 4), .inl (.ofNat 2), .inl (.ofNat 3)], [.inl (.ofNat 0), .inl (.ofNat 1), .inl (.ofNat 4), .inl (.ofNat 3), .inl (.ofNat 2)], [.inl (.ofNat 1), .inl (.ofNat 0), .inl (.ofNat 2), .inl (.ofNat 3), .inl (.ofNat 4)], [.inl (.ofNat 1), .inl (.ofNat 0), .inl (.ofNat 2), .inl (.ofNat 4), .inl (.ofNat 3)], [.inl (.ofNat 1), .inl (.ofNat 0), .inl (.ofNat 3), .inl (.ofNat 2), .inl (.ofNat 4)], [.inl (.ofNat 1), .inl (.ofNat 0), .inl (.ofNat 3), .inl (.ofNat 4), .inl (.ofNat 2)], [.inl (.ofNat 1), .inl (.ofNat 0), .inl (.ofNat 4), .inl (.ofNat 2), .inl (.ofNat 3)], [.inl (.ofNat 1), .inl (.ofNat 0), .inl (.ofNat 4), .inl (.ofNat 3), .inl (.ofNat 2)]] [.int (.ofNat 0), .int (.ofNat 1), .int (.ofNat 2), .int (.ofNat 3), .int (.ofNat 4), .int (.ofNat 5), .int (.ofNat 6), .int (.ofNat 7), .int (.ofNat 8), .int (.ofNat 9), .int (.ofNat 10), .int (.ofNat 11)]
def W23_5 : D := .lst [.lst [.int (.ofNat 0), .int (.ofNat 1), .int (.ofNat 2), .int (.ofNat 3), .int (.ofNat 4), .int (.ofNat 5), .int (.ofNat 6), .int (.ofNat 7), .int (.ofNat 8), .int (.ofNat 9), .int (.ofNat 10), .int (.ofNat 11)], .lst [.int (.ofNat 1), .int (.ofNat 0), .int (.ofNat 3), .int (.ofNat 2), .int (.ofNat 5), .int (.ofNat 4), .int (.ofNat 7), .int (.ofNat 6), .int (.ofNat 9), .int (.ofNat 8), .int (.ofNat 11), .int (.ofNat 10)], .lst [.int (.ofNat 2), .int (.ofNat 4), .int (.ofNat 0), .int (.ofNat 5), .int (.ofNat 1), .int (.ofNat 3), .int (.ofNat 8), .int (.ofNat 10), .int (.ofNat 6), .int (.ofNat 11), .int (.ofNat 7), .int (.ofNat 9)], .lst [.int (.ofNat 3), .int (.ofNat 5), .int (.ofNat 1), .int (.ofNat 4), .int (.ofNat 0), .int (.ofNat 2), .int (.ofNat 9), .int (.ofNat 11), .int (.ofNat 7), .int (.ofNat 10), .int (.ofNat 6), .int (.ofNat 8)], .lst [.int (.ofNat 4), .int (.ofNat 2), .int (.ofNat 5), .int (.ofNat 0), .int (.ofNat 3), .int (.ofNat 1), .int (.ofNat 10), .int (.ofNat 8), .int (.ofNat 11), .int (.ofNat 6), .int (.ofNat 9), .int (.ofNat 7)], .lst [.int (.ofNat 5), .int (.ofNat 3), .int (.ofNat 4), .int (.ofNat 1), .int (.ofNat 2), .int (.ofNat 0), .int (.ofNat 11), .int (.ofNat 9), .int (.ofNat 10), .int (.ofNat 7), .int (.ofNat 8), .int (.ofNat 6)], .lst [.int (.ofNat 6), .int (.ofNat 7), .int (.ofNat 8), .int (.ofNat 9), .int (.ofNat 10), .int (.ofNat 11), .int (.ofNat 0), .int (.ofNat 1), .int (.ofNat 2), .int (.ofNat 3), .int (.ofNat 4), .int (.ofNat 5)], .lst [.int (.ofNat 7), .int (.ofNat 6), .int (.ofNat 9), .int (.ofNat 8), .int (.ofNat 11), .int (.ofNat 10), .int (.ofNat 1), .int (.ofNat 0), .int (.ofNat 3), .int (.ofNat 2), .int (.ofNat 5), .int (.ofNat 4)], .lst [.int (.ofNat 8), .int (.ofNat 10), .int (.ofNat 6), .int (.ofNat 11), .int (.ofNat 7), .int (.ofNat 9), .int (.ofNat 2), .int (.ofNat 4), .int (.ofNat 0), .int (.ofNat 5), .int (.ofNat 1), .int (.ofNat 3)], .lst [.int (.ofNat 9), .int (.ofNat 11), .int (.ofNat 7), .int (.ofNat 10), .int (.ofNat 6), .int (.ofNat 8), .int (.ofNat 3), .int (.ofNat 5), .int (.ofNat 1), .int (.ofNat 4), .int (.ofNat 0), .int (.ofNat 2)], .lst [.int (.ofNat 10), .int (.ofNat 8), .int (.ofNat 11), .int (.ofNat 6), .int (.ofNat 9), .int (.ofNat 7), .int (.ofNat 4), .int (.ofNat 2), .int (.ofNat 5), .int (.ofNat 0), .int (.ofNat 3), .int (.ofNat 1)], .lst [.int (.ofNat 11), .int (.ofNat 9), .int (.ofNat 10), .int (.ofNat 7), .int (.ofNat 8), .int (.ofNat 6), .int (.ofNat 5), .int (.ofNat 3), .int (.ofNat 4), .int (.ofNat 1), .int (.ofNat 2), .int (.ofNat 0)]]
def W23_6 : D := .lst [.int (.ofNat 0), .int (.ofNat 1), .int (.ofNat 2), .int (.ofNat 4), .int (.ofNat 3), .int (.ofNat 5), .int (.ofNat 6), .int (.ofNat 7), .int (.ofNat 8), .int (.ofNat 10), .int (.ofNat 9), .int (.ofNat 11)]
def W23 : List Str × List D := (["sizes", "things", "renamings", "order", "_numbers", "_table", "_inverses"], [W23_0, W23_1, W23_2, W23_3, W23_4, W23_5, W23_6])
def L23_0 : D := .obj 0 W23.1 W23.2
def L23_1 : D := .tup [.tup [.int (.ofNat 0)], .tup [.int (.ofNat 0), .int (.ofNat 1)], .tup [.int (.ofNat 0), .int (.ofNat 2)], .tup [.int (.ofNat 0), .int (.ofNat 5)], .tup [.int (.ofNat 0), .int (.ofNat 6)], .tup [.int (.ofNat 0), .int (.ofNat 7)], .tup [.int (.ofNat 0), .int (.ofNat 8)], .tup [.int (.ofNat 0), .int (.ofNat 11)], .tup [.int (.ofNat 0), .int (.ofNat 3), .int (.ofNat 4)], .tup [.int (.ofNat 0), .int (.ofNat 1), .int (.ofNat 6), .int (.ofNat 7)], .tup [.int (.ofNat 0), .int (.ofNat 2), .int (.ofNat 6), .int (.ofNat 8)], .tup [.int (.ofNat 0), .int (.ofNat 5), .int (.ofNat 6), .int (.ofNat 11)], .tup [.int (.ofNat 0), .int (.ofNat 1), .int (.ofNat 2), .int (.ofNat 3), .int (.ofNat 4), .int (.ofNat 5)], .tup [.int (.ofNat 0), .int (.ofNat 3), .int (.ofNat 4), .int (.ofNat 6), .int (.ofNat 9), .int (.ofNat 10)], .tup [.int (.ofNat 0), .int (.ofNat 3), .int (.ofNat 4), .int (.ofNat 7), .int (.ofNat 8), .int (.ofNat 11)], .tup [.int (.ofNat 0), .int (.ofNat 1), .int (.ofNat 2), .int (.ofNat 3), .int (.ofNat 4), .int (.ofNat 5), .int (.ofNat 6), .int (.ofNat 7), .int (.ofNat 8), .int (.ofNat 9), .int (.ofNat 10), .int (.ofNat 11)]]
def L23_2 : D := .dT [[.inl (.ofNat 0)], [.inl (.ofNat 0), .inl (.ofNat 1)], [.inl (.ofNat 0), .inl (.ofNat 2)], [.inl (.ofNat 0), .inl (.ofNat 5)], [.inl (.ofNat 0), .inl (.ofNat 6)], [.inl (.ofNat 0), .inl (.ofNat 7)], [.inl (.ofNat 0), .inl (.ofNat 8)], [.inl (.ofNat 0), .inl (.ofNat 11)], [.inl (.ofNat 0), .inl (.ofNat 3), .inl (.ofNat 4)], [.inl (.ofNat 0), .inl (.ofNat 1), .inl (.ofNat 6), .inl (.ofNat 7)], [.inl (.ofNat 0), .inl (.ofNat 2), .inl (.ofNat 6), .inl (.ofNat 8)], [.inl (.ofNat 0), .inl (.ofNat 5), .inl (.ofNat 6), .inl (.ofNat 11)], [.inl (.ofNat 0), .inl (.ofNat 1), .inl (.ofNat 2), .inl (.ofNat 3), .inl (.ofNat 4), .inl (.ofNat 5)], [.inl (.ofNat 0), .inl (.ofNat 3), .inl (.ofNat 4), .inl (.ofNat 6), .inl (.ofNat 9), .inl (.ofNat 10)], [.inl (.ofNat 0), .inl (.ofNat 3), .inl (.ofNat 4), .inl (.ofNat 7), .inl (.ofNat 8), .inl (.ofNat 11)], [.inl (.ofNat 0), .inl (.ofNat 1), .inl (.ofNat 2), .inl (.ofNat 3), .inl (.ofNat 4), .inl (.ofNat 5), .inl (.ofNat 6), .inl (.ofNat 7), .inl (.ofNat 8), .inl (.ofNat 9), .inl (.ofNat 10), .inl (.ofNat 11)]] [.int (.ofNat 0), .int (.ofNat 1), .int (.ofNat 2), .int (.ofNat 3), .int (.ofNat 4), .int (.ofNat 5), .int (.ofNat 6), .int (.ofNat 7), .int (.ofNat 8), .int (.ofNat 9), .int (.ofNat 10), .int (.ofNat 11), .int (.ofNat 12), .int (.ofNat 13), .int (.ofNat 14), .int (.ofNat 15)]
def L23_3 : D := .lst [.lst [.int (.ofNat 0), .int (.ofNat 0), .int (.ofNat 0), .int (.ofNat 0), .int (.ofNat 0), .int (.ofNat 0), .int (.ofNat 0), .int (.ofNat 0), .int (.ofNat 0), .int (.ofNat 0), .int (.ofNat 0), .int (.ofNat 0)], .lst [.int (.ofNat 1), .int (.ofNat 1), .int (.ofNat 3), .int (.ofNat 3), .int (.ofNat 2), .int (.ofNat 2), .int (.ofNat 1), .int (.ofNat 1), .int (.ofNat 3), .int (.ofNat 3), .int (.ofNat 2), .int (.ofNat 2)], .lst [.int (.ofNat 2), .int (.ofNat 3), .int (.ofNat 2), .int (.ofNat 1), .int (.ofNat 3), .int (.ofNat 1), .int (.ofNat 2), .int (.ofNat 3), .int (.ofNat 2), .int (.ofNat 1), .int (.ofNat 3), .int (.ofNat 1)], .lst [.int (.ofNat 3), .int (.ofNat 2), .int (.ofNat 1), .int (.ofNat 2), .int (.ofNat 1), .int (.ofNat 3), .int (.ofNat 3), .int (.ofNat 2), .int (.ofNat 1), .int (.ofNat 2), .int (.ofNat 1), .int (.ofNat 3)], .lst [.int (.ofNat 4), .int (.ofNat 4), .int (.ofNat 4), .int (.ofNat 4), .int (.ofNat 4), .int (.ofNat 4), .int (.ofNat 4), .int (.ofNat 4), .int (.ofNat 4), .int (.ofNat 4), .int (.ofNat 4), .int (.ofNat 4)], .lst [.int (.ofNat 5), .int (.ofNat 5), .int (.ofNat 7), .int (.ofNat 7), .int (.ofNat 6), .int (.ofNat 6), .int (.ofNat 5), .int (.ofNat 5), .int (.ofNat 7), .int (.ofNat 7), .int (.ofNat 6), .int (.ofNat 6)], .lst [.int (.ofNat 6), .int (.ofNat 7), .int (.ofNat 6), .int (.ofNat 5), .int (.ofNat 7), .int (.ofNat 5), .int (.ofNat 6), .int (.ofNat 7), .int (.ofNat 6), .int (.ofNat 5), .int (.ofNat 7), .int (.ofNat 5)], .lst [.int (.ofNat 7), .int (.ofNat 6), .int (.ofNat 5), .int (.ofNat 6), .int (.ofNat 5), .int (.ofNat 7), .int (.ofNat 7), .int (.ofNat 6), .int (.ofNat 5), .int (.ofNat 6), .int (.ofNat 5), .int (.ofNat 7)], .lst [.int (.ofNat 8), .int (.ofNat 8), .int (.ofNat 8), .int (.ofNat 8), .int (.ofNat 8), .int (.ofNat 8), .int (.ofNat 8), .int (.ofNat 8), .int (.ofNat 8), .int (.ofNat 8), .int (.ofNat 8), .int (.ofNat 8)], .lst [.int (.ofNat 9), .int (.ofNat 9), .int (.ofNat 11), .int (.ofNat 11), .int (.ofNat 10), .int (.ofNat 10), .int (.ofNat 9), .int (.ofNat 9), .int (.ofNat 11), .int (.ofNat 11), .int (.ofNat 10), .int (.ofNat 10)], .lst [.int (.ofNat 10), .int (.ofNat 11), .int (.ofNat 10), .int (.ofNat 9), .int (.ofNat 11), .int (.ofNat 9), .int (.ofNat 10), .int (.ofNat 11), .int (.ofNat 10), .int (.ofNat 9), .int (.ofNat 11), .int (.ofNat 9)], .lst [.int (.ofNat 11), .int (.ofNat 10), .int (.ofNat 9), .int (.ofNat 10), .int (.ofNat 9), .int (.ofNat 11), .int (.ofNat 11), .int (.ofNat 10), .int (.ofNat 9), .int (.ofNat 10), .int (.ofNat 9), .int (.ofNat 11)], .lst [.int (.ofNat 12), .int (.ofNat 12), .int (.ofNat 12), .int (.ofNat 12), .int (.ofNat 12), .int (.ofNat 12), .int (.ofNat 12), .int (.ofNat 12), .int (.ofNat 12), .int (.ofNat 12), .int (.ofNat 12), .int (.ofNat 12)], .lst [.int (.ofNat 13), .int (.ofNat 13), .int (.ofNat 13), .int (.ofNat 13), .int (.ofNat 13), .int (.ofNat 13), .int (.ofNat 13), .int (.ofNat 13), .int (.ofNat 13), .int (.ofNat 13), .int (.ofNat 13), .int (.ofNat 13)], .lst [.int (.ofNat 14), .int (.ofNat 14), .int (.ofNat 14), .int (.ofNat 14), .int (.ofNat 14), .int (.ofNat 14), .int (.ofNat 14), .int (.ofNat 14), .int (.ofNat 14), .int (.ofNat 14), .int (.ofNat 14), .int (.ofNat 14)], .lst [.int (.ofNat 15), .int (.ofNat 15), .int (.ofNat 15), .int (.ofNat 15), .int (.ofNat 15), .int (.ofNat 15), .int (.ofNat 15), .int (.ofNat 15), .int (.ofNat 15), .int (.ofNat 15), .int (.ofNat 15), .int (.ofNat 15)]]
def L23_4 : D := .tup [.tup [.int (.ofNat 0)], .tup [.int (.ofNat 1), .int (.ofNat 2), .int (.ofNat 3)], .tup [.int (.ofNat 4)], .tup [.int (.ofNat 5), .int (.ofNat 6), .int (.ofNat 7)], .tup [.int (.ofNat 8)], .tup [.int (.ofNat 9), .int (.ofNat 10), .int (.ofNat 11)], .tup [.int (.ofNat 12)], .tup [.int (.ofNat 13)], .tup [.int (.ofNat 14)], .tup [.int (.ofNat 15)]]
def L23_5 : D := .dK [.inl (.ofNat 0), .inl (.ofNat 1), .inl (.ofNat 2), .inl (.ofNat 3), .inl (.ofNat 4), .inl (.ofNat 5), .inl (.ofNat 6), .inl (.ofNat 7), .inl (.ofNat 8), .inl (.ofNat 9), .inl (.ofNat 10), .inl (.ofNat 11), .inl (.ofNat 12), .inl (.ofNat 13), .inl (.ofNat 14), .inl (.ofNat 15)] [.int (.ofNat 0), .int (.ofNat 1), .int (.ofNat 1), .int (.ofNat 1), .int (.ofNat 2), .int (.ofNat 3), .int (.ofNat 3), .int (.ofNat 3), .int (.ofNat 4), .int (.ofNat 5), .int (.ofNat 5), .int (.ofNat 5), .int (.ofNat 6), .int (.ofNat 7), .int (.ofNat 8), .int (.ofNat 9)]
def L23_6 : D := .lst [.lst [.bl true, .bl false, .bl false, .bl false, .bl false, .bl false, .bl false, .bl false, .bl false, .bl false, .bl false, .bl false, .bl false, .bl false, .bl false, .bl false], .lst [.bl true, .bl true, .bl false, .bl false, .bl false, .bl false, .bl false, .bl false, .bl false, .bl false, .bl false, .bl false, .bl false, .bl false, .bl false, .bl false], .lst [.bl true, .bl false, .bl true, .bl false, .bl false, .bl false, .bl false, .bl false, .bl false, .bl false, .bl false, .bl false, .bl false, .bl false, .bl false, .bl false], .lst [.bl true, .bl false, .bl false, .bl true, .bl false, .bl false, .bl false, .bl false, .bl false, .bl false, .bl false, .bl false, .bl false, .bl false, .bl false, .bl false], .lst [.bl true, .bl false, .bl false, .bl false, .bl true, .bl false, .bl false, .bl false, .bl false, .bl false, .bl false, .bl false, .bl false, .bl false, .bl false, .bl false], .lst [.bl true, .bl false, .bl false, .bl false, .bl false, .bl true, .bl false, .bl false, .bl false, .bl false, .bl false, .bl false, .bl false, .bl false, .bl false, .bl false], .lst [.bl true, .bl false, .bl false, .bl false, .bl false, .bl false, .bl true, .bl false, .bl false, .bl false, .bl false, .bl false, .bl false, .bl false, .bl false, .bl false], .lst [.bl true, .bl false, .bl false, .bl false, .bl false, .bl false, .bl false, .bl true, .bl false, .bl false, .bl false, .bl false, .bl false, .bl false, .bl false, .bl false], .lst [.bl true, .bl false, .bl false, .bl false, .bl false, .bl false, .bl false, .bl false, .bl true, .bl false, .bl false, .bl false, .bl false, .bl false, .bl false, .bl false], .lst [.bl true, .bl true, .bl false, .bl false, .bl true, .bl true, .bl false, .bl false, .bl false, .bl true, .bl false, .bl false, .bl false, .bl false, .bl false, .bl false], .lst [.bl true, .bl false, .bl true, .bl false, .bl true, .bl false, .bl true, .bl false, .bl false, .bl false, .bl true, .bl false, .bl false, .bl false, .bl false, .bl false], .lst [.bl true, .bl false, .bl false, .bl true, .bl true, .bl false, .bl false, .bl true, .bl false, .bl false, .bl false, .bl true, .bl false, .bl false, .bl false, .bl false], .lst [.bl true, .bl true, .bl true, .bl true, .bl false, .bl false, .bl false, .bl false, .bl true, .bl false, .bl false, .bl false, .bl true, .bl false, .bl false, .bl false], .lst [.bl true, .bl false, .bl false, .bl false, .bl true, .bl false, .bl false, .bl false, .bl true, .bl false, .bl false, .bl false, .bl false, .bl true, .bl false, .bl false], .lst [.bl true, .bl false, .bl false, .bl false, .bl false, .bl true, .bl true, .bl true, .bl true, .bl false, .bl false, .bl false, .bl false, .bl false, .bl true, .bl false], .lst [.bl true, .bl true, .bl true, .bl true, .bl true, .bl true, .bl true, .bl true, .bl true, .bl true, .bl true, .bl true, .bl true, .bl true, .bl true, .bl true]]
def L23_7 : D := .lst [.tup [.int (.ofNat 0)], .tup [.int (.ofNat 0), .int (.ofNat 1)], .tup [.int (.ofNat 0), .int (.ofNat 2)], .tup [.int (.ofNat 0), .int (.ofNat 3)], .tup [.int (.ofNat 0), .int (.ofNat 4)], .tup [.int (.ofNat 0), .int (.ofNat 5)], .tup [.int (.ofNat 0), .int (.ofNat 6)], .tup [.int (.ofNat 0), .int (.ofNat 7)], .tup [.int (.ofNat 0), .int (.ofNat 8)], .tup [.int (.ofNat 0), .int (.ofNat 1), .int (.ofNat 4), .int (.ofNat 5), .int (.ofNat 9)], .tup [.int (.ofNat 0), .int (.ofNat 2), .int (.ofNat 4), .int (.ofNat 6), .int (.ofNat 10)], .tup [.int (.ofNat 0), .int (.ofNat 3), .int (.ofNat 4), .int (.ofNat 7), .int (.ofNat 11)], .tup [.int (.ofNat 0), .int (.ofNat 1), .int (.ofNat 2), .int (.ofNat 3), .int (.ofNat 8), .int (.ofNat 12)], .tup [.int (.ofNat 0), .int (.ofNat 4), .int (.ofNat 8), .int (.ofNat 13)], .tup [.int (.ofNat 0), .int (.ofNat 5), .int (.ofNat 6), .int (.ofNat 7), .int (.ofNat 8), .int (.ofNat 14)], .tup [.int (.ofNat 0), .int (.ofNat 1), .int (.ofNat 2), .int (.ofNat 3), .int (.ofNat 4), .int (.ofNat 5), .int (.ofNat 6), .int (.ofNat 7), .int (.ofNat 8), .int (.ofNat 9), .int (.ofNat 10), .int (.ofNat 11), .int (.ofNat 12), .int (.ofNat 13), .int (.ofNat 14), .int (.ofNat 15)]]
def L23 : List Str × List D := (["world", "groups", "_numbers", "_carries", "classes", "_places", "_holdings", "_below"], [L23_0, L23_1, L23_2, L23_3, L23_4, L23_5, L23_6, L23_7])
theorem e23_1 : m_World_init [.tup (nts [2, 3])] = some W23 := by kernel_rfl
theorem e23_2 : m_Lattice_init [.obj 0 W23.1 W23.2] = some L23 := by kernel_rfl
theorem w23 : Wor [2, 3] (.obj 1 L23.1 L23.2) gr23 be23 := ⟨⟨_, _, e23_1, e23_2, rfl⟩, ⟨_, _, rfl, by kernel_rfl, by kernel_rfl, by kernel_rfl, by kernel_rfl⟩⟩
end Wl
set_option maxRecDepth 1000000
set_option maxHeartbeats 0
namespace Wl
open PySem PySem.Spec PyProof.Rows L2 Dl Mp
def re23 : List (List Nat) := [[], [2, 4, 6, 8, 10, 12], [2, 4, 6, 8, 10, 12], [2, 4, 6, 8, 10, 12], [2, 4, 6, 8, 10, 12], [2, 4, 6, 8, 10, 12], [2, 4, 6, 8, 10, 12], [2, 4, 6, 8, 10, 12], [3, 6, 9, 12], [2, 4, 6, 8, 10, 12], [2, 4, 6, 8, 10, 12], [2, 4, 6, 8, 10, 12], [2, 3, 4, 5, 6, 7, 8, 9, 10, 11, 12], [2, 3, 4, 5, 6, 7, 8, 9, 10, 11, 12], [2, 3, 4, 5, 6, 7, 8, 9, 10, 11, 12], [2, 3, 4, 5, 6, 7, 8, 9, 10, 11, 12]]
theorem r23_1 : okS gr23 be23 = true := by decide +kernel
theorem r23_2 : m__law_held [.lst (trows gr23)] = some (.lst (rows be23)) := by kernel_rfl
theorem r23_3 : m__law_reaches [.lst (trows gr23), .lst (rows be23)] = some (.lst (rows re23)) := by kernel_rfl
theorem r23_4 : re23 = reaches gr23 be23 := by decide +kernel
theorem wr23 : Wre [2, 3] (.obj 1 L23.1 L23.2) gr23 be23 := wre_of w23 r23_1 r23_2 r23_3 r23_4
end Wl
set_option maxRecDepth 1000000
set_option maxHeartbeats 0
namespace Wl
open PySem PySem.Spec PyProof.Rows L2 Dl Mp
def gr4 : List (List Nat) := [[0], [0, 1], [0, 2], [0, 5], [0, 6], [0, 7], [0, 14], [0, 16], [0, 21], [0, 23], [0, 3, 4], [0, 8, 12], [0, 11, 19], [0, 15, 20], [0, 1, 6, 7], [0, 2, 21, 23], [0, 5, 14, 16], [0, 7, 16, 23], [0, 7, 17, 22], [0, 9, 16, 18], [0, 10, 13, 23], [0, 1, 2, 3, 4, 5], [0, 1, 14, 15, 20, 21], [0, 2, 6, 8, 12, 14], [0, 5, 6, 11, 19, 21], [0, 1, 6, 7, 16, 17, 22, 23], [0, 2, 7, 10, 13, 16, 21, 23], [0, 5, 7, 9, 14, 16, 18, 23], [0, 3, 4, 7, 8, 11, 12, 15, 16, 19, 20, 23], [0, 1, 2, 3, 4, 5, 6, 7, 8, 9, 10, 11, 12, 13, 14, 15, 16, 17, 18, 19, 20, 21, 22, 23]]
def be4 : List (List Nat) := [[0], [0, 1], [0, 2], [0, 3], [0, 4], [0, 5], [0, 6], [0, 7], [0, 8], [0, 9], [0, 10], [0, 11], [0, 12], [0, 13], [0, 1, 4, 5, 14], [0, 2, 8, 9, 15], [0, 3, 6, 7, 16], [0, 5, 7, 9, 17], [0, 5, 18], [0, 7, 19], [0, 9, 20], [0, 1, 2, 3, 10, 21], [0, 1, 6, 8, 13, 22], [0, 2, 4, 6, 11, 23], [0, 3, 4, 8, 12, 24], [0, 1, 4, 5, 7, 9, 14, 17, 18, 25], [0, 2, 5, 7, 8, 9, 15, 17, 20, 26], [0, 3, 5, 6, 7, 9, 16, 17, 19, 27], [0, 5, 7, 9, 10, 11, 12, 13, 17, 28], [0, 1, 2, 3, 4, 5, 6, 7, 8, 9, 10, 11, 12, 13, 14, 15, 16, 17, 18, 19, 20, 21, 22, 23, 24, 25, 26, 27, 28, 29]]
def W4_0 : D := .tup [.int (.ofNat 4)]
def W4_1 : D := .int (.ofNat 4)
def W4_2 : D := .tup [.tup [.int (.ofNat 0), .int (.ofNat 1), .int (.ofNat 2), .int (.ofNat 3)], .tup [.int (.ofNat 0), .int (.ofNat 1), .int (.ofNat 3), .int (.ofNat 2)], .tup [.int (.ofNat 0), .int (.ofNat 2), .int (.ofNat 1), .int (.ofNat 3)], .tup [.int (.ofNat 0), .int (.ofNat 2), .int (.ofNat 3), .int (.ofNat 1)], .tup [.int (.ofNat 0), .int (.ofNat 3), .int (.ofNat 1), .int (.ofNat 2)], .tup [.int (.ofNat 0), .int (.ofNat 3), .int (.ofNat 2), .int (.ofNat 1)], .tup [.int (.ofNat 1), .int (.ofNat 0), .int (.ofNat 2), .int (.ofNat 3)], .tup [.int (.ofNat 1), .int (.ofNat 0), .int (.ofNat 3), .int (.ofNat 2)], .tup [.int (.ofNat 1), .int (.ofNat 2), .int (.ofNat 0), .int (.ofNat 3)], .tup [.int (.ofNat 1), .int (.ofNat 2), .int (.ofNat 3), .int (.ofNat 0)], .tup [.int (.ofNat 1), .int (.ofNat 3), .int (.ofNat 0), .int (.ofNat 2)], .tup [.int (.ofNat 1), .int (.ofNat 3), .int (.ofNat 2), .int (.ofNat 0)], .tup [.int (.ofNat 2), .int (.ofNat 0), .int (.ofNat 1), .int (.ofNat 3)], .tup [.int (.ofNat 2), .int (.ofNat 0), .int (.ofNat 3), .int (.ofNat 1)], .tup [.int (.ofNat 2), .int (.ofNat 1), .int (.ofNat 0), .int (.ofNat 3)], .tup [.int (.ofNat 2), .int (.ofNat 1), .int (.ofNat 3), .int (.ofNat 0)], .tup [.int (.ofNat 2), .int (.ofNat 3), .int (.ofNat 0), .int (.ofNat 1)], .tup [.int (.ofNat 2), .int (.ofNat 3), .int (.ofNat 1), .int (.ofNat 0)], .tup [.int (.ofNat 3), .int (.ofNat 0), .int (.ofNat 1), .int (.ofNat 2)], .tup [.int (.ofNat 3), .int (.ofNat 0), .int (.ofNat 2), .int (.ofNat 1)], .tup [.int (.ofNat 3), .int (.ofNat 1), .int (.ofNat 0), .int (.ofNat 2)], .tup [.int (.ofNat 3), .int (.ofNat 1), .int (.ofNat 2), .int (.ofNat 0)], .tup [.int (.ofNat 3), .int (.ofNat 2), .int (.ofNat 0), .int (.ofNat 1)], .tup [.int (.ofNat 3), .int (.ofNat 2), .int (.ofNat 1), .int (.ofNat 0)]]
def W4_3 : D := .int (.ofNat 24)
def W4_4 : D := .dT [[.inl (.ofNat 0), .inl (.ofNat 1), .inl (.ofNat 2), .inl (.ofNat 3)], [.inl (.ofNat 0), .inl (.ofNat 1), .inl (.ofNat 3), .inl (.ofNat 2)], [.inl (.ofNat 0), .inl (.ofNat 2), .inl (.ofNat 1), .inl (.ofNat 3)], [.inl (.ofNat 0), .inl (.ofNat 2), .inl (.ofNat 3), .inl (.ofNat 1)], [.inl (.ofNat 0), .inl (.ofNat 3), .inl (.ofNat 1), .inl (.ofNat 2)], [.inl (.ofNat 0), .inl (.ofNat 3), .inl (.ofNat 2), .inl (.ofNat 1)], [.inl (.ofNat 1), .inl (.ofNat 0), .inl (.ofNat 2), .inl (.ofNat 3)], [.inl (.ofNat 1), .inl (.ofNat 0), .inl (.ofNat 3), .inl (.ofNat 2)], [.inl (.ofNat 1), .inl (.ofNat 2), .inl (.ofNat 0), .inl (.ofNat 3)], [.inl (.ofNat 1), .inl (.ofNat 2), .inl (.ofNat 3), .inl (.ofNat 0)], [.inl (.ofNat 1), .inl (.ofNat 3), .inl (.ofNat 0), .inl (.ofNat 2)], [.inl (.ofNat 1), .inl (.ofNat 3), .inl (.ofNat 2), .inl (.ofNat 0)], [.inl (.ofNat 2), .inl (.ofNat 0), .inl (.ofNat 1), .inl (.ofNat 3)], [.inl (.ofNat 2), .inl (.ofNat 0), .inl (.ofNat 3), .inl (.ofNat 1)], [.inl (.ofNat 2), .inl (.ofNat 1), .inl (.ofNat 0), .inl (.ofNat 3)], [.inl (.ofNat 2), .inl (.ofNat 1), .inl (.ofNat 3), .inl (.ofNat 0)], [.inl (.ofNat 2), .inl (.ofNat 3), .inl (.ofNat 0), .inl (.ofNat 1)], [.inl (.ofNat 2), .inl (.ofNat 3), .inl (.ofNat 1), .inl (.ofNat 0)], [.inl (.ofNat 3), .inl (.ofNat 0), .inl (.ofNat 1), .inl (.ofNat 2)], [.inl (.ofNat 3), .inl (.ofNat 0), .inl (.ofNat 2), .inl (.ofNat 1)], [.inl (.ofNat 3), .inl (.ofNat 1), .inl (.ofNat 0), .inl (.ofNat 2)], [.inl (.ofNat 3), .inl (.ofNat 1), .inl (.ofNat 2), .inl (.ofNat 0)], [.inl (.ofNat 3), .inl (.ofNat 2), .inl (.ofNat 0), .inl (.ofNat 1)], [.inl (.ofNat 3), .inl (.ofNat 2), .inl (.ofNat 1), .inl (.ofNat 0)]] [.int (.ofNat 0), .int (.ofNat 1), .int (.ofNat 2), .int (.ofNat 3), .int (.ofNat 4), .int (.ofNat 5), .int (.ofNat 6), .int (.ofNat 7), .int (.ofNat 8), .int (.ofNat 9), .int (.ofNat 10), .int (.ofNat 11), .int (.ofNat 12), .int (.ofNat 13), .int (.ofNat 14), .int (.ofNat 15), .int (.ofNat 16), .int (.ofNat 17), .int (.ofNat 18), .int (.ofNat 19), .int (.ofNat 20), .int (.ofNat 21), .int (.ofNat 22), .int (.ofNat 23)]
def W4_5 : D := .lst [.lst [.int (.ofNat 0), .int (.ofNat 1), .int (.ofNat 2), .int (.ofNat 3), .int (.ofNat 4), .int (.ofNat 5), .int (.ofNat 6), .int (.ofNat 7), .int (.ofNat 8), .int (.ofNat 9), .int (.ofNat 10), .int (.ofNat 11), .int (.ofNat 12), .int (.ofNat 13), .int (.ofNat 14), .int (.ofNat 15), .int (.ofNat 16), .int (.ofNat 17), .int (.ofNat 18), .int (.ofNat 19), .int (.ofNat 20), .int (.ofNat 21), .int (.ofNat 22), .int (.ofNat 23)], .lst [.int (.ofNat 1), .int (.ofNat 0), .int (.ofNat 3), .int (.ofNat 2), .int (.ofNat 5), .int (.ofNat 4), .int (.ofNat 7), .int (.ofNat 6), .int (.ofNat 9), .int (.ofNat 8), .int (.ofNat 11), .int (.ofNat 10), .int (.ofNat 13), .int (.ofNat 12), .int (.ofNat 15), .int (.ofNat 14), .int (.ofNat 17), .int (.ofNat 16), .int (.ofNat 19), .int (.ofNat 18), .int (.ofNat 21), .int (.ofNat 20), .int (.ofNat 23), .int (.ofNat 22)], .lst [.int (.ofNat 2), .int (.ofNat 4), .int (.ofNat 0), .int (.ofNat 5), .int (.ofNat 1), .int (.ofNat 3), .int (.ofNat 8), .int (.ofNat 10), .int (.ofNat 6), .int (.ofNat 11), .int (.ofNat 7), .int (.ofNat 9), .int (.ofNat 14), .int (.ofNat 16), .int (.ofNat 12), .int (.ofNat 17), .int (.ofNat 13), .int (.ofNat 15), .int (.ofNat 20), .int (.ofNat 22), .int (.ofNat 18), .int (.ofNat 23), .int (.ofNat 19), .int (.ofNat 21)], .lst [.int (.ofNat 3), .int (.ofNat 5), .int (.ofNat 1), .int (.ofNat 4), .int (.ofNat 0), .int (.ofNat 2), .int (.ofNat 9), .int (.ofNat 11), .int (.ofNat 7), .int (.ofNat 10), .int (.ofNat 6), .int (.ofNat 8), .int (.ofNat 15), .int (.ofNat 17), .int (.ofNat 13), .int (.ofNat 16), .int (.ofNat 12), .int (.ofNat 14), .int (.ofNat 21), .int (.ofNat 23), .int (.ofNat 19), .int (.ofNat 22), .int (.ofNat 18), .int (.ofNat 20)], .lst [.int (.ofNat 4), .int (.ofNat 2), .int (.ofNat 5), .int (.ofNat 0), .int (.ofNat 3), .int (.ofNat 1), .int (.ofNat 10), .int (.ofNat 8), .int (.ofNat 11), .int (.ofNat 6), .int (.ofNat 9), .int (.ofNat 7), .int (.ofNat 16), .int (.ofNat 14), .int (.ofNat 17), .int (.ofNat 12), .int (.ofNat 15), .int (.ofNat 13), .int (.ofNat 22), .int (.ofNat 20), .int (.ofNat 23), .int (.ofNat 18), .int (.ofNat 21), .int (.ofNat 19)], .lst [.int (.ofNat 5), .int (.ofNat 3), .int (.ofNat 4), .int (.ofNat 1), .int (.ofNat 2), .int (.ofNat 0), .int (.ofNat 11), .int (.ofNat 9), .int (.ofNat 10), .int (.ofNat 7), .int (.ofNat 8), .int (.ofNat 6), .int (.ofNat 17), .int (.ofNat 15), .int (.ofNat 16), .int (.ofNat 13), .int (.ofNat 14), .int (.ofNat 12), .int (.ofNat 23), .int (.ofNat 21), .int (.ofNat 22), .int (.ofNat 19), .int (.ofNat 20), .int (.ofNat 18)], .lst [.int (.ofNat 6), .int (.ofNat 7), .int (.ofNat 12), .int (.ofNat 13), .int (.ofNat 18), .int (.ofNat 19), .int (.ofNat 0), .int (.ofNat 1), .int (.ofNat 14), .int (.ofNat 15), .int (.ofNat 20), .int (.ofNat 21), .int (.ofNat 2), .int (.ofNat 3), .int (.ofNat 8), .int (.ofNat 9), .int (.ofNat 22), .int (.ofNat 23), .int (.ofNat 4), .int (.ofNat 5), .int (.ofNat 10), .int (.ofNat 11), .int (.ofNat 16), .int (.ofNat 17)], .lst [.int (.ofNat 7), .int (.ofNat 6), .int (.ofNat 13), .int (.ofNat 12), .int (.ofNat 19), .int (.ofNat 18), .int (.ofNat 1), .int (.ofNat 0), .int (.ofNat 15), .int (.ofNat 14), .int (.ofNat 21), .int (.ofNat 20), .int (.ofNat 3), .int (.ofNat 2), .int (.ofNat 9), .int (.ofNat 8), .int (.ofNat 23), .int (.ofNat 22), .int (.ofNat 5), .int (.ofNat 4), .int (.ofNat 11), .int (.ofNat 10), .int (.ofNat 17), .int (.ofNat 16)], .lst [.int (.ofNat 8), .int (.ofNat 10), .int (.ofNat 14), .int (.ofNat 16), .int (.ofNat 20), .int (.ofNat 22), .int (.ofNat 2), .int (.ofNat 4), .int (.ofNat 12), .int (.ofNat 17), .int (.ofNat 18), .int (.ofNat 23), .int (.ofNat 0), .int (.ofNat 5), .int (.ofNat 6), .int (.ofNat 11), .int (.ofNat 19), .int (.ofNat 21), .int (.ofNat 1), .int (.ofNat 3), .int (.ofNat 7), .int (.ofNat 9), .int (.ofNat 13), .int (.ofNat 15)], .lst [.int (.ofNat 9), .int (.ofNat 11), .int (.ofNat 15), .int (.ofNat 17), .int (.ofNat 21), .int (.ofNat 23), .int (.ofNat 3), .int (.ofNat 5), .int (.ofNat 13), .int (.ofNat 16), .int (.ofNat 19), .int (.ofNat 22), .int (.ofNat 1), .int (.ofNat 4), .int (.ofNat 7), .int (.ofNat 10), .int (.ofNat 18), .int (.ofNat 20), .int (.ofNat 0), .int (.ofNat 2), .int (.ofNat 6), .int (.ofNat 8), .int (.ofNat 12), .int (.ofNat 14)], .lst [.int (.ofNat 10), .int (.ofNat 8), .int (.ofNat 16), .int (.ofNat 14), .int (.ofNat 22), .int (.ofNat 20), .int (.ofNat 4), .int (.ofNat 2), .int (.ofNat 17), .int (.ofNat 12), .int (.ofNat 23), .int (.ofNat 18), .int (.ofNat 5), .int (.ofNat 0), .int (.ofNat 11), .int (.ofNat 6), .int (.ofNat 21), .int (.ofNat 19), .int (.ofNat 3), .int (.ofNat 1), .int (.ofNat 9), .int (.ofNat 7), .int (.ofNat 15), .int (.ofNat 13)], .lst [.int (.ofNat 11), .int (.ofNat 9), .int (.ofNat 17), .int (.ofNat 15), .int (.ofNat 23), .int (.ofNat 21), .int (.ofNat 5), .int (.ofNat 3), .int (.ofNat 16), .int (.ofNat 13), .int (.ofNat 22), .int (.ofNat 19), .int (.ofNat 4), .int (.ofNat 1), .int (.ofNat 10), .int (.ofNat 7), .int (.ofNat 20), .int (.ofNat 18), .int (.ofNat 2), .int (.ofNat 0), .int (.ofNat 8), .int (.ofNat 6), .int (.ofNat 14), .int (.ofNat 12)], .lst [.int (.ofNat 12), .int (.ofNat 18), .int (.ofNat 6), .int (.ofNat 19), .int (.ofNat 7), .int (.ofNat 13), .int (.ofNat 14), .int (.ofNat 20), .int (.ofNat 0), .int (.ofNat 21), .int (.ofNat 1), .int (.ofNat 15), .int (.ofNat 8), .int (.ofNat 22), .int (.ofNat 2), .int (.ofNat 23), .int (.ofNat 3), .int (.ofNat 9), .int (.ofNat 10), .int (.ofNat 16), .int (.ofNat 4), .int (.ofNat 17), .int (.ofNat 5), .int (.ofNat 11)], .lst [.int (.ofNat 13), .int (.ofNat 19), .int (.ofNat 7), .int (.ofNat 18), .int (.ofNat 6), .int (.ofNat 12), .int (.ofNat 15), .int (.ofNat 21), .int (.ofNat 1), .int (.ofNat 20), .int (.ofNat 0), .int (.ofNat 14), .int (.ofNat 9), .int (.ofNat 23), .int (.ofNat 3), .int (.ofNat 22), .int (.ofNat 2), .int (.ofNat 8), .int (.ofNat 11), .int (.ofNat 17), .int (.ofNat 5), .int (.ofNat 16), .int (.ofNat 4), .int (.ofNat 10)], .lst [.int (.ofNat 14), .int (.ofNat 20), .int (.ofNat 8), .int (.ofNat 22), .int (.ofNat 10), .int (.ofNat 16), .int (.ofNat 12), .int (.ofNat 18), .int (.ofNat 2), .int (.ofNat 23), .int (.ofNat 4), .int (.ofNat 17), .int (.ofNat 6), .int (.ofNat 19), .int (.ofNat 0), .int (.ofNat 21), .int (.ofNat 5), .int (.ofNat 11), .int (.ofNat 7), .int (.ofNat 13), .int (.ofNat 1), .int (.ofNat 15), .int (.ofNat 3), .int (.ofNat 9)], .lst [.int (.ofNat 15), .int (.ofNat 21), .int (.ofNat 9), .int (.ofNat 23), .int (.ofNat 11), .int (.ofNat 17), .int (.ofNat 13), .int (.ofNat 19), .int (.ofNat 3), .int (.ofNat 22), .int (.ofNat 5), .int (.ofNat 16), .int (.ofNat 7), .int (.ofNat 18), .int (.ofNat 1), .int (.ofNat 20), .int (.ofNat 4), .int (.ofNat 10), .int (.ofNat 6), .int (.ofNat 12), .int (.ofNat 0), .int (.ofNat 14), .int (.ofNat 2), .int (.ofNat 8)], .lst [.int (.ofNat 16), .int (.ofNat 22), .int (.ofNat 10), .int (.ofNat 20), .int (.ofNat 8), .int (.ofNat 14), .int (.ofNat 17), .int (.ofNat 23), .int (.ofNat 4), .int (.ofNat 18), .int (.ofNat 2), .int (.ofNat 12), .int (.ofNat 11), .int (.ofNat 21), .int (.ofNat 5), .int (.ofNat 19), .int (.ofNat 0), .int (.ofNat 6), .int (.ofNat 9), .int (.ofNat 15), .int (.ofNat 3), .int (.ofNat 13), .int (.ofNat 1), .int (.ofNat 7)], .lst [.int (.ofNat 17), .int (.ofNat 23), .int (.ofNat 11), .int (.ofNat 21), .int (.ofNat 9), .int (.ofNat 15), .int (.ofNat 16), .int (.ofNat 22), .int (.ofNat 5), .int (.ofNat 19), .int (.ofNat 3), .int (.ofNat 13), .int (.ofNat 10), .int (.ofNat 20), .int (.ofNat 4), .int (.ofNat 18), .int (.ofNat 1), .int (.ofNat 7), .int (.ofNat 8), .int (.ofNat 14), .int (.ofNat 2), .int (.ofNat 12), .int (.ofNat 0), .int (.ofNat 6)], .lst [.int (.ofNat 18), .int (.ofNat 12), .int (.ofNat 19), .int (.ofNat 6), .int (.ofNat 13), .int (.ofNat 7), .int (.ofNat 20), .int (.ofNat 14), .int (.ofNat 21), .int (.ofNat 0), .int (.ofNat 15), .int (.ofNat 1), .int (.ofNat 22), .int (.ofNat 8), .int (.ofNat 23), .int (.ofNat 2), .int (.ofNat 9), .int (.ofNat 3), .int (.ofNat 16), .int (.ofNat 10), .int (.ofNat 17), .int (.ofNat 4), .int (.ofNat 11), .int (.ofNat 5)], .lst [.int (.ofNat 19), .int (.ofNat 13), .int (.ofNat 18), .int (.ofNat 7), .int (.ofNat 12), .int (.ofNat 6), .int (.ofNat 21), .int (.ofNat 15), .int (.ofNat 20), .int (.ofNat 1), .int (.ofNat 14), .int (.ofNat 0), .int (.ofNat 23), .int (.ofNat 9), .int (.ofNat 22), .int (.ofNat 3), .int (.ofNat 8), .int (.ofNat 2), .int (.ofNat 17), .int (.ofNat 11), .int (.ofNat 16), .int (.ofNat 5), .int (.ofNat 10), .int (.ofNat 4)], .lst [.int (.ofNat 20), .int (.ofNat 14), .int (.ofNat 22), .int (.ofNat 8), .int (.ofNat 16), .int (.ofNat 10), .int (.ofNat 18), .int (.ofNat 12), .int (.ofNat 23), .int (.ofNat 2), .int (.ofNat 17), .int (.ofNat 4), .int (.ofNat 19), .int (.ofNat 6), .int (.ofNat 21), .int (.ofNat 0), .int (.ofNat 11), .int (.ofNat 5), .int (.ofNat 13), .int (.ofNat 7), .int (.ofNat 15), .int (.ofNat 1), .int (.ofNat 9), .int (.ofNat 3)], .lst [.int (.ofNat 21), .int (.ofNat 15), .int (.ofNat 23), .int (.ofNat 9), .int (.ofNat 17), .int (.ofNat 11), .int (.ofNat 19), .int (.ofNat 13), .int (.ofNat 22), .int (.ofNat 3), .int (.ofNat 16), .int (.ofNat 5), .int (.ofNat 18), .int (.ofNat 7), .int (.ofNat 20), .int (.ofNat 1), .int (.ofNat 10), .int (.ofNat 4), .int (.ofNat 12), .int (.ofNat 6), .int (.ofNat 14), .int (.ofNat 0), .int (.ofNat 8), .int (.ofNat 2)], .lst [.int (.ofNat 22), .int (.ofNat 16), .int (.ofNat 20), .int (.ofNat 10), .int (.ofNat 14), .int (.ofNat 8), .int (.ofNat 23), .int (.ofNat 17), .int (.ofNat 18), .int (.ofNat 4), .int (.ofNat 12), .int (.ofNat 2), .int (.ofNat 21), .int (.ofNat 11), .int (.ofNat 19), .int (.ofNat 5), .int (.ofNat 6), .int (.ofNat 0), .int (.ofNat 15), .int (.ofNat 9), .int (.ofNat 13), .int (.ofNat 3), .int (.ofNat 7), .int (.ofNat 1)], .lst [.int (.ofNat 23), .int (.ofNat 17), .int (.ofNat 21), .int (.ofNat 11), .int (.ofNat 15), .int (.ofNat 9), .int (.ofNat 22), .int (.ofNat 16), .int (.ofNat 19), .int (.ofNat 5), .int (.ofNat 13), .int (.ofNat 3), .int (.ofNat 20), .int (.ofNat 10), .int (.ofNat 18), .int (.ofNat 4), .int (.ofNat 7), .int (.ofNat 1), .int (.ofNat 14), .int (.ofNat 8), .int (.ofNat 12), .int (.ofNat 2), .int (.ofNat 6), .int (.ofNat 0)]]
def W4_6 : D := .lst [.int (.ofNat 0), .int (.ofNat 1), .int (.ofNat 2), .int (.ofNat 4), .int (.ofNat 3), .int (.ofNat 5), .int (.ofNat 6), .int (.ofNat 7), .int (.ofNat 12), .int (.ofNat 18), .int (.ofNat 13), .int (.ofNat 19), .int (.ofNat 8), .int (.ofNat 10), .int (.ofNat 14), .int (.ofNat 20), .int (.ofNat 16), .int (.ofNat 22), .int (.ofNat 9), .int (.ofNat 11), .int (.ofNat 15), .int (.ofNat 21), .int (.ofNat 17), .int (.ofNat 23)]
def W4 : List Str × List D := (["sizes", "things", "renamings", "order", "_numbers", "_table", "_inverses"], [W4_0, W4_1, W4_2, W4_3, W4_4, W4_5, W4_6])
def L4_0 : D := .obj 0 W4.1 W4.2
def L4_1 : D := .tup [.tup [.int (.ofNat 0)], .tup [.int (.ofNat 0), .int (.ofNat 1)], .tup [.int (.ofNat 0), .int (.ofNat 2)], .tup [.int (.ofNat 0), .int (.ofNat 5)], .tup [.int (.ofNat 0), .int (.ofNat 6)], .tup [.int (.ofNat 0), .int (.ofNat 7)], .tup [.int (.ofNat 0), .int (.ofNat 14)], .tup [.int (.ofNat 0), .int (.ofNat 16)], .tup [.int (.ofNat 0), .int (.ofNat 21)], .tup [.int (.ofNat 0), .int (.ofNat 23)], .tup [.int (.ofNat 0), .int (.ofNat 3), .int (.ofNat 4)], .tup [.int (.ofNat 0), .int (.ofNat 8), .int (.ofNat 12)], .tup [.int (.ofNat 0), .int (.ofNat 11), .int (.ofNat 19)], .tup [.int (.ofNat 0), .int (.ofNat 15), .int (.ofNat 20)], .tup [.int (.ofNat 0), .int (.ofNat 1), .int (.ofNat 6), .int (.ofNat 7)], .tup [.int (.ofNat 0), .int (.ofNat 2), .int (.ofNat 21), .int (.ofNat 23)], .tup [.int (.ofNat 0), .int (.ofNat 5), .int (.ofNat 14), .int (.ofNat 16)], .tup [.int (.ofNat 0), .int (.ofNat 7), .int (.ofNat 16), .int (.ofNat 23)], .tup [.int (.ofNat 0), .int (.ofNat 7), .int (.ofNat 17), .int (.ofNat 22)], .tup [.int (.ofNat 0), .int (.ofNat 9), .int (.ofNat 16), .int (.ofNat 18)], .tup [.int (.ofNat 0), .int (.ofNat 10), .int (.ofNat 13), .int (.ofNat 23)], .tup [.int (.ofNat 0), .int (.ofNat 1), .int (.ofNat 2), .int (.ofNat 3), .int (.ofNat 4), .int (.ofNat 5)], .tup [.int (.ofNat 0), .int (.ofNat 1), .int (.ofNat 14), .int (.ofNat 15), .int (.ofNat 20), .int (.ofNat 21)], .tup [.int (.ofNat 0), .int (.ofNat 2), .int (.ofNat 6), .int (.ofNat 8), .int (.ofNat 12), .int (.ofNat 14)], .tup [.int (.ofNat 0), .int (.ofNat 5), .int (.ofNat 6), .int (.ofNat 11), .int (.ofNat 19), .int (.ofNat 21)], .tup [.int (.ofNat 0), .int (.ofNat 1), .int (.ofNat 6), .int (.ofNat 7), .int (.ofNat 16), .int (.ofNat 17), .int (.ofNat 22), .int (.ofNat 23)], .tup [.int (.ofNat 0), .int (.ofNat 2), .int (.ofNat 7), .int (.ofNat 10), .int (.ofNat 13), .int (.ofNat 16), .int (.ofNat 21), .int (.ofNat 23)], .tup [.int (.ofNat 0), .int (.ofNat 5), .int (.ofNat 7), .int (.ofNat 9), .int (.ofNat 14), .int (.ofNat 16), .int (.ofNat 18), .int (.ofNat 23)], .tup [.int (.ofNat 0), .int (.ofNat 3), .int (.ofNat 4), .int (.ofNat 7), .int (.ofNat 8), .int (.ofNat 11), .int (.ofNat 12), .int (.ofNat 15), .int (.ofNat 16), .int (.ofNat 19), .int (.ofNat 20), .int (.ofNat 23)], .tup [.int (.ofNat 0), .int (.ofNat 1), .int (.ofNat 2), .int (.ofNat 3), .int (.ofNat 4), .int (.ofNat 5), .int (.ofNat 6), .int (.ofNat 7), .int (.ofNat 8), .int (.ofNat 9), .int (.ofNat 10), .int (.ofNat 11), .int (.ofNat 12), .int (.ofNat 13), .int (.ofNat 14), .int (.ofNat 15), .int (.ofNat 16), .int (.ofNat 17), .int (.ofNat 18), .int (.ofNat 19), .int (.ofNat 20), .int (.ofNat 21), .int (.ofNat 22), .int (.ofNat 23)]]
def L4_2 : D := .dT [[.inl (.ofNat 0)], [.inl (.ofNat 0), .inl (.ofNat 1)], [.inl (.ofNat 0), .inl (.ofNat 2)], [.inl (.ofNat 0), .inl (.ofNat 5)], [.inl (.ofNat 0), .inl (.ofNat 6)], [.inl (.ofNat 0), .inl (.ofNat 7)], [.inl (.ofNat 0), .inl (.ofNat 14)], [.inl (.ofNat 0), .inl (.ofNat 16)], [.inl (.ofNat 0), .inl (.ofNat 21)], [.inl (.ofNat 0), .inl (.ofNat 23)], [.inl (.ofNat 0), .inl (.ofNat 3), .inl (.ofNat 4)], [.inl (.ofNat 0), .inl (.ofNat 8), .inl (.ofNat 12)], [.inl (.ofNat 0), .inl (.ofNat 11), .inl (.ofNat 19)], [.inl (.ofNat 0), .inl (.ofNat 15), .inl (.ofNat 20)], [.inl (.ofNat 0), .inl (.ofNat 1), .inl (.ofNat 6), .inl (.ofNat 7)], [.inl (.ofNat 0), .inl (.ofNat 2), .inl (.ofNat 21), .inl (.ofNat 23)], [.inl (.ofNat 0), .inl (.ofNat 5), .inl (.ofNat 14), .inl (.ofNat 16)], [.inl (.ofNat 0), .inl (.ofNat 7), .inl (.ofNat 16), .inl (.ofNat 23)], [.inl (.ofNat 0), .inl (.ofNat 7), .inl (.ofNat 17), .inl (.ofNat 22)], [.inl (.ofNat 0), .inl (.ofNat 9), .inl (.ofNat 16), .inl (.ofNat 18)], [.inl (.ofNat 0), .inl (.ofNat 10), .inl (.ofNat 13), .inl (.ofNat 23)], [.inl (.ofNat 0), .inl (.ofNat 1), .inl (.ofNat 2), .inl (.ofNat 3), .inl (.ofNat 4), .inl (.ofNat 5)], [.inl (.ofNat 0), .inl (.ofNat 1), .inl (.ofNat 14), .inl (.ofNat 15), .inl (.ofNat 20), .inl (.ofNat 21)], [.inl (.ofNat 0), .inl (.ofNat 2), .inl (.ofNat 6), .inl (.ofNat 8), .inl (.ofNat 12), .inl (.ofNat 14)], [.inl (.ofNat 0), .inl (.ofNat 5), .inl (.ofNat 6), .inl (.ofNat 11), .inl (.ofNat 19), .inl (.ofNat 21)], [.inl (.ofNat 0), .inl (.ofNat 1), .inl (.ofNat 6), .inl (.ofNat 7), .inl (.ofNat 16), .inl (.ofNat 17), .inl (.ofNat 22), .inl (.ofNat 23)], [.inl (.ofNat 0), .inl (.ofNat 2), .inl (.ofNat 7), .inl (.ofNat 10), .inl (.ofNat 13), .inl (.ofNat 16), .inl (.ofNat 21), .inl (.ofNat 23)], [.inl (.ofNat 0), .inl (.ofNat 5), .inl (.ofNat 7), .inl (.ofNat 9), .inl (.ofNat 14), .inl (.ofNat 16), .inl (.ofNat 18), .inl (.ofNat 23)], [.inl (.ofNat 0), .inl (.ofNat 3), .inl (.ofNat 4), .inl (.ofNat 7), .inl (.ofNat 8), .inl (.ofNat 11), .inl (.ofNat 12), .inl (.ofNat 15), .inl (.ofNat 16), .inl (.ofNat 19), .inl (.ofNat 20), .inl (.ofNat 23)], [.inl (.ofNat 0), .inl (.ofNat 1), .inl (.ofNat 2), .inl (.ofNat 3), .inl (.ofNat 4), .inl (.ofNat 5), .inl (.ofNat 6), .inl (.ofNat 7), .inl (.ofNat 8), .inl (.ofNat 9), .inl (.ofNat 10), .inl (.ofNat 11), .inl (.ofNat 12), .inl (.ofNat 13), .inl (.ofNat 14), .inl (.ofNat 15), .inl (.ofNat 16), .inl (.ofNat 17), .inl (.ofNat 18), .inl (.ofNat 19), .inl (.ofNat 20), .inl (.ofNat 21), .inl (.ofNat 22), .inl (.ofNat 23)]] [.int (.ofNat 0), .int (.ofNat 1), .int (.ofNat 2), .int (.ofNat 3), .int (.ofNat 4), .int (.ofNat 5), .int (.ofNat 6), .int (.ofNat 7), .int (.ofNat 8), .int (.ofNat 9), .int (.ofNat 10), .int (.ofNat 11), .int (.ofNat 12), .int (.ofNat 13), .int (.ofNat 14), .int (.ofNat 15), .int (.ofNat 16), .int (.ofNat 17), .int (.ofNat 18), .int (.ofNat 19), .int (.ofNat 20), .int (.ofNat 21), .int (.ofNat 22), .int (.ofNat 23), .int (.ofNat 24), .int (.ofNat 25), .int (.ofNat 26), .int (.ofNat 27), .int (.ofNat 28), .int (.ofNat 29)]
def L4_3 : D := .lst [.lst [.int (.ofNat 0), .int (.ofNat 0), .int (.ofNat 0), .int (.ofNat 0), .int (.ofNat 0), .int (.ofNat 0), .int (.ofNat 0), .int (.ofNat 0), .int (.ofNat 0), .int (.ofNat 0), .int (.ofNat 0), .int (.ofNat 0), .int (.ofNat 0), .int (.ofNat 0), .int (.ofNat 0), .int (.ofNat 0), .int (.ofNat 0), .int (.ofNat 0), .int (.ofNat 0), .int (.ofNat 0), .int (.ofNat 0), .int (.ofNat 0), .int (.ofNat 0), .int (.ofNat 0)], .lst [.int (.ofNat 1), .int (.ofNat 1), .int (.ofNat 3), .int (.ofNat 3), .int (.ofNat 2), .int (.ofNat 2), .int (.ofNat 1), .int (.ofNat 1), .int (.ofNat 8), .int (.ofNat 8), .int (.ofNat 6), .int (.ofNat 6), .int (.ofNat 3), .int (.ofNat 3), .int (.ofNat 8), .int (.ofNat 8), .int (.ofNat 4), .int (.ofNat 4), .int (.ofNat 2), .int (.ofNat 2), .int (.ofNat 6), .int (.ofNat 6), .int (.ofNat 4), .int (.ofNat 4)], .lst [.int (.ofNat 2), .int (.ofNat 3), .int (.ofNat 2), .int (.ofNat 1), .int (.ofNat 3), .int (.ofNat 1), .int (.ofNat 6), .int (.ofNat 8), .int (.ofNat 6), .int (.ofNat 1), .int (.ofNat 8), .int (.ofNat 1), .int (.ofNat 4), .int (.ofNat 8), .int (.ofNat 4), .int (.ofNat 3), .int (.ofNat 8), .int (.ofNat 3), .int (.ofNat 4), .int (.ofNat 6), .int (.ofNat 4), .int (.ofNat 2), .int (.ofNat 6), .int (.ofNat 2)], .lst [.int (.ofNat 3), .int (.ofNat 2), .int (.ofNat 1), .int (.ofNat 2), .int (.ofNat 1), .int (.ofNat 3), .int (.ofNat 8), .int (.ofNat 6), .int (.ofNat 1), .int (.ofNat 6), .int (.ofNat 1), .int (.ofNat 8), .int (.ofNat 8), .int (.ofNat 4), .int (.ofNat 3), .int (.ofNat 4), .int (.ofNat 3), .int (.ofNat 8), .int (.ofNat 6), .int (.ofNat 4), .int (.ofNat 2), .int (.ofNat 4), .int (.ofNat 2), .int (.ofNat 6)], .lst [.int (.ofNat 4), .int (.ofNat 4), .int (.ofNat 6), .int (.ofNat 6), .int (.ofNat 8), .int (.ofNat 8), .int (.ofNat 4), .int (.ofNat 4), .int (.ofNat 2), .int (.ofNat 2), .int (.ofNat 3), .int (.ofNat 3), .int (.ofNat 6), .int (.ofNat 6), .int (.ofNat 2), .int (.ofNat 2), .int (.ofNat 1), .int (.ofNat 1), .int (.ofNat 8), .int (.ofNat 8), .int (.ofNat 3), .int (.ofNat 3), .int (.ofNat 1), .int (.ofNat 1)], .lst [.int (.ofNat 5), .int (.ofNat 5), .int (.ofNat 7), .int (.ofNat 7), .int (.ofNat 9), .int (.ofNat 9), .int (.ofNat 5), .int (.ofNat 5), .int (.ofNat 9), .int (.ofNat 9), .int (.ofNat 7), .int (.ofNat 7), .int (.ofNat 7), .int (.ofNat 7), .int (.ofNat 9), .int (.ofNat 9), .int (.ofNat 5), .int (.ofNat 5), .int (.ofNat 9), .int (.ofNat 9), .int (.ofNat 7), .int (.ofNat 7), .int (.ofNat 5), .int (.ofNat 5)], .lst [.int (.ofNat 6), .int (.ofNat 8), .int (.ofNat 4), .int (.ofNat 8), .int (.ofNat 4), .int (.ofNat 6), .int (.ofNat 2), .int (.ofNat 3), .int (.ofNat 4), .int (.ofNat 3), .int (.ofNat 4), .int (.ofNat 2), .int (.ofNat 2), .int (.ofNat 1), .int (.ofNat 6), .int (.ofNat 1), .int (.ofNat 6), .int (.ofNat 2), .int (.ofNat 3), .int (.ofNat 1), .int (.ofNat 8), .int (.ofNat 1), .int (.ofNat 8), .int (.ofNat 3)], .lst [.int (.ofNat 7), .int (.ofNat 9), .int (.ofNat 5), .int (.ofNat 9), .int (.ofNat 5), .int (.ofNat 7), .int (.ofNat 9), .int (.ofNat 7), .int (.ofNat 5), .int (.ofNat 7), .int (.ofNat 5), .int (.ofNat 9), .int (.ofNat 9), .int (.ofNat 5), .int (.ofNat 7), .int (.ofNat 5), .int (.ofNat 7), .int (.ofNat 9), .int (.ofNat 7), .int (.ofNat 5), .int (.ofNat 9), .int (.ofNat 5), .int (.ofNat 9), .int (.ofNat 7)], .lst [.int (.ofNat 8), .int (.ofNat 6), .int (.ofNat 8), .int (.ofNat 4), .int (.ofNat 6), .int (.ofNat 4), .int (.ofNat 3), .int (.ofNat 2), .int (.ofNat 3), .int (.ofNat 4), .int (.ofNat 2), .int (.ofNat 4), .int (.ofNat 1), .int (.ofNat 2), .int (.ofNat 1), .int (.ofNat 6), .int (.ofNat 2), .int (.ofNat 6), .int (.ofNat 1), .int (.ofNat 3), .int (.ofNat 1), .int (.ofNat 8), .int (.ofNat 3), .int (.ofNat 8)], .lst [.int (.ofNat 9), .int (.ofNat 7), .int (.ofNat 9), .int (.ofNat 5), .int (.ofNat 7), .int (.ofNat 5), .int (.ofNat 7), .int (.ofNat 9), .int (.ofNat 7), .int (.ofNat 5), .int (.ofNat 9), .int (.ofNat 5), .int (.ofNat 5), .int (.ofNat 9), .int (.ofNat 5), .int (.ofNat 7), .int (.ofNat 9), .int (.ofNat 7), .int (.ofNat 5), .int (.ofNat 7), .int (.ofNat 5), .int (.ofNat 9), .int (.ofNat 7), .int (.ofNat 9)], .lst [.int (.ofNat 10), .int (.ofNat 10), .int (.ofNat 10), .int (.ofNat 10), .int (.ofNat 10), .int (.ofNat 10), .int (.ofNat 13), .int (.ofNat 13), .int (.ofNat 13), .int (.ofNat 13), .int (.ofNat 13), .int (.ofNat 13), .int (.ofNat 12), .int (.ofNat 12), .int (.ofNat 12), .int (.ofNat 12), .int (.ofNat 12), .int (.ofNat 12), .int (.ofNat 11), .int (.ofNat 11), .int (.ofNat 11), .int (.ofNat 11), .int (.ofNat 11), .int (.ofNat 11)], .lst [.int (.ofNat 11), .int (.ofNat 12), .int (.ofNat 11), .int (.ofNat 13), .int (.ofNat 12), .int (.ofNat 13), .int (.ofNat 11), .int (.ofNat 12), .int (.ofNat 11), .int (.ofNat 10), .int (.ofNat 12), .int (.ofNat 10), .int (.ofNat 11), .int (.ofNat 13), .int (.ofNat 11), .int (.ofNat 10), .int (.ofNat 13), .int (.ofNat 10), .int (.ofNat 12), .int (.ofNat 13), .int (.ofNat 12), .int (.ofNat 10), .int (.ofNat 13), .int (.ofNat 10)], .lst [.int (.ofNat 12), .int (.ofNat 11), .int (.ofNat 13), .int (.ofNat 11), .int (.ofNat 13), .int (.ofNat 12), .int (.ofNat 12), .int (.ofNat 11), .int (.ofNat 10), .int (.ofNat 11), .int (.ofNat 10), .int (.ofNat 12), .int (.ofNat 13), .int (.ofNat 11), .int (.ofNat 10), .int (.ofNat 11), .int (.ofNat 10), .int (.ofNat 13), .int (.ofNat 13), .int (.ofNat 12), .int (.ofNat 10), .int (.ofNat 12), .int (.ofNat 10), .int (.ofNat 13)], .lst [.int (.ofNat 13), .int (.ofNat 13), .int (.ofNat 12), .int (.ofNat 12), .int (.ofNat 11), .int (.ofNat 11), .int (.ofNat 10), .int (.ofNat 10), .int (.ofNat 12), .int (.ofNat 12), .int (.ofNat 11), .int (.ofNat 11), .int (.ofNat 10), .int (.ofNat 10), .int (.ofNat 13), .int (.ofNat 13), .int (.ofNat 11), .int (.ofNat 11), .int (.ofNat 10), .int (.ofNat 10), .int (.ofNat 13), .int (.ofNat 13), .int (.ofNat 12), .int (.ofNat 12)], .lst [.int (.ofNat 14), .int (.ofNat 14), .int (.ofNat 16), .int (.ofNat 16), .int (.ofNat 15), .int (.ofNat 15), .int (.ofNat 14), .int (.ofNat 14), .int (.ofNat 15), .int (.ofNat 15), .int (.ofNat 16), .int (.ofNat 16), .int (.ofNat 16), .int (.ofNat 16), .int (.ofNat 15), .int (.ofNat 15), .int (.ofNat 14), .int (.ofNat 14), .int (.ofNat 15), .int (.ofNat 15), .int (.ofNat 16), .int (.ofNat 16), .int (.ofNat 14), .int (.ofNat 14)], .lst [.int (.ofNat 15), .int (.ofNat 16), .int (.ofNat 15), .int (.ofNat 14), .int (.ofNat 16), .int (.ofNat 14), .int (.ofNat 16), .int (.ofNat 15), .int (.ofNat 16), .int (.ofNat 14), .int (.ofNat 15), .int (.ofNat 14), .int (.ofNat 14), .int (.ofNat 15), .int (.ofNat 14), .int (.ofNat 16), .int (.ofNat 15), .int (.ofNat 16), .int (.ofNat 14), .int (.ofNat 16), .int (.ofNat 14), .int (.ofNat 15), .int (.ofNat 16), .int (.ofNat 15)], .lst [.int (.ofNat 16), .int (.ofNat 15), .int (.ofNat 14), .int (.ofNat 15), .int (.ofNat 14), .int (.ofNat 16), .int (.ofNat 15), .int (.ofNat 16), .int (.ofNat 14), .int (.ofNat 16), .int (.ofNat 14), .int (.ofNat 15), .int (.ofNat 15), .int (.ofNat 14), .int (.ofNat 16), .int (.ofNat 14), .int (.ofNat 16), .int (.ofNat 15), .int (.ofNat 16), .int (.ofNat 14), .int (.ofNat 15), .int (.ofNat 14), .int (.ofNat 15), .int (.ofNat 16)], .lst [.int (.ofNat 17), .int (.ofNat 17), .int (.ofNat 17), .int (.ofNat 17), .int (.ofNat 17), .int (.ofNat 17), .int (.ofNat 17), .int (.ofNat 17), .int (.ofNat 17), .int (.ofNat 17), .int (.ofNat 17), .int (.ofNat 17), .int (.ofNat 17), .int (.ofNat 17), .int (.ofNat 17), .int (.ofNat 17), .int (.ofNat 17), .int (.ofNat 17), .int (.ofNat 17), .int (.ofNat 17), .int (.ofNat 17), .int (.ofNat 17), .int (.ofNat 17), .int (.ofNat 17)], .lst [.int (.ofNat 18), .int (.ofNat 18), .int (.ofNat 19), .int (.ofNat 19), .int (.ofNat 20), .int (.ofNat 20), .int (.ofNat 18), .int (.ofNat 18), .int (.ofNat 20), .int (.ofNat 20), .int (.ofNat 19), .int (.ofNat 19), .int (.ofNat 19), .int (.ofNat 19), .int (.ofNat 20), .int (.ofNat 20), .int (.ofNat 18), .int (.ofNat 18), .int (.ofNat 20), .int (.ofNat 20), .int (.ofNat 19), .int (.ofNat 19), .int (.ofNat 18), .int (.ofNat 18)], .lst [.int (.ofNat 19), .int (.ofNat 20), .int (.ofNat 18), .int (.ofNat 20), .int (.ofNat 18), .int (.ofNat 19), .int (.ofNat 20), .int (.ofNat 19), .int (.ofNat 18), .int (.ofNat 19), .int (.ofNat 18), .int (.ofNat 20), .int (.ofNat 20), .int (.ofNat 18), .int (.ofNat 19), .int (.ofNat 18), .int (.ofNat 19), .int (.ofNat 20), .int (.ofNat 19), .int (.ofNat 18), .int (.ofNat 20), .int (.ofNat 18), .int (.ofNat 20), .int (.ofNat 19)], .lst [.int (.ofNat 20), .int (.ofNat 19), .int (.ofNat 20), .int (.ofNat 18), .int (.ofNat 19), .int (.ofNat 18), .int (.ofNat 19), .int (.ofNat 20), .int (.ofNat 19), .int (.ofNat 18), .int (.ofNat 20), .int (.ofNat 18), .int (.ofNat 18), .int (.ofNat 20), .int (.ofNat 18), .int (.ofNat 19), .int (.ofNat 20), .int (.ofNat 19), .int (.ofNat 18), .int (.ofNat 19), .int (.ofNat 18), .int (.ofNat 20), .int (.ofNat 19), .int (.ofNat 20)], .lst [.int (.ofNat 21), .int (.ofNat 21), .int (.ofNat 21), .int (.ofNat 21), .int (.ofNat 21), .int (.ofNat 21), .int (.ofNat 22), .int (.ofNat 22), .int (.ofNat 22), .int (.ofNat 22), .int (.ofNat 22), .int (.ofNat 22), .int (.ofNat 24), .int (.ofNat 24), .int (.ofNat 24), .int (.ofNat 24), .int (.ofNat 24), .int (.ofNat 24), .int (.ofNat 23), .int (.ofNat 23), .int (.ofNat 23), .int (.ofNat 23), .int (.ofNat 23), .int (.ofNat 23)], .lst [.int (.ofNat 22), .int (.ofNat 22), .int (.ofNat 24), .int (.ofNat 24), .int (.ofNat 23), .int (.ofNat 23), .int (.ofNat 21), .int (.ofNat 21), .int (.ofNat 24), .int (.ofNat 24), .int (.ofNat 23), .int (.ofNat 23), .int (.ofNat 21), .int (.ofNat 21), .int (.ofNat 22), .int (.ofNat 22), .int (.ofNat 23), .int (.ofNat 23), .int (.ofNat 21), .int (.ofNat 21), .int (.ofNat 22), .int (.ofNat 22), .int (.ofNat 24), .int (.ofNat 24)], .lst [.int (.ofNat 23), .int (.ofNat 24), .int (.ofNat 23), .int (.ofNat 22), .int (.ofNat 24), .int (.ofNat 22), .int (.ofNat 23), .int (.ofNat 24), .int (.ofNat 23), .int (.ofNat 21), .int (.ofNat 24), .int (.ofNat 21), .int (.ofNat 23), .int (.ofNat 22), .int (.ofNat 23), .int (.ofNat 21), .int (.ofNat 22), .int (.ofNat 21), .int (.ofNat 24), .int (.ofNat 22), .int (.ofNat 24), .int (.ofNat 21), .int (.ofNat 22), .int (.ofNat 21)], .lst [.int (.ofNat 24), .int (.ofNat 23), .int (.ofNat 22), .int (.ofNat 23), .int (.ofNat 22), .int (.ofNat 24), .int (.ofNat 24), .int (.ofNat 23), .int (.ofNat 21), .int (.ofNat 23), .int (.ofNat 21), .int (.ofNat 24), .int (.ofNat 22), .int (.ofNat 23), .int (.ofNat 21), .int (.ofNat 23), .int (.ofNat 21), .int (.ofNat 22), .int (.ofNat 22), .int (.ofNat 24), .int (.ofNat 21), .int (.ofNat 24), .int (.ofNat 21), .int (.ofNat 22)], .lst [.int (.ofNat 25), .int (.ofNat 25), .int (.ofNat 27), .int (.ofNat 27), .int (.ofNat 26), .int (.ofNat 26), .int (.ofNat 25), .int (.ofNat 25), .int (.ofNat 26), .int (.ofNat 26), .int (.ofNat 27), .int (.ofNat 27), .int (.ofNat 27), .int (.ofNat 27), .int (.ofNat 26), .int (.ofNat 26), .int (.ofNat 25), .int (.ofNat 25), .int (.ofNat 26), .int (.ofNat 26), .int (.ofNat 27), .int (.ofNat 27), .int (.ofNat 25), .int (.ofNat 25)], .lst [.int (.ofNat 26), .int (.ofNat 27), .int (.ofNat 26), .int (.ofNat 25), .int (.ofNat 27), .int (.ofNat 25), .int (.ofNat 27), .int (.ofNat 26), .int (.ofNat 27), .int (.ofNat 25), .int (.ofNat 26), .int (.ofNat 25), .int (.ofNat 25), .int (.ofNat 26), .int (.ofNat 25), .int (.ofNat 27), .int (.ofNat 26), .int (.ofNat 27), .int (.ofNat 25), .int (.ofNat 27), .int (.ofNat 25), .int (.ofNat 26), .int (.ofNat 27), .int (.ofNat 26)], .lst [.int (.ofNat 27), .int (.ofNat 26), .int (.ofNat 25), .int (.ofNat 26), .int (.ofNat 25), .int (.ofNat 27), .int (.ofNat 26), .int (.ofNat 27), .int (.ofNat 25), .int (.ofNat 27), .int (.ofNat 25), .int (.ofNat 26), .int (.ofNat 26), .int (.ofNat 25), .int (.ofNat 27), .int (.ofNat 25), .int (.ofNat 27), .int (.ofNat 26), .int (.ofNat 27), .int (.ofNat 25), .int (.ofNat 26), .int (.ofNat 25), .int (.ofNat 26), .int (.ofNat 27)], .lst [.int (.ofNat 28), .int (.ofNat 28), .int (.ofNat 28), .int (.ofNat 28), .int (.ofNat 28), .int (.ofNat 28), .int (.ofNat 28), .int (.ofNat 28), .int (.ofNat 28), .int (.ofNat 28), .int (.ofNat 28), .int (.ofNat 28), .int (.ofNat 28), .int (.ofNat 28), .int (.ofNat 28), .int (.ofNat 28), .int (.ofNat 28), .int (.ofNat 28), .int (.ofNat 28), .int (.ofNat 28), .int (.ofNat 28), .int (.ofNat 28), .int (.ofNat 28), .int (.ofNat 28)], .lst [.int (.ofNat 29), .int (.ofNat 29), .int (.ofNat 29), .int (.ofNat 29), .int (.ofNat 29), .int (.ofNat 29), .int (.ofNat 29), .int (.ofNat 29), .int (.ofNat 29), .int (.ofNat 29), .int (.ofNat 29), .int (.ofNat 29), .int (.ofNat 29), .int (.ofNat 29), .int (.ofNat 29), .int (.ofNat 29), .int (.ofNat 29), .int (.ofNat 29), .int (.ofNat 29), .int (.ofNat 29), .int (.ofNat 29), .int (.ofNat 29), .int (.ofNat 29), .int (.ofNat 29)]]
def L4_4 : D := .tup [.tup [.int (.ofNat 0)], .tup [.int (.ofNat 1), .int (.ofNat 2), .int (.ofNat 3), .int (.ofNat 4), .int (.ofNat 6), .int (.ofNat 8)], .tup [.int (.ofNat 5), .int (.ofNat 7), .int (.ofNat 9)], .tup [.int (.ofNat 10), .int (.ofNat 11), .int (.ofNat 12), .int (.ofNat 13)], .tup [.int (.ofNat 14), .int (.ofNat 15), .int (.ofNat 16)], .tup [.int (.ofNat 17)], .tup [.int (.ofNat 18), .int (.ofNat 19), .int (.ofNat 20)], .tup [.int (.ofNat 21), .int (.ofNat 22), .int (.ofNat 23), .int (.ofNat 24)], .tup [.int (.ofNat 25), .int (.ofNat 26), .int (.ofNat 27)], .tup [.int (.ofNat 28)], .tup [.int (.ofNat 29)]]
def L4_5 : D := .dK [.inl (.ofNat 0), .inl (.ofNat 1), .inl (.ofNat 2), .inl (.ofNat 3), .inl (.ofNat 4), .inl (.ofNat 6), .inl (.ofNat 8), .inl (.ofNat 5), .inl (.ofNat 7), .inl (.ofNat 9), .inl (.ofNat 10), .inl (.ofNat 11), .inl (.ofNat 12), .inl (.ofNat 13), .inl (.ofNat 14), .inl (.ofNat 15), .inl (.ofNat 16), .inl (.ofNat 17), .inl (.ofNat 18), .inl (.ofNat 19), .inl (.ofNat 20), .inl (.ofNat 21), .inl (.ofNat 22), .inl (.ofNat 23), .inl (.ofNat 24), .inl (.ofNat 25), .inl (.ofNat 26), .inl (.ofNat 27), .inl (.ofNat 28), .inl (.ofNat 29)] [.int (.ofNat 0), .int (.ofNat 1), .int (.ofNat 1), .int (.ofNat 1), .int (.ofNat 1), .int (.ofNat 1), .int (.ofNat 1), .int (.ofNat 2), .int (.ofNat 2), .int (.ofNat 2), .int (.ofNat 3), .int (.ofNat 3), .int (.ofNat 3), .int (.ofNat 3), .int (.ofNat 4), .int (.ofNat 4), .int (.ofNat 4), .int (.ofNat 5), .int (.ofNat 6), .int (.ofNat 6), .int (.ofNat 6), .int (.ofNat 7), .int (.ofNat 7), .int (.ofNat 7), .int (.ofNat 7), .int (.ofNat 8), .int (.ofNat 8), .int (.ofNat 8), .int (.ofNat 9), .int (.ofNat 10)]
def L4_6 : D := .lst [.lst [.bl true, .bl false, .bl false, .bl false, .bl false, .bl false, .bl false, .bl false, .bl false, .bl false, .bl false, .bl false, .bl false, .bl false, .bl false, .bl false, .bl false, .bl false, .bl false, .bl false, .bl false, .bl false, .bl false, .bl false, .bl false, .bl false, .bl false, .bl false, .bl false, .bl false], .lst [.bl true, .bl true, .bl false, .bl false, .bl false, .bl false, .bl false, .bl false, .bl false, .bl false, .bl false, .bl false, .bl false, .bl false, .bl false, .bl false, .bl false, .bl false, .bl false, .bl false, .bl false, .bl false, .bl false, .bl false, .bl false, .bl false, .bl false, .bl false, .bl false, .bl false], .lst [.bl true, .bl false, .bl true, .bl false, .bl false, .bl false, .bl false, .bl false, .bl false, .bl false, .bl false, .bl false, .bl false, .bl false, .bl false, .bl false, .bl false, .bl false, .bl false, .bl false, .bl false, .bl false, .bl false, .bl false, .bl false, .bl false, .bl false, .bl false, .bl false, .bl false], .lst [.bl true, .bl false, .bl false, .bl true, .bl false, .bl false, .bl false, .bl false, .bl false, .bl false, .bl false, .bl false, .bl false, .bl false, .bl false, .bl false, .bl false, .bl false, .bl false, .bl false, .bl false, .bl false, .bl false, .bl false, .bl false, .bl false, .bl false, .bl false, .bl false, .bl false], .lst [.bl true, .bl false, .bl false, .bl false, .bl true, .bl false, .bl false, .bl false, .bl false, .bl false, .bl false, .bl false, .bl false, .bl false, .bl false, .bl false, .bl false, .bl false, .bl false, .bl false, .bl false, .bl false, .bl false, .bl false, .bl false, .bl false, .bl false, .bl false, .bl false, .bl false], .lst [.bl true, .bl false, .bl false, .bl false, .bl false, .bl true, .bl false, .bl false, .bl false, .bl false, .bl false, .bl false, .bl false, .bl false, .bl false, .bl false, .bl false, .bl false, .bl false, .bl false, .bl false, .bl false, .bl false, .bl false, .bl false, .bl false, .bl false, .bl false, .bl false, .bl false], .lst [.bl true, .bl false, .bl false, .bl false, .bl false, .bl false, .bl true, .bl false, .bl false, .bl false, .bl false, .bl false, .bl false, .bl false, .bl false, .bl false, .bl false, .bl false, .bl false, .bl false, .bl false, .bl false, .bl false, .bl false, .bl false, .bl false, .bl false, .bl false, .bl false, .bl false], .lst [.bl true, .bl false, .bl false, .bl false, .bl false, .bl false, .bl false, .bl true, .bl false, .bl false, .bl false, .bl false, .bl false, .bl false, .bl false, .bl false, .bl false, .bl false, .bl false, .bl false, .bl false, .bl false, .bl false, .bl false, .bl false, .bl false, .bl false, .bl false, .bl false, .bl false], .lst [.bl true, .bl false, .bl false, .bl false, .bl false, .bl false, .bl false, .bl false, .bl true, .bl false, .bl false, .bl false, .bl false, .bl false, .bl false, .bl false, .bl false, .bl false, .bl false, .bl false, .bl false, .bl false, .bl false, .bl false, .bl false, .bl false, .bl false, .bl false, .bl false, .bl false], .lst [.bl true, .bl false, .bl false, .bl false, .bl false, .bl false, .bl false, .bl false, .bl false, .bl true, .bl false, .bl false, .bl false, .bl false, .bl false, .bl false, .bl false, .bl false, .bl false, .bl false, .bl false, .bl false, .bl false, .bl false, .bl false, .bl false, .bl false, .bl false, .bl false, .bl false], .lst [.bl true, .bl false, .bl false, .bl false, .bl false, .bl false, .bl false, .bl false, .bl false, .bl false, .bl true, .bl false, .bl false, .bl false, .bl false, .bl false, .bl false, .bl false, .bl false, .bl false, .bl false, .bl false, .bl false, .bl false, .bl false, .bl false, .bl false, .bl false, .bl false, .bl false], .lst [.bl true, .bl false, .bl false, .bl false, .bl false, .bl false, .bl false, .bl false, .bl false, .bl false, .bl false, .bl true, .bl false, .bl false, .bl false, .bl false, .bl false, .bl false, .bl false, .bl false, .bl false, .bl false, .bl false, .bl false, .bl false, .bl false, .bl false, .bl false, .bl false, .bl false], .lst [.bl true, .bl false, .bl false, .bl false, .bl false, .bl false, .bl false, .bl false, .bl false, .bl false, .bl false, .bl false, .bl true, .bl false, .bl false, .bl false, .bl false, .bl false, .bl false, .bl false, .bl false, .bl false, .bl false, .bl false, .bl false, .bl false, .bl false, .bl false, .bl false, .bl false], .lst [.bl true, .bl false, .bl false, .bl false, .bl false, .bl false, .bl false, .bl false, .bl false, .bl false, .bl false, .bl false, .bl false, .bl true, .bl false, .bl false, .bl false, .bl false, .bl false, .bl false, .bl false, .bl false, .bl false, .bl false, .bl false, .bl false, .bl false, .bl false, .bl false, .bl false], .lst [.bl true, .bl true, .bl false, .bl false, .bl true, .bl true, .bl false, .bl false, .bl false, .bl false, .bl false, .bl false, .bl false, .bl false, .bl true, .bl false, .bl false, .bl false, .bl false, .bl false, .bl false, .bl false, .bl false, .bl false, .bl false, .bl false, .bl false, .bl false, .bl false, .bl false], .lst [.bl true, .bl false, .bl true, .bl false, .bl false, .bl false, .bl false, .bl false, .bl true, .bl true, .bl false, .bl false, .bl false, .bl false, .bl false, .bl true, .bl false, .bl false, .bl false, .bl false, .bl false, .bl false, .bl false, .bl false, .bl false, .bl false, .bl false, .bl false, .bl false, .bl false], .lst [.bl true, .bl false, .bl false, .bl true, .bl false, .bl false, .bl true, .bl true, .bl false, .bl false, .bl false, .bl false, .bl false, .bl false, .bl false, .bl false, .bl true, .bl false, .bl false, .bl false, .bl false, .bl false, .bl false, .bl false, .bl false, .bl false, .bl false, .bl false, .bl false, .bl false], .lst [.bl true, .bl false, .bl false, .bl false, .bl false, .bl true, .bl false, .bl true, .bl false, .bl true, .bl false, .bl false, .bl false, .bl false, .bl false, .bl false, .bl false, .bl true, .bl false, .bl false, .bl false, .bl false, .bl false, .bl false, .bl false, .bl false, .bl false, .bl false, .bl false, .bl false], .lst [.bl true, .bl false, .bl false, .bl false, .bl false, .bl true, .bl false, .bl false, .bl false, .bl false, .bl false, .bl false, .bl false, .bl false, .bl false, .bl false, .bl false, .bl false, .bl true, .bl false, .bl false, .bl false, .bl false, .bl false, .bl false, .bl false, .bl false, .bl false, .bl false, .bl false], .lst [.bl true, .bl false, .bl false, .bl false, .bl false, .bl false, .bl false, .bl true, .bl false, .bl false, .bl false, .bl false, .bl false, .bl false, .bl false, .bl false, .bl false, .bl false, .bl false, .bl true, .bl false, .bl false, .bl false, .bl false, .bl false, .bl false, .bl false, .bl false, .bl false, .bl false], .lst [.bl true, .bl false, .bl false, .bl false, .bl false, .bl false, .bl false, .bl false, .bl false, .bl true, .bl false, .bl false, .bl false, .bl false, .bl false, .bl false, .bl false, .bl false, .bl false, .bl false, .bl true, .bl false, .bl false, .bl false, .bl false, .bl false, .bl false, .bl false, .bl false, .bl false], .lst [.bl true, .bl true, .bl true, .bl true, .bl false, .bl false, .bl false, .bl false, .bl false, .bl false, .bl true, .bl false, .bl false, .bl false, .bl false, .bl false, .bl false, .bl false, .bl false, .bl false, .bl false, .bl true, .bl false, .bl false, .bl false, .bl false, .bl false, .bl false, .bl false, .bl false], .lst [.bl true, .bl true, .bl false, .bl false, .bl false, .bl false, .bl true, .bl false, .bl true, .bl false, .bl false, .bl false, .bl false, .bl true, .bl false, .bl false, .bl false, .bl false, .bl false, .bl false, .bl false, .bl false, .bl true, .bl false, .bl false, .bl false, .bl false, .bl false, .bl false, .bl false], .lst [.bl true, .bl false, .bl true, .bl false, .bl true, .bl false, .bl true, .bl false, .bl false, .bl false, .bl false, .bl true, .bl false, .bl false, .bl false, .bl false, .bl false, .bl false, .bl false, .bl false, .bl false, .bl false, .bl false, .bl true, .bl false, .bl false, .bl false, .bl false, .bl false, .bl false], .lst [.bl true, .bl false, .bl false, .bl true, .bl true, .bl false, .bl false, .bl false, .bl true, .bl false, .bl false, .bl false, .bl true, .bl false, .bl false, .bl false, .bl false, .bl false, .bl false, .bl false, .bl false, .bl false, .bl false, .bl false, .bl true, .bl false, .bl false, .bl false, .bl false, .bl false], .lst [.bl true, .bl true, .bl false, .bl false, .bl true, .bl true, .bl false, .bl true, .bl false, .bl true, .bl false, .bl false, .bl false, .bl false, .bl true, .bl false, .bl false, .bl true, .bl true, .bl false, .bl false, .bl false, .bl false, .bl false, .bl false, .bl true, .bl false, .bl false, .bl false, .bl false], .lst [.bl true, .bl false, .bl true, .bl false, .bl false, .bl true, .bl false, .bl true, .bl true, .bl true, .bl false, .bl false, .bl false, .bl false, .bl false, .bl true, .bl false, .bl true, .bl false, .bl false, .bl true, .bl false, .bl false, .bl false, .bl false, .bl false, .bl true, .bl false, .bl false, .bl false], .lst [.bl true, .bl false, .bl false, .bl true, .bl false, .bl true, .bl true, .bl true, .bl false, .bl true, .bl false, .bl false, .bl false, .bl false, .bl false, .bl false, .bl true, .bl true, .bl false, .bl true, .bl false, .bl false, .bl false, .bl false, .bl false, .bl false, .bl false, .bl true, .bl false, .bl false], .lst [.bl true, .bl false, .bl false, .bl false, .bl false, .bl true, .bl false, .bl true, .bl false, .bl true, .bl true, .bl true, .bl true, .bl true, .bl false, .bl false, .bl false, .bl true, .bl false, .bl false, .bl false, .bl false, .bl false, .bl false, .bl false, .bl false, .bl false, .bl false, .bl true, .bl false], .lst [.bl true, .bl true, .bl true, .bl true, .bl true, .bl true, .bl true, .bl true, .bl true, .bl true, .bl true, .bl true, .bl true, .bl true, .bl true, .bl true, .bl true, .bl true, .bl true, .bl true, .bl true, .bl true, .bl true, .bl true, .bl true, .bl true, .bl true, .bl true, .bl true, .bl true]]
def L4_7 : D := .lst [.tup [.int (.ofNat 0)], .tup [.int (.ofNat 0), .int (.ofNat 1)], .tup [.int (.ofNat 0), .int (.ofNat 2)], .tup [.int (.ofNat 0), .int (.ofNat 3)], .tup [.int (.ofNat 0), .int (.ofNat 4)], .tup [.int (.ofNat 0), .int (.ofNat 5)], .tup [.int (.ofNat 0), .int (.ofNat 6)], .tup [.int (.ofNat 0), .int (.ofNat 7)], .tup [.int (.ofNat 0), .int (.ofNat 8)], .tup [.int (.ofNat 0), .int (.ofNat 9)], .tup [.int (.ofNat 0), .int (.ofNat 10)], .tup [.int (.ofNat 0), .int (.ofNat 11)], .tup [.int (.ofNat 0), .int (.ofNat 12)], .tup [.int (.ofNat 0), .int (.ofNat 13)], .tup [.int (.ofNat 0), .int (.ofNat 1), .int (.ofNat 4), .int (.ofNat 5), .int (.ofNat 14)], .tup [.int (.ofNat 0), .int (.ofNat 2), .int (.ofNat 8), .int (.ofNat 9), .int (.ofNat 15)], .tup [.int (.ofNat 0), .int (.ofNat 3), .int (.ofNat 6), .int (.ofNat 7), .int (.ofNat 16)], .tup [.int (.ofNat 0), .int (.ofNat 5), .int (.ofNat 7), .int (.ofNat 9), .int (.ofNat 17)], .tup [.int (.ofNat 0), .int (.ofNat 5), .int (.ofNat 18)], .tup [.int (.ofNat 0), .int (.ofNat 7), .int (.ofNat 19)], .tup [.int (.ofNat 0), .int (.ofNat 9), .int (.ofNat 20)], .tup [.int (.ofNat 0), .int (.ofNat 1), .int (.ofNat 2), .int (.ofNat 3), .int (.ofNat 10), .int (.ofNat 21)], .tup [.int (.ofNat 0), .int (.ofNat 1), .int (.ofNat 6), .int (.ofNat 8), .int (.ofNat 13), .int (.ofNat 22)], .tup [.int (.ofNat 0), .int (.ofNat 2), .int (.ofNat 4), .int (.ofNat 6), .int (.ofNat 11), .int (.ofNat 23)], .tup [.int (.ofNat 0), .int (.ofNat 3), .int (.ofNat 4), .int (.ofNat 8), .int (.ofNat 12), .int (.ofNat 24)], .tup [.int (.ofNat 0), .int (.ofNat 1), .int (.ofNat 4), .int (.ofNat 5), .int (.ofNat 7), .int (.ofNat 9), .int (.ofNat 14), .int (.ofNat 17), .int (.ofNat 18), .int (.ofNat 25)], .tup [.int (.ofNat 0), .int (.ofNat 2), .int (.ofNat 5), .int (.ofNat 7), .int (.ofNat 8), .int (.ofNat 9), .int (.ofNat 15), .int (.ofNat 17), .int (.ofNat 20), .int (.ofNat 26)], .tup [.int (.ofNat 0), .int (.ofNat 3), .int (.ofNat 5), .int (.ofNat 6), .int (.ofNat 7), .int (.ofNat 9), .int (.ofNat 16), .int (.ofNat 17), .int (.ofNat 19), .int (.ofNat 27)], .tup [.int (.ofNat 0), .int (.ofNat 5), .int (.ofNat 7), .int (.ofNat 9), .int (.ofNat 10), .int (.ofNat 11), .int (.ofNat 12), .int (.ofNat 13), .int (.ofNat 17), .int (.ofNat 28)], .tup [.int (.ofNat 0), .int (.ofNat 1), .int (.ofNat 2), .int (.ofNat 3), .int (.ofNat 4), .int (.ofNat 5), .int (.ofNat 6), .int (.ofNat 7), .int (.ofNat 8), .int (.ofNat 9), .int (.ofNat 10), .int (.ofNat 11), .int (.ofNat 12), .int (.ofNat 13), .int (.ofNat 14), .int (.ofNat 15), .int (.ofNat 16), .int (.ofNat 17), .int (.ofNat 18), .int (.ofNat 19), .int (.ofNat 20), .int (.ofNat 21), .int (.ofNat 22), .int (.ofNat 23), .int (.ofNat 24), .int (.ofNat 25), .int (.ofNat 26), .int (.ofNat 27), .int (.ofNat 28), .int (.ofNat 29)]]
def L4 : List Str × List D := (["world", "groups", "_numbers", "_carries", "classes", "_places", "_holdings", "_below"], [L4_0, L4_1, L4_2, L4_3, L4_4, L4_5, L4_6, L4_7])
theorem e4_1 : m_World_init [.tup (nts [4])] = some W4 := by kernel_rfl
theorem e4_2 : m_Lattice_init [.obj 0 W4.1 W4.2] = some L4 := by kernel_rfl
theorem w4 : Wor [4] (.obj 1 L4.1 L4.2) gr4 be4 := ⟨⟨_, _, e4_1, e4_2, rfl⟩, ⟨_, _, rfl, by kernel_rfl, by kernel_rfl, by kernel_rfl, by kernel_rfl⟩⟩
end Wl
set_option maxRecDepth 1000000
set_option maxHeartbeats 0
namespace Wl
open PySem PySem.Spec PyProof.Rows L2 Dl Mp
def re4 : List (List Nat) := [[], [2, 4, 6, 8, 10, 12], [2, 4, 6, 8, 10, 12], [2, 4, 6, 8, 10, 12], [2, 4, 6, 8, 10, 12], [2, 4, 6, 8, 10, 12], [2, 4, 6, 8, 10, 12], [2, 4, 6, 8, 10, 12], [2, 4, 6, 8, 10, 12], [2, 4, 6, 8, 10, 12], [3, 6, 9, 12], [3, 6, 9, 12], [3, 6, 9, 12], [3, 6, 9, 12], [2, 4, 6, 8, 10, 12], [2, 4, 6, 8, 10, 12], [2, 4, 6, 8, 10, 12], [2, 4, 6, 8, 10, 12], [2, 4, 6, 8, 10, 12], [2, 4, 6, 8, 10, 12], [2, 4, 6, 8, 10, 12], [2, 3, 4, 5, 6, 7, 8, 9, 10, 11, 12], [2, 3, 4, 5, 6, 7, 8, 9, 10, 11, 12], [2, 3, 4, 5, 6, 7, 8, 9, 10, 11, 12], [2, 3, 4, 5, 6, 7, 8, 9, 10, 11, 12], [2, 4, 6, 8, 10, 12], [2, 4, 6, 8, 10, 12], [2, 4, 6, 8, 10, 12], [2, 3, 4, 6, 7, 8, 9, 10, 11, 12], [2, 3, 4, 5, 6, 7, 8, 9, 10, 11, 12]]
theorem r4_1 : okS gr4 be4 = true := by decide +kernel
theorem r4_2 : m__law_held [.lst (trows gr4)] = some (.lst (rows be4)) := by kernel_rfl
theorem r4_3 : m__law_reaches [.lst (trows gr4), .lst (rows be4)] = some (.lst (rows re4)) := by kernel_rfl
theorem r4_4 : re4 = reaches gr4 be4 := by decide +kernel
theorem wr4 : Wre [4] (.obj 1 L4.1 L4.2) gr4 be4 := wre_of w4 r4_1 r4_2 r4_3 r4_4
end Wl
namespace Wl
open PySem PySem.Spec PyProof.Rows L2 Dl Mp
def menu : List (List Nat) := [[3], [2, 2], [2], [2, 1], [1, 2], [1], [0], [3, 1], [1, 1], [0, 2], [2, 0], [1, 3], [2, 3], [4]]
theorem wre_menu : ∀ s ∈ menu, ∃ L gr be, Wre s L gr be ∧ 0 < gr.length := by
  unfold menu
  simp only [List.forall_mem_cons]
  exact ⟨⟨_, _, _, wr3, by decide⟩, ⟨_, _, _, wr22, by decide⟩, ⟨_, _, _, wr2, by decide⟩, ⟨_, _, _, wr21, by decide⟩, ⟨_, _, _, wr12, by decide⟩, ⟨_, _, _, wr1, by decide⟩, ⟨_, _, _, wr0, by decide⟩, ⟨_, _, _, wr31, by decide⟩, ⟨_, _, _, wr11, by decide⟩, ⟨_, _, _, wr02, by decide⟩, ⟨_, _, _, wr20, by decide⟩, ⟨_, _, _, wr13, by decide⟩, ⟨_, _, _, wr23, by decide⟩, ⟨_, _, _, wr4, by decide⟩, fun _ h => nomatch h⟩
end Wl
set_option maxRecDepth 100000
set_option maxHeartbeats 4000000
namespace K40
open PySem PySem.Spec PyProof.Rows L2 Dl Mp Wl
/-! ### lots -/
abbrev eL (p : Bool × List Nat) : D := if p.1 then .tup (nts p.2) else .lst (nts p.2)
def LotOk (p : Bool × List Nat) : Prop := p.2.length ≤ 12 ∧ ∀ x ∈ p.2, 1 ≤ x ∧ x < 13
theorem eL_seq (p : Bool × List Nat) : Nums (eL p) p.2 := by
  obtain ⟨b, l⟩ := p
  cases b
  · exact .lst l
  · exact .tup l
def jn (lots : List (Bool × List Nat)) : List Nat := (List.range' 1 12).filter fun x => lots.any fun p => p.2.contains x
theorem jn_lt {lots : List (Bool × List Nat)} {x : Nat} (h : x ∈ jn lots) : x < 1000 := by
  have := List.mem_range'_1.mp (List.mem_filter.mp h).1
  omega
theorem jn_len (lots : List (Bool × List Nat)) : (jn lots).length ≤ 12 := Nat.le_trans (List.length_filter_le _ _) (by rw [List.length_range']; exact Nat.le_refl _)
theorem joined_at {lots : List (Bool × List Nat)} (hl : lots.length ≤ 40) (ho : ∀ p ∈ lots, LotOk p) : mR_joined_sizes (lots.map eL) = some (.tup (nts (jn lots))) := by
  unfold mR_joined_sizes
  rw [if_pos (by rw [List.length_map]; exact le_top hl)]
  unfold m_joined_sizes
  refine fun_ret rfl (m_ret ?_)
  refine gDs_1 (d0 := .lst (nts (jn lots))) ?_ rfl
  have e1 : lc2Of (gSeq (gVar 0)) (kName 1) (fun _ => some true) (gSeq (gVar 1)) (kName 2) (fun _ => some true) (gVar 2) [1, 2] [2] [SV.val (.tup (lots.map eL)), .un, .un] = some (nts (lots.flatMap fun p => p.2)) := by
    unfold lc2Of
    rw [show gSeq (gVar 0) [SV.val (.tup (lots.map eL)), .un, .un] = some (lots.map eL) from rfl, Option.bind_some, lc2Run_map (e := eL) (e1 := fun n : Nat => D.int (.ofNat n)) (f := fun p => p.2), Option.bind_some, if_pos]
    · rw [List.length_map]
      have h1 := flat_len' (f := fun p : Bool × List Nat => p.2) (k := 12) (l := lots) fun x hx => (ho x hx).1
      omega
    · intro p hp
      exact ⟨_, by rw [kName_eq]; rfl, (eL_seq p).seq rfl, fun y _ => ⟨_, by rw [kName_eq]; rfl, rfl⟩⟩
  have e2 : usort ((lots.flatMap fun p => p.2).map Int.ofNat) = (jn lots).map Int.ofNat := usort_nat (List.Pairwise.filter _ (List.pairwise_lt_range' ..)) fun x => by
    unfold jn
    rw [List.mem_flatMap, List.mem_filter, List.mem_range'_1, List.any_eq_true]
    constructor
    · rintro ⟨p, hp, hx⟩
      have := (ho p hp).2 x hx
      exact ⟨by omega, p, hp, by simpa using hx⟩
    · rintro ⟨_, p, hp, hx⟩
      exact ⟨p, hp, by simpa using hx⟩
  exact sorted_at e1 e2 (by have := jn_len lots; omega)
theorem law_joined {lots : List (Bool × List Nat)} (hl : lots.length ≤ 4) (ho : ∀ p ∈ lots, LotOk p) : m__law_joined [.lst (lots.map eL)] = some (.tup (nts (jn lots))) := by
  have h := joined_at (by omega) ho
  unfold m__law_joined
  generalize mR_joined_sizes = mj at h ⊢
  generalize D.tup (nts (jn lots)) = r at h ⊢
  refine fun_ret rfl ?_
  have eN : ∀ j : Nat, gTest (gBin fEq (gDs (onSeq fLen) (Dl.gCons (gVar 0) Dl.gNil)) (gC (.int (.ofNat j)))) [SV.val (.lst (lots.map eL))] = some (lots.length == j) := fun j => by
    refine test_bin (len_gDs rfl) rfl ?_
    rw [List.length_map]
    exact eq_nat _ _
  have e0 := eN 0
  have e1 := eN 1
  have e2 := eN 2
  have e3 := eN 3
  have ix : ∀ (j : Nat) (p : Bool × List Nat), lots[j]? = some p → gBin fIx (gVar 0) (gC (.int (.ofNat j))) [SV.val (.lst (lots.map eL))] = some (eL p) := fun j p e => by
    show atD (lots.map eL) (.ofNat j) = _
    unfold atD
    show (lots.map eL)[j]? = _
    rw [List.getElem?_map, e]
    rfl
  match lots, hl with
  | [], _ =>
    exact m_retT e0 h
  | [a], _ =>
    refine m_skip e0 ?_
    exact m_retT e1 (gDs_1 (ix 0 a rfl) h)
  | [a, b], _ =>
    refine m_skip e0 (m_skip e1 ?_)
    exact m_retT e2 (gDs_2 (ix 0 a rfl) (ix 1 b rfl) h)
  | [a, b, c], _ =>
    refine m_skip e0 (m_skip e1 (m_skip e2 ?_))
    exact m_retT e3 (gDs_3 (ix 0 a rfl) (ix 1 b rfl) (ix 2 c rfl) h)
  | [a, b, c, d], _ =>
    refine m_skip e0 (m_skip e1 (m_skip e2 (m_skip e3 ?_)))
    exact m_ret (d := r) (gDs_4 (ix 0 a rfl) (ix 1 b rfl) (ix 2 c rfl) (ix 3 d rfl) h)
/-! ### what is drawn -/
def menuD : List D := [.tup (nts [3]), .tup (nts [2, 2]), .tup (nts [4]), .tup (nts [2, 3]), .tup (nts [2, 1]), .tup (nts [3]), .tup (nts [1, 3]), .tup (nts [2]), .tup (nts [4]), .tup (nts [2, 2]), .tup (nts [2, 3]), .tup (nts [0, 2]), .tup (nts [1]), .tup (nts [0]), .tup (nts [3, 1]), .tup (nts [3])]
theorem world_spec {Pd : D → Prop} (h : ∀ s ∈ menu, Pd (.tup (nts s))) : w__law_world [.vol 0] Pd noEx := by
  unfold w__law_world
  refine wfun_i (ρ := [.val (.vol 0), .un]) rfl rfl fun Po hP _ => ?_
  refine seq_set (d := .lst menuD) (by kernel_rfl) ?_
  refine ret_one (k := 16) (xs := menuD) rfl rfl rfl (by decide) (by decide) ?_
  unfold menuD
  simp only [List.forall_mem_cons]
  have g : ∀ s, s ∈ menu → Po (.rt (.tup (nts s))) := fun s hs => hP _ (h s hs)
  exact ⟨g _ (by simp [menu]), g _ (by simp [menu]), g _ (by simp [menu]), g _ (by simp [menu]), g _ (by simp [menu]), g _ (by simp [menu]), g _ (by simp [menu]), g _ (by simp [menu]), g _ (by simp [menu]), g _ (by simp [menu]), g _ (by simp [menu]), g _ (by simp [menu]), g _ (by simp [menu]), g _ (by simp [menu]), g _ (by simp [menu]), g _ (by simp [menu]), fun _ z => nomatch z⟩
theorem size_spec {Pd : D → Prop} (h : ∀ n : Nat, 1 ≤ n → n < 13 → Pd (.int (.ofNat n))) : w__law_size [.vol 0] Pd noEx := by
  unfold w__law_size
  refine wfun_i (ρ := [.val (.vol 0)]) rfl rfl fun Po hP _ => ?_
  refine seq_if (fun Pb hb => test_take (k := 2) (j := 0) rfl (by decide) (by decide) hb) ?_ ?_
  · refine seq_retW ?_
    refine few_spec (k := 4) (xs := [.int 2, .int 3, .int 4, .int 6]) (by kernel_rfl) rfl rfl (by decide) (by decide) ?_
    simp only [List.forall_mem_cons]
    exact ⟨hP _ (h 2 (by decide) (by decide)), hP _ (h 3 (by decide) (by decide)), hP _ (h 4 (by decide) (by decide)), hP _ (h 6 (by decide) (by decide)), fun _ z => nomatch z⟩
  · refine seq_nil ?_
    refine end_retW ?_
    exact add_take (k := 12) (a := 1) rfl (by decide) (by decide) fun r hr => hP _ (h _ (by omega) (by omega))
theorem lot_spec {Pd : D → Prop} (h : ∀ p, LotOk p → Pd (eL p)) : w__law_lot [.vol 0] Pd noEx := by
  unfold w__law_lot
  refine wfun_i (ρ := [.val (.vol 0), .un, .un, .un, .un]) rfl rfl fun Po hP _ => ?_
  refine seq_setLcD (k := 5) (e := fun n : Nat => D.int (.ofNat n)) (T := fun n => 1 ≤ n ∧ n < 13) rfl (by decide) (by decide) (fun r x hr hx => ?_) (fun r sel hr hl hs => ?_)
  · exact ⟨_, by rw [kName_eq]; rfl, fun Q hQ => add_take (k := 12) (a := 1) rfl (by decide) (by decide) fun r hr => hQ _ ⟨by omega, by omega⟩⟩
  refine seq_set (d := .lst (nts (ssz sel))) ?_ ?_
  · refine gLc_map (e := fun n : Nat => D.int (.ofNat n)) (h := fun n => .int (.ofNat n)) (xs := List.range' 1 12) rng2_gDs (by rw [List.length_range']; exact le_top (by decide)) fun x hx => ⟨_, by rw [kName_eq]; rfl, ?_, fun _ => rfl⟩
    simp only [kFun_eq, kSet_eq, kRet_eq, kName_eq, kOwn_eq, kApp_eq, kPut_eq, mFun, mSeq, mSet, mRet, bName, gVar, Dl.gCons, Dl.gNil, gC, gDs, gBin, gU, gTest, gTru, gNot, gAnd, gOr, gSeq, mIf, mFor, List.map_cons, List.map_nil, List.length_cons, List.length_nil, List.replicate, List.cons_append, List.nil_append, List.set, List.getElem?_cons_zero, List.getElem?_cons_succ, Option.bind_some, Option.map_some, if_true, Nat.reduceAdd, reduceIte, wipeR, in_lst]
    rfl
  have ok : ∀ b, LotOk (b, ssz sel) := fun b => ⟨ssz_len sel, fun x hx => by have := List.mem_range'_1.mp (List.mem_filter.mp hx).1; omega⟩
  refine seq_if (fun Pb hb => test_take (k := 2) (j := 0) rfl (by decide) (by decide) hb) ?_ ?_
  · exact seq_ret (d := .tup (nts (ssz sel))) (tup_gDs rfl) (hP _ (h (true, ssz sel) (ok true)))
  · refine seq_nil ?_
    exact end_ret (d := .lst (nts (ssz sel))) rfl (hP _ (h (false, ssz sel) (ok false)))
/-! ### the law -/
/-- a lattice, with what is known of it -/
structure Lt where
  L : D
  gr : List (List Nat)
  be : List (List Nat)
  ok : (∃ s, Wre s L gr be) ∧ 0 < gr.length
abbrev lR (Ls re : List D) (s3 : SV) (s4 s5 s6 s7 s8 s9 s10 s11 : SV) : Rho := [.val .scr, .val (.vol 0), .val (.lst Ls), s3, s4, s5, s6, s7, s8, s9, s10, s11, .un, .un]
theorem turn_at {lts : List Lt} (hl : lts.length = 2) {sizes : List Nat} (hs : ∀ x ∈ sizes, 1 ≤ x ∧ x < 13) (hsl : sizes.length ≤ 40) {s4 s5 s6 s9 s10 s11 : SV} {t : Nat} (ht : t < 2) :
    gLendT 7 (gNot (gTru (gDs m__law_needless_fits (Dl.gCons (gBin fIx (gVar 2) (gVar 8)) (Dl.gCons (gIxS (gSqVar 3) (gVar 8)) (Dl.gCons (gVar 7) Dl.gNil))))))
      (lR (lts.map Lt.L) [] (.own (lts.map fun l => .lst (rows (reaches l.gr l.be)))) s4 s5 s6 (.own (nts sizes)) (.val (.int (.ofNat t))) s9 s10 s11) = some false := by
  obtain ⟨l, hlt⟩ := get_lt (l := lts) (i := t) (by omega)
  obtain ⟨⟨s, w⟩, _⟩ := l.ok
  show gNot _ (lR (lts.map Lt.L) [] (.own (lts.map fun l => .lst (rows (reaches l.gr l.be)))) s4 s5 s6 (.val (.lst (nts sizes))) (.val (.int (.ofNat t))) s9 s10 s11) = _
  unfold gNot gTru
  have e1 : gBin fIx (gVar 2) (gVar 8) (lR (lts.map Lt.L) [] (.own (lts.map fun l => .lst (rows (reaches l.gr l.be)))) s4 s5 s6 (.val (.lst (nts sizes))) (.val (.int (.ofNat t))) s9 s10 s11) = some l.L := by
    show (lts.map Lt.L)[t]? = _
    rw [List.getElem?_map, hlt]
    rfl
  have e2 : gIxS (gSqVar 3) (gVar 8) (lR (lts.map Lt.L) [] (.own (lts.map fun l => .lst (rows (reaches l.gr l.be)))) s4 s5 s6 (.val (.lst (nts sizes))) (.val (.int (.ofNat t))) s9 s10 s11) = some (.lst (rows (reaches l.gr l.be))) := by
    show (lts.map fun l => D.lst (rows (reaches l.gr l.be)))[t]? = _
    rw [List.getElem?_map, hlt]
    rfl
  rw [gDs_3 e1 e2 rfl (fits_at w hs hsl)]
  rfl
theorem law_true : w_law [.scr] (fun d => d = .bl true) noEx := by
  unfold w_law
  refine wfun_i (ρ := [.val .scr, .un, .un, .un, .un, .un, .un, .un, .un, .un, .un, .un, .un, .un]) rfl rfl fun Po hP _ => ?_
  refine seq_pool (k := 0) rfl ?_
  refine seq_setLc (e := Lt.L) (T := fun _ => True) (ds := nts (List.range 2)) (by kernel_rfl) (by decide) (fun x hx => ⟨_, by rw [kName_eq]; rfl, fun Q hQ => ?_⟩) fun lts hl _ => ?_
  · refine make_lat (menu := menu) (fun Pd h => world_spec h) rfl fun s hs => ?_
    obtain ⟨L, gr, be, w, n0⟩ := wre_menu s hs
    obtain ⟨W, M, m1, m2, e⟩ := w.w.made
    refine ⟨W, M, m1, m2, ?_⟩
    rw [← e]
    exact hQ ⟨L, gr, be, ⟨s, w⟩, n0⟩ trivial
  have hl : lts.length = 2 := hl
  refine seq_lift (ρ' := lR (lts.map Lt.L) [] (.own []) .un .un .un .un .un .un .un .un) (by rw [kOwn_eq]; rfl) ?_
  refine seq_for (e := Lt.L) (xs := lts) (fun pre ρ => ∃ s4 s5, ρ = lR (lts.map Lt.L) [] (.own (pre.map fun l => .lst (rows (reaches l.gr l.be)))) s4 s5 .un .un .un .un .un .un) rfl ⟨_, _, rfl⟩ (fun pre l post ρ ha hI => ?_) fun ρ' hI => ?_
  · obtain ⟨s4, s5, rfl⟩ := hI
    obtain ⟨⟨s, w⟩, _⟩ := l.ok
    have hp : pre.length < 100 := by
      have : lts.length = pre.length + (post.length + 1) := by rw [ha, List.length_append, List.length_cons]
      omega
    refine ⟨_, lR (lts.map Lt.L) [] (.own ((pre ++ [l]).map fun l => .lst (rows (reaches l.gr l.be)))) (.val l.L) (.val (.lst (trows l.gr))) .un .un .un .un .un .un, by rw [kName_eq]; rfl, ?_, _, _, rfl⟩
    refine m_set (d := .lst (trows l.gr)) ?_ ?_
    · refine lst_gDs ?_
      obtain ⟨ns, fs, eL, hg, _⟩ := w.w.flds
      unfold gFld
      rw [show gVar 4 _ = some l.L from rfl, eL]
      exact hg
    · refine (m_app (ds := pre.map fun l => .lst (rows (reaches l.gr l.be))) rfl (d := .lst (rows (reaches l.gr l.be))) ?_ (by rw [List.length_map]; exact hp)).trans ?_
      · exact gDs_2 rfl (gDs_1 rfl w.held) w.rea
      · rw [List.map_append]
        rfl
  obtain ⟨s4, s5, rfl⟩ := hI
  refine seq_pool (k := 1) rfl ?_
  refine seq_setW (T := fun d => ∃ n : Nat, n ≤ 5 ∧ d = .int (.ofNat n)) (fun Q hQ => few_spec (k := 8) (xs := [.int 3, .int 4, .int 2, .int 5, .int 1, .int 0, .int 4, .int 3]) (by kernel_rfl) rfl rfl (by decide) (by decide) ?_) fun d hd => ?_
  · simp only [List.forall_mem_cons]
    exact ⟨hQ _ ⟨3, by decide, rfl⟩, hQ _ ⟨4, by decide, rfl⟩, hQ _ ⟨2, by decide, rfl⟩, hQ _ ⟨5, by decide, rfl⟩, hQ _ ⟨1, by decide, rfl⟩, hQ _ ⟨0, by decide, rfl⟩, hQ _ ⟨4, by decide, rfl⟩, hQ _ ⟨3, by decide, rfl⟩, fun _ z => nomatch z⟩
  obtain ⟨n, hn, rfl⟩ := hd
  refine seq_ownLc (e := fun n : Nat => D.int (.ofNat n)) (T := fun n => 1 ≤ n ∧ n < 13) (ds := nts (List.range n)) ?_ (by rw [List.length_map, List.length_range]; omega) (fun x hx => ?_) fun sizes hsl hs => ?_
  · exact rng_gDs rfl (by omega)
  · exact ⟨_, by rw [kName_eq]; rfl, fun Q hQ => call_W rfl (size_spec fun n h1 h2 => hQ n ⟨h1, h2⟩)⟩
  rw [List.length_map, List.length_range] at hsl
  refine seq_for (e := fun n : Nat => D.int (.ofNat n)) (xs := [0, 1, 0]) (fun _ ρ => ∃ s8, ρ = lR (lts.map Lt.L) [] (.own (lts.map fun l => .lst (rows (reaches l.gr l.be)))) s4 s5 (.val (.int (.ofNat n))) (.own (nts sizes)) s8 .un .un .un) (by kernel_rfl) ⟨_, rfl⟩ (fun pre t post ρ ha hI => ?_) fun ρ' hI => ?_
  · obtain ⟨s8, rfl⟩ := hI
    have ht : t < 2 := by
      have : t ∈ [0, 1, 0] := by rw [ha]; simp
      simp at this
      omega
    exact ⟨_, _, by rw [kName_eq]; rfl, m_ifF (turn_at hl hs (by omega) ht), _, rfl⟩
  obtain ⟨s8, rfl⟩ := hI
  refine seq_appT (ds := nts sizes) rfl (by rw [List.length_map]; omega) (T := fun d => ∃ k : Nat, (1 ≤ k ∧ k < 13) ∧ d = .int (.ofNat k)) (fun Q hQ => call_W rfl (size_spec fun n h1 h2 => hQ _ ⟨n, ⟨h1, h2⟩, rfl⟩)) fun d hd => ?_
  obtain ⟨k, hk, rfl⟩ := hd
  have eC : nts sizes ++ [D.int (.ofNat k)] = nts (sizes ++ [k]) := by
    unfold nts
    rw [List.map_append]
    rfl
  rw [eC]
  have hs2 : ∀ x ∈ sizes ++ [k], 1 ≤ x ∧ x < 13 := fun x hx => by
    rcases List.mem_append.mp hx with h | h
    · exact hs x h
    · rw [List.mem_singleton] at h; subst h; exact hk
  refine seq_for (e := fun n : Nat => D.int (.ofNat n)) (xs := [0, 1]) (fun _ ρ => ∃ s8, ρ = lR (lts.map Lt.L) [] (.own (lts.map fun l => .lst (rows (reaches l.gr l.be)))) s4 s5 (.val (.int (.ofNat n))) (.own (nts (sizes ++ [k]))) s8 .un .un .un) (by kernel_rfl) ⟨_, rfl⟩ (fun pre t post ρ ha hI => ?_) fun ρ' hI => ?_
  · obtain ⟨s8, rfl⟩ := hI
    have ht : t < 2 := by
      have : t ∈ [0, 1] := by rw [ha]; simp
      simp at this
      omega
    exact ⟨_, _, by rw [kName_eq]; rfl, m_ifF (turn_at hl hs2 (by rw [List.length_append]; simp; omega) ht), _, rfl⟩
  obtain ⟨s8, rfl⟩ := hI
  refine seq_pool (k := 2) rfl ?_
  refine seq_setW (T := fun d => ∃ n : Nat, n ≤ 4 ∧ d = .int (.ofNat n)) (fun Q hQ => few_spec (k := 8) (xs := [.int 2, .int 3, .int 4, .int 1, .int 3, .int 0, .int 4, .int 2]) (by kernel_rfl) rfl rfl (by decide) (by decide) ?_) fun d hd => ?_
  · simp only [List.forall_mem_cons]
    exact ⟨hQ _ ⟨2, by decide, rfl⟩, hQ _ ⟨3, by decide, rfl⟩, hQ _ ⟨4, by decide, rfl⟩, hQ _ ⟨1, by decide, rfl⟩, hQ _ ⟨3, by decide, rfl⟩, hQ _ ⟨0, by decide, rfl⟩, hQ _ ⟨4, by decide, rfl⟩, hQ _ ⟨2, by decide, rfl⟩, fun _ z => nomatch z⟩
  obtain ⟨m, hm, rfl⟩ := hd
  refine seq_setLc (e := eL) (T := LotOk) (ds := nts (List.range m)) ?_ (by rw [List.length_map, List.length_range]; omega) (fun x hx => ?_) fun lots hll hlo => ?_
  · exact rng_gDs rfl (by omega)
  · exact ⟨_, by rw [kName_eq]; rfl, fun Q hQ => call_W rfl (lot_spec hQ)⟩
  rw [List.length_map, List.length_range] at hll
  have rl : fRepr [.lst (lots.map eL)] = some (.str (D.lst (lots.map eL)).py.shown) := by
    refine repr_lstS (n := 2) (k := 2 + (75 + 2) * (lots.map eL).length) (Shw.lst fun d hd => ?_) (by decide) (by rw [List.length_map]; omega)
    obtain ⟨p, hp, rfl⟩ := List.mem_map.mp hd
    obtain ⟨b, l⟩ := p
    have h1 := hlo _ hp
    have h2 : l.length ≤ 12 := h1.1
    have h3 := Shw.nts (l := l) fun x hx => by have := h1.2 x hx; omega
    have h4 : (nts l).length ≤ 12 := by rw [List.length_map]; exact h2
    cases b
    · exact (Shw.lst h3).mono (Nat.le_refl _) (by omega)
    · exact (Shw.tup h3).mono (Nat.le_refl _) (by omega)
  have rj := repr_tup (l := jn lots) (fun x hx => jn_lt hx) (by have := jn_len lots; omega)
  refine seq_set (d := .str (D.lst (lots.map eL)).py.shown) (gDs_1 rfl rl) ?_
  refine seq_set (d := .tup (nts (jn lots))) ?_ ?_
  · refine tup_gDs ?_
    refine gLc_map (e := fun n : Nat => D.int (.ofNat n)) (h := fun n => .int (.ofNat n)) (xs := List.range' 1 12) rng2_gDs (by rw [List.length_range']; exact le_top (by decide)) fun x hx => ⟨_, by rw [kName_eq]; rfl, ?_, fun _ => rfl⟩
    rw [← len_pos]
    refine test_bin (a := .int (.ofNat (lots.filter fun p => p.2.contains x).length)) ?_ rfl (gt0 _)
    refine len_filter (e := eL) (h := eL) (xs := lots) rfl (by omega) fun p hp => ⟨_, by rw [kName_eq]; rfl, ?_, fun _ => rfl⟩
    refine test_bin (a := .int (.ofNat x)) (c := eL p) rfl rfl ?_
    obtain ⟨b, l⟩ := p
    cases b
    · exact in_lst false x l
    · exact in_tup false x l
  refine end_ret (d := .bl true) ?_ (hP _ rfl)
  have e1 := bin_at (f := fEq) (gDs_1 (gDs_1 (ρ := (lR (lts.map Lt.L) [] (.own (lts.map fun l => .lst (rows (reaches l.gr l.be)))) s4 s5 (.val (.int (.ofNat m))) (.own (nts (sizes ++ [k]))) s8 (.val (.lst (lots.map eL))) (.val (.str (D.lst (lots.map eL)).py.shown)) (.val (.tup (nts (jn lots)))))) (g0 := gVar 9) rfl (law_joined (by omega) hlo)) rj) (gDs_1 (g0 := gVar 11) rfl rj) (Dl.eq_str _)
  unfold gAndV
  refine (congrArg (fun o => Option.bind o _) (test_at e1)).trans ?_
  show gBin fEq _ _ _ = _
  exact bin_at (gDs_1 rfl rl) rfl (Dl.eq_str _)
end K40
set_option maxRecDepth 100000
set_option maxHeartbeats 0
namespace K40
open PySem PySem.Spec PyProof.Rows L2 Dl
abbrev qq : Program := PySem.W.view RR.prog [0, 41]
abbrev dd : PySem.DefRec := HeadRun.topDef RR.prog 41
theorem walk : PySem.W.WalkO qq loose (PySem.W.XL qq []) hk.says RR.toRowW dd [] fun f vs => PySem.call f vs := by
  refine Att.attach_callB (l := PySem.Challenge.rw_nonames_k40_needless_and_joined_sizes) (n := 63) rfl (by kernel_rfl) fun w s₀ s₁ mg mb fa o pm cd doc a vs ns G Y ho hd hcd hmg0 hobj hints hlen hbits hg => ?_
  obtain ⟨K, KX, c⟩ := Y
  have hmg : mg ("law" : PySem.Str) = some (.ref fa) := by
    have e : dd.name = ("law" : PySem.Str) := by kernel_rfl
    rw [← e]
    exact hmg0
  obtain ⟨fd, T⟩ := txt_of KX G.T.g c
  have efa : fa = fF K 45 := by
    have := hmg.symm.trans T.g_law
    injection this with this
    injection this
  subst efa
  have gb := T.b45
  refine end_run (cs := tfs.map fun p => He.cT K p) KX G.T.g G.T.b G.T.builtins G.T.nolimit hg (fun p hp => ?_) (fun p hp => ?_) (fun p hp => ?_) G.T.bmain hobj hints (Nat.le_trans hlen (by decide)) fun base H KB GB TBs Ht Ha Ev => ?_
  · obtain ⟨x, hx, rfl⟩ := List.mem_map.mp hp
    exact c.empty x hx
  · obtain ⟨x, hx, rfl⟩ := List.mem_map.mp hp
    exact c.out x hx
  · obtain ⟨x, hx, rfl⟩ := List.mem_map.mp hp
    exact PySem.W.codeHd_of_K KX (c.hd x hx)
  · have TB : Tbs base mg (cdF K) (tbF K) := ⟨TBs (He.cT K ("all_groups", none)) (List.mem_map.mpr ⟨_, by simp [tfs], rfl⟩)⟩
    have tabs : LamX.Tabs (clF K).tabs H := fun p hp => by
      have : p = (tbF K 20, (("all_groups" : Str) ++ ".<locals>.") ++ "<lambda>") := by simpa [clF, lamL] using hp
      rcases this with rfl
      · exact LamX.TabS.nil (Ht (He.cT K ("all_groups", none)) (List.mem_map.mpr ⟨_, by simp [tfs], rfl⟩))
    obtain ⟨oc, od, kV, doc', pm', an, cdv, ct, osl, e, lk, hcd'⟩ := T.F45.ex
    have hb := gb s₁ [.ref a] (KX) rfl
    rw [e] at lk hb
    exact LamX.run_ofS (k := 19) lk hcd' sc_law ⟨rfl, by decide, by decide⟩ Ev hb (vs := [V.ref a]) (.cons rfl .nil) rfl fun hr => by
      obtain ⟨t, h, q⟩ := law_body (P := PySem.Challenge.rw_nonames_k40_needless_and_joined_sizes.prog) T TB (cdv := cdv) (A := callerA) (outer := []) (s := s₁) (H := H) (vs := [.ref a]) (Q := fun v _ => v = .bl true) (E := fun _ _ _ => False) hr rfl (scr_start tabs Ha law_true)
      exact ⟨t, h.nox, q⟩
end K40
open PySem PySem.W PyProof.Rows
theorem PySem.Challenge.cw_nonames_k40_needless_and_joined_sizes_holds : PySem.Challenge.rw_nonames_k40_needless_and_joined_sizes.Holds := by
  w_on; o_law
  refine HeadRun.head_imp (r := OpenLaw.row PySem.Challenge.rw_nonames_k40_needless_and_joined_sizes) (q := K40.qq) (H := K40.hk) (ob := K40.ob) (M := 8000) (loose := K40.loose) (d := K40.dd) (kwd := [])
    K40.ob_eq K40.run (by kernel_rfl) (by kernel_rfl) (by kernel_rfl) (by rfl) (by first | assumption | decide +kernel) (by decide +kernel) ⟨rfl, rfl, rfl, rfl, rfl, by decide +kernel⟩ ?hw ?hc
  case hw => w_witness2
  case hc => exact K40.walk
