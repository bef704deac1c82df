import PyProof.Rows.All
import Wide.All
import OpenK.AllK
import Wide.FinOn
import HandS.ForMost
import HandS.TupAny
import HandS.Style
import HandS.Conv
import HandS.Gcd
import HandS.RaiseMore
import HandS.Walk
import KE.GoesEnum
import KE.GoesNew
import HandS.Zip
import HandS.TupMul
import HandS.Wide
import HandS.NoneIn
import HandS.IsInst
import HandS.Strs
import HandS.SetFor
import KE.KMathG
import HandS.SetBool
import HandS.SortInts
import HandS.DictComp
import HandS.Deep
import PySem.Challenge.RW_windways_k02_ways_and_places_joined
set_option Elab.async false
set_option linter.all false
set_option maxRecDepth 100000
set_option maxHeartbeats 4000000
/-! A layer of pure data over the hand layer: what a def does is a Lean function of data and of a store of lists. -/
namespace MS
open PySem PySem.Spec PyProof.Rows L2

/-- a datum: lists stand in a store, tuples are plain data -/
inductive D where
  | non | bl (b : Bool) | int (i : Int) | str (x : Str) | tup (ds : List D) | lr (n : Nat)
/-- what stands in the store: a list, a list that nobody changes, a dict by ints and texts, a dict by tuples of these -/
inductive MO where
  | lst (ds : List D) | fz (ds : List D) | dk (kvs : List (Key × D)) | dt (kvs : List (List Key × D))
/-- it may change -/
def MO.mut : MO → Bool
  | .fz _ => false
  | _ => true
/-- a heap's thing that may change -/
inductive Mt : HO → Prop
  | lst (xs : List V) : Mt (.lst xs)
  | dk (kvs : List (Key × V)) : Mt (.dK kvs)
  | dt (kvs : List (List Key × V)) : Mt (.dT kvs)
abbrev Store := List MO
abbrev Ev := List (Option D)

section rep
variable (K : PySem.W.Frag) (H : Hp) (μ : List Addr)
/-- a tuple of the heap's own -/
def OwnT (_K : PySem.W.Frag) (H : Hp) (a : Addr) (xs : List V) : Prop := H a = some (.tup xs)
mutual
inductive Rp : V → D → Prop
  | non : Rp .non .non
  | bl (b : Bool) : Rp (.bl b) (.bl b)
  | int (i : Int) : Rp (.int i) (.int i)
  | str (x : Str) : Rp (.str x) (.str x)
  | tup {a : Addr} {xs : List V} {ds : List D} : OwnT K H a xs → RpA xs ds → Rp (.ref a) (.tup ds)
  | lr {a : Addr} {n : Nat} : μ[n]? = some a → Rp (.ref a) (.lr n)
inductive RpA : List V → List D → Prop
  | nil : RpA [] []
  | cons {v : V} {vs : List V} {d : D} {ds : List D} : Rp v d → RpA vs ds → RpA (v :: vs) (d :: ds)
end
theorem sq {a : Addr} {xs : List V} (h : H a = some (.tup xs)) : SqT K H a xs := .inl (.inl h)
/-- the heap grew: tuples and locked things stand -/
structure Grow (H H' : Hp) (μ μ' : List Addr) : Prop where
  tups : ∀ a xs, H a = some (.tup xs) → H' a = some (.tup xs)
  frzs : ∀ a o u, H a = some (.frz o u) → H' a = some (.frz o u)
  exts : ∀ a φ, H a = some (.ext φ) → H' a = some (.ext φ)
  pre : μ <+: μ'
/-- a list that nobody changes: locked, or of the written part -/
def FzL (a : Addr) (xs : List V) : Prop :=
  (∃ o, H a = some (.frz o (.lst xs))) ∨ ∃ (o : Obj) (its : Array Value) (n : Nat), K.lookup a = some o ∧ o.cls = .type "list" ∧ o.dict = none ∧ o.data = .seq its n ∧ its.size ≤ sizeLine ∧ Vals xs its.toList
/-- entries: the same keys, the values likewise -/
def RpK {κ : Type} (kws : List (κ × V)) (kvs : List (κ × D)) : Prop := kws.map (·.1) = kvs.map (·.1) ∧ RpA K H μ (kws.map (·.2)) (kvs.map (·.2))
def MoR : MO → Addr → Prop
  | .lst ds, a => ∃ vs, H a = some (.lst vs) ∧ RpA K H μ vs ds
  | .fz ds, a => ∃ vs, FzL K H a vs ∧ RpA K H μ vs ds
  | .dk kvs, a => ∃ kws, H a = some (.dK kws) ∧ RpK K H μ kws kvs
  | .dt kvs, a => ∃ kws, H a = some (.dT kws) ∧ RpK K H μ kws kvs
/-- the store is in the heap -/
structure StR (S : Store) : Prop where
  len : μ.length = S.length
  nd : ∀ (n m : Nat) (a : Addr) (x y : MO), S[n]? = some x → S[m]? = some y → x.mut = true → y.mut = true → μ[n]? = some a → μ[m]? = some a → n = m
  at_ : ∀ (n : Nat) (mo : MO) (a : Addr), S[n]? = some mo → μ[n]? = some a → MoR K H μ mo a
/-- the slots are in the frame -/
structure Sim (σ : L2.St) (ρ : Ev) (S : Store) : Prop where
  st : StR K H μ S
  len : ρ.length = σ.length
  sl : ∀ (i : Nat) (d : D), ρ[i]? = some (some d) → ∃ v, σ[i]? = some (some v) ∧ Rp K H μ v d
end rep

section
variable {K : PySem.W.Frag} {H H' H'' : Hp} {μ μ' μ'' : List Addr}
theorem Grow.refl : Grow H H μ μ := ⟨fun _ _ h => h, fun _ _ _ h => h, fun _ _ h => h, List.prefix_refl _⟩
theorem Grow.trans (a : Grow H H' μ μ') (b : Grow H' H'' μ' μ'') : Grow H H'' μ μ'' :=
  ⟨fun _ _ h => b.tups _ _ (a.tups _ _ h), fun _ _ _ h => b.frzs _ _ _ (a.frzs _ _ _ h), fun _ _ h => b.exts _ _ (a.exts _ _ h), a.pre.trans b.pre⟩
theorem Grow.sqT (g : Grow H H' μ μ') {a : Addr} {xs : List V} (h : SqT K H a xs) : SqT K H' a xs := by
  rcases h with (h | ⟨o, h⟩) | h
  · exact .inl (.inl (g.tups _ _ h))
  · exact .inl (.inr ⟨o, g.frzs _ _ _ h⟩)
  · exact .inr h
mutual
theorem Rp.grow (g : Grow H H' μ μ') : ∀ {d : D} {v : V}, Rp K H μ v d → Rp K H' μ' v d
  | .non, _, h => by cases h; exact .non
  | .bl _, _, h => by cases h; exact .bl _
  | .int _, _, h => by cases h; exact .int _
  | .str _, _, h => by cases h; exact .str _
  | .tup _, _, h => by
    cases h with
    | tup h1 h2 => exact .tup (g.tups _ _ h1) (RpA.grow g h2)
  | .lr _, _, h => by
    cases h with
    | lr h1 =>
      obtain ⟨t, e⟩ := g.pre
      exact .lr (by rw [← e, List.getElem?_append_left (List.getElem?_eq_some_iff.mp h1).1]; exact h1)
theorem RpA.grow (g : Grow H H' μ μ') : ∀ {ds : List D} {vs : List V}, RpA K H μ vs ds → RpA K H' μ' vs ds
  | [], _, h => by cases h; exact .nil
  | _ :: _, _, h => by
    cases h with
    | cons h1 h2 => exact .cons (Rp.grow g h1) (RpA.grow g h2)
end
theorem RpA.length : ∀ {vs : List V} {ds : List D}, RpA K H μ vs ds → vs.length = ds.length
  | _, [], h => by cases h; rfl
  | _, _ :: _, h => by
    cases h with
    | cons _ h2 => rw [List.length_cons, List.length_cons, RpA.length h2]
theorem RpA.get : ∀ {vs : List V} {ds : List D} {i : Nat} {d : D}, RpA K H μ vs ds → ds[i]? = some d → ∃ v, vs[i]? = some v ∧ Rp K H μ v d
  | _, [], i, d, h, e => by simp at e
  | _, _ :: _, 0, d, h, e => by
    cases h with
    | cons h1 _ => simp at e; subst e; exact ⟨_, rfl, h1⟩
  | _, _ :: _, i + 1, d, h, e => by
    cases h with
    | cons _ h2 =>
      obtain ⟨v, h3, h4⟩ := RpA.get (i := i) h2 (by simpa using e)
      exact ⟨v, by simpa using h3, h4⟩
theorem RpA.getV : ∀ {vs : List V} {ds : List D} {i : Nat} {v : V}, RpA K H μ vs ds → vs[i]? = some v → ∃ d, ds[i]? = some d ∧ Rp K H μ v d := fun {vs ds i v} h e => by
  have hl := h.length
  have hi := (List.getElem?_eq_some_iff.mp e).1
  have hd : ds[i]? = some ds[i] := List.getElem?_eq_getElem (by omega)
  obtain ⟨v', h1, h2⟩ := h.get hd
  rw [e] at h1; cases h1
  exact ⟨_, hd, h2⟩
theorem RpA.append : ∀ {xs ys : List V} {ds es : List D}, RpA K H μ xs ds → RpA K H μ ys es → RpA K H μ (xs ++ ys) (ds ++ es)
  | _, _, [], _, h, h' => by cases h; exact h'
  | _, _, _ :: _, _, h, h' => by
    cases h with
    | cons h1 h2 => exact .cons h1 (RpA.append h2 h')
theorem RpA.take : ∀ {xs : List V} {ds : List D} (n : Nat), RpA K H μ xs ds → RpA K H μ (xs.take n) (ds.take n)
  | _, _, 0, _ => .nil
  | _, [], _ + 1, h => by cases h; exact .nil
  | _, _ :: _, n + 1, h => by
    cases h with
    | cons h1 h2 => exact .cons h1 (RpA.take n h2)
theorem RpA.drop : ∀ {xs : List V} {ds : List D} (n : Nat), RpA K H μ xs ds → RpA K H μ (xs.drop n) (ds.drop n)
  | _, _, 0, h => h
  | _, [], _ + 1, h => by cases h; exact .nil
  | _, _ :: _, n + 1, h => by
    cases h with
    | cons _ h2 => exact RpA.drop n h2
theorem RpA.set {v : V} {d : D} (r : Rp K H μ v d) : ∀ {xs : List V} {ds : List D} (n : Nat), RpA K H μ xs ds → RpA K H μ (xs.set n v) (ds.set n d)
  | _, [], _, h => by cases h; exact .nil
  | _, _ :: _, 0, h => by
    cases h with
    | cons _ h2 => exact .cons r h2
  | _, _ :: _, n + 1, h => by
    cases h with
    | cons h1 h2 => exact .cons h1 (RpA.set r n h2)
theorem RpA.reverse : ∀ {xs : List V} {ds : List D}, RpA K H μ xs ds → RpA K H μ xs.reverse ds.reverse
  | _, [], h => by cases h; exact .nil
  | _, _ :: _, h => by
    cases h with
    | cons h1 h2 => rw [List.reverse_cons, List.reverse_cons]; exact (RpA.reverse h2).append (.cons h1 .nil)
theorem RpA.ints : ∀ {ns : List Int}, RpA K H μ (ns.map V.int) (ns.map D.int)
  | [] => .nil
  | _ :: _ => .cons (.int _) RpA.ints
theorem Grow.tup (g : Grow H H' μ μ') {a : Addr} {xs : List V} (h : H a = some (.tup xs)) : H' a = some (.tup xs) := g.tups _ _ h

/-- a new thing at p -/
theorem Grow.new {p : Addr} {o : HO} (h : H p = none) : Grow H (upd H p o) μ μ :=
  ⟨fun a xs e => by rw [upd_ne (ne_of_none e h)]; exact e, fun a ob u e => by rw [upd_ne (ne_of_none e h)]; exact e, fun a φ e => by rw [upd_ne (ne_of_none e h)]; exact e, List.prefix_refl _⟩
theorem Grow.newL {p : Addr} {o : HO} (h : H p = none) : Grow H (upd H p o) μ (μ ++ [p]) :=
  ⟨(Grow.new (μ := μ) h).tups, (Grow.new (μ := μ) h).frzs, (Grow.new (μ := μ) h).exts, List.prefix_append _ _⟩
/-- a list changed at a -/
theorem Grow.wr {a : Addr} {xs : List V} {o : HO} (h : H a = some (.lst xs)) : Grow H (upd H a o) μ μ :=
  ⟨fun b ys e => by rw [upd_ne (ne_of e h (by intro z; cases z))]; exact e, fun b ob u e => by rw [upd_ne (ne_of e h (by intro z; cases z))]; exact e, fun b φ e => by rw [upd_ne (ne_of e h (by intro z; cases z))]; exact e, List.prefix_refl _⟩

theorem FzL.sqL {a : Addr} {xs : List V} (h : FzL K H a xs) : SqL K H a xs := by
  rcases h with ⟨o, h⟩ | h
  · exact .inl (.inr ⟨o, h⟩)
  · exact .inr h
theorem FzL.grow {a : Addr} {xs : List V} (g : Grow H H' μ μ') (h : FzL K H a xs) : FzL K H' a xs := by
  rcases h with ⟨o, h⟩ | h
  · exact .inl ⟨o, g.frzs _ _ _ h⟩
  · exact .inr h
theorem RpK.grow {κ : Type} {kws : List (κ × V)} {kvs : List (κ × D)} (g : Grow H H' μ μ') (h : RpK K H μ kws kvs) : RpK K H' μ' kws kvs := ⟨h.1, h.2.grow g⟩
theorem MoR.grow {mo : MO} {a : Addr} (g : Grow H H' μ μ') (h : MoR K H μ mo a) (k : ∀ o, Mt o → H a = some o → H' a = some o) : MoR K H' μ' mo a := by
  cases mo with
  | lst ds => obtain ⟨vs, h1, h2⟩ := h; exact ⟨vs, k _ (.lst _) h1, h2.grow g⟩
  | fz ds => obtain ⟨vs, h1, h2⟩ := h; exact ⟨vs, h1.grow g, h2.grow g⟩
  | dk kvs => obtain ⟨kws, h1, h2⟩ := h; exact ⟨kws, k _ (.dk _) h1, h2.grow g⟩
  | dt kvs => obtain ⟨kws, h1, h2⟩ := h; exact ⟨kws, k _ (.dt _) h1, h2.grow g⟩
/-- what may change stands in the heap as such -/
theorem MoR.mt {mo : MO} {a : Addr} (h : MoR K H μ mo a) (m : mo.mut = true) : ∃ o, Mt o ∧ H a = some o := by
  cases mo with
  | lst ds => obtain ⟨vs, h1, _⟩ := h; exact ⟨_, .lst _, h1⟩
  | fz ds => cases m
  | dk kvs => obtain ⟨kws, h1, _⟩ := h; exact ⟨_, .dk _, h1⟩
  | dt kvs => obtain ⟨kws, h1, _⟩ := h; exact ⟨_, .dt _, h1⟩
theorem StR.grow {S : Store} (s : StR K H μ S) (g : Grow H H' μ μ) (k : ∀ a o, Mt o → H a = some o → H' a = some o) : StR K H' μ S :=
  ⟨s.len, s.nd, fun n mo a e1 e2 => (s.at_ n mo a e1 e2).grow g fun o => k a o⟩
/-- a new thing that is no list of the store -/
theorem StR.new {S : Store} {p : Addr} {o : HO} (s : StR K H μ S) (h : H p = none) : StR K (upd H p o) μ S :=
  s.grow (.new h) fun a u _ e => by rw [upd_ne (ne_of_none e h)]; exact e
/-- a new thing of the store -/
theorem StR.newM {S : Store} {p : Addr} {o : HO} {y : MO} (s : StR K H μ S) (h : H p = none) (r : MoR K (upd H p o) (μ ++ [p]) y p) : StR K (upd H p o) (μ ++ [p]) (S ++ [y]) := by
  have g : Grow H (upd H p o) μ (μ ++ [p]) := .newL h
  have old : ∀ {n : Nat} {mo : MO} {a : Addr}, (S ++ [y])[n]? = some mo → (μ ++ [p])[n]? = some a → (n < S.length ∧ S[n]? = some mo ∧ μ[n]? = some a) ∨ (n = S.length ∧ mo = y ∧ a = p) := fun {n mo a} e1 e2 => by
    by_cases hn : n < S.length
    · rw [List.getElem?_append_left hn] at e1
      rw [List.getElem?_append_left (by rw [s.len]; exact hn)] at e2
      exact .inl ⟨hn, e1, e2⟩
    · have hl := (List.getElem?_eq_some_iff.mp e1).1
      rw [List.length_append, List.length_singleton] at hl
      have hn' : n = S.length := by omega
      subst hn'
      rw [List.getElem?_concat_length] at e1
      rw [← s.len, List.getElem?_concat_length] at e2
      cases e1; cases e2
      exact .inr ⟨rfl, rfl, rfl⟩
  have notp : ∀ {n : Nat} {x : MO}, S[n]? = some x → x.mut = true → μ[n]? = some p → False := fun {n x} e1 m e2 => by
    obtain ⟨u, _, q⟩ := (s.at_ n _ p e1 e2).mt m
    rw [h] at q; cases q
  refine ⟨by rw [List.length_append, List.length_append, s.len]; rfl, fun n m a x z e1 e2 m1 m2 e3 e4 => ?_, fun n mo a e1 e2 => ?_⟩
  · rcases old e1 e3 with ⟨h1, h2, h3⟩ | ⟨h1, h2, h3⟩
    · rcases old e2 e4 with ⟨h4, h5, h6⟩ | ⟨h4, h5, h6⟩
      · exact s.nd n m a _ _ h2 h5 m1 m2 h3 h6
      · subst h6; exact (notp h2 m1 h3).elim
    · rcases old e2 e4 with ⟨h4, h5, h6⟩ | ⟨h4, h5, h6⟩
      · subst h3; exact (notp h5 m2 h6).elim
      · rw [h1, h4]
  · rcases old e1 e2 with ⟨h1, h2, h3⟩ | ⟨h1, h2, h3⟩
    · exact (s.at_ n mo a h2 h3).grow g fun u _ e => by rw [upd_ne (ne_of_none e h)]; exact e
    · subst h2; subst h3
      exact r
/-- a new list -/
theorem StR.newL {S : Store} {p : Addr} {vs : List V} {ds : List D} (s : StR K H μ S) (h : H p = none) (r : RpA K H μ vs ds) : StR K (upd H p (.lst vs)) (μ ++ [p]) (S ++ [.lst ds]) :=
  s.newM h ⟨vs, upd_same, r.grow (.newL h)⟩
/-- a thing that may change, changed at a -/
theorem Grow.wrM {a : Addr} {o u : HO} (m : Mt o) (h : H a = some o) : Grow H (upd H a u) μ μ :=
  ⟨fun b ys e => by rw [upd_ne (ne_of e h (by intro z; subst z; cases m))]; exact e, fun b ob v e => by rw [upd_ne (ne_of e h (by intro z; subst z; cases m))]; exact e, fun b φ e => by rw [upd_ne (ne_of e h (by intro z; subst z; cases m))]; exact e, List.prefix_refl _⟩
/-- a thing of the store changed -/
theorem StR.wrM {S : Store} {n : Nat} {a : Addr} {x y : MO} {u : HO} (s : StR K H μ S) (e1 : S[n]? = some x) (mx : x.mut = true) (e2 : μ[n]? = some a) (r : MoR K (upd H a u) μ y a) : StR K (upd H a u) μ (S.set n y) := by
  obtain ⟨o, mo0, h0⟩ := (s.at_ n _ a e1 e2).mt mx
  have g : Grow H (upd H a u) μ μ := .wrM mo0 h0
  have hn : n < S.length := (List.getElem?_eq_some_iff.mp e1).1
  have low : ∀ {m : Nat} {z : MO}, (S.set n y)[m]? = some z → z.mut = true → ∃ z', S[m]? = some z' ∧ z'.mut = true := fun {m z} e mz => by
    by_cases hm : n = m
    · subst hm; exact ⟨x, e1, mx⟩
    · rw [List.getElem?_set_ne hm] at e; exact ⟨z, e, mz⟩
  refine ⟨by rw [List.length_set]; exact s.len, fun k m b z t q1 q2 m1 m2 q3 q4 => ?_, fun m mo b q1 q2 => ?_⟩
  · obtain ⟨z', q1, m1⟩ := low q1 m1
    obtain ⟨t', q2, m2⟩ := low q2 m2
    exact s.nd k m b _ _ q1 q2 m1 m2 q3 q4
  · by_cases hm : n = m
    · subst hm
      rw [List.getElem?_set_self hn] at q1
      rw [e2] at q2
      cases q1; cases q2
      exact r
    · rw [List.getElem?_set_ne hm] at q1
      have q := s.at_ m mo b q1 q2
      by_cases mm : mo.mut = true
      · have hb : b ≠ a := fun z => by subst z; exact hm (s.nd n m b _ _ e1 q1 mx mm e2 q2)
        exact q.grow g fun o' _ e => by rw [upd_ne hb]; exact e
      · cases mo with
        | fz fs => obtain ⟨ws, h1, h2⟩ := q; exact ⟨ws, h1.grow g, h2.grow g⟩
        | _ => exact absurd rfl mm
/-- a list of the store changed -/
theorem StR.wr {S : Store} {n : Nat} {a : Addr} {ds es : List D} {vs : List V} (s : StR K H μ S) (e1 : S[n]? = some (.lst ds)) (e2 : μ[n]? = some a) (r : RpA K H μ vs es) : StR K (upd H a (.lst vs)) μ (S.set n (.lst es)) := by
  obtain ⟨vs0, h0, _⟩ := s.at_ n _ a e1 e2
  exact s.wrM e1 rfl e2 ⟨vs, upd_same, r.grow (.wr h0)⟩
/-- a handle read -/
theorem StR.get {S : Store} {n : Nat} {mo : MO} (s : StR K H μ S) (e : S[n]? = some mo) : ∃ a, μ[n]? = some a ∧ MoR K H μ mo a := by
  have hn : n < μ.length := by rw [s.len]; exact (List.getElem?_eq_some_iff.mp e).1
  exact ⟨μ[n], List.getElem?_eq_getElem hn, s.at_ n mo _ e (List.getElem?_eq_getElem hn)⟩
theorem Sim.grow {σ : L2.St} {ρ : Ev} {S S' : Store} (s : Sim K H μ σ ρ S) (g : Grow H H' μ μ') (t : StR K H' μ' S') : Sim K H' μ' σ ρ S' :=
  ⟨t, s.len, fun i d e => let ⟨v, h1, h2⟩ := s.sl i d e; ⟨v, h1, h2.grow g⟩⟩
theorem Sim.set {σ : L2.St} {ρ : Ev} {S : Store} {v : V} {d : D} (s : Sim K H μ σ ρ S) (i : Nat) (r : Rp K H μ v d) : Sim K H μ (σ.set i (some v)) (ρ.set i (some d)) S :=
  ⟨s.st, by rw [List.length_set, List.length_set]; exact s.len, fun j e q => by
    by_cases h : i = j
    · subst h
      have hl : i < ρ.length := by
        have := (List.getElem?_eq_some_iff.mp q).1
        rwa [List.length_set] at this
      rw [List.getElem?_set_self hl] at q
      cases q
      exact ⟨v, List.getElem?_set_self (by rw [← s.len]; exact hl), r⟩
    · rw [List.getElem?_set_ne h] at q ⊢
      exact s.sl j e q⟩
end

/-! ### readings that are functions -/
abbrev MExp := Ev → Store → Option (D × Store)
abbrev MTst := Ev → Store → Option (Bool × Store)
abbrev MArg := Ev → Store → Option (List D × Store)
inductive Fl where
  | nx | bk | ct | rt (d : D)
abbrev MStm := Ev → Store → Option (Fl × Ev × Store)
abbrev MTg := D → Ev → Store → Option (Ev × Store)
section
variable (K : PySem.W.Frag)
/-- what follows a value -/
def Aft (H : Hp) (μ : List Addr) (d : D) (S : Store) (Q : VK) : Prop := ∀ v H' μ', Grow H H' μ μ' → StR K H' μ' S → Rp K H' μ' v d → Q v H'
def tE (m : MExp) : TE := fun σ H Q => ∃ ρ S μ d S', Sim K H μ σ ρ S ∧ m ρ S = some (d, S') ∧ Aft K H μ d S' Q
def tT (m : MTst) : TT := fun σ H Q => ∃ ρ S μ b S', Sim K H μ σ ρ S ∧ m ρ S = some (b, S') ∧ ∀ H' μ', Grow H H' μ μ' → StR K H' μ' S' → Q b H'
def tA (m : MArg) : TA := fun σ H Q => ∃ ρ S μ ds S', Sim K H μ σ ρ S ∧ m ρ S = some (ds, S') ∧ ∀ vs H' μ', Grow H H' μ μ' → StR K H' μ' S' → RpA K H' μ' vs ds → Q vs H'
/-- what is wanted behind a statement that flows so -/
def EndOf (D_ : Ends) : Fl → L2.St → Hp → List Addr → Prop
  | .nx, σ, H, _ => D_.nx σ H
  | .bk, σ, H, _ => D_.bk σ H
  | .ct, σ, H, _ => D_.ct σ H
  | .rt d, _, H, μ => ∀ v, Rp K H μ v d → D_.rt v H
def tS (m : MStm) : TS := fun D_ σ H => ∃ ρ S μ f ρ' S', Sim K H μ σ ρ S ∧ m ρ S = some (f, ρ', S') ∧ ∀ σ' H' μ', Grow H H' μ μ' → Sim K H' μ' σ' ρ' S' → EndOf K D_ f σ' H' μ'
def tG (m : MTg) : TG := fun v σ H Q => ∃ d ρ S μ ρ' S', Sim K H μ σ ρ S ∧ Rp K H μ v d ∧ m d ρ S = some (ρ', S') ∧ ∀ σ' H' μ', Grow H H' μ μ' → Sim K H' μ' σ' ρ' S' → Q σ' H'
end
structure ME (X : Cx) (e : Expr) (m : MExp) : Prop where
  pe : PE X e (tE X.K m)
structure MT (X : Cx) (e : Expr) (m : MTst) : Prop where
  pt : PT X e (tT X.K m)
structure MW (X : Cx) (e : Expr) (m : MTst) : Prop where
  pw : PW X e (tT X.K m)
structure MA (X : Cx) (es : List Expr) (m : MArg) : Prop where
  pa : PA X es (tA X.K m)
structure MS_ (X : Cx) (st : Stmt) (m : MStm) : Prop where
  ps : PS X st (tS X.K m)
structure MSs (X : Cx) (st : List Stmt) (m : MStm) : Prop where
  pss : PSs X st (tS X.K m)
structure MG (X : Cx) (tg : Expr) (m : MTg) : Prop where
  pg : PG X tg (tG X.K m)
theorem PE.imp {X : Cx} {e : Expr} {t t' : TE} (h : PE X e t) (i : ∀ σ H Q, t' σ H Q → t σ H Q) : PE X e t' := ⟨fun pins s σ H Q I q => h.run pins s σ H Q I (i _ _ _ q)⟩
theorem PT.imp {X : Cx} {e : Expr} {t t' : TT} (h : PT X e t) (i : ∀ σ H Q, t' σ H Q → t σ H Q) : PT X e t' := ⟨fun pins s σ H Q I q => h.run pins s σ H Q I (i _ _ _ q)⟩
theorem PW.imp {X : Cx} {e : Expr} {t t' : TT} (h : PW X e t) (i : ∀ σ H Q, t' σ H Q → t σ H Q) : PW X e t' := ⟨fun w pins s σ H Q I q => h.run w pins s σ H Q I (i _ _ _ q)⟩
theorem PA.imp {X : Cx} {e : List Expr} {t t' : TA} (h : PA X e t) (i : ∀ σ H Q, t' σ H Q → t σ H Q) : PA X e t' := ⟨fun p pins s σ H Q I q => h.run p pins s σ H Q I (i _ _ _ q)⟩
theorem PS.imp {X : Cx} {e : Stmt} {t t' : TS} (h : PS X e t) (i : ∀ D σ H, t' D σ H → t D σ H) : PS X e t' := ⟨fun pins s σ H D I q => h.run pins s σ H D I (i _ _ _ q)⟩
theorem PSs.imp {X : Cx} {e : List Stmt} {t t' : TS} (h : PSs X e t) (i : ∀ D σ H, t' D σ H → t D σ H) : PSs X e t' := ⟨fun pins s σ H D I q => h.run pins s σ H D I (i _ _ _ q)⟩
theorem PG.imp {X : Cx} {e : Expr} {t t' : TG} (h : PG X e t) (i : ∀ v σ H Q, t' v σ H Q → t v σ H Q) : PG X e t' := ⟨fun pins s σ H v u Q I r q => h.run pins s σ H v u Q I r (i _ _ _ _ q)⟩

/-! ### names, constants, arguments -/
def mVar (i : Nat) : MExp := fun ρ S => match ρ[i]? with
  | some (some d) => some (d, S)
  | _ => none
def mC (d : D) : MExp := fun _ S => some (d, S)
def mNil : MArg := fun _ S => some ([], S)
def mCons (m : MExp) (r : MArg) : MArg := fun ρ S => (m ρ S).bind fun p => (r ρ p.2).bind fun q => some (p.1 :: q.1, q.2)
section
variable {X : Cx}
theorem me_var {i : Nat} {x : Str} {pos : Pos} (hN : X.N[i]? = some x) (hv : Vis X.env.scope x) (hd : (x == ("__debug__" : Str)) = false := by decide) (hcd : (x == ("__classdict__" : Str)) = false := by decide) : ME X (.Name x pos) (mVar i) :=
  ⟨PE.imp (pe_var hN hv hd hcd) fun σ H Q ⟨ρ, S, μ, d, S', s, e, q⟩ => by
    unfold mVar at e
    split at e
    · rename_i d' h
      cases e
      obtain ⟨v, h1, h2⟩ := s.sl i _ h
      exact ⟨v, h1, q v H μ .refl s.st h2⟩
    · cases e⟩
theorem mv (i : Nat) {x : Str} {pos : Pos} (hN : X.N[i]? = some x := by rfl) (hv : Vis X.env.scope x := by first | exact Or.inl rfl | exact Or.inr (Or.inl rfl) | exact Or.inr (Or.inr rfl)) (hd : (x == ("__debug__" : Str)) = false := by decide)
    (hcd : (x == ("__classdict__" : Str)) = false := by decide) : ME X (.Name x pos) (mVar i) := me_var hN hv hd hcd
theorem me_c {e : Expr} {v : V} {d : D} (h : PE X e (tC v)) (r : ∀ K H μ, Rp K H μ v d) : ME X e (mC d) :=
  ⟨PE.imp h fun σ H Q ⟨ρ, S, μ, d', S', s, e, q⟩ => by cases e; exact q v H μ .refl s.st (r _ _ _)⟩
theorem me_int {i j pos} : ME X (.Constant (.int i) j pos) (mC (.int i)) := me_c pe_int fun _ _ _ => .int _
theorem me_bl {b j pos} : ME X (.Constant (.bool b) j pos) (mC (.bl b)) := me_c pe_bl fun _ _ _ => .bl _
theorem me_non {j pos} : ME X (.Constant .none j pos) (mC .non) := me_c pe_non fun _ _ _ => .non
theorem me_str {x j pos} : ME X (.Constant (.str x) j pos) (mC (.str x)) := me_c pe_str fun _ _ _ => .str _
/-- a module's constant -/
theorem me_globI {x : Str} {i : Int} {t : Tok} {pos : Pos} (hg : Gl X x) (hm : X.mg x = some (.int i t)) (hd : (x == ("__debug__" : Str)) = false := by decide) : ME X (.Name x pos) (mC (.int i)) := me_c (v := .int i) (pe_glob hg hm ⟨t, rfl⟩ hd) fun _ _ _ => .int _
theorem ma_nil : MA X [] mNil := ⟨PA.imp pa_nil fun σ H Q ⟨ρ, S, μ, d, S', s, e, q⟩ => by cases e; exact q [] H μ .refl s.st .nil⟩
theorem ma_cons {e : Expr} {es : List Expr} {m : MExp} {r : MArg} (h : ME X e m) (hr : MA X es r) (hs : starEach (e :: es) X.env = (false, eval e X.env) :: starEach es X.env := by rfl) : MA X (e :: es) (mCons m r) :=
  ⟨PA.imp (pa_cons h.pe hr.pa hs) fun σ H Q ⟨ρ, S, μ, ds, S', s, e, q⟩ => by
    unfold mCons at e
    obtain ⟨⟨d, S1⟩, e1, e⟩ := Option.bind_eq_some_iff.mp e
    obtain ⟨⟨ds', S2⟩, e2, e⟩ := Option.bind_eq_some_iff.mp e
    cases e
    refine ⟨ρ, S, μ, d, S1, s, e1, fun v H1 μ1 g1 s1 r1 => ?_⟩
    refine ⟨ρ, S1, μ1, ds', _, s.grow g1 s1, e2, fun vs H2 μ2 g2 s2 r2 => ?_⟩
    exact q (v :: vs) H2 μ2 (g1.trans g2) s2 (.cons (r1.grow g2) r2)⟩
end
end MS

set_option Elab.async false
set_option linter.all false
set_option maxRecDepth 100000
set_option maxHeartbeats 4000000
namespace MS
open PySem PySem.Spec PyProof.Rows L2

/-! ### two-place operations -/
/-- f of two data, by the store -/
abbrev DOp2 := D → D → Store → Option (D × Store)
abbrev DCall := List D → Store → Option (D × Store)
def rM (K : PySem.W.Frag) (f : DOp2) : R2 := fun x y H Q => ∃ S μ dx dy d S', StR K H μ S ∧ Rp K H μ x dx ∧ Rp K H μ y dy ∧ f dx dy S = some (d, S') ∧ Aft K H μ d S' Q
def rCM (K : PySem.W.Frag) (f : DCall) : List V → Hp → VK → Prop := fun vs H Q => ∃ S μ ds d S', StR K H μ S ∧ RpA K H μ vs ds ∧ f ds S = some (d, S') ∧ Aft K H μ d S' Q
def mBin (f : DOp2) (ma mb : MExp) : MExp := fun ρ S => (ma ρ S).bind fun p => (mb ρ p.2).bind fun q => f p.1 q.1 q.2
def mCall (f : DCall) (m : MArg) : MExp := fun ρ S => (m ρ S).bind fun p => f p.1 p.2
theorem tE_bin {K : PySem.W.Frag} {f : DOp2} {ma mb : MExp} {σ : L2.St} {H : Hp} {Q : VK} (h : tE K (mBin f ma mb) σ H Q) : tOp (rM K f) (tE K ma) (tE K mb) σ H Q := by
  obtain ⟨ρ, S, μ, d, S', s, e, q⟩ := h
  unfold mBin at e
  obtain ⟨⟨d1, S1⟩, e1, e⟩ := Option.bind_eq_some_iff.mp e
  obtain ⟨⟨d2, S2⟩, e2, e⟩ := Option.bind_eq_some_iff.mp e
  refine ⟨ρ, S, μ, d1, S1, s, e1, fun v H1 μ1 g1 s1 r1 => ?_⟩
  refine ⟨ρ, S1, μ1, d2, S2, s.grow g1 s1, e2, fun u H2 μ2 g2 s2 r2 => ?_⟩
  exact ⟨S2, μ2, d1, d2, d, S', s2, r1.grow g2, r2, e, fun v H' μ' g3 => q v H' μ' ((g1.trans g2).trans g3)⟩
theorem tE_call {K : PySem.W.Frag} {f : DCall} {m : MArg} {σ : L2.St} {H : Hp} {Q : VK} (h : tE K (mCall f m) σ H Q) : tA K m σ H fun vs H1 => rCM K f vs H1 Q := by
  obtain ⟨ρ, S, μ, d, S', s, e, q⟩ := h
  unfold mCall at e
  obtain ⟨⟨ds, S1⟩, e1, e⟩ := Option.bind_eq_some_iff.mp e
  exact ⟨ρ, S, μ, ds, S1, s, e1, fun vs H1 μ1 g1 s1 r1 => ⟨S1, μ1, ds, d, S', s1, r1, e, fun v H' μ' g3 => q v H' μ' (g1.trans g3)⟩⟩
section
variable {X : Cx} {a b : Expr} {ma mb : MExp} {f : DOp2} {pos : Pos}
theorem me_op {op : Operator} (ho : OpR X (binaryOp op) (rM X.K f)) (ha : ME X a ma) (hb : ME X b mb) : ME X (.BinOp a op b pos) (mBin f ma mb) :=
  ⟨PE.imp (pe_op ho ha.pe hb.pe) fun _ _ _ h => tE_bin h⟩
theorem me_cmp {op : CmpOp} (ho : OpR X (compareOp op) (rM X.K f)) (ha : ME X a ma) (hb : ME X b mb) (hm : behindInMarks op b = false) : ME X (.Compare a [op] [b] pos) (mBin f ma mb) :=
  ⟨PE.imp (pe_cmpR ho ha.pe hb.pe hm) fun _ _ _ h => tE_bin h⟩
end
theorem OpR.imp {X : Cx} {f : Value → Value → Sem Value} {r r' : R2} (h : OpR X f r) (i : ∀ x y H Q, r' x y H Q → r x y H Q) : OpR X f r' := fun pins s σ H x y v u Q I rx ry q => h pins s σ H x y v u Q I rx ry (i _ _ _ _ q)
theorem CallR.imp {X : Cx} {f : Value} {r r' : List V → Hp → VK → Prop} (h : CallR X f r) (i : ∀ x H Q, r' x H Q → r x H Q) : CallR X f r' := fun pins s σ H xs us Q I rx q => h pins s σ H xs us Q I rx (i _ _ _ q)

/-! ### ends of readings -/
section
variable {K : PySem.W.Frag} {H : Hp} {μ : List Addr} {S : Store} {Q : VK}
theorem Aft.id {v : V} {d : D} (q : Aft K H μ d S Q) (s : StR K H μ S) (r : Rp K H μ v d) : Q v H := q v H μ .refl s r
theorem Aft.tup {p : Addr} {vs : List V} {ds : List D} (q : Aft K H μ (.tup ds) S Q) (s : StR K H μ S) (r : RpA K H μ vs ds) (hp : H p = none) : Q (.ref p) (upd H p (.tup vs)) :=
  q (.ref p) _ μ (.new hp) (s.new hp) (.tup upd_same (r.grow (.new hp)))
theorem Aft.lst {p : Addr} {vs : List V} {ds : List D} (q : Aft K H μ (.lr S.length) (S ++ [.lst ds]) Q) (s : StR K H μ S) (r : RpA K H μ vs ds) (hp : H p = none) : Q (.ref p) (upd H p (.lst vs)) :=
  q (.ref p) _ (μ ++ [p]) (.newL hp) (s.newL hp r) (.lr (by rw [← s.len, List.getElem?_concat_length]))
end

/-! ### lists by handle -/
def lat (S : Store) (n : Nat) : Option (List D) := match S[n]? with
  | some (.lst ds) => some ds
  | some (.fz ds) => some ds
  | _ => none
theorem StR.lat {K : PySem.W.Frag} {H : Hp} {μ : List Addr} {S : Store} {n : Nat} {ds : List D} {v : V} (s : StR K H μ S) (e : lat S n = some ds) (r : Rp K H μ v (.lr n)) : ∃ a vs, v = .ref a ∧ SqL K H a vs ∧ RpA K H μ vs ds := by
  cases r with
  | lr h1 =>
    unfold MS.lat at e
    split at e
    · rename_i es h2
      cases e
      obtain ⟨a, q1, q2⟩ := s.get h2
      rw [h1] at q1; cases q1
      obtain ⟨vs, h3, h4⟩ := q2
      exact ⟨_, vs, rfl, .inl (.inl h3), h4⟩
    · rename_i es h2
      cases e
      obtain ⟨a, q1, q2⟩ := s.get h2
      rw [h1] at q1; cases q1
      obtain ⟨vs, h3, h4⟩ := q2
      exact ⟨_, vs, rfl, h3.sqL, h4⟩
    · cases e
theorem StR.lst {K : PySem.W.Frag} {H : Hp} {μ : List Addr} {S : Store} {n : Nat} {ds : List D} {v : V} (s : StR K H μ S) (e : S[n]? = some (.lst ds)) (r : Rp K H μ v (.lr n)) : ∃ a vs, v = .ref a ∧ μ[n]? = some a ∧ H a = some (.lst vs) ∧ RpA K H μ vs ds := by
  cases r with
  | lr h1 =>
    obtain ⟨a, q1, q2⟩ := s.get e
    rw [h1] at q1; cases q1
    obtain ⟨vs, h3, h4⟩ := q2
    exact ⟨_, vs, rfl, h1, h3, h4⟩
/-- a list that may change -/
def mat (S : Store) (n : Nat) : Option (List D) := match S[n]? with
  | some (.lst ds) => some ds
  | _ => none
theorem mat_eq {S : Store} {n : Nat} {ds : List D} (h : mat S n = some ds) : S[n]? = some (.lst ds) := by
  unfold mat at h
  split at h
  · rename_i e; cases h; exact e
  · cases h
theorem StR.mat {K : PySem.W.Frag} {H : Hp} {μ : List Addr} {S : Store} {n : Nat} {ds : List D} {v : V} (s : StR K H μ S) (e : mat S n = some ds) (r : Rp K H μ v (.lr n)) : ∃ a vs, v = .ref a ∧ μ[n]? = some a ∧ H a = some (.lst vs) ∧ RpA K H μ vs ds := s.lst (mat_eq e) r
/-- the items of a list or a tuple -/
def items (S : Store) : D → Option (List D)
  | .tup ds => some ds
  | .lr n => lat S n
  | _ => none
theorem StR.items {K : PySem.W.Frag} {H : Hp} {μ : List Addr} {S : Store} {d : D} {ds : List D} {v : V} (s : StR K H μ S) (e : items S d = some ds) (r : Rp K H μ v d) : ∃ a vs, v = .ref a ∧ (SqL K H a vs ∨ SqT K H a vs) ∧ RpA K H μ vs ds := by
  cases d with
  | tup es =>
    cases e
    cases r with
    | tup h1 h2 => exact ⟨_, _, rfl, .inr (sq _ _ h1), h2⟩
  | lr n => obtain ⟨a, vs, h1, h2, h3⟩ := s.lat e r; exact ⟨a, vs, h1, .inl h2, h3⟩
  | _ => cases e

theorem StR.itemsO {K : PySem.W.Frag} {H : Hp} {μ : List Addr} {S : Store} {d : D} {ds : List D} {v : V} (s : StR K H μ S) (e : MS.items S d = some ds) (r : Rp K H μ v d) : ∃ a vs, v = .ref a ∧ (SqL K H a vs ∨ (OwnT K H a vs ∧ d = .tup ds)) ∧ RpA K H μ vs ds := by
  cases d with
  | tup es =>
    cases e
    cases r with
    | tup h1 h2 => exact ⟨_, _, rfl, .inr ⟨h1, rfl⟩, h2⟩
  | lr n => obtain ⟨a, vs, h1, h2, h3⟩ := s.lat e r; exact ⟨a, vs, h1, .inl h2, h3⟩
  | _ => cases e

/-! ### arithmetic -/
def szl : Nat := 16777216
theorem szl_le {n : Nat} (h : n ≤ szl) : n ≤ sizeLine := by rw [sizeLine_eq]; exact h
theorem szl_lt {n : Nat} (h : n < szl) : n < sizeLine := by rw [sizeLine_eq]; exact h
def fAdd : DOp2
  | .int i, .int j, S => some (.int (i + j), S)
  | .tup a, .tup b, S => if a.length + b.length ≤ szl then some (.tup (a ++ b), S) else none
  | .lr n, .lr m, S => (mat S n).bind fun a => (mat S m).bind fun b => if a.length + b.length ≤ szl then some (.lr S.length, S ++ [.lst (a ++ b)]) else none
  | _, _, _ => none
def fI (g : Int → Int → Int) : DOp2
  | .int i, .int j, S => some (.int (g i j), S)
  | _, _, _ => none
def fIc (c : Int → Int → Bool) (g : Int → Int → Int) : DOp2
  | .int i, .int j, S => if c i j then some (.int (g i j), S) else none
  | _, _, _ => none
def fCmp (g : Int → Int → Bool) : DOp2
  | .int i, .int j, S => some (.bl (g i j), S)
  | _, _, _ => none
def i64 (i : Int) : Bool := decide (-(2 ^ 64) < i) && decide (i < 2 ^ 64)
def fSub := fI fun i j => i - j
def fMulI := fIc (fun i j => i64 i || i64 j) fun i j => i * j
def fMod := fIc (fun _ j => decide (0 < j)) fun i j => i % j
def fDiv := fIc (fun _ j => decide (0 < j) && decide (j < 1073741824)) fun i j => i / j
def fPow := fIc (fun i j => decide (0 ≤ j) && decide (j ≤ 1000) && i64 i) fun i j => i ^ j.toNat
def fLt := fCmp fun i j => decide (i < j)
def fLe := fCmp fun i j => decide (i ≤ j)
def fGt := fCmp fun i j => decide (j < i)
def fGe := fCmp fun i j => decide (j ≤ i)
/-- a list or tuple times a number -/
def repD (ds : List D) (k : Int) : List D := (List.replicate k.toNat ds).flatten
def fMul : DOp2
  | .int i, .int j, S => if i64 i || i64 j then some (.int (i * j), S) else none
  | .lr n, .int k, S => (mat S n).bind fun a => if -(2 ^ 63) ≤ k ∧ k < 2 ^ 63 ∧ a.length * k.toNat ≤ szl then some (.lr S.length, S ++ [.lst (repD a k)]) else none
  | _, _, _ => none
section
variable {X : Cx}
theorem op_fI {op : Value → Value → Sem Value} {g : Int → Int → Int} (h : OpR X op (rI0 fun i j => .int (g i j))) : OpR X op (rM X.K (fI g)) :=
  OpR.imp h fun x y H Q ⟨S, μ, dx, dy, d, S', s, rx, ry, e, q⟩ => by
    unfold fI at e
    split at e
    · cases e; cases rx; cases ry
      exact ⟨_, _, rfl, rfl, q.id s (.int _)⟩
    · cases e
theorem op_fIc {op : Value → Value → Sem Value} {c : Int → Int → Bool} {C : Int → Int → Prop} {g : Int → Int → Int} (h : OpR X op (rI C fun i j => .int (g i j))) (hc : ∀ i j, c i j = true → C i j) : OpR X op (rM X.K (fIc c g)) :=
  OpR.imp h fun x y H Q ⟨S, μ, dx, dy, d, S', s, rx, ry, e, q⟩ => by
    unfold fIc at e
    split at e
    · cases rx; cases ry
      split at e
      · rename_i h; cases e; exact ⟨_, _, rfl, rfl, hc _ _ h, q.id s (.int _)⟩
      · cases e
    · cases e
theorem op_fCmp {op : Value → Value → Sem Value} {g : Int → Int → Bool} (h : OpR X op (rI0 fun i j => .bl (g i j))) : OpR X op (rM X.K (fCmp g)) :=
  OpR.imp h fun x y H Q ⟨S, μ, dx, dy, d, S', s, rx, ry, e, q⟩ => by
    unfold fCmp at e
    split at e
    · cases e; cases rx; cases ry
      exact ⟨_, _, rfl, rfl, q.id s (.bl _)⟩
    · cases e
theorem i64_iff {i : Int} (h : i64 i = true) : -(2 ^ 64) < i ∧ i < 2 ^ 64 := by
  unfold i64 at h
  rw [Bool.and_eq_true, decide_eq_true_eq, decide_eq_true_eq] at h
  exact h
theorem cmul_of {i j : Int} (h : (i64 i || i64 j) = true) : CMul i j := by
  rw [Bool.or_eq_true] at h
  rcases h with h | h
  · exact .inl (i64_iff h)
  · exact .inr (i64_iff h)
theorem o_sub : OpR X (binaryOp .Sub) (rM X.K fSub) := op_fI op_sub
theorem o_mod : OpR X (binaryOp .Mod) (rM X.K fMod) := op_fIc op_mod fun _ _ h => of_decide_eq_true h
theorem o_div : OpR X (binaryOp .FloorDiv) (rM X.K fDiv) := op_fIc op_fdiv fun _ _ h => by
  rw [Bool.and_eq_true, decide_eq_true_eq, decide_eq_true_eq] at h; exact h
theorem o_pow : OpR X (binaryOp .Pow) (rM X.K fPow) := op_fIc op_pow fun i j h => by
  rw [Bool.and_eq_true, Bool.and_eq_true, decide_eq_true_eq, decide_eq_true_eq] at h
  have h2 := i64_iff h.2
  exact ⟨h.1.1, by omega, by omega⟩
theorem o_lt : OpR X (compareOp .Lt) (rM X.K fLt) := op_fCmp op_lt
theorem o_le : OpR X (compareOp .LtE) (rM X.K fLe) := op_fCmp op_le
theorem o_gt : OpR X (compareOp .Gt) (rM X.K fGt) := op_fCmp op_gt
theorem o_ge : OpR X (compareOp .GtE) (rM X.K fGe) := op_fCmp op_ge
theorem RpA.nil_of {K : PySem.W.Frag} {H : Hp} {μ : List Addr} {vs : List V} {ds : List D} (r : RpA K H μ vs ds) : vs = [] ↔ ds = [] := by
  cases r <;> simp
theorem o_add : OpR X (binaryOp .Add) (rM X.K fAdd) := by
  intro pins s σ H x y v u Q I rx ry ⟨S, μ, dx, dy, d, S', st, px, py, e, q⟩
  unfold fAdd at e
  split at e
  · cases e; cases px; cases py
    exact op_add pins s σ H _ _ v u Q I rx ry ⟨_, _, rfl, rfl, q.id st (.int _)⟩
  · split at e
    · rename_i hz
      cases e
      cases px with
      | tup h1 h2 =>
      cases py with
      | tup h3 h4 =>
      refine op_catA pins s σ H _ _ v u Q I rx ry ⟨_, _, _, _, rfl, rfl, sq _ _ h1, sq _ _ h3, ?_, fun z => ?_, fun z1 z2 => ?_, fun _ _ p hp => q.tup st (h2.append h4) hp⟩
      · rw [h2.length, h4.length]; exact szl_le hz
      · have := h2.nil_of.mp z
        subst this
        exact q.id st (.tup h3 h4)
      · have := h4.nil_of.mp z2
        subst this
        exact q.id st (by rw [List.append_nil]; exact .tup h1 h2)
    · cases e
  · obtain ⟨a, e1, e⟩ := Option.bind_eq_some_iff.mp e
    obtain ⟨b, e2, e⟩ := Option.bind_eq_some_iff.mp e
    split at e
    · rename_i hz
      cases e
      obtain ⟨p1, vs, rfl, _, h1, h2⟩ := st.mat e1 px
      obtain ⟨p2, ws, rfl, _, h3, h4⟩ := st.mat e2 py
      refine op_cat pins s σ H _ _ v u Q I rx ry ⟨_, _, _, _, rfl, rfl, h1, h3, ?_, fun p hp => q.lst st (h2.append h4) hp⟩
      rw [h2.length, h4.length]; exact szl_le hz
    · cases e
  · cases e
theorem RpA.rep {K : PySem.W.Frag} {H : Hp} {μ : List Addr} {vs : List V} {ds : List D} (r : RpA K H μ vs ds) : ∀ k : Nat, RpA K H μ (List.replicate k vs).flatten (List.replicate k ds).flatten
  | 0 => .nil
  | k + 1 => by
    rw [List.replicate_succ, List.replicate_succ, List.flatten_cons, List.flatten_cons]
    exact r.append (RpA.rep r k)
theorem o_mul : OpR X (binaryOp .Mult) (rM X.K fMul) := by
  intro pins s σ H x y v u Q I rx ry ⟨S, μ, dx, dy, d, S', st, px, py, e, q⟩
  unfold fMul at e
  split at e
  · split at e
    · rename_i h
      cases e; cases px; cases py
      exact op_mul pins s σ H _ _ v u Q I rx ry ⟨_, _, rfl, rfl, cmul_of h, q.id st (.int _)⟩
    · cases e
  · obtain ⟨a, e1, e⟩ := Option.bind_eq_some_iff.mp e
    split at e
    · rename_i h
      cases e
      obtain ⟨p1, vs, rfl, _, h1, h2⟩ := st.mat e1 px
      cases py
      refine op_rep pins s σ H _ _ v u Q I rx ry ⟨_, _, _, rfl, rfl, h1, h.1, h.2.1, ?_, fun p hp => q.lst st (h2.rep _) hp⟩
      rw [h2.length]; exact szl_le h.2.2
    · cases e
  · cases e
end

/-! ### plain data of a datum; == -/
def toPy (S : Store) : Nat → D → Option PyData
  | 0, _ => none
  | _ + 1, .non => some .none
  | _ + 1, .bl b => some (.bool b)
  | _ + 1, .int i => some (.int i)
  | _ + 1, .str x => some (.str x)
  | n + 1, .tup ds => (ds.mapM (toPy S n)).map .tuple
  | n + 1, .lr k => (lat S k).bind fun ds => (ds.mapM (toPy S n)).map .list
section
variable {K : PySem.W.Frag} {H : Hp} {μ : List Addr} {S : Store}
theorem dpAll_of {n : Nat} (ih : ∀ (d : D) (v : V) (p : PyData), toPy S n d = some p → Rp K H μ v d → Dp K H v p) : ∀ (ds : List D) (vs : List V) (ps : List PyData), ds.mapM (toPy S n) = some ps → RpA K H μ vs ds → DpAll K H vs ps
  | [], _, _, e, r => by
    cases r
    rw [List.mapM_nil] at e
    cases e
    exact .nil
  | d :: ds, _, _, e, r => by
    cases r with
    | cons r1 r2 =>
      rw [List.mapM_cons] at e
      obtain ⟨p, e1, e⟩ := Option.bind_eq_some_iff.mp e
      obtain ⟨ps, e2, e⟩ := Option.bind_eq_some_iff.mp e
      cases e
      exact .cons (ih _ _ _ e1 r1) (dpAll_of ih ds _ _ e2 r2)
theorem dp_of (s : StR K H μ S) : ∀ (n : Nat) (d : D) (v : V) (p : PyData), toPy S n d = some p → Rp K H μ v d → Dp K H v p := by
  intro n
  induction n with
  | zero => intro d v p e; cases e
  | succ n ih =>
    intro d v p e r
    cases d with
    | non => cases e; cases r; exact .non
    | bl b => cases e; cases r; exact .bl _
    | int b => cases e; cases r; exact .int _
    | str b => cases e; cases r; exact .str _
    | tup ds =>
      obtain ⟨ps, e1, e2⟩ := Option.map_eq_some_iff.mp (show (ds.mapM (toPy S n)).map PyData.tuple = some p from e)
      subst e2
      cases r with
      | tup h1 h2 => exact .tup (sq _ _ h1) (dpAll_of ih _ _ _ e1 h2)
    | lr k =>
      obtain ⟨ds, e0, e⟩ := Option.bind_eq_some_iff.mp (show ((lat S k).bind fun ds => (ds.mapM (toPy S n)).map PyData.list) = some p from e)
      obtain ⟨ps, e1, e2⟩ := Option.map_eq_some_iff.mp e
      subst e2
      obtain ⟨a, vs, rfl, h1, h2⟩ := s.lat e0 r
      exact .lst h1 (dpAll_of ih _ _ _ e1 h2)
end
theorem dec_int (i j : Int) : decide (V.int i = V.int j) = decide (i = j) := by simp only [V.int.injEq]
theorem dec_str (i j : Str) : decide (V.str i = V.str j) = decide (i = j) := by simp only [V.str.injEq]
def fEqG (g : Bool → Bool) : DOp2 := fun x y S => (toPy S 64 x).bind fun p => (toPy S 64 y).bind fun q => if SeqAt.shaped p && SeqAt.shaped q then some (.bl (g (PyData.eqv p q)), S) else none
def fEq : DOp2 := fun x y S => match x, y with
  | .int i, .int j => some (.bl (decide (i = j)), S)
  | .str i, .str j => some (.bl (decide (i = j)), S)
  | x, y => fEqG id x y S
def fNe : DOp2 := fun x y S => match x, y with
  | .int i, .int j => some (.bl (!decide (i = j)), S)
  | .str i, .str j => some (.bl (!decide (i = j)), S)
  | x, y => fEqG not x y S
section
variable {X : Cx}
theorem o_eqG (hu : X.A.units + 64 < cLine) : OpR X (compareOp .Eq) (rM X.K (fEqG id)) :=
  OpR.imp (op_eqD hu) fun x y H Q ⟨S, μ, dx, dy, d, S', s, rx, ry, e, q⟩ => by
    unfold fEqG at e
    obtain ⟨p, e1, e⟩ := Option.bind_eq_some_iff.mp e
    obtain ⟨p', e2, e⟩ := Option.bind_eq_some_iff.mp e
    split at e
    · rename_i h
      rw [Bool.and_eq_true] at h
      cases e
      exact ⟨p, p', dp_of s _ _ _ _ e1 rx, dp_of s _ _ _ _ e2 ry, h.1, h.2, q.id s (.bl _)⟩
    · cases e
theorem o_neG (hu : X.A.units + 64 < cLine) : OpR X (compareOp .NotEq) (rM X.K (fEqG not)) :=
  OpR.imp (op_neD hu) fun x y H Q ⟨S, μ, dx, dy, d, S', s, rx, ry, e, q⟩ => by
    unfold fEqG at e
    obtain ⟨p, e1, e⟩ := Option.bind_eq_some_iff.mp e
    obtain ⟨p', e2, e⟩ := Option.bind_eq_some_iff.mp e
    split at e
    · rename_i h
      rw [Bool.and_eq_true] at h
      cases e
      exact ⟨p, p', dp_of s _ _ _ _ e1 rx, dp_of s _ _ _ _ e2 ry, h.1, h.2, q.id s (.bl _)⟩
    · cases e
theorem o_eq (hu : X.A.units + 64 < cLine) : OpR X (compareOp .Eq) (rM X.K fEq) := by
  intro pins s σ H x y v u Q I rx ry ⟨S, μ, dx, dy, d, S', st, px, py, e, q⟩
  unfold fEq at e
  split at e
  · cases e; cases px; cases py
    exact op_eq pins s σ H _ _ v u Q I rx ry ⟨rfl, by rw [dec_int]; exact q.id st (.bl _)⟩
  · cases e; cases px; cases py
    exact op_eq pins s σ H _ _ v u Q I rx ry ⟨rfl, by rw [dec_str]; exact q.id st (.bl _)⟩
  · exact o_eqG hu pins s σ H x y v u Q I rx ry ⟨S, μ, _, _, d, S', st, px, py, e, q⟩
theorem o_ne (hu : X.A.units + 64 < cLine) : OpR X (compareOp .NotEq) (rM X.K fNe) := by
  intro pins s σ H x y v u Q I rx ry ⟨S, μ, dx, dy, d, S', st, px, py, e, q⟩
  unfold fNe at e
  split at e
  · cases e; cases px; cases py
    exact op_ne pins s σ H _ _ v u Q I rx ry ⟨rfl, by rw [dec_int]; exact q.id st (.bl _)⟩
  · cases e; cases px; cases py
    exact op_ne pins s σ H _ _ v u Q I rx ry ⟨rfl, by rw [dec_str]; exact q.id st (.bl _)⟩
  · exact o_neG hu pins s σ H x y v u Q I rx ry ⟨S, μ, _, _, d, S', st, px, py, e, q⟩
end

/-! ### in, not in: flat items -/
def flatD : D → Bool
  | .non => true
  | .bl _ => true
  | .int _ => true
  | .str _ => true
  | _ => false
def toV : D → V
  | .bl b => .bl b
  | .int i => .int i
  | .str x => .str x
  | _ => .non
theorem Rp.flat {K : PySem.W.Frag} {H : Hp} {μ : List Addr} {v : V} {d : D} (r : Rp K H μ v d) (f : flatD d = true) : v = toV d ∧ flatV v = true := by
  cases d with
  | non => cases r; exact ⟨rfl, rfl⟩
  | bl b => cases r; exact ⟨rfl, rfl⟩
  | int b => cases r; exact ⟨rfl, rfl⟩
  | str b => cases r; exact ⟨rfl, rfl⟩
  | _ => cases f
theorem RpA.flat {K : PySem.W.Frag} {H : Hp} {μ : List Addr} : ∀ {ds : List D} {vs : List V}, RpA K H μ vs ds → ds.all flatD = true → vs = ds.map toV ∧ vs.all flatV = true
  | [], _, r, _ => by cases r; exact ⟨rfl, rfl⟩
  | d :: ds, _, r, f => by
    cases r with
    | cons r1 r2 =>
      rw [List.all_cons, Bool.and_eq_true] at f
      obtain ⟨h1, h2⟩ := r1.flat f.1
      obtain ⟨h3, h4⟩ := RpA.flat r2 f.2
      exact ⟨by rw [h1, h3]; rfl, by rw [List.all_cons, h2, h4]; rfl⟩
def inD (x : D) (ds : List D) : Bool := inV (toV x) (ds.map toV)
def fIn (neg : Bool) : DOp2 := fun x y S => (items S y).bind fun ds => if flatD x && ds.all flatD then some (.bl (if neg then !inD x ds else inD x ds), S) else none
section
variable {X : Cx}
theorem fIn_r {neg : Bool} {x y : V} {H : Hp} {Q : VK} (h : rM X.K (fIn neg) x y H Q) : rIn X.K neg x y H Q := by
  obtain ⟨S, μ, dx, dy, d, S', s, rx, ry, e, q⟩ := h
  unfold fIn at e
  obtain ⟨ds, e1, e⟩ := Option.bind_eq_some_iff.mp e
  split at e
  · rename_i h
    rw [Bool.and_eq_true] at h
    cases e
    obtain ⟨a, vs, rfl, h1, h2⟩ := s.items e1 ry
    obtain ⟨h3, h4⟩ := rx.flat h.1
    obtain ⟨h5, h6⟩ := h2.flat h.2
    refine ⟨a, vs, rfl, h1, h4, h6, ?_⟩
    have := q.id s (.bl _)
    unfold inD at this
    rw [h3, h5]
    exact this
  · cases e
theorem o_in : OpR X (compareOp .In) (rM X.K (fIn false)) := OpR.imp op_in_seq fun _ _ _ _ h => fIn_r h
theorem o_notIn : OpR X (compareOp .NotIn) (rM X.K (fIn true)) := OpR.imp op_notIn_seq fun _ _ _ _ h => fIn_r h
theorem o_is : OpR X (compareOp .Is) (rM X.K fun x y S => match y with | .non => some (.bl (match x with | .non => true | _ => false), S) | _ => none) := by
  refine OpR.imp op_isN fun x y H Q ⟨S, μ, dx, dy, d, S', s, rx, ry, e, q⟩ => ?_
  cases dy with
  | non =>
    cases e; cases ry
    refine ⟨rfl, ?_⟩
    have := q.id s (.bl _)
    cases rx <;> exact this
  | _ => cases e
theorem o_isNot : OpR X (compareOp .IsNot) (rM X.K fun x y S => match y with | .non => some (.bl (match x with | .non => false | _ => true), S) | _ => none) := by
  refine OpR.imp op_notN fun x y H Q ⟨S, μ, dx, dy, d, S', s, rx, ry, e, q⟩ => ?_
  cases dy with
  | non =>
    cases e; cases ry
    refine ⟨rfl, ?_⟩
    have := q.id s (.bl _)
    cases rx <;> exact this
  | _ => cases e

/-! ### subscripts, slices -/
def fIx : DOp2
  | .lr n, .int i, S => (lat S n).bind fun ds => (atI ds i).map fun d => (d, S)
  | .tup ds, .int i, S => (atI ds i).map fun d => (d, S)
  | _, _, _ => none
theorem RpA.atI {K : PySem.W.Frag} {H : Hp} {μ : List Addr} {vs : List V} {ds : List D} {i : Int} {d : D} (r : RpA K H μ vs ds) (e : L2.atI ds i = some d) : ∃ v, L2.atI vs i = some v ∧ Rp K H μ v d := by
  unfold L2.atI at e ⊢
  rw [r.length]
  cases h : ixN ds.length i with
  | none => rw [h] at e; cases e
  | some j => rw [h] at e; exact r.get e
theorem me_ix {a b : Expr} {ma mb : MExp} {pos : Pos} (ha : ME X a ma) (hb : ME X b mb) (hs : PlainIx b) : ME X (.Subscript a b pos) (mBin fIx ma mb) := by
  refine ⟨PE.imp (pe_ix (r := rM X.K fIx) ?_ ha.pe hb.pe hs) fun _ _ _ h => tE_bin h⟩
  intro value slice pins s σ H x y v u Q I rx ry ⟨S, μ, dx, dy, d, S', st, px, py, e, q⟩ hs
  refine ix_seq value slice pins s σ H x y v u Q I rx ry ?_ hs
  unfold fIx at e
  split at e
  · obtain ⟨ds, e1, e⟩ := Option.bind_eq_some_iff.mp e
    obtain ⟨d', e2, e⟩ := Option.map_eq_some_iff.mp e
    cases e; cases py
    obtain ⟨p, vs, rfl, h1, h2⟩ := st.lat e1 px
    obtain ⟨w, h3, h4⟩ := h2.atI e2
    exact .inl ⟨p, vs, _, w, rfl, rfl, h1, h3, q.id st h4⟩
  · obtain ⟨d', e2, e⟩ := Option.map_eq_some_iff.mp e
    cases e; cases py
    cases px with
    | tup h1 h2 =>
    obtain ⟨w, h3, h4⟩ := h2.atI e2
    exact .inr (.inl ⟨_, _, _, w, rfl, rfl, sq _ _ h1, h3, q.id st h4⟩)
  · cases e
/-- a slice's part -/
abbrev MPart := Ev → Store → Option (Option Int × Store)
def tP (K : PySem.W.Frag) (m : MPart) : TO := fun σ H Q => ∃ ρ S μ o S', Sim K H μ σ ρ S ∧ m ρ S = some (o, S') ∧ ∀ H' μ', Grow H H' μ μ' → StR K H' μ' S' → Q o H'
structure MP (X : Cx) (e : Option Expr) (m : MPart) : Prop where
  po : PO X e (tP X.K m)
def mNoPart : MPart := fun _ S => some (none, S)
def mPart (m : MExp) : MPart := fun ρ S => (m ρ S).bind fun p => match p.1 with
  | .int i => some (some i, p.2)
  | _ => none
theorem mp_none : MP X none mNoPart := ⟨⟨fun pins s σ H Q I ⟨ρ, S, μ, o, S', st, e, q⟩ => po_none.run pins s σ H Q I (by cases e; exact q H μ .refl st.st)⟩⟩
theorem mp_some {e : Expr} {m : MExp} (h : ME X e m) : MP X (some e) (mPart m) := ⟨⟨fun pins s σ H Q I ⟨ρ, S, μ, o, S', st, e, q⟩ => (po_some h.pe).run pins s σ H Q I (by
  unfold mPart at e
  obtain ⟨⟨d, S1⟩, e1, e⟩ := Option.bind_eq_some_iff.mp e
  refine ⟨ρ, S, μ, d, S1, st, e1, fun v H1 μ1 g1 s1 r1 => ?_⟩
  cases d with
  | int i => cases e; cases r1; exact ⟨i, rfl, q H1 μ1 g1 s1⟩
  | _ => cases e)⟩⟩
def cutD (xs : List D) (lo hi : Option Int) : List D := (xs.drop (HT.sIx xs.length 0 lo)).take (HT.sIx xs.length xs.length hi - HT.sIx xs.length 0 lo)
theorem RpA.cut {K : PySem.W.Frag} {H : Hp} {μ : List Addr} {vs : List V} {ds : List D} (r : RpA K H μ vs ds) (lo hi : Option Int) : RpA K H μ (cutV vs lo hi) (cutD ds lo hi) := by
  unfold cutV cutD
  rw [r.length]
  exact (r.drop _).take _
def fSl (x : D) (lo hi : Option Int) (S : Store) : Option (D × Store) := match x with
  | .lr n => (lat S n).bind fun ds => some (.lr S.length, S ++ [.lst (cutD ds lo hi)])
  | .tup ds => some (.tup (cutD ds lo hi), S)
  | _ => none
def mSl (m : MExp) (lo hi : MPart) : MExp := fun ρ S => (m ρ S).bind fun p => (lo ρ p.2).bind fun q => (hi ρ q.2).bind fun r => fSl p.1 q.1 r.1 r.2
theorem cutD_whole {ds : List D} {lo hi : Option Int} (h : HT.sIx ds.length 0 lo = 0 ∧ HT.sIx ds.length ds.length hi = ds.length) : cutD ds lo hi = ds := by
  unfold cutD
  rw [h.1, h.2]
  simp
theorem me_slice {e : Expr} {m : MExp} {lo hi : Option Expr} {ml mh : MPart} {pos p2 : Pos} (h : ME X e m) (hl : MP X lo ml) (hh : MP X hi mh) : ME X (.Subscript e (.Slice lo hi none p2) pos) (mSl m ml mh) := by
  refine ⟨PE.imp (pe_slice (sl_list.or sl_tupA) h.pe hl.po hh.po) fun σ H Q ⟨ρ, S, μ, d, S', st, e, q⟩ => ?_⟩
  unfold mSl at e
  obtain ⟨⟨d1, S1⟩, e1, e⟩ := Option.bind_eq_some_iff.mp e
  obtain ⟨⟨o1, S2⟩, e2, e⟩ := Option.bind_eq_some_iff.mp e
  obtain ⟨⟨o2, S3⟩, e3, e⟩ := Option.bind_eq_some_iff.mp e
  refine ⟨ρ, S, μ, d1, S1, st, e1, fun v H1 μ1 g1 s1 r1 => ?_⟩
  refine ⟨ρ, S1, μ1, o1, S2, st.grow g1 s1, e2, fun H2 μ2 g2 s2 => ?_⟩
  refine ⟨ρ, S2, μ2, o2, S3, st.grow (g1.trans g2) s2, e3, fun H3 μ3 g3 s3 => ?_⟩
  have r3 := r1.grow (g2.trans g3)
  have q3 : Aft X.K H3 μ3 d S' Q := fun v H' μ' g4 => q v H' μ' (((g1.trans g2).trans g3).trans g4)
  cases d1 with
  | lr n =>
    obtain ⟨ds, e4, e⟩ := Option.bind_eq_some_iff.mp (show ((lat S3 n).bind fun ds => some (D.lr S3.length, S3 ++ [.lst (cutD ds o1 o2)])) = some (d, S') from e)
    cases e
    obtain ⟨a, vs, rfl, h1, h2⟩ := s3.lat e4 r3
    exact .inl ⟨a, vs, rfl, h1, fun p hp => q3.lst s3 (h2.cut _ _) hp⟩
  | tup ds =>
    cases (show some (D.tup (cutD ds o1 o2), S3) = some (d, S') from e)
    cases r3 with
    | tup h1 h2 =>
    refine .inr ⟨_, _, rfl, sq _ _ h1, fun hw => ?_, fun hw p hp => q3.tup s3 (h2.cut _ _) hp⟩
    rw [h2.length] at hw
    exact q3.id s3 (by rw [cutD_whole hw]; exact .tup h1 h2)
  | _ => cases e
end
end MS

set_option Elab.async false
set_option linter.all false
set_option maxRecDepth 100000
set_option maxHeartbeats 4000000
namespace MS
open PySem PySem.Spec PyProof.Rows L2

/-! ### displays -/
def mTup (m : MArg) : MExp := fun ρ S => (m ρ S).bind fun p => if p.1.length ≤ szl then some (.tup p.1, p.2) else none
def mLst (m : MArg) : MExp := fun ρ S => (m ρ S).bind fun p => if p.1.length ≤ szl then some (.lr p.2.length, p.2 ++ [.lst p.1]) else none
section
variable {X : Cx} {es : List Expr} {m : MArg} {pos : Pos}
theorem me_tup {x1} (h : MA X es m) : ME X (.Tuple es x1 pos) (mTup m) :=
  ⟨PE.imp (pe_tup h.pa) fun σ H Q ⟨ρ, S, μ, d, S', st, e, q⟩ => by
    unfold mTup at e
    obtain ⟨⟨ds, S1⟩, e1, e⟩ := Option.bind_eq_some_iff.mp e
    split at e
    · rename_i hz
      cases e
      exact ⟨ρ, S, μ, ds, _, st, e1, fun vs H1 μ1 g1 s1 r1 => ⟨by rw [r1.length]; exact szl_le hz, fun p hp => Aft.tup (fun v H' μ' g2 => q v H' μ' (g1.trans g2)) s1 r1 hp⟩⟩
    · cases e⟩
theorem me_lst (h : MA X es m) : ME X (.List es pos) (mLst m) :=
  ⟨PE.imp (pe_lst h.pa) fun σ H Q ⟨ρ, S, μ, d, S', st, e, q⟩ => by
    unfold mLst at e
    obtain ⟨⟨ds, S1⟩, e1, e⟩ := Option.bind_eq_some_iff.mp e
    split at e
    · rename_i hz
      cases e
      exact ⟨ρ, S, μ, ds, _, st, e1, fun vs H1 μ1 g1 s1 r1 => ⟨by rw [r1.length]; exact szl_le hz, fun p hp => Aft.lst (fun v H' μ' g2 => q v H' μ' (g1.trans g2)) s1 r1 hp⟩⟩
    · cases e⟩
end

/-! ### tests -/
def mB (m : MExp) : MTst := fun ρ S => (m ρ S).bind fun p => match p.1 with
  | .bl b => some (b, p.2)
  | _ => none
def mAnd (a b : MTst) : MTst := fun ρ S => (a ρ S).bind fun p => if p.1 then b ρ p.2 else some (false, p.2)
def mOr (a b : MTst) : MTst := fun ρ S => (a ρ S).bind fun p => if p.1 then some (true, p.2) else b ρ p.2
def mNot (a : MTst) : MTst := fun ρ S => (a ρ S).bind fun p => some (!p.1, p.2)
def mIf (t : MTst) (a b : MExp) : MExp := fun ρ S => (t ρ S).bind fun p => if p.1 then a ρ p.2 else b ρ p.2
def mBV (t : MTst) : MExp := fun ρ S => (t ρ S).bind fun p => some (.bl p.1, p.2)
section
variable {X : Cx} {a b c e : Expr} {rest : List Expr} {m : MExp} {ta tb : MTst} {ma mb : MExp} {pos : Pos}
theorem tT_val {σ : L2.St} {H : Hp} {Q : Bool → Hp → Prop} (h : tT X.K (mB m) σ H Q) : tE X.K m σ H fun x H1 => ∃ k, x = .bl k ∧ Q k H1 := by
  obtain ⟨ρ, S, μ, k, S', st, e, q⟩ := h
  unfold mB at e
  obtain ⟨⟨d, S1⟩, e1, e⟩ := Option.bind_eq_some_iff.mp e
  refine ⟨ρ, S, μ, d, S1, st, e1, fun v H1 μ1 g1 s1 r1 => ?_⟩
  cases d with
  | bl b => cases e; cases r1; exact ⟨_, rfl, q H1 μ1 g1 s1⟩
  | _ => cases e
theorem mt_val (h : ME X e m) (he : ∀ whole, isTrue e X.env whole = (do let v ← whole; standAt e.pos; holding [v] (truthy v)) := by intro _; rfl) : MT X e (mB m) := ⟨PT.imp (pt_val h.pe he) fun _ _ _ h => tT_val h⟩
theorem mt_cmp {f : DOp2} {op : CmpOp} (ho : OpR X (compareOp op) (rM X.K f)) (ha : ME X a ma) (hb : ME X b mb) (hm : behindInMarks op b = false) : MT X (.Compare a [op] [b] pos) (mB (mBin f ma mb)) :=
  ⟨PT.imp (pt_cmpR ho ha.pe hb.pe hm) fun σ H Q h => by
    obtain ⟨ρ, S, μ, d, S', st, e, q⟩ := tT_val h
    exact tE_bin ⟨ρ, S, μ, d, S', st, e, q⟩⟩
theorem tT_and {σ : L2.St} {H : Hp} {Q : Bool → Hp → Prop} (h : tT X.K (mAnd ta tb) σ H Q) : tAnd (tT X.K ta) (tT X.K tb) σ H Q := by
  obtain ⟨ρ, S, μ, k, S', st, e, q⟩ := h
  unfold mAnd at e
  obtain ⟨⟨k1, S1⟩, e1, e⟩ := Option.bind_eq_some_iff.mp e
  refine ⟨ρ, S, μ, k1, S1, st, e1, fun H1 μ1 g1 s1 => ?_⟩
  cases k1 with
  | true => exact iteT ⟨ρ, S1, μ1, k, S', st.grow g1 s1, e, fun H2 μ2 g2 s2 => q H2 μ2 (g1.trans g2) s2⟩
  | false => cases e; exact iteF (q H1 μ1 g1 s1)
theorem tT_or {σ : L2.St} {H : Hp} {Q : Bool → Hp → Prop} (h : tT X.K (mOr ta tb) σ H Q) : tOr (tT X.K ta) (tT X.K tb) σ H Q := by
  obtain ⟨ρ, S, μ, k, S', st, e, q⟩ := h
  unfold mOr at e
  obtain ⟨⟨k1, S1⟩, e1, e⟩ := Option.bind_eq_some_iff.mp e
  refine ⟨ρ, S, μ, k1, S1, st, e1, fun H1 μ1 g1 s1 => ?_⟩
  cases k1 with
  | false => exact iteF ⟨ρ, S1, μ1, k, S', st.grow g1 s1, e, fun H2 μ2 g2 s2 => q H2 μ2 (g1.trans g2) s2⟩
  | true => cases e; exact iteT (q H1 μ1 g1 s1)
theorem mw_and1 (h : MT X a ta) : MW X (.BoolOp .And [a] pos) ta := ⟨pw_and1 h.pt⟩
theorem mw_or1 (h : MT X a ta) : MW X (.BoolOp .Or [a] pos) ta := ⟨pw_or1 h.pt⟩
theorem mw_and (h : MT X a ta) (k : MW X (.BoolOp .And (b :: rest) pos) tb) : MW X (.BoolOp .And (a :: b :: rest) pos) (mAnd ta tb) := ⟨PW.imp (pw_and h.pt k.pw) fun _ _ _ h => tT_and h⟩
theorem mw_or (h : MT X a ta) (k : MW X (.BoolOp .Or (b :: rest) pos) tb) : MW X (.BoolOp .Or (a :: b :: rest) pos) (mOr ta tb) := ⟨PW.imp (pw_or h.pt k.pw) fun _ _ _ h => tT_or h⟩
theorem MW.mt (h : MW X e ta) : MT X e ta := ⟨h.pw.pt⟩
theorem mt_not (h : MT X a ta) : MT X (.UnaryOp .Not a pos) (mNot ta) := ⟨PT.imp (pt_not h.pt) fun σ H Q ⟨ρ, S, μ, k, S', st, e, q⟩ => by
  unfold mNot at e
  obtain ⟨⟨k1, S1⟩, e1, e⟩ := Option.bind_eq_some_iff.mp e
  cases e
  exact ⟨ρ, S, μ, k1, _, st, e1, fun H1 μ1 g1 s1 => q H1 μ1 g1 s1⟩⟩
theorem me_ifExp (hc : MT X c ta) (ha : ME X a ma) (hb : ME X b mb) : ME X (.IfExp c a b pos) (mIf ta ma mb) := ⟨PE.imp (pe_ifExp hc.pt ha.pe hb.pe) fun σ H Q ⟨ρ, S, μ, d, S', st, e, q⟩ => by
  unfold mIf at e
  obtain ⟨⟨k1, S1⟩, e1, e⟩ := Option.bind_eq_some_iff.mp e
  refine ⟨ρ, S, μ, k1, S1, st, e1, fun H1 μ1 g1 s1 => ?_⟩
  have q' : Aft X.K H1 μ1 d S' Q := fun v H2 μ2 g2 => q v H2 μ2 (g1.trans g2)
  cases k1 with
  | true => exact iteT ⟨ρ, S1, μ1, d, S', st.grow g1 s1, e, q'⟩
  | false => exact iteF ⟨ρ, S1, μ1, d, S', st.grow g1 s1, e, q'⟩⟩
/-- and, or, not as values (bools) -/
def mAndV (a b : MExp) : MExp := fun ρ S => (a ρ S).bind fun p => match p.1 with
  | .bl true => b ρ p.2
  | .bl false => some (.bl false, p.2)
  | _ => none
def mOrV (a b : MExp) : MExp := fun ρ S => (a ρ S).bind fun p => match p.1 with
  | .bl false => b ρ p.2
  | .bl true => some (.bl true, p.2)
  | _ => none
def mNotV (a : MExp) : MExp := fun ρ S => (a ρ S).bind fun p => match p.1 with
  | .bl b => some (.bl (!b), p.2)
  | _ => none
theorem me_one {op} (h : ME X a m) : ME X (.BoolOp op [a] pos) m := ⟨pe_one h.pe⟩
theorem me_and (ha : ME X a ma) (hb : ME X (.BoolOp .And (b :: rest) pos) mb) : ME X (.BoolOp .And (a :: b :: rest) pos) (mAndV ma mb) := ⟨PE.imp (pe_and ha.pe hb.pe) fun σ H Q ⟨ρ, S, μ, d, S', st, e, q⟩ => by
  obtain ⟨⟨d1, S1⟩, e1, e⟩ := Option.bind_eq_some_iff.mp e
  refine ⟨ρ, S, μ, d1, S1, st, e1, fun v H1 μ1 g1 s1 r1 => ?_⟩
  cases d1 with
  | bl k =>
    cases r1
    cases k with
    | true => exact ⟨_, rfl, iteT ⟨ρ, S1, μ1, d, S', st.grow g1 s1, e, fun v H2 μ2 g2 => q v H2 μ2 (g1.trans g2)⟩⟩
    | false => cases e; exact ⟨_, rfl, iteF (q _ H1 μ1 g1 s1 (.bl _))⟩
  | _ => cases e⟩
theorem me_or (ha : ME X a ma) (hb : ME X (.BoolOp .Or (b :: rest) pos) mb) : ME X (.BoolOp .Or (a :: b :: rest) pos) (mOrV ma mb) := ⟨PE.imp (pe_or ha.pe hb.pe) fun σ H Q ⟨ρ, S, μ, d, S', st, e, q⟩ => by
  obtain ⟨⟨d1, S1⟩, e1, e⟩ := Option.bind_eq_some_iff.mp e
  refine ⟨ρ, S, μ, d1, S1, st, e1, fun v H1 μ1 g1 s1 r1 => ?_⟩
  cases d1 with
  | bl k =>
    cases r1
    cases k with
    | false => exact ⟨_, rfl, iteF ⟨ρ, S1, μ1, d, S', st.grow g1 s1, e, fun v H2 μ2 g2 => q v H2 μ2 (g1.trans g2)⟩⟩
    | true => cases e; exact ⟨_, rfl, iteT (q _ H1 μ1 g1 s1 (.bl _))⟩
  | _ => cases e⟩
theorem me_not (ha : ME X a ma) : ME X (.UnaryOp .Not a pos) (mNotV ma) := ⟨PE.imp (pe_not ha.pe) fun σ H Q ⟨ρ, S, μ, d, S', st, e, q⟩ => by
  obtain ⟨⟨d1, S1⟩, e1, e⟩ := Option.bind_eq_some_iff.mp e
  refine ⟨ρ, S, μ, d1, S1, st, e1, fun v H1 μ1 g1 s1 r1 => ?_⟩
  cases d1 with
  | bl k => cases r1; cases e; exact ⟨_, rfl, q _ H1 μ1 g1 s1 (.bl _)⟩
  | _ => cases e⟩
/-- -a -/
def mNeg (a : MExp) : MExp := fun ρ S => (a ρ S).bind fun p => match p.1 with
  | .int i => some (.int (-i), p.2)
  | _ => none
theorem me_neg (ha : ME X a ma) : ME X (.UnaryOp .USub a pos) (mNeg ma) := ⟨PE.imp (pe_un un_neg ha.pe) fun σ H Q ⟨ρ, S, μ, d, S', st, e, q⟩ => by
  obtain ⟨⟨d1, S1⟩, e1, e⟩ := Option.bind_eq_some_iff.mp e
  refine ⟨ρ, S, μ, d1, S1, st, e1, fun v H1 μ1 g1 s1 r1 => ?_⟩
  cases d1 with
  | int k => cases r1; cases e; exact ⟨_, rfl, q _ H1 μ1 g1 s1 (.int _)⟩
  | _ => cases e⟩
/-- a op1 b op2 c -/
def mChain (f g : DOp2) (ma mb mc : MExp) : MExp := fun ρ S => (ma ρ S).bind fun p => (mb ρ p.2).bind fun q => (f p.1 q.1 q.2).bind fun r => match r.1 with
  | .bl true => (mc ρ r.2).bind fun t => g q.1 t.1 t.2
  | .bl false => some (.bl false, r.2)
  | _ => none
theorem tE_chain {f g : DOp2} {mc : MExp} {σ : L2.St} {H : Hp} {Q : VK} (h : tE X.K (mChain f g ma mb mc) σ H Q) : tChain (rM X.K f) (rM X.K g) (tE X.K ma) (tE X.K mb) (tE X.K mc) σ H Q := by
  obtain ⟨ρ, S, μ, d, S', st, e, q⟩ := h
  obtain ⟨⟨d1, S1⟩, e1, e⟩ := Option.bind_eq_some_iff.mp e
  obtain ⟨⟨d2, S2⟩, e2, e⟩ := Option.bind_eq_some_iff.mp e
  obtain ⟨⟨d3, S3⟩, e3, e⟩ := Option.bind_eq_some_iff.mp e
  refine ⟨ρ, S, μ, d1, S1, st, e1, fun v H1 μ1 g1 s1 r1 => ?_⟩
  refine ⟨ρ, S1, μ1, d2, S2, st.grow g1 s1, e2, fun u H2 μ2 g2 s2 r2 => ?_⟩
  refine ⟨S2, μ2, d1, d2, d3, S3, s2, r1.grow g2, r2, e3, fun z H3 μ3 g3 s3 r3 => ?_⟩
  have g13 := (g1.trans g2).trans g3
  cases d3 with
  | bl k =>
    cases r3
    cases k with
    | false => cases e; exact ⟨_, rfl, iteF (q _ H3 μ3 g13 s3 (.bl _))⟩
    | true =>
      refine ⟨_, rfl, iteT ?_⟩
      obtain ⟨⟨d4, S4⟩, e4, e⟩ := Option.bind_eq_some_iff.mp e
      refine ⟨ρ, S3, μ3, d4, S4, st.grow g13 s3, e4, fun w' H4 μ4 g4 s4 r4 => ?_⟩
      exact ⟨S4, μ4, d2, d4, d, S', s4, r2.grow (g3.trans g4), r4, e, fun v' H5 μ5 g5 => q v' H5 μ5 ((g13.trans g4).trans g5)⟩
  | _ => cases e
theorem me_chain {f g : DOp2} {op op' : CmpOp} {mc : MExp} (ho : OpR X (compareOp op) (rM X.K f)) (ho' : OpR X (compareOp op') (rM X.K g)) (ha : ME X a ma) (hb : ME X b mb) (hc : ME X c mc)
    (hm : lastMarks [op, op'] [b, c] = false := by with_unfolding_all rfl) : ME X (.Compare a [op, op'] [b, c] pos) (mChain f g ma mb mc) := ⟨PE.imp (pe_chain ho ho' ha.pe hb.pe hc.pe hm) fun _ _ _ h => tE_chain h⟩
theorem mt_chain {f g : DOp2} {op op' : CmpOp} {mc : MExp} (ho : OpR X (compareOp op) (rM X.K f)) (ho' : OpR X (compareOp op') (rM X.K g)) (ha : ME X a ma) (hb : ME X b mb) (hc : ME X c mc)
    (hm : lastMarks [op, op'] [b, c] = false := by with_unfolding_all rfl) : MT X (.Compare a [op, op'] [b, c] pos) (mB (mChain f g ma mb mc)) := ⟨PT.imp (pt_chain ho ho' ha.pe hb.pe hc.pe hm) fun σ H Q h => tE_chain (tT_val h)⟩
end

/-! ### statements -/
def mNx : MStm := fun ρ S => some (.nx, ρ, S)
def mBk : MStm := fun ρ S => some (.bk, ρ, S)
def mCt : MStm := fun ρ S => some (.ct, ρ, S)
def mSeq (a b : MStm) : MStm := fun ρ S => (a ρ S).bind fun p => match p.1 with
  | .nx => b p.2.1 p.2.2
  | f => some (f, p.2.1, p.2.2)
def mRet (m : MExp) : MStm := fun ρ S => (m ρ S).bind fun p => some (.rt p.1, ρ, p.2)
def mRetN : MStm := fun ρ S => some (.rt .non, ρ, S)
def mDrop (m : MExp) : MStm := fun ρ S => (m ρ S).bind fun p => some (.nx, ρ, p.2)
def mIfS (t : MTst) (a b : MStm) : MStm := fun ρ S => (t ρ S).bind fun p => if p.1 then a ρ p.2 else b ρ p.2
def mAsg (m : MExp) (g : MTg) : MStm := fun ρ S => (m ρ S).bind fun p => (g p.1 ρ p.2).bind fun q => some (.nx, q.1, q.2)
theorem EndOf.mono {K : PySem.W.Frag} {D1 D2 : Ends} {f : Fl} {σ : L2.St} {H : Hp} {μ : List Addr} (h : EndOf K D1 f σ H μ) (hn : ∀ σ H, D1.nx σ H → D2.nx σ H) (hr : ∀ v H, D1.rt v H → D2.rt v H) (hb : ∀ σ H, D1.bk σ H → D2.bk σ H) (hc : ∀ σ H, D1.ct σ H → D2.ct σ H) : EndOf K D2 f σ H μ := by
  cases f with
  | nx => exact hn _ _ h
  | bk => exact hb _ _ h
  | ct => exact hc _ _ h
  | rt d => exact fun v r => hr _ _ (h v r)
section
variable {X : Cx} {st : Stmt} {rest : List Stmt} {m m' : MStm} {e : Expr} {me : MExp} {pos : Pos}
theorem mss_nil : MSs X [] mNx := ⟨PSs.imp pss_nil fun D σ H ⟨ρ, S, μ, f, ρ', S', s, e, q⟩ => by cases e; exact q σ H μ .refl s⟩
theorem mss_cons (h : MS_ X st m) (k : MSs X rest m') : MSs X (st :: rest) (mSeq m m') := ⟨PSs.imp (pss_cons h.ps k.pss) fun D σ H ⟨ρ, S, μ, f, ρ', S', s, e, q⟩ => by
  obtain ⟨⟨f1, ρ1, S1⟩, e1, e⟩ := Option.bind_eq_some_iff.mp e
  refine ⟨ρ, S, μ, f1, ρ1, S1, s, e1, fun σ1 H1 μ1 g1 s1 => ?_⟩
  cases f1 with
  | nx => exact ⟨ρ1, S1, μ1, f, ρ', S', s1, e, fun σ2 H2 μ2 g2 s2 => q σ2 H2 μ2 (g1.trans g2) s2⟩
  | bk => cases e; exact q σ1 H1 μ1 g1 s1
  | ct => cases e; exact q σ1 H1 μ1 g1 s1
  | rt d => cases e; exact q σ1 H1 μ1 g1 s1⟩
theorem mss_one (h : MS_ X st m) : MSs X [st] m := ⟨pss_one h.ps⟩
theorem ms_pass : MS_ X (.Pass pos) mNx := ⟨PS.imp ps_pass fun D σ H ⟨ρ, S, μ, f, ρ', S', s, e, q⟩ => by cases e; exact q σ H μ .refl s⟩
theorem ms_break : MS_ X (.Break pos) mBk := ⟨PS.imp ps_break fun D σ H ⟨ρ, S, μ, f, ρ', S', s, e, q⟩ => by cases e; exact q σ H μ .refl s⟩
theorem ms_continue : MS_ X (.Continue pos) mCt := ⟨PS.imp ps_continue fun D σ H ⟨ρ, S, μ, f, ρ', S', s, e, q⟩ => by cases e; exact q σ H μ .refl s⟩
theorem ms_ret (h : ME X e me) : MS_ X (.Return (some e) pos) (mRet me) := ⟨PS.imp (ps_ret h.pe) fun D σ H ⟨ρ, S, μ, f, ρ', S', s, e, q⟩ => by
  obtain ⟨⟨d, S1⟩, e1, e⟩ := Option.bind_eq_some_iff.mp e
  cases e
  exact ⟨ρ, S, μ, d, S1, s, e1, fun v H1 μ1 g1 s1 r1 => q σ H1 μ1 g1 (s.grow g1 s1) v r1⟩⟩
theorem ms_retN : MS_ X (.Return none pos) mRetN := ⟨PS.imp ps_retN fun D σ H ⟨ρ, S, μ, f, ρ', S', s, e, q⟩ => by cases e; exact q σ H μ .refl s _ .non⟩
theorem ms_expr (h : ME X e me) (hs : swapsWith e none pos.line X.env = pure false := by rfl) : MS_ X (.Expr e pos) (mDrop me) := ⟨PS.imp (ps_expr h.pe hs) fun D σ H ⟨ρ, S, μ, f, ρ', S', s, e, q⟩ => by
  obtain ⟨⟨d, S1⟩, e1, e⟩ := Option.bind_eq_some_iff.mp e
  cases e
  exact ⟨ρ, S, μ, d, S1, s, e1, fun v H1 μ1 g1 s1 r1 => q σ H1 μ1 g1 (s.grow g1 s1)⟩⟩
theorem ms_if {c : Expr} {a b : List Stmt} {t : MTst} (hc : MT X c t) (ha : MSs X a m) (hb : MSs X b m') : MS_ X (.If c a b pos) (mIfS t m m') := ⟨PS.imp (ps_if hc.pt ha.pss hb.pss) fun D σ H ⟨ρ, S, μ, f, ρ', S', s, e, q⟩ => by
  obtain ⟨⟨k, S1⟩, e1, e⟩ := Option.bind_eq_some_iff.mp e
  refine ⟨ρ, S, μ, k, S1, s, e1, fun H1 μ1 g1 s1 => ?_⟩
  have q' : ∀ σ' H' μ', Grow H1 H' μ1 μ' → Sim X.K H' μ' σ' ρ' S' → EndOf X.K D f σ' H' μ' := fun σ2 H2 μ2 g2 s2 => q σ2 H2 μ2 (g1.trans g2) s2
  cases k with
  | true => exact iteT ⟨ρ, S1, μ1, f, ρ', S', s.grow g1 s1, e, q'⟩
  | false => exact iteF ⟨ρ, S1, μ1, f, ρ', S', s.grow g1 s1, e, q'⟩⟩
/-! ### targets -/
def mName (i : Nat) : MTg := fun d ρ S => some (ρ.set i (some d), S)
abbrev MTgs := List D → Ev → Store → Option (Ev × Store)
def tGs (K : PySem.W.Frag) (m : MTgs) : TGs := fun vs σ H Q => ∃ ds ρ S μ ρ' S', Sim K H μ σ ρ S ∧ RpA K H μ vs ds ∧ m ds ρ S = some (ρ', S') ∧ ∀ σ' H' μ', Grow H H' μ μ' → Sim K H' μ' σ' ρ' S' → Q σ' H'
structure MGs (X : Cx) (ts : List Expr) (m : MTgs) : Prop where
  pgs : PGs X ts (tGs X.K m)
theorem PGs.imp {ts : List Expr} {t t' : TGs} (h : PGs X ts t) (i : ∀ vs σ H Q, t' vs σ H Q → t vs σ H Q) : PGs X ts t' := ⟨fun pins s σ H vs us Q I r q => h.run pins s σ H vs us Q I r (i _ _ _ _ q)⟩
def mgNil : MTgs := fun ds ρ S => match ds with
  | [] => some (ρ, S)
  | _ => none
def mgCons (g : MTg) (r : MTgs) : MTgs := fun ds ρ S => match ds with
  | d :: ds => (g d ρ S).bind fun p => r ds p.1 p.2
  | [] => none
def mgTup (r : MTgs) (n : Nat) : MTg := fun d ρ S => match d with
  | .tup ds => if ds.length = n then r ds ρ S else none
  | _ => none
def mgSub (mo mi : MExp) : MTg := fun d ρ S => (mo ρ S).bind fun p => (mi ρ p.2).bind fun q => match p.1, q.1 with
  | .lr n, .int k => (mat q.2 n).bind fun ds => (ixN ds.length k).bind fun j => some (ρ, q.2.set n (.lst (ds.set j d)))
  | _, _ => none
theorem mg_name {i : Nat} {x : Str} (hN : X.N.Nodup) (hi : X.N[i]? = some x) (hx : Loc X.env.scope x) (hf : X.fn x = true ∨ X.env.scope.names.lookup x = some .local := by first | exact .inl rfl | exact .inr rfl | assumption) : MG X (.Name x pos) (mName i) :=
  ⟨PG.imp (pg_name hN hi hx hf) fun v σ H Q ⟨d, ρ, S, μ, ρ', S', s, r, e, q⟩ => by cases e; exact q _ H μ .refl (s.set i r)⟩
theorem mgs_nil : MGs X [] mgNil := ⟨PGs.imp pgs_nil fun vs σ H Q ⟨ds, ρ, S, μ, ρ', S', s, r, e, q⟩ => by
  cases ds with
  | nil => cases e; cases r; exact ⟨rfl, q σ H μ .refl s⟩
  | cons _ _ => cases e⟩
theorem mgs_cons {e : Expr} {es : List Expr} {g : MTg} {r : MTgs} (h1 : MG X e g) (h2 : MGs X es r) (hs : (assignEach (e :: es) X.env).map (·.2) = assign e X.env :: (assignEach es X.env).map (·.2) := by rfl) : MGs X (e :: es) (mgCons g r) :=
  ⟨PGs.imp (pgs_cons h1.pg h2.pgs hs) fun vs σ H Q ⟨ds, ρ, S, μ, ρ', S', s, rr, e, q⟩ => by
    cases ds with
    | nil => cases e
    | cons d ds =>
      cases rr with
      | cons r1 r2 =>
      obtain ⟨⟨ρ1, S1⟩, e1, e⟩ := Option.bind_eq_some_iff.mp (show ((g d ρ S).bind fun p => r ds p.1 p.2) = some (ρ', S') from e)
      exact ⟨_, _, rfl, d, ρ, S, μ, ρ1, S1, s, r1, e1, fun σ1 H1 μ1 g1 s1 => ⟨ds, ρ1, S1, μ1, ρ', S', s1, r2.grow g1, e, fun σ2 H2 μ2 g2 s2 => q σ2 H2 μ2 (g1.trans g2) s2⟩⟩⟩
theorem mg_tup {es : List Expr} {k : Nat} {r : MTgs} {n : Nat} (hc : X.calm = true) (h : MGs X es r) (hn : (assignEach es X.env).length = n := by rfl) (hst : (assignEach es X.env).findIdx? (·.1) = none := by rfl) : MG X (.Tuple es k pos) (mgTup r n) :=
  ⟨PG.imp (pg_tup hc h.pgs hn hst) fun v σ H Q ⟨d, ρ, S, μ, ρ', S', s, rr, e, q⟩ => by
    cases d with
    | tup ds =>
      cases rr with
      | tup h1 h2 =>
      have e : (if ds.length = n then r ds ρ S else none) = some (ρ', S') := e
      split at e
      · rename_i hl
        exact ⟨_, _, rfl, sq _ _ h1, by rw [h2.length]; exact hl, ds, ρ, S, μ, ρ', S', s, h2, e, q⟩
      · cases e
    | _ => cases e⟩
theorem RpA.ixN {K : PySem.W.Frag} {H : Hp} {μ : List Addr} {vs : List V} {ds : List D} {i : Int} (r : RpA K H μ vs ds) : L2.ixN vs.length i = L2.ixN ds.length i := by rw [r.length]
theorem mg_sub {o i : Expr} {mo mi : MExp} (ho : ME X o mo) (hi : ME X i mi)
    (ha : ∀ v, assign (.Subscript o i pos) X.env v = (do
      let ov ← holding [v] (eval o X.env)
      let iv ← holding [v, ov] (eval i X.env)
      standAt pos
      holding [v, ov, iv] (setItem ov iv v)
      release [v, ov, iv] []) := by intro _; rfl) : MG X (.Subscript o i pos) (mgSub mo mi) :=
  ⟨PG.imp (pg_sub ho.pe hi.pe set_list ha) fun v σ H Q ⟨d, ρ, S, μ, ρ', S', s, rr, e, q⟩ => by
    obtain ⟨⟨d1, S1⟩, e1, e⟩ := Option.bind_eq_some_iff.mp e
    obtain ⟨⟨d2, S2⟩, e2, e⟩ := Option.bind_eq_some_iff.mp e
    refine ⟨ρ, S, μ, d1, S1, s, e1, fun v1 H1 μ1 g1 s1 r1 => ⟨ρ, S1, μ1, d2, S2, s.grow g1 s1, e2, fun v2 H2 μ2 g2 s2 r2 => ?_⟩⟩
    cases d1 with
    | lr n =>
      cases d2 with
      | int k =>
        obtain ⟨ds, e3, e⟩ := Option.bind_eq_some_iff.mp (show ((mat S2 n).bind fun ds => (L2.ixN ds.length k).bind fun j => some (ρ, S2.set n (.lst (ds.set j d)))) = some (ρ', S') from e)
        obtain ⟨j, e4, e⟩ := Option.bind_eq_some_iff.mp e
        cases e
        cases r2
        obtain ⟨a, vs, rfl, h1, h2, h3⟩ := s2.mat e3 (r1.grow g2)
        refine ⟨a, vs, k, j, rfl, rfl, h2, by rw [h3.ixN]; exact e4, ?_⟩
        have g12 := g1.trans g2
        refine q σ _ μ2 (g12.trans (.wr h2)) ?_
        exact (s.grow g12 s2).grow (.wr h2) (s2.wr (mat_eq e3) h1 (h3.set (rr.grow g12) j))
      | _ => cases e
    | _ => cases e⟩
/-! ### assignments -/
theorem tS_asg {g : MTg} {D_ : Ends} {σ : L2.St} {H : Hp} (h : tS X.K (mAsg me g) D_ σ H) : tAsg (tE X.K me) (tG X.K g) D_ σ H := by
  obtain ⟨ρ, S, μ, f, ρ', S', s, e, q⟩ := h
  obtain ⟨⟨d, S1⟩, e1, e⟩ := Option.bind_eq_some_iff.mp e
  obtain ⟨⟨ρ2, S2⟩, e2, e⟩ := Option.bind_eq_some_iff.mp e
  cases e
  exact ⟨ρ, S, μ, d, S1, s, e1, fun v H1 μ1 g1 s1 r1 => ⟨d, ρ, S1, μ1, _, _, s.grow g1 s1, r1, e2, fun σ2 H2 μ2 g2 s2 => q σ2 H2 μ2 (g1.trans g2) s2⟩⟩
theorem ms_asg {tg : Expr} {g : MTg} (he : ME X e me) (hg : MG X tg g) (hs : swapsWithSole [tg] e pos.line X.env = pure false := by rfl) (hw : swappedStores [tg] e X.env = pure none := by rfl)
    (h1 : (assignEach [tg] X.env).map (·.2) = [assign tg X.env] := by rfl) : MS_ X (.Assign [tg] e pos) (mAsg me g) := ⟨PS.imp (ps_asg he.pe hg.pg hs hw h1) fun _ _ _ h => tS_asg h⟩
theorem ms_set {i : Nat} {x : Str} {pos' : Pos} (hN : X.N.Nodup) (hi : X.N[i]? = some x) (hx : Loc X.env.scope x) (he : ME X e me) (hs : swapsWith e (some (.Name x pos')) pos.line X.env = pure false := by rfl)
    (hf : X.fn x = true ∨ X.env.scope.names.lookup x = some .local := by first | exact .inl rfl | exact .inr rfl | assumption) : MS_ X (.Assign [.Name x pos'] e pos) (mAsg me (mName i)) :=
  ⟨PS.imp (ps_set hN hi hx he.pe hs hf) fun D_ σ H h => by
    obtain ⟨ρ, S, μ, f, ρ', S', s, e, q⟩ := h
    obtain ⟨⟨d, S1⟩, e1, e⟩ := Option.bind_eq_some_iff.mp e
    cases e
    exact ⟨ρ, S, μ, d, _, s, e1, fun v H1 μ1 g1 s1 r1 => q _ H1 μ1 g1 ((s.grow g1 s1).set i r1)⟩⟩
/-- a, b = x, y -/
def mPar (i j : Nat) (m : MArg) : MStm := fun ρ S => (m ρ S).bind fun p => match p.1 with
  | [a, b] => some (.nx, (ρ.set i (some a)).set j (some b), p.2)
  | _ => none
theorem ms_par {i j : Nat} {x y : Str} {a b : Expr} {m : MArg} {px py pt : Pos} {kt k2 pt2} (hc : X.calm = true) (hN : X.N.Nodup) (hi : X.N[i]? = some x) (hj : X.N[j]? = some y) (hij : i ≠ j)
    (hx : X.env.scope.names.lookup x = some .local) (hy : X.env.scope.names.lookup y = some .local) (ha : MA X [a, b] m)
    (hw : swappedStores [.Tuple [.Name x px, .Name y py] kt pt] (.Tuple [a, b] k2 pt2) X.env = pure (some [x, y]) := by rfl)
    (hs : swapsWithSole [.Tuple [.Name x px, .Name y py] kt pt] (.Tuple [a, b] k2 pt2) pos.line X.env = pure false := by rfl) :
    MS_ X (.Assign [.Tuple [.Name x px, .Name y py] kt pt] (.Tuple [a, b] k2 pt2) pos) (mPar i j m) :=
  ⟨PS.imp (ps_par hc hN hi hj hij hx hy ha.pa hw hs) fun D_ σ H ⟨ρ, S, μ, f, ρ', S', s, e, q⟩ => by
    obtain ⟨⟨ds, S1⟩, e1, e⟩ := Option.bind_eq_some_iff.mp e
    refine ⟨ρ, S, μ, ds, S1, s, e1, fun vs H1 μ1 g1 s1 r1 => ?_⟩
    match ds, r1, e with
    | [a, b], .cons ra (.cons rb .nil), e =>
      cases e
      exact ⟨_, _, rfl, q _ H1 μ1 g1 (((s.grow g1 s1).set i ra).set j rb)⟩
    | [], _, e => cases e
    | [_], _, e => cases e
    | _ :: _ :: _ :: _, _, e => cases e⟩
/-- x op= e -/
def mAug (i : Nat) (f : DOp2) (m : MExp) : MStm := fun ρ S => match ρ[i]? with
  | some (some d) => (m ρ S).bind fun p => (f d p.1 p.2).bind fun q => some (.nx, ρ.set i (some q.1), q.2)
  | _ => none
theorem ms_aug {i : Nat} {x : Str} {op : Operator} {f : DOp2} {pos' : Pos} (hN : X.N.Nodup) (hi : X.N[i]? = some x) (hx : Loc X.env.scope x) (he : ME X e me) (ho : PIp X op (rM X.K f))
    (hf : X.fn x = true ∨ X.env.scope.names.lookup x = some .local := by first | exact .inl rfl | exact .inr rfl | assumption) : MS_ X (.AugAssign (.Name x pos') op e pos) (mAug i f me) :=
  ⟨PS.imp (ps_aug hN hi hx he.pe ho hf) fun D_ σ H ⟨ρ, S, μ, f', ρ', S', s, e, q⟩ => by
    unfold mAug at e
    split at e
    · rename_i d hd
      obtain ⟨⟨d1, S1⟩, e1, e⟩ := Option.bind_eq_some_iff.mp e
      obtain ⟨⟨d2, S2⟩, e2, e⟩ := Option.bind_eq_some_iff.mp e
      cases e
      obtain ⟨v0, h1, h2⟩ := s.sl i d hd
      refine ⟨v0, h1, ρ, S, μ, d1, S1, s, e1, fun v H1 μ1 g1 s1 r1 => ?_⟩
      refine ⟨S1, μ1, d, d1, d2, _, s1, h2.grow g1, r1, e2, fun v2 H2 μ2 g2 s2 r2 => ?_⟩
      exact q _ H2 μ2 (g1.trans g2) ((s.grow (g1.trans g2) s2).set i r2)
    · cases e⟩
theorem i_add : PIp X .Add (rM X.K (fI fun i j => i + j)) := by
  intro pins s σ H x y v u Q I r1 r2 ⟨S, μ, dx, dy, d, S', st, px, py, e, q⟩
  unfold fI at e
  split at e
  · cases e; cases px; cases py
    exact ip_add pins s σ H _ _ v u Q I r1 r2 ⟨_, _, rfl, rfl, q.id st (.int _)⟩
  · cases e
theorem i_sub : PIp X .Sub (rM X.K (fI fun i j => i - j)) := by
  intro pins s σ H x y v u Q I r1 r2 ⟨S, μ, dx, dy, d, S', st, px, py, e, q⟩
  unfold fI at e
  split at e
  · cases e; cases px; cases py
    exact ip_sub pins s σ H _ _ v u Q I r1 r2 ⟨_, _, rfl, rfl, q.id st (.int _)⟩
  · cases e
end
end MS

set_option Elab.async false
set_option linter.all false
set_option maxRecDepth 100000
set_option maxHeartbeats 4000000
namespace MS
open PySem PySem.Spec PyProof.Rows L2

mutual
def D.same : D → D → Bool
  | .non, .non => true
  | .bl a, .bl b => a == b
  | .int a, .int b => decide (a = b)
  | .str a, .str b => decide (a = b)
  | .tup a, .tup b => D.sameA a b
  | .lr a, .lr b => decide (a = b)
  | _, _ => false
def D.sameA : List D → List D → Bool
  | [], [] => true
  | a :: as, b :: bs => D.same a b && D.sameA as bs
  | _, _ => false
end
mutual
theorem D.same_eq : ∀ a b : D, D.same a b = true → a = b
  | .non, b, h => by cases b <;> first | rfl | cases h
  | .bl a, b, h => by
    cases b with
    | bl b => rw [show a = b from eq_of_beq h]
    | _ => cases h
  | .int a, b, h => by
    cases b with
    | int b => rw [show a = b from of_decide_eq_true h]
    | _ => cases h
  | .str a, b, h => by
    cases b with
    | str b => rw [show a = b from of_decide_eq_true h]
    | _ => cases h
  | .lr a, b, h => by
    cases b with
    | lr b => rw [show a = b from of_decide_eq_true h]
    | _ => cases h
  | .tup a, b, h => by
    cases b with
    | tup b => rw [show a = b from D.sameA_eq a b h]
    | _ => cases h
theorem D.sameA_eq : ∀ a b : List D, D.sameA a b = true → a = b
  | [], b, h => by cases b <;> first | rfl | cases h
  | a :: as, b, h => by
    cases b with
    | nil => cases h
    | cons b bs =>
      have h : (D.same a b && D.sameA as bs) = true := h
      rw [Bool.and_eq_true] at h
      rw [D.same_eq a b h.1, D.sameA_eq as bs h.2]
end
mutual
theorem D.same_refl : ∀ a : D, D.same a a = true
  | .non => rfl
  | .bl a => beq_self_eq_true a
  | .int a => decide_eq_true rfl
  | .str a => decide_eq_true rfl
  | .lr a => decide_eq_true rfl
  | .tup a => D.sameA_refl a
theorem D.sameA_refl : ∀ a : List D, D.sameA a a = true
  | [] => rfl
  | a :: as => by
    show (D.same a a && D.sameA as as) = true
    rw [D.same_refl a, D.sameA_refl as]
    rfl
end
/-- the list at a handle is this one still -/
def still (n : Nat) (ds : List D) : Store → Bool := fun S => match lat S n with
  | some es => D.sameA es ds
  | none => false
theorem still_eq {n : Nat} {ds : List D} {S : Store} (h : still n ds S = true) : lat S n = some ds := by
  unfold still at h
  split at h
  · rename_i es e
    rw [e, D.sameA_eq es ds h]
  · cases h
theorem still_of {n : Nat} {ds : List D} {S : Store} (h : lat S n = some ds) : still n ds S = true := by
  unfold still
  rw [h]
  exact D.sameA_refl ds
def always : Store → Bool := fun _ => true

/-! ### what a loop walks -/
/-- from (H0, μ0) on J walks ds while ok holds of the store -/
structure IsIt (K : PySem.W.Frag) (J : It) (H0 : Hp) (μ0 : List Addr) (ds : List D) (ok : Store → Bool) : Prop where
  go : ∀ i H μ S, Grow H0 H μ0 μ → StR K H μ S → ok S = true → i < ds.length → J.go i H
  stop : ∀ H μ S, Grow H0 H μ0 μ → StR K H μ S → ok S = true → J.stop ds.length H
  yld : ∀ i H μ S x H', Grow H0 H μ0 μ → StR K H μ S → ok S = true → J.yld i H x H' → ∀ d, ds[i]? = some d → Grow H H' μ μ ∧ StR K H' μ S ∧ Rp K H' μ x d
abbrev MItr := Ev → Store → Option ((List D × (Store → Bool)) × Store)
def tI (K : PySem.W.Frag) (m : MItr) : TI := fun σ H R => ∃ ρ S μ p S', Sim K H μ σ ρ S ∧ m ρ S = some (p, S') ∧ ∀ J H' μ', Grow H H' μ μ' → StR K H' μ' S' → IsIt K J H' μ' p.1 p.2 → R J H'
structure MI (X : Cx) (tg iter : Expr) (m : MItr) : Prop where
  pi : PI X tg iter (tI X.K m)
theorem PI.imp {X : Cx} {tg iter : Expr} {t t' : TI} (h : PI X tg iter t) (i : ∀ σ H R, t' σ H R → t σ H R) : PI X tg iter t' := ⟨fun pins s σ H R I q => h.run pins s σ H R I (i _ _ _ q)⟩
theorem PI.or {X : Cx} {tg iter : Expr} {e : Expr} {t t' : TI} (h : ∀ pins s σ H R, Inv X pins σ H s → (t σ H R ∨ t' σ H R) → wpAny (model X.prog X.w) X.A (eval iter X.env) (fun v s1 => wpAny (model X.prog X.w) X.A (pyIter v) (PIE X pins σ tg R) X.xe s1) X.xe s) :
    PI X tg iter (fun σ H R => t σ H R ∨ t' σ H R) := ⟨h⟩
def mItems (m : MExp) : MItr := fun ρ S => (m ρ S).bind fun p => match p.1 with
  | .tup ds => some ((ds, always), p.2)
  | .lr n => (lat p.2 n).bind fun ds => some ((ds, still n ds), p.2)
  | _ => none
section
variable {X : Cx} {tg e : Expr} {m : MExp}
theorem isIt_list {K : PySem.W.Frag} {H0 : Hp} {μ0 : List Addr} {n : Nat} {a : Addr} {ds : List D} (r : Rp K H0 μ0 (.ref a) (.lr n)) : IsIt K (Itl K a) H0 μ0 ds (still n ds) where
  go := fun i H μ S g s h hi => by
    obtain ⟨a', vs, e1, h1, h2⟩ := s.lat (still_eq h) (r.grow g)
    cases e1
    have hi' : i < vs.length := by rw [h2.length]; exact hi
    exact ⟨vs, vs[i], h1, List.getElem?_eq_getElem hi'⟩
  stop := fun H μ S g s h => by
    obtain ⟨a', vs, e1, h1, h2⟩ := s.lat (still_eq h) (r.grow g)
    cases e1
    exact ⟨vs, h1, by rw [h2.length]; exact Nat.le_refl _⟩
  yld := fun i H μ S x H' g s h y d hd => by
    obtain ⟨rfl, y⟩ := y
    obtain ⟨a', vs, e1, h1, h2⟩ := s.lat (still_eq h) (r.grow g)
    cases e1
    obtain ⟨w, h3, h4⟩ := h2.get hd
    rw [y vs h1] at h3
    cases h3
    exact ⟨.refl, s, h4⟩
theorem isIt_tup {K : PySem.W.Frag} {H0 : Hp} {μ0 : List Addr} {a : Addr} {vs : List V} {ds : List D} (h1 : SqT K H0 a vs) (h2 : RpA K H0 μ0 vs ds) : IsIt K (Itt K a) H0 μ0 ds always where
  go := fun i H μ S g s h hi => by
    have hi' : i < vs.length := by rw [h2.length]; exact hi
    exact ⟨vs, vs[i], g.sqT h1, List.getElem?_eq_getElem hi'⟩
  stop := fun H μ S g s h => ⟨vs, g.sqT h1, by rw [h2.length]; exact Nat.le_refl _⟩
  yld := fun i H μ S x H' g s h y d hd => by
    obtain ⟨rfl, y⟩ := y
    obtain ⟨w, h3, h4⟩ := (h2.grow g).get hd
    rw [y vs (g.sqT h1)] at h3
    cases h3
    exact ⟨.refl, s, h4⟩
theorem mi_items (h : ME X e m) : MI X tg e (mItems m) := by
  refine ⟨⟨fun pins s σ H R I ⟨ρ, S, μ, p, S', st, e1, q⟩ => ?_⟩⟩
  obtain ⟨⟨d, S1⟩, e2, e1⟩ := Option.bind_eq_some_iff.mp e1
  cases d with
  | tup ds =>
    cases e1
    refine (pi_tup h.pe).run pins s σ H R I ⟨ρ, S, μ, _, _, st, e2, fun v H1 μ1 g1 s1 r1 => ?_⟩
    cases r1 with
    | tup h1 h2 => exact ⟨_, rfl, ⟨_, sq _ _ h1⟩, q _ H1 μ1 g1 s1 (isIt_tup (sq _ _ h1) h2)⟩
  | lr n =>
    obtain ⟨ds, e3, e1⟩ := Option.bind_eq_some_iff.mp (show ((lat S1 n).bind fun ds => some ((ds, still n ds), S1)) = some (p, S') from e1)
    cases e1
    refine (pi_list h.pe).run pins s σ H R I ⟨ρ, S, μ, _, _, st, e2, fun v H1 μ1 g1 s1 r1 => ?_⟩
    obtain ⟨a, vs, rfl, h1, h2⟩ := s1.lat e3 r1
    exact ⟨a, rfl, ⟨vs, h1⟩, q _ H1 μ1 g1 s1 (isIt_list r1)⟩
  | _ => cases e1
def rangeD (lo : Int) (n : Nat) : List D := (List.range n).map fun (i : Nat) => D.int (lo + (i : Int))
theorem rangeD_length {lo : Int} {n : Nat} : (rangeD lo n).length = n := by unfold rangeD; rw [List.length_map, List.length_range]
theorem isIt_range {K : PySem.W.Frag} {H0 : Hp} {μ0 : List Addr} {lo : Int} {n : Nat} : IsIt K (Itr lo n) H0 μ0 (rangeD lo n) always where
  go := fun i H μ S g s h hi => by rw [rangeD_length] at hi; exact hi
  stop := fun H μ S g s h => by rw [rangeD_length]; exact Nat.le_refl _
  yld := fun i H μ S x H' g s h y d hd => by
    obtain ⟨rfl, rfl⟩ := y
    unfold rangeD at hd
    rw [List.getElem?_map] at hd
    obtain ⟨j, h1, h2⟩ := Option.map_eq_some_iff.mp hd
    subst h2
    obtain ⟨h3, h4⟩ := List.getElem?_eq_some_iff.mp h1
    rw [List.getElem_range] at h4
    subst h4
    exact ⟨.refl, s, .int _⟩
def r62 (i : Int) : Bool := decide (-(2 ^ 62) ≤ i) && decide (i < 2 ^ 62)
theorem r62_iff {i : Int} (h : r62 i = true) : -(2 ^ 62) ≤ i ∧ i < 2 ^ 62 := by
  unfold r62 at h
  rw [Bool.and_eq_true, decide_eq_true_eq, decide_eq_true_eq] at h
  exact h
def mRange1 (m : MArg) : MItr := fun ρ S => (m ρ S).bind fun p => match p.1 with
  | [.int j] => if r62 j then some ((rangeD 0 j.toNat, always), p.2) else none
  | _ => none
def mRange2 (m : MArg) : MItr := fun ρ S => (m ρ S).bind fun p => match p.1 with
  | [.int i, .int j] => if r62 i && r62 j then some ((rangeD i (j - i).toNat, always), p.2) else none
  | _ => none
theorem mi_range1 {a : Expr} {ma : MArg} {p pos : Pos} (hg : Gl X "range") (hm : X.mg "range" = none) (ha : MA X [a] ma) (hs : starEach [a] X.env = [(false, eval a X.env)] := by rfl) : MI X tg (.Call (.Name "range" p) [a] [] pos) (mRange1 ma) :=
  ⟨PI.imp (pi_range1 hg hm ha.pa hs) fun σ H R ⟨ρ, S, μ, p, S', st, e1, q⟩ => by
    obtain ⟨⟨ds, S1⟩, e2, e1⟩ := Option.bind_eq_some_iff.mp e1
    refine ⟨ρ, S, μ, ds, S1, st, e2, fun vs H1 μ1 g1 s1 r1 => ?_⟩
    dsimp only at e1
    split at e1
    · split at e1
      · rename_i h
        cases e1
        obtain ⟨h1, h2⟩ := r62_iff h
        match vs, r1 with
        | _, .cons (.int j) .nil => exact ⟨_, rfl, h1, h2, q _ H1 μ1 g1 s1 isIt_range⟩
      · cases e1
    · cases e1⟩
theorem mi_range2 {a b : Expr} {ma : MArg} {p pos : Pos} (hg : Gl X "range") (hm : X.mg "range" = none) (ha : MA X [a, b] ma) (hs : starEach [a, b] X.env = [(false, eval a X.env), (false, eval b X.env)] := by rfl) (hs2 : starEach [b] X.env = [(false, eval b X.env)] := by rfl) :
    MI X tg (.Call (.Name "range" p) [a, b] [] pos) (mRange2 ma) :=
  ⟨PI.imp (pi_range2 hg hm ha.pa hs hs2) fun σ H R ⟨ρ, S, μ, p, S', st, e1, q⟩ => by
    obtain ⟨⟨ds, S1⟩, e2, e1⟩ := Option.bind_eq_some_iff.mp e1
    refine ⟨ρ, S, μ, ds, S1, st, e2, fun vs H1 μ1 g1 s1 r1 => ?_⟩
    dsimp only at e1
    split at e1
    · split at e1
      · rename_i h
        cases e1
        rw [Bool.and_eq_true] at h
        obtain ⟨h1, h2⟩ := r62_iff h.1
        obtain ⟨h3, h4⟩ := r62_iff h.2
        match vs, r1 with
        | _, .cons (.int i) (.cons (.int j) .nil) => exact ⟨_, _, rfl, ⟨h1, h2, h3, h4⟩, q _ H1 μ1 g1 s1 isIt_range⟩
      · cases e1
    · cases e1⟩
end

/-! ### for, while -/
def forL (ok : Store → Bool) (g : MTg) (b : MStm) : List D → MStm
  | [], ρ, S => if ok S then some (.nx, ρ, S) else none
  | x :: r, ρ, S => if ok S then (g x ρ S).bind fun p => (b p.1 p.2).bind fun q => match q.1 with
    | .nx => forL ok g b r q.2.1 q.2.2
    | .ct => forL ok g b r q.2.1 q.2.2
    | .bk => some (.nx, q.2.1, q.2.2)
    | .rt d => some (.rt d, q.2.1, q.2.2) else none
def mFor (i : MItr) (g : MTg) (b : MStm) : MStm := fun ρ S => (i ρ S).bind fun p => forL p.1.2 g b p.1.1 ρ p.2
def whileN (t : MTst) (b : MStm) : Nat → MStm
  | 0, _, _ => none
  | n + 1, ρ, S => (t ρ S).bind fun p => if p.1 then (b ρ p.2).bind fun q => match q.1 with
    | .nx => whileN t b n q.2.1 q.2.2
    | .ct => whileN t b n q.2.1 q.2.2
    | .bk => some (.nx, q.2.1, q.2.2)
    | .rt d => some (.rt d, q.2.1, q.2.2) else some (.nx, ρ, p.2)
section
variable {X : Cx} {tg iter c : Expr} {body : List Stmt} {i : MItr} {g : MTg} {b : MStm} {t : MTst} {pos : Pos}
theorem tS_for {K : PySem.W.Frag} {D_ : Ends} {σ : L2.St} {H : Hp} (h : tS K (mFor i g b) D_ σ H) : tFor (tI K i) (tG K g) (tS K b) D_ σ H := by
  obtain ⟨ρ, S, μ, f, ρ', S', st, e, q⟩ := h
  obtain ⟨⟨⟨ds, ok⟩, S1⟩, e1, e⟩ := Option.bind_eq_some_iff.mp e
  refine ⟨ρ, S, μ, (ds, ok), S1, st, e1, fun J H0 μ0 g0 s0 hJ => ?_⟩
  refine ⟨fun i m σ H => m = ds.length - i ∧ i ≤ ds.length ∧ ∃ ρ S μ, Sim K H μ σ ρ S ∧ Grow H0 H μ0 μ ∧ forL ok g b (ds.drop i) ρ S = some (f, ρ', S'), ⟨ds.length, by omega, by omega, ρ, S1, μ0, st.grow g0 s0, .refl, e⟩, ?_⟩
  rintro i m σ1 H1 ⟨rfl, hi, ρ1, S2, μ1, st1, g1, e2⟩
  by_cases hlt : i < ds.length
  · rw [List.drop_eq_getElem_cons hlt] at e2
    unfold forL at e2
    split at e2
    · rename_i hok
      obtain ⟨⟨ρ3, S3⟩, e3, e2⟩ := Option.bind_eq_some_iff.mp e2
      obtain ⟨⟨f4, ρ4, S4⟩, e4, e2⟩ := Option.bind_eq_some_iff.mp e2
      refine .inr ⟨hJ.go i H1 μ1 S2 g1 st1.st hok hlt, fun σ' H' => ∃ ρ S μ, Sim K H' μ σ' ρ S ∧ Grow H0 H' μ0 μ ∧ forL ok g b (ds.drop (i + 1)) ρ S = some (f, ρ', S'), fun σ' H' hN => ?_, fun x H' y => ?_⟩
      · exact ⟨ds.length - (i + 1), by omega, rfl, hlt, hN⟩
      · obtain ⟨g2, s2, r2⟩ := hJ.yld i H1 μ1 S2 x H' g1 st1.st hok y ds[i] (List.getElem?_eq_getElem hlt)
        refine ⟨ds[i], ρ1, S2, μ1, ρ3, S3, st1.grow g2 s2, r2, e3, fun σ3 H3 μ3 g3 st3 => ?_⟩
        refine ⟨ρ3, S3, μ3, f4, ρ4, S4, st3, e4, fun σ4 H4 μ4 g4 st4 => ?_⟩
        have gg : Grow H0 H4 μ0 μ4 := ((g1.trans g2).trans g3).trans g4
        cases f4 with
        | nx => exact ⟨ρ4, S4, μ4, st4, gg, e2⟩
        | ct => exact ⟨ρ4, S4, μ4, st4, gg, e2⟩
        | bk => cases e2; exact q σ4 H4 μ4 (g0.trans gg) st4
        | rt d => cases e2; exact q σ4 H4 μ4 (g0.trans gg) st4
    · cases e2
  · have ei : i = ds.length := by omega
    subst ei
    rw [List.drop_length] at e2
    unfold forL at e2
    split at e2
    · rename_i hok
      cases e2
      exact .inl ⟨hJ.stop H1 μ1 _ g1 st1.st hok, q σ1 H1 μ1 (g0.trans g1) st1⟩
    · cases e2
theorem ms_for (hp : PassesOwn (model X.prog X.w) X.A X.env X.xe) (hc : X.calm = true) (hi : MI X tg iter i) (hg : MG X tg g) (hb : MSs X body b) (hs : ∀ x, foldedSetIterable iter X.env x = pure x := by intro _; rfl) : MS_ X (.For tg iter body [] pos) (mFor i g b) :=
  ⟨PS.imp (ps_for hp hc hi.pi hg.pg hb.pss hs) fun _ _ _ h => tS_for h⟩
theorem tS_while {K : PySem.W.Frag} {n : Nat} {D_ : Ends} {σ : L2.St} {H : Hp} (h : tS K (whileN t b n) D_ σ H) : tWhile (tT K t) (tS K b) D_ σ H := by
  obtain ⟨ρ, S, μ, f, ρ', S', st, e, q⟩ := h
  refine ⟨fun m σ1 H1 => ∃ ρ1 S1 μ1, Sim K H1 μ1 σ1 ρ1 S1 ∧ Grow H H1 μ μ1 ∧ whileN t b m ρ1 S1 = some (f, ρ', S'), ⟨n, ρ, S, μ, st, .refl, e⟩, ?_⟩
  rintro m σ1 H1 ⟨ρ1, S1, μ1, st1, g1, e1⟩
  cases m with
  | zero => cases e1
  | succ m =>
    obtain ⟨⟨k, S2⟩, e2, e1⟩ := Option.bind_eq_some_iff.mp (show ((t ρ1 S1).bind fun p => if p.1 then (b ρ1 p.2).bind fun q => (match q.1 with
      | .nx => whileN t b m q.2.1 q.2.2
      | .ct => whileN t b m q.2.1 q.2.2
      | .bk => some (.nx, q.2.1, q.2.2)
      | .rt d => some (.rt d, q.2.1, q.2.2)) else some (.nx, ρ1, p.2)) = some (f, ρ', S') from e1)
    refine ⟨ρ1, S1, μ1, k, S2, st1, e2, fun H2 μ2 g2 s2 => ?_⟩
    have st2 := st1.grow g2 s2
    cases k with
    | false =>
      cases e1
      exact iteF (q σ1 H2 μ2 (g1.trans g2) st2)
    | true =>
      obtain ⟨⟨f3, ρ3, S3⟩, e3, e1⟩ := Option.bind_eq_some_iff.mp (show ((b ρ1 S2).bind fun q => (match q.1 with
        | .nx => whileN t b m q.2.1 q.2.2
        | .ct => whileN t b m q.2.1 q.2.2
        | .bk => some (.nx, q.2.1, q.2.2)
        | .rt d => some (.rt d, q.2.1, q.2.2))) = some (f, ρ', S') from e1)
      refine iteT ⟨fun σ3 H3 => ∃ ρ3 S3 μ3, Sim K H3 μ3 σ3 ρ3 S3 ∧ Grow H H3 μ μ3 ∧ whileN t b m ρ3 S3 = some (f, ρ', S'), fun σ3 H3 h3 => ⟨m, by omega, h3⟩, ?_⟩
      refine ⟨ρ1, S2, μ2, f3, ρ3, S3, st2, e3, fun σ4 H4 μ4 g4 st4 => ?_⟩
      have gg := (g1.trans g2).trans g4
      cases f3 with
      | nx => exact ⟨ρ3, S3, μ4, st4, gg, e1⟩
      | ct => exact ⟨ρ3, S3, μ4, st4, gg, e1⟩
      | bk => cases e1; exact q σ4 H4 μ4 gg st4
      | rt d => cases e1; exact q σ4 H4 μ4 gg st4
theorem ms_while (n : Nat) (hp : PassesOwn (model X.prog X.w) X.A X.env X.xe) (hc : MT X c t) (hb : MSs X body b) : MS_ X (.While c body [] pos) (whileN t b n) :=
  ⟨PS.imp (ps_while hp hc.pt hb.pss) fun _ _ _ h => tS_while h⟩
end

/-! ### targets that are names: which slots they touch -/
def tGl (K : PySem.W.Frag) (is : List Nat) (m : MTg) : TG := fun v σ H Q => ∃ d ρ S μ ρ' S', Sim K H μ σ ρ S ∧ Rp K H μ v d ∧ m d ρ S = some (ρ', S') ∧ ∀ σ' H' μ', Grow H H' μ μ' → Sim K H' μ' σ' ρ' S' → σ'.length = σ.length → (∀ j, j ∉ is → σ'[j]? = σ[j]?) → Q σ' H'
def tGsl (K : PySem.W.Frag) (is : List Nat) (m : MTgs) : TGs := fun vs σ H Q => ∃ ds ρ S μ ρ' S', Sim K H μ σ ρ S ∧ RpA K H μ vs ds ∧ m ds ρ S = some (ρ', S') ∧ ∀ σ' H' μ', Grow H H' μ μ' → Sim K H' μ' σ' ρ' S' → σ'.length = σ.length → (∀ j, j ∉ is → σ'[j]? = σ[j]?) → Q σ' H'
structure MGl (X : Cx) (is : List Nat) (tg : Expr) (m : MTg) : Prop where
  pg : PG X tg (tGl X.K is m)
structure MGsl (X : Cx) (is : List Nat) (ts : List Expr) (m : MTgs) : Prop where
  pgs : PGs X ts (tGsl X.K is m)
section
variable {X : Cx} {pos : Pos}
theorem MGl.mg {is : List Nat} {tg : Expr} {m : MTg} (h : MGl X is tg m) : MG X tg m := ⟨PG.imp h.pg fun v σ H Q ⟨d, ρ, S, μ, ρ', S', s, r, e, q⟩ => ⟨d, ρ, S, μ, ρ', S', s, r, e, fun σ' H' μ' g st _ _ => q σ' H' μ' g st⟩⟩
theorem mgl_name {i : Nat} {x : Str} (hN : X.N.Nodup) (hi : X.N[i]? = some x) (hx : Loc X.env.scope x) (hf : X.fn x = true ∨ X.env.scope.names.lookup x = some .local := by first | exact .inl rfl | exact .inr rfl | assumption) : MGl X [i] (.Name x pos) (mName i) :=
  ⟨PG.imp (pg_name hN hi hx hf) fun v σ H Q ⟨d, ρ, S, μ, ρ', S', s, r, e, q⟩ => by
    cases e
    exact q _ H μ .refl (s.set i r) (by rw [List.length_set]) fun j hj => by rw [List.getElem?_set_ne (fun z => hj (by simp [z]))]⟩
theorem mgsl_nil : MGsl X [] [] mgNil := ⟨PGs.imp pgs_nil fun vs σ H Q ⟨ds, ρ, S, μ, ρ', S', s, r, e, q⟩ => by
  cases ds with
  | nil => cases e; cases r; exact ⟨rfl, q σ H μ .refl s rfl fun _ _ => rfl⟩
  | cons _ _ => cases e⟩
theorem mgsl_cons {e : Expr} {es : List Expr} {g : MTg} {r : MTgs} {is js : List Nat} (h1 : MGl X is e g) (h2 : MGsl X js es r) (hs : (assignEach (e :: es) X.env).map (·.2) = assign e X.env :: (assignEach es X.env).map (·.2) := by rfl) : MGsl X (is ++ js) (e :: es) (mgCons g r) :=
  ⟨PGs.imp (pgs_cons h1.pg h2.pgs hs) fun vs σ H Q ⟨ds, ρ, S, μ, ρ', S', s, rr, e, q⟩ => by
    cases ds with
    | nil => cases e
    | cons d ds =>
      cases rr with
      | cons r1 r2 =>
      obtain ⟨⟨ρ1, S1⟩, e1, e⟩ := Option.bind_eq_some_iff.mp (show ((g d ρ S).bind fun p => r ds p.1 p.2) = some (ρ', S') from e)
      exact ⟨_, _, rfl, d, ρ, S, μ, ρ1, S1, s, r1, e1, fun σ1 H1 μ1 g1 s1 l1 k1 => ⟨ds, ρ1, S1, μ1, ρ', S', s1, r2.grow g1, e, fun σ2 H2 μ2 g2 s2 l2 k2 => q σ2 H2 μ2 (g1.trans g2) s2 (l2.trans l1) fun j hj =>
        (k2 j fun z => hj (List.mem_append_right _ z)).trans (k1 j fun z => hj (List.mem_append_left _ z))⟩⟩⟩
theorem mgl_tup {es : List Expr} {k : Nat} {r : MTgs} {n : Nat} {is : List Nat} (hc : X.calm = true) (h : MGsl X is es r) (hn : (assignEach es X.env).length = n := by rfl) (hst : (assignEach es X.env).findIdx? (·.1) = none := by rfl) : MGl X is (.Tuple es k pos) (mgTup r n) :=
  ⟨PG.imp (pg_tup hc h.pgs hn hst) fun v σ H Q ⟨d, ρ, S, μ, ρ', S', s, rr, e, q⟩ => by
    cases d with
    | tup ds =>
      cases rr with
      | tup h1 h2 =>
      have e : (if ds.length = n then r ds ρ S else none) = some (ρ', S') := e
      split at e
      · rename_i hl
        exact ⟨_, _, rfl, sq _ _ h1, by rw [h2.length]; exact hl, ds, ρ, S, μ, ρ', S', s, h2, e, q⟩
      · cases e
    | _ => cases e⟩
end

/-! ### comprehensions -/
def wipeD (ρ : Ev) : List Nat → Ev
  | [] => ρ
  | v :: vs => (wipeD ρ vs).set v none
theorem wipeD_length (ρ : Ev) : ∀ vs, (wipeD ρ vs).length = ρ.length
  | [] => rfl
  | v :: vs => by unfold wipeD; rw [List.length_set, wipeD_length ρ vs]
theorem wipeD_some {ρ : Ev} {i : Nat} {d : D} : ∀ {vs : List Nat}, (wipeD ρ vs)[i]? = some (some d) → ρ[i]? = some (some d) ∧ i ∉ vs
  | [], h => ⟨h, by simp⟩
  | v :: vs, h => by
    unfold wipeD at h
    by_cases hi : v = i
    · subst hi
      by_cases hv : v < (wipeD ρ vs).length
      · rw [List.getElem?_set_self hv] at h; cases h
      · rw [List.getElem?_eq_none (by simpa using hv)] at h; cases h
    · rw [List.getElem?_set_ne hi] at h
      obtain ⟨h1, h2⟩ := wipeD_some h
      exact ⟨h1, by simp only [List.mem_cons, not_or]; exact ⟨fun z => hi z.symm, h2⟩⟩
theorem wipe_at {σ : L2.St} {i : Nat} : ∀ {vs : List Nat}, i ∉ vs → (wipe σ vs)[i]? = σ[i]?
  | [], _ => rfl
  | v :: vs, h => by
    simp only [List.mem_cons, not_or] at h
    unfold wipe
    rw [List.getElem?_set_ne (fun z => h.1 z.symm)]
    exact wipe_at h.2
theorem wipe_in {σ : L2.St} {i : Nat} : ∀ {vs : List Nat}, i ∈ vs → i < σ.length → (wipe σ vs)[i]? = some none
  | [], h, _ => by cases h
  | v :: vs, h, hl => by
    unfold wipe
    by_cases hi : v = i
    · subst hi
      rw [List.getElem?_set_self (by rw [wipe_length]; exact hl)]
    · rw [List.getElem?_set_ne hi]
      rcases List.mem_cons.mp h with z | z
      · exact absurd z.symm hi
      · exact wipe_in z hl
theorem wipe_same {σ σ' : L2.St} {vs : List Nat} (hl : σ'.length = σ.length) (h : ∀ j, j ∉ vs → σ'[j]? = σ[j]?) : wipe σ' vs = wipe σ vs := by
  refine List.ext_getElem? fun i => ?_
  by_cases hi : i ∈ vs
  · by_cases hz : i < σ.length
    · rw [wipe_in hi hz, wipe_in hi (by rw [hl]; exact hz)]
    · rw [List.getElem?_eq_none (by rw [wipe_length, hl]; omega), List.getElem?_eq_none (by rw [wipe_length]; omega)]
  · rw [wipe_at hi, wipe_at hi, h i hi]
theorem wipe_wipe {σ : L2.St} {vs : List Nat} : wipe (wipe σ vs) vs = wipe σ vs := wipe_same (wipe_length _ _) fun j hj => wipe_at hj
theorem Sim.wipe {K : PySem.W.Frag} {H : Hp} {μ : List Addr} {σ : L2.St} {ρ : Ev} {S : Store} (s : Sim K H μ σ ρ S) (vs : List Nat) : Sim K H μ (L2.wipe σ vs) (wipeD ρ vs) S :=
  ⟨s.st, by rw [wipeD_length, wipe_length]; exact s.len, fun i d e => by
    obtain ⟨h1, h2⟩ := wipeD_some e
    obtain ⟨v, h3, h4⟩ := s.sl i d h1
    exact ⟨v, by rw [wipe_at h2]; exact h3, h4⟩⟩
def mYes : MTst := fun _ S => some (true, S)
structure MTs (X : Cx) (ifs : List Expr) (t : MTst) : Prop where
  pts : PTs X ifs (tT X.K t)
theorem mts_nil {X : Cx} : MTs X [] mYes := ⟨⟨fun pins s σ H Q I ⟨ρ, S, μ, b, S', st, e, q⟩ => pts_nil.run pins s σ H Q I (by cases e; exact q H μ .refl st.st)⟩⟩
theorem mts_one {X : Cx} {c : Expr} {t : MTst} (h : MT X c t) : MTs X [c] t := ⟨pts_one h.pt⟩
/-- the new list grows at its handle -/
def lcL (ok : Store → Bool) (g : MTg) (t : MTst) (e : MExp) (ρw : Ev) (n : Nat) : List D → Store → Option Store
  | [], S => if ok S then some S else none
  | x :: r, S => if ok S then (g x ρw S).bind fun p => (t p.1 p.2).bind fun k => if k.1 then (e p.1 k.2).bind fun y => (mat y.2 n).bind fun acc =>
      if acc.length < szl then lcL ok g t e ρw n r (y.2.set n (.lst (acc ++ [y.1]))) else none
    else lcL ok g t e ρw n r k.2 else none
def mLc (i : MItr) (g : MTg) (t : MTst) (e : MExp) (vs : List Nat) : MExp := fun ρ S => (i ρ S).bind fun p =>
  (lcL p.1.2 g t e (wipeD ρ vs) p.2.length p.1.1 (p.2 ++ [.lst []])).bind fun S2 => some (.lr p.2.length, S2)
theorem tE_lc {K : PySem.W.Frag} {i : MItr} {g : MTg} {t : MTst} {e : MExp} {vs is : List Nat} {σ : L2.St} {H : Hp} {Q : VK} (hv : ∀ j ∈ is, j ∈ vs) (h : tE K (mLc i g t e vs) σ H Q) : tLc (tI K i) (tGl K is g) (tT K t) (tE K e) vs σ H Q := by
  obtain ⟨ρ, S, μ, d, S', st, e0, q⟩ := h
  obtain ⟨⟨⟨ds, ok⟩, S1⟩, e1, e0⟩ := Option.bind_eq_some_iff.mp e0
  obtain ⟨S9, e9, e0⟩ := Option.bind_eq_some_iff.mp e0
  cases e0
  refine ⟨ρ, S, μ, (ds, ok), S1, st, e1, fun J H1 μ1 g1 s1 hJ A hA => ?_⟩
  have st1 : Sim K H1 μ1 σ ρ S1 := st.grow g1 s1
  have gA : Grow H1 (upd H1 A (.lst [])) μ1 (μ1 ++ [A]) := .newL hA
  have sA : StR K (upd H1 A (.lst [])) (μ1 ++ [A]) (S1 ++ [.lst []]) := s1.newL hA .nil
  have hnA : (μ1 ++ [A])[S1.length]? = some A := by rw [← s1.len, List.getElem?_concat_length]
  refine ⟨fun i m H => m = ds.length - i ∧ i ≤ ds.length ∧ ∃ S μ, StR K H μ S ∧ Grow (upd H1 A (.lst [])) H (μ1 ++ [A]) μ ∧ lcL ok g t e (wipeD ρ vs) S1.length (ds.drop i) S = some S',
    ⟨ds.length, by omega, by omega, _, _, sA, .refl, e9⟩, ?_⟩
  rintro i m H2 ⟨rfl, hi, S2, μ2, s2, g2, e2⟩
  have g12 := gA.trans g2
  have w2 : Sim K H2 μ2 (wipe σ vs) (wipeD ρ vs) S2 := (st1.wipe vs).grow g12 s2
  have hn2 : μ2[S1.length]? = some A := by
    obtain ⟨t, et⟩ := g2.pre
    rw [← et, List.getElem?_append_left (List.getElem?_eq_some_iff.mp hnA).1]
    exact hnA
  by_cases hlt : i < ds.length
  · rw [List.drop_eq_getElem_cons hlt] at e2
    unfold lcL at e2
    split at e2
    · rename_i hok
      obtain ⟨⟨ρ3, S3⟩, e3, e2⟩ := Option.bind_eq_some_iff.mp e2
      obtain ⟨⟨k4, S4⟩, e4, e2⟩ := Option.bind_eq_some_iff.mp e2
      refine .inr ⟨hJ.go i H2 μ2 S2 g12 s2 hok hlt, fun H' => ∃ S μ, StR K H' μ S ∧ Grow (upd H1 A (.lst [])) H' (μ1 ++ [A]) μ ∧ lcL ok g t e (wipeD ρ vs) S1.length (ds.drop (i + 1)) S = some S',
        fun H' hN => ⟨ds.length - (i + 1), by omega, rfl, hlt, hN⟩, fun x H' y => ?_⟩
      obtain ⟨g3, s3, r3⟩ := hJ.yld i H2 μ2 S2 x H' g12 s2 hok y ds[i] (List.getElem?_eq_getElem hlt)
      refine ⟨ds[i], wipeD ρ vs, S2, μ2, ρ3, S3, w2.grow g3 s3, r3, e3, fun σ4 H4 μ4 g4 st4 l4 k4' => ?_⟩
      refine ⟨?_, ρ3, S3, μ4, k4, S4, st4, e4, fun H5 μ5 g5 s5 => ?_⟩
      · rw [wipe_same l4 fun j hj => k4' j fun z => hj (hv j z), wipe_wipe]
      · have gg := ((g2.trans g3).trans g4).trans g5
        cases k4 with
        | false => exact iteF ⟨S4, μ5, s5, gg, e2⟩
        | true =>
          obtain ⟨⟨y6, S6⟩, e6, e2⟩ := Option.bind_eq_some_iff.mp (show ((e ρ3 S4).bind fun y => (mat y.2 S1.length).bind fun acc =>
            if acc.length < szl then lcL ok g t e (wipeD ρ vs) S1.length (ds.drop (i + 1)) (y.2.set S1.length (.lst (acc ++ [y.1]))) else none) = some S' from e2)
          obtain ⟨acc, e7, e2⟩ := Option.bind_eq_some_iff.mp e2
          split at e2
          · rename_i hz
            refine iteT ⟨ρ3, S4, μ5, y6, S6, st4.grow g5 s5, e6, fun v H6 μ6 g6 s6 r6 => ?_⟩
            have gg6 := gg.trans g6
            have hn6 : μ6[S1.length]? = some A := by
              obtain ⟨t, et⟩ := gg6.pre
              rw [← et, List.getElem?_append_left (List.getElem?_eq_some_iff.mp hnA).1]
              exact hnA
            obtain ⟨a', vs', h1, h2, h3, h4⟩ := s6.mat e7 (Rp.lr hn6)
            cases h1
            refine ⟨vs', h3, by rw [h4.length]; exact szl_lt hz, _, μ6, s6.wr (mat_eq e7) hn6 (h4.append (.cons r6 .nil)), gg6.trans (.wr h3), e2⟩
          · cases e2
    · cases e2
  · have ei : i = ds.length := by omega
    subst ei
    rw [List.drop_length] at e2
    unfold lcL at e2
    split at e2
    · rename_i hok
      cases e2
      exact .inl ⟨hJ.stop H2 μ2 _ g12 s2 hok, q _ H2 μ2 (g1.trans g12) s2 (.lr hn2)⟩
    · cases e2
theorem PG.sub {X : Cx} {tg : Expr} {t t' : TG} (h : PG X tg t) (i : ∀ v σ H Q, t' v σ H Q → t v σ H Q) : PG X tg t' := PG.imp h i
section
variable {X : Cx} {elt tg iter : Expr} {ifs : List Expr} {scope : Scope} {own : List (Str × Nat)} {pos : Pos} {i : MItr} {g : MTg} {t : MTst} {e : MExp} {is : List Nat}
theorem me_lc (hc : X.calm = true) (hN : X.N.Nodup) (hi : MI X tg iter i) (ok : BlkOk X.N X.env.scope scope own)
    (hg : ∀ (s : Shared) (H : Hp) (C : Addr) (cl : List (Str × Addr)) (fp : List Addr), MGl (X.blk s H scope (compEnvC scope cl C X.env) fp) is tg g) (ht : ∀ (s : Shared) (H : Hp) (C : Addr) (cl : List (Str × Addr)) (fp : List Addr), MTs (X.blk s H scope (compEnvC scope cl C X.env) fp) ifs t)
    (he : ∀ (s : Shared) (H : Hp) (C : Addr) (cl : List (Str × Addr)) (fp : List Addr), ME (X.blk s H scope (compEnvC scope cl C X.env) fp) elt e) (hv : ∀ j ∈ is, j ∈ own.map (·.2)) (hs : ∀ x, foldedSetIterable iter X.env x = pure x := by intro _; rfl) :
    ME X (.ListComp elt [⟨tg, iter, ifs, 0⟩] scope pos) (mLc i g t e (own.map (·.2))) :=
  ⟨PE.imp (pe_lc hc hN hi.pi ok (fun s H C cl fp => (hg s H C cl fp).pg) (fun s H C cl fp => (ht s H C cl fp).pts) (fun s H C cl fp => (he s H C cl fp).pe) hs) fun _ _ _ h => tE_lc hv h⟩
theorem ms_setLc {j : Nat} {y : Str} {py spos : Pos} (hc : X.calm = true) (hN : X.N.Nodup) (hy : X.N[j]? = some y) (hyl : X.env.scope.names.lookup y = some .local)
    (hsw : swapsWith (.ListComp elt [⟨tg, iter, ifs, 0⟩] scope pos) (some (.Name y py)) spos.line X.env = pure true) (hi : MI X tg iter i) (ok : BlkOk X.N X.env.scope scope own)
    (hg : ∀ (s : Shared) (H : Hp) (C : Addr) (cl : List (Str × Addr)) (fp : List Addr), MGl (X.blk s H scope (compEnvC scope cl C X.env) fp) is tg g) (ht : ∀ (s : Shared) (H : Hp) (C : Addr) (cl : List (Str × Addr)) (fp : List Addr), MTs (X.blk s H scope (compEnvC scope cl C X.env) fp) ifs t)
    (he : ∀ (s : Shared) (H : Hp) (C : Addr) (cl : List (Str × Addr)) (fp : List Addr), ME (X.blk s H scope (compEnvC scope cl C X.env) fp) elt e) (hv : ∀ j ∈ is, j ∈ own.map (·.2)) (hs : ∀ x, foldedSetIterable iter X.env x = pure x := by intro _; rfl) :
    MS_ X (.Assign [.Name y py] (.ListComp elt [⟨tg, iter, ifs, 0⟩] scope pos) spos) (mAsg (mLc i g t e (own.map (·.2))) (mName j)) :=
  ⟨PS.imp (ps_setLc hc hN hy hyl hsw hi.pi ok (fun s H C cl fp => (hg s H C cl fp).pg) (fun s H C cl fp => (ht s H C cl fp).pts) (fun s H C cl fp => (he s H C cl fp).pe) hs) fun D_ σ H h => by
    obtain ⟨ρ, S, μ, f, ρ', S', s, e, q⟩ := h
    obtain ⟨⟨d, S1⟩, e1, e⟩ := Option.bind_eq_some_iff.mp e
    cases e
    exact tE_lc hv ⟨ρ, S, μ, d, _, s, e1, fun v H1 μ1 g1 s1 r1 => q _ H1 μ1 g1 ((s.grow g1 s1).set j r1)⟩⟩
end
end MS

set_option Elab.async false
set_option linter.all false
set_option maxRecDepth 100000
set_option maxHeartbeats 4000000
namespace MS
open PySem PySem.Spec PyProof.Rows L2

/-! ### enumerate(tuple) -/
theorem meets_enumT {v : Value} {o : Obj} {Hb : Heap → Prop} (B : Begins v o Hb) :
    Meets (Builtin.«enumerate.__new__» ⟨[.type "enumerate", v], []⟩) (fun _ R s => Hb s.heap ∧
      R (.ok (.ret (.ref (s.heap.push o).objs.size))) { s with heap := (s.heap.push o).push { cls := .type "enumerate", data := .fields #[.none, .bool false, .ref s.heap.objs.size, rawInt 0, .none, .none] } }) :=
  .of_wp fun prog w A R s h => by
    obtain ⟨hp, gs, dr, tk, os⟩ := s
    obtain ⟨hb, h⟩ := h
    have hsub := sub_enumerate
    have road : ∀ {A' : Around} {E : Value → Shared → Prop} {Q : Value → Shared → Prop}, Q (.ref hp.objs.size) ⟨hp.push o, gs, dr, tk, os⟩ → wpAny (model prog w) A' (pyIter v) Q E ⟨hp, gs, dr, tk, os⟩ :=
      fun q => B.iter prog w _ _ ⟨hp, gs, dr, tk, os⟩ _ hb q
    wp_walk using road
    refine wpAny_stack_any fun _ => wpAny_pure ?_
    split
    · rename_i c _ _ _ _ _
      cases (c == Value.type "enumerate") <;> (wp_walk using road; exact ⟨_, rfl, h⟩)
    · wp_walk using road
      exact ⟨_, rfl, h⟩
section
variable {prog : Program} {w : World} {A : Around} {E : Value → Shared → Prop} {s : Shared}
theorem call_enumT {t : Addr} {its : Array Value} {Q : Value → Shared → Prop} (ht : s.heap.IsTuple t its)
    (h : ∀ h', IsEnum h' (s.heap.objs.size + 1) s.heap.objs.size 0 .none → h'.IsTupleIter s.heap.objs.size t 0 → (∀ b o, s.heap.get? b = some o → h'.get? b = some o) → Q (.ref (s.heap.objs.size + 1)) { s with heap := h' }) :
    wpAny (model prog w) A (call (.type "enumerate") [.ref t]) Q E s := by
  refine callType_new F.called_enumerate (by decide) (F.typeCall_enumerate_1 _) (F.newCall_enumerate_1 _) (fun obj => F.args_object_init_2 obj _) F.entry_enumerate_new (meets_enumT (begins_tuple t its)) ⟨ht, ?_⟩
  have hz : (s.heap.push { cls := .type "tuple_iterator", data := .fields #[.ref t, .int 0 0] }).objs.size = s.heap.objs.size + 1 := Heap.size_push ..
  show _ ∧ _
  rw [hz]
  have he := Heap.get?_push_size (s.heap.push { cls := .type "tuple_iterator", data := .fields #[.ref t, .int 0 0] }) (o := { cls := .type "enumerate", data := .fields #[.none, .bool false, .ref s.heap.objs.size, rawInt 0, .none, .none] }) rfl
  rw [hz] at he
  exact ⟨⟨_, he, rfl⟩, h _ he ⟨_, Heap.get?_push_of_some _ (Heap.get?_push_size _ rfl), rfl, rfl⟩ fun b o x => Heap.get?_push_of_some _ (Heap.get?_push_of_some _ x)⟩
end
/-- a tuple's items in new pairs -/
def IteT (K : PySem.W.Frag) (a : Addr) : It :=
  ⟨fun i H => ∃ (xs : List V) (x : V), SqT K H a xs ∧ xs[i]? = some x, fun i H v H' => ∃ T x, v = .ref T ∧ H T = none ∧ H' = upd H T (.tup [.int (i : Nat), x]) ∧ ∀ xs, SqT K H a xs → xs[i]? = some x, fun i H => ∃ xs : List V, SqT K H a xs ∧ xs.length ≤ i⟩
theorem turn_enumT {P : Program} {w : World} {K : PySem.W.Frag} {elts : List Expr} {kk : Nat} {tpos : Pos} (a e it : Addr) :
    Turn P w K (.Tuple elts kk tpos) (IteT K a) [e, it] e (fun i h => (∃ old, IsEnum h e it ((i : Nat) : Int) old) ∧ h.IsTupleIter it a i ∧ e ≠ it) where
  mem := List.mem_cons_self ..
  obj := fun i h st b hb => by
    obtain ⟨⟨old, he⟩, ⟨o, ho, hc, hd⟩, _⟩ := st
    rcases (by simpa using hb : b = e ∨ b = it) with z | z
    · rw [z]; exact ⟨_, he, fun v q => nomatch q⟩
    · rw [z]; exact ⟨o, ho, fun v q => by rw [hd] at q; cases q⟩
  keep := fun i h h' ⟨⟨old, he⟩, hi, hne⟩ k => ⟨⟨old, k e (by simp) _ he⟩, hi.at fun o q => k it (by simp) o q, hne⟩
  item := by
    intro X hP hw hK hc i pins s σ H E I hf st hg
    subst hP hw hK
    obtain ⟨⟨old, he⟩, hit, hne⟩ := st
    obtain ⟨xs, x, hq, hx⟩ := hg
    obtain ⟨its, rv, p, hz⟩ := I.tuple hq
    obtain ⟨u, hu, ru⟩ := rv.get hx
    have hai : a ≠ it := fun z => by
      obtain ⟨o, ho, hcl, _⟩ := p
      obtain ⟨o', ho', hcl', _⟩ := hit
      rw [z, ho'] at ho; cases ho; rw [hcl] at hcl'
      injection hcl' with hcl'
      exact absurd hcl' (by decide)
    have hae : e ≠ a := fun z => by
      obtain ⟨o, ho, hcl, _⟩ := p
      have he' : s.heap.get? e = some _ := he
      rw [z, ho] at he'; cases he'
      injection hcl with hcl
      exact absurd hcl (by decide)
    have W := GoesN.ofWalksT (elts := elts) (k := kk) (pos := tpos) (WalksT.enumerateD (prog := X.prog) (w := X.w) (A := X.A) (Draws.tuple (A := X.A.in1) (I.ok.hd hc) it a hai its.toArray) e hne (by simp [hne, hae]) (by simp))
    have hlt : i < its.toArray.size := by rw [List.size_toArray]; exact (List.getElem?_eq_some_iff.mp hu).1
    refine W.goes i s _ E hlt ⟨⟨old, he⟩, hit, p⟩ fun v h' tk hY st' hk htk => ?_
    obtain ⟨T, vals, rfl, hT, ⟨t, x', hx', rfl⟩, hTup⟩ := hY
    have ex' : x' = u := by
      rw [List.getElem?_toArray, hu] at hx'
      exact (Option.some.inj hx').symm
    subst ex'
    have new : ObjOk X.prog X.w (upd H T (.tup [.int (i : Nat), x])) h' T (.tup [.int (i : Nat), x]) := ⟨by show 2 ≤ sizeLine; decide, [.int i t, x'], .cons ⟨_, rfl⟩ (.cons ru .nil), hTup⟩
    have I1 := I.turnedNew (t' := tk) (ch := [e, it]) hk hf hT new
    obtain ⟨⟨old', he'⟩, hit', _⟩ := st'
    refine ⟨.ref T, _, I1, rfl, ⟨T, x, rfl, I.hok.fresh hT, rfl, fun ys hy => by rw [I.tuple_inj hy hq]; exact hx⟩, ⟨⟨old', he'⟩, hit', hne⟩, fun b hb => ?_⟩
    have hbs : b < s.heap.objs.size := by
      rcases (by simpa using hb : b = e ∨ b = it) with z | z
      · rw [z]; exact Heap.lt_size he
      · rw [z]; obtain ⟨_, q, _⟩ := hit; exact Heap.lt_size q
    rw [upd_ne (Nat.ne_of_lt (Nat.lt_of_lt_of_le hbs hT))]
    exact (hf b hb).1
  done := by
    intro X hP hw hK hc i pins s σ H E I hf st hg
    subst hP hw hK
    obtain ⟨⟨old, he⟩, hit, hne⟩ := st
    obtain ⟨xs, hq, hx⟩ := hg
    obtain ⟨its, rv, p, hz⟩ := I.tuple hq
    have hl := rv.length
    refine wpAny_pyNext_enum_endD (n := i) (St := fun j h => j = i ∧ h.IsTupleIter it a i ∧ h.IsTuple a its.toArray) (fp := [it, a]) (P := fun _ _ => True)
      ⟨fun _ _ st => let ⟨o, ho, _⟩ := st.2.1; ⟨o, ho⟩, fun _ _ _ st hk => ⟨st.1, st.2.1.at fun o e => hk it (by simp) o e, st.2.2.at fun o e => hk a (by simp) o e⟩, fun j s Q E hj st => absurd st.1 (Nat.ne_of_lt hj),
        fun s Q E st hE => wpAny_nextOf_tuple_end (show X.A.in1.handled = none from I.ok.hd hc) st.2.1 st.2.2 (by rw [List.getElem?_toArray]; exact List.getElem?_eq_none (by omega)) hE⟩ he ⟨rfl, hit, p⟩ fun h' hx' => ⟨rfl, ?_⟩
    obtain ⟨f0, f1, f2, f3, f4, f5⟩ := hf it (by simp)
    exact I.turned (t' := s.toks) (fun b o hb q => hx' b o hb q) f0 f1 f3 f4 f5
  self := fun A i s Q E st h => let ⟨⟨_, he⟩, _⟩ := st; wpAny_pyIter_enum he h
def iEnumT (K : PySem.W.Frag) (ta : TA) : TI := fun σ H R => ta σ H fun vs H1 => ∃ a xs, vs = [.ref a] ∧ SqT K H1 a xs ∧ R (IteT K a) H1
section
variable {X : Cx} {e : Expr} {p pos tpos : Pos} {elts : List Expr} {kk : Nat}
theorem pi_enumT {ta : TA} (hg : Gl X "enumerate") (hm : X.mg "enumerate" = none) (ha : PA X [e] ta) (hs : starEach [e] X.env = [(false, eval e X.env)] := by rfl) :
    PI X (.Tuple elts kk tpos) (.Call (.Name "enumerate" p) [e] [] pos) (iEnumT X.K ta) := by
  refine ⟨fun pins s σ H R I h => ?_⟩
  refine Call_ (ld_blt I hg hm boot_enumerate (PyProof.Rows.callWith_type1 (thn (ha.run pos pins s σ H _ I h) fun us s1 h1 => ?_) hs rfl))
  obtain ⟨vs, H1, I1, r1, a, xs, ex, hq, q⟩ := h1
  subst ex
  cases r1 with
  | cons r rr =>
    cases rr
    cases r
    obtain ⟨its, rv, pt, hz⟩ := I1.tuple hq
    refine call_enumT pt fun h' he hit hk => wpAny_pyIter_enum he ?_
    refine ⟨s1.heap.objs.size + 1, [s1.heap.objs.size + 1, s1.heap.objs.size], _, _, H1, rfl, I1.kept (t' := s1.toks) hk, turn_enumT a (s1.heap.objs.size + 1) s1.heap.objs.size, ⟨⟨.none, he⟩, hit, Nat.succ_ne_self _⟩, fun b hb => ?_, q⟩
    have hle : s1.heap.objs.size ≤ b := by
      rcases (by simpa using hb : b = s1.heap.objs.size + 1 ∨ b = s1.heap.objs.size) with z | z
      · rw [z]; exact Nat.le_add_right _ _
      · rw [z]; exact Nat.le_refl _
    exact I1.fpOk hle (I1.hok.fresh hle)
/-- pairs of numbers and items -/
def enumD (ds : List D) : List D := ds.mapIdx fun i d => .tup [.int (i : Int), d]
theorem enumD_length {ds : List D} : (enumD ds).length = ds.length := List.length_mapIdx
theorem enumD_get {ds : List D} {i : Nat} {d : D} (h : (enumD ds)[i]? = some d) : ∃ x, ds[i]? = some x ∧ d = .tup [.int (i : Int), x] := by
  unfold enumD at h
  rw [List.getElem?_mapIdx] at h
  obtain ⟨x, h1, h2⟩ := Option.map_eq_some_iff.mp h
  exact ⟨x, h1, h2.symm⟩
def mEnum (m : MArg) : MItr := fun ρ S => (m ρ S).bind fun p => match p.1 with
  | [.tup ds] => some ((enumD ds, always), p.2)
  | [.lr n] => (lat p.2 n).bind fun ds => some ((enumD ds, still n ds), p.2)
  | _ => none
theorem pairNew {K : PySem.W.Frag} {H : Hp} {μ : List Addr} {S : Store} {T : Addr} {x y : V} {d e : D} (s : StR K H μ S) (hT : H T = none) (r1 : Rp K H μ x d) (r2 : Rp K H μ y e) :
    Grow H (upd H T (.tup [x, y])) μ μ ∧ StR K (upd H T (.tup [x, y])) μ S ∧ Rp K (upd H T (.tup [x, y])) μ (.ref T) (.tup [d, e]) :=
  ⟨.new hT, s.new hT, .tup upd_same (.cons (r1.grow (.new hT)) (.cons (r2.grow (.new hT)) .nil))⟩
theorem isIt_enumT {K : PySem.W.Frag} {H0 : Hp} {μ0 : List Addr} {a : Addr} {vs : List V} {ds : List D} (h1 : SqT K H0 a vs) (h2 : RpA K H0 μ0 vs ds) : IsIt K (IteT K a) H0 μ0 (enumD ds) always where
  go := fun i H μ S g s h hi => by
    rw [enumD_length] at hi
    have hi' : i < vs.length := by rw [h2.length]; exact hi
    exact ⟨vs, vs[i], g.sqT h1, List.getElem?_eq_getElem hi'⟩
  stop := fun H μ S g s h => ⟨vs, g.sqT h1, by rw [enumD_length, h2.length]; exact Nat.le_refl _⟩
  yld := fun i H μ S x H' g s h y d hd => by
    obtain ⟨T, z, rfl, hT, rfl, y⟩ := y
    obtain ⟨d', e1, rfl⟩ := enumD_get hd
    obtain ⟨w, h3, h4⟩ := (h2.grow g).get e1
    rw [y vs (g.sqT h1)] at h3
    cases h3
    exact pairNew s hT (.int _) h4
theorem isIt_enumL {K : PySem.W.Frag} {H0 : Hp} {μ0 : List Addr} {n : Nat} {a : Addr} {ds : List D} (r : Rp K H0 μ0 (.ref a) (.lr n)) : IsIt K (Ite K a) H0 μ0 (enumD ds) (still n ds) where
  go := fun i H μ S g s h hi => by
    rw [enumD_length] at hi
    obtain ⟨a', vs, e1, h1, h2⟩ := s.lat (still_eq h) (r.grow g)
    cases e1
    have hi' : i < vs.length := by rw [h2.length]; exact hi
    exact ⟨vs, vs[i], h1, List.getElem?_eq_getElem hi'⟩
  stop := fun H μ S g s h => by
    obtain ⟨a', vs, e1, h1, h2⟩ := s.lat (still_eq h) (r.grow g)
    cases e1
    exact ⟨vs, h1, by rw [enumD_length, h2.length]; exact Nat.le_refl _⟩
  yld := fun i H μ S x H' g s h y d hd => by
    obtain ⟨T, z, rfl, hT, rfl, y⟩ := y
    obtain ⟨d', e1, rfl⟩ := enumD_get hd
    obtain ⟨a', vs, e2, h1, h2⟩ := s.lat (still_eq h) (r.grow g)
    cases e2
    obtain ⟨w, h3, h4⟩ := h2.get e1
    rw [y vs h1] at h3
    cases h3
    exact pairNew s hT (.int _) h4
theorem mi_enum {m : MArg} (hg : Gl X "enumerate") (hm : X.mg "enumerate" = none) (ha : MA X [e] m) (hs : starEach [e] X.env = [(false, eval e X.env)] := by rfl) : MI X (.Tuple elts kk tpos) (.Call (.Name "enumerate" p) [e] [] pos) (mEnum m) := by
  refine ⟨⟨fun pins s σ H R I h => ?_⟩⟩
  obtain ⟨ρ, S, μ, p, S', st, e1, q⟩ := h
  obtain ⟨⟨ds, S1⟩, e2, e1⟩ := Option.bind_eq_some_iff.mp e1
  dsimp only at e1
  split at e1
  · cases e1
    refine (pi_enumT hg hm ha.pa hs).run pins s σ H R I ⟨ρ, S, μ, _, _, st, e2, fun vs H1 μ1 g1 s1 r1 => ?_⟩
    match vs, r1 with
    | _, .cons (.tup h1 h2) .nil => exact ⟨_, _, rfl, sq _ _ h1, q _ H1 μ1 g1 s1 (isIt_enumT (sq _ _ h1) h2)⟩
  · obtain ⟨ds', e3, e1⟩ := Option.bind_eq_some_iff.mp e1
    cases e1
    refine (pi_enum hg hm ha.pa hs).run pins s σ H R I ⟨ρ, S, μ, _, _, st, e2, fun vs H1 μ1 g1 s1 r1 => ?_⟩
    match vs, r1 with
    | _, .cons r1 .nil =>
      obtain ⟨a, ws, rfl, h1, h2⟩ := s1.lat e3 r1
      exact ⟨a, ws, rfl, h1, q _ H1 μ1 g1 s1 (isIt_enumL r1)⟩
  · cases e1
end

/-! ### built-in functions -/
section
variable {X : Cx} {x : Str} {p pos : Pos} {e : Expr} {es : List Expr} {m : MArg} {f : DCall} {id T : String}
theorem me_callB (hc : CallR X (.builtin id) (rCM X.K f)) (hg : Gl X x) (hm : X.mg x = none) (hv : bootBuiltins x = some (.builtin id)) (ha : MA X (e :: es) m) (hn : x ≠ "__name__" := by decide) (hdb : (x == ("__debug__" : Str)) = false := by decide)
    (he : starEach (e :: es) X.env = (false, eval e X.env) :: starEach es X.env := by rfl) (hpl : (backTo pos (starEach es X.env)).any (·.1) = false := by rfl) : ME X (.Call (.Name x p) (e :: es) [] pos) (mCall f m) :=
  ⟨PE.imp (pe_callB hc hg hm hv ha.pa hn hdb he hpl) fun _ _ _ h => tE_call h⟩
theorem me_callTy (hc : CallR X (.type T) (rCM X.K f)) (hg : Gl X x) (hm : X.mg x = none) (hv : bootBuiltins x = some (.type T)) (ha : MA X (e :: es) m) (hn : x ≠ "__name__" := by decide) (hdb : (x == ("__debug__" : Str)) = false := by decide)
    (he : starEach (e :: es) X.env = (false, eval e X.env) :: starEach es X.env := by rfl) (hpl : (backTo pos (starEach es X.env)).any (·.1) = false := by rfl) : ME X (.Call (.Name x p) (e :: es) [] pos) (mCall f m) :=
  ⟨PE.imp (pe_callTy hc hg hm hv ha.pa hn hdb he hpl) fun _ _ _ h => tE_call h⟩
def cLen : DCall := fun ds S => match ds with
  | [d] => (items S d).bind fun xs => some (.int (xs.length : Int), S)
  | _ => none
theorem c_len : CallR X (.builtin "len") (rCM X.K cLen) := CallR.imp call_len_seq fun vs H Q ⟨S, μ, ds, d, S', s, r, e, q⟩ => by
  match ds, r, e with
  | [d0], .cons r1 .nil, e =>
    obtain ⟨xs, e1, e⟩ := Option.bind_eq_some_iff.mp (show ((items S d0).bind fun xs => some (D.int (xs.length : Int), S)) = some (d, S') from e)
    cases e
    obtain ⟨a, ws, rfl, h1, h2⟩ := s.items e1 r1
    exact ⟨a, ws, rfl, h1, by rw [h2.length]; exact q.id s (.int _)⟩
  | [], _, e => cases e
  | _ :: _ :: _, _, e => cases e
def cList : DCall := fun ds S => match ds with
  | [d] => (items S d).bind fun xs => some (.lr S.length, S ++ [.lst xs])
  | _ => none
theorem c_list : CallR X (.type "list") (rCM X.K cList) := CallR.imp call_list_of fun vs H Q ⟨S, μ, ds, d, S', s, r, e, q⟩ => by
  match ds, r, e with
  | [d0], .cons r1 .nil, e =>
    obtain ⟨xs, e1, e⟩ := Option.bind_eq_some_iff.mp (show ((items S d0).bind fun xs => some (D.lr S.length, S ++ [.lst xs])) = some (d, S') from e)
    cases e
    obtain ⟨a, ws, rfl, h1, h2⟩ := s.items e1 r1
    exact ⟨a, ws, rfl, h1, fun l hl => q.lst s h2 hl⟩
  | [], _, e => cases e
  | _ :: _ :: _, _, e => cases e
def cTuple : DCall := fun ds S => match ds with
  | [d] => (items S d).bind fun xs => some (.tup xs, S)
  | _ => none
theorem c_tuple : CallR X (.type "tuple") (rCM X.K cTuple) := CallR.imp call_tuple_of fun vs H Q ⟨S, μ, ds, d, S', s, r, e, q⟩ => by
  match ds, r, e with
  | [d0], .cons r1 .nil, e =>
    obtain ⟨xs, e1, e⟩ := Option.bind_eq_some_iff.mp (show ((items S d0).bind fun xs => some (D.tup xs, S)) = some (d, S') from e)
    cases e
    obtain ⟨a, ws, rfl, h1, h2⟩ := s.itemsO e1 r1
    refine ⟨a, ws, rfl, ?_⟩
    rcases h1 with h1 | ⟨h1, _⟩
    · exact .inl ⟨h1, fun l hl => q.tup s h2 hl⟩
    · exact .inr ⟨sq _ _ h1, q.id s (.tup h1 h2)⟩
  | [], _, e => cases e
  | _ :: _ :: _, _, e => cases e
def cInt : DCall := fun ds S => match ds with
  | [.int i] => some (.int i, S)
  | [.bl b] => some (.int (if b then 1 else 0), S)
  | _ => none
theorem c_int : CallR X (.type "int") (rCM X.K cInt) := CallR.imp call_int1 fun vs H Q ⟨S, μ, ds, d, S', s, r, e, q⟩ => by
  unfold cInt at e
  split at e
  · cases e
    match vs, r with
    | _, .cons (.int i) .nil => exact .inl ⟨_, rfl, q.id s (.int _)⟩
  · cases e
    match vs, r with
    | _, .cons (.bl i) .nil => exact .inr ⟨_, rfl, q.id s (.int _)⟩
  · cases e
def cAbs : DCall := fun ds S => match ds with
  | [.int i] => some (.int (if i < 0 then -i else i), S)
  | _ => none
theorem c_abs : CallR X (.builtin "abs") (rCM X.K cAbs) := CallR.imp call_abs fun vs H Q ⟨S, μ, ds, d, S', s, r, e, q⟩ => by
  unfold cAbs at e
  split at e
  · cases e
    match vs, r with
    | _, .cons (.int i) .nil => exact ⟨_, rfl, q.id s (.int _)⟩
  · cases e
def cMax : DCall := fun ds S => match ds with
  | [.int i, .int j] => some (.int (if j > i then j else i), S)
  | _ => none
theorem c_max (hc : X.calm = true) : CallR X (.builtin "max") (rCM X.K cMax) := CallR.imp (call_max2 hc) fun vs H Q ⟨S, μ, ds, d, S', s, r, e, q⟩ => by
  unfold cMax at e
  split at e
  · cases e
    match vs, r with
    | _, .cons (.int i) (.cons (.int j) .nil) => exact ⟨_, _, rfl, q.id s (.int _)⟩
  · cases e
def cMin : DCall := fun ds S => match ds with
  | [.int i, .int j] => some (.int (if j < i then j else i), S)
  | _ => none
theorem c_min (hc : X.calm = true) : CallR X (.builtin "min") (rCM X.K cMin) := CallR.imp (call_min2 hc) fun vs H Q ⟨S, μ, ds, d, S', s, r, e, q⟩ => by
  unfold cMin at e
  split at e
  · cases e
    match vs, r with
    | _, .cons (.int i) (.cons (.int j) .nil) => exact ⟨_, _, rfl, q.id s (.int _)⟩
  · cases e
/-- xs.append(e) -/
def mApp (m : MExp) (a : MArg) : MExp := fun ρ S => (m ρ S).bind fun p => match p.1 with
  | .lr n => (mat p.2 n).bind fun _ => (a ρ p.2).bind fun q => match q.1 with
    | [d] => (mat q.2 n).bind fun ds => if ds.length < szl then some (.non, q.2.set n (.lst (ds ++ [d]))) else none
    | _ => none
  | _ => none
theorem me_app {o : Expr} {mo : MExp} {apos cpos : Pos} (ho : ME X o mo) (ha : MA X (e :: es) m)
    (hbase : attributeBase o "append" X.env (eval o X.env) = eval o X.env := by rfl)
    (hfew : ((backTo cpos (starEach (e :: es) X.env)).all (fun x => !x.1) && (backToKw cpos (keywordEach [] X.env)).all (fun x => x.1.isSome)
      && decide ((e :: es).length + ([] : List Keyword).length + (if ([] : List Keyword).isEmpty then 0 else 1) < 30)) = true := by rfl)
    (hline : (apos.endLine == cpos.line) = true := by rfl) (hs : starEach (e :: es) X.env = (false, eval e X.env) :: starEach es X.env := by rfl) (hplain : (backTo cpos (starEach es X.env)).any (·.1) = false := by rfl) :
    ME X (.Call (.Attribute o "append" apos) (e :: es) [] cpos) (mApp mo m) :=
  ⟨PE.imp (pe_bm PySem.F.plainAttrs_list PySem.F.slot_list_append PySem.F.type_list_append mt_append ho.pe ha.pa hbase hfew hline hs hplain) fun σ H Q ⟨ρ, S, μ, d, S', st, e, q⟩ => by
    obtain ⟨⟨d1, S1⟩, e1, e⟩ := Option.bind_eq_some_iff.mp e
    refine ⟨ρ, S, μ, d1, S1, st, e1, fun v H1 μ1 g1 s1 r1 => ?_⟩
    cases d1 with
    | lr n =>
      obtain ⟨ds0, e2, e⟩ := Option.bind_eq_some_iff.mp (show ((mat S1 n).bind fun _ => (m ρ S1).bind fun q => (match q.1 with
        | [d] => (mat q.2 n).bind fun ds => if ds.length < szl then some (D.non, q.2.set n (.lst (ds ++ [d]))) else none
        | _ => none)) = some (d, S') from e)
      obtain ⟨⟨as, S2⟩, e3, e⟩ := Option.bind_eq_some_iff.mp e
      obtain ⟨a, vs, rfl, h1, h2, h3⟩ := s1.mat e2 r1
      refine ⟨.inl ⟨rfl, vs, .inl (.inl h2)⟩, ρ, S1, μ1, as, S2, st.grow g1 s1, e3, fun ws H2 μ2 g2 s2 r2 => ?_⟩
      match as, r2, e with
      | [d0], .cons r3 .nil, e =>
        obtain ⟨ds, e4, e⟩ := Option.bind_eq_some_iff.mp (show ((mat S2 n).bind fun ds => if ds.length < szl then some (D.non, S2.set n (.lst (ds ++ [d0]))) else none) = some (d, S') from e)
        split at e
        · rename_i hz
          cases e
          obtain ⟨a', vs', h4, h5, h6, h7⟩ := s2.mat e4 (r1.grow g2)
          cases h4
          refine ⟨a, vs', _, rfl, rfl, h6, by rw [h7.length]; exact szl_lt hz, ?_⟩
          exact q _ _ μ2 ((g1.trans g2).trans (.wr h6)) (s2.wr (mat_eq e4) h5 (h7.append (.cons r3 .nil))) .non
        · cases e
      | [], _, e => cases e
      | _ :: _ :: _, _, e => cases e
    | _ => cases e⟩
end
end MS

set_option Elab.async false
set_option linter.all false
set_option maxRecDepth 100000
set_option maxHeartbeats 4000000
namespace MS
open PySem PySem.Spec PyProof.Rows L2

/-! ### repr -/
def okShow (p : PyData) : Bool := p.showable && !p.hasDict && decide (p.depth ≤ 64) && decide (p.shown.length ≤ szl)
def cRepr : DCall := fun ds S => match ds with
  | [d] => (toPy S 64 d).bind fun p => if okShow p then some (.str p.shown, S) else none
  | _ => none
section
variable {X : Cx}
theorem c_repr (hg : X.A.guards = some []) (hu : X.A.units + 80 < cLine) : CallR X (.builtin "repr") (rCM X.K cRepr) := by
  intro pins s σ H xs us Q I r ⟨S, μ, ds, d, S', st, rr, e, q⟩
  unfold cRepr at e
  split at e
  · rename_i d0
    obtain ⟨p, e1, e⟩ := Option.bind_eq_some_iff.mp e
    split at e
    · rename_i hok
      cases e
      unfold okShow at hok
      simp only [Bool.and_eq_true, decide_eq_true_eq, Bool.not_eq_true'] at hok
      obtain ⟨⟨⟨h1, h2⟩, h3⟩, h4⟩ := hok
      have h4 : p.shown.length ≤ sizeLine := szl_le h4
      match xs, rr, us, r with
      | [v], .cons r1 .nil, [u], .cons ru .nil =>
        have dp := dp_of st 64 d0 v p e1 r1
        obtain ⟨as, rd⟩ := Dp.reads I p v u dp ru
        have fin : ∀ (t : Tok) (h' : Heap) (tk : Nat), (∀ b o, s.heap.get? b = some o → h'.get? b = some o) → EP X pins σ Q (.str p.shown t) { s with heap := h', toks := tk } := fun t h' tk hk => ⟨.str p.shown, H, I.kept (t' := tk) hk, ⟨t, rfl⟩, q.id st (.str _)⟩
        cases rd with
        | none => exact PySem.P.repr_of_none (fin _ _ _ fun _ _ z => z)
        | bool b => exact PySem.P.repr_of_bool (fin _ _ _ fun _ _ z => z)
        | int i t => exact PySem.P.repr_of_int (of_decide_eq_true h1) (fin _ _ _ fun _ _ z => z)
        | str x t => exact PySem.P.repr_of_str (fin _ _ _ fun _ _ z => z) h4
        | list a1 a2 a3 a4 => exact repr_of_reads' (.list a1 a2 a3 a4) h1 (fun z => by rw [h2] at z; cases z) hg (by omega) (fun _ _ z => z) (fun h' t tk hk => fin t h' tk hk) h4
        | tuple a1 a2 a3 a4 => exact repr_of_reads' (.tuple a1 a2 a3 a4) h1 (fun z => by rw [h2] at z; cases z) hg (by omega) (fun _ _ z => z) (fun h' t tk hk => fin t h' tk hk) h4
        | dict a1 a2 a3 a4 a5 => cases dp
    · cases e
  · cases e
end

/-! ### t[::-1] -/
section
variable {prog : Program} {w : World} {A : Around} {E : Value → Shared → Prop} {s : Shared}
theorem sliceApplied_back {sl : Addr} {vl vu vs : Value} {n : Nat} {Q : Int × Int × Nat → Shared → Prop} (hs : s.heap.IsSliceOf sl vl vu vs) (pl : IsPart vl none) (pu : IsPart vu none) (ps : IsPart vs (some (-1)))
    (h : Q ((n : Int) - 1, -1, n) s) : wpAny (model prog w) A (Builtin.Slice.sliceApplied (.ref sl) (pure (n : Int))) Q E s := by
  obtain ⟨os, hos, hcs, hds⟩ := id hs
  unfold Builtin.Slice.sliceApplied Builtin.Slice.sliceFields
  refine wpAny_bind (wpAny_bind (wpAny_field hos hds (x := vl) rfl (wpAny_bind (wpAny_field hos hds (x := vu) rfl (wpAny_bind (wpAny_field hos hds (x := vs) rfl (wpAny_pure ?_)))))))
  refine wpAny_bind (HT.slicePart_ ps ?_)
  show wpAny _ _ (if ((-1 : Int) == 0) = true then _ else _) _ _ s
  rw [if_neg (by decide)]
  refine wpAny_bind (HT.slicePart_ pl (wpAny_bind (HT.slicePart_ pu (wpAny_bind (wpAny_pure ?_)))))
  have e : Builtin.Slice.slicePlaces ((n : Int) - 1) (-1) (-1) = n := by
    unfold Builtin.Slice.slicePlaces
    simp only [show ¬ ((-1 : Int) > 0) by decide, if_false]
    split
    · rw [show (- -1 : Int) = 1 by decide, Int.ediv_one]; omega
    · omega
  show wpAny _ _ (pure ((n : Int) - 1, (-1 : Int), Builtin.Slice.slicePlaces ((n : Int) - 1) (-1) (-1))) _ _ s
  rw [e]
  exact wpAny_pure h
theorem fm_congr {α β : Type} {f g : α → Option β} : ∀ {l : List α}, (∀ x ∈ l, f x = g x) → l.filterMap f = l.filterMap g
  | [], _ => rfl
  | a :: l, h => by
    rw [List.filterMap_cons, List.filterMap_cons, h a (List.mem_cons_self ..), fm_congr fun x hx => h x (List.mem_cons_of_mem _ hx)]
theorem pick_back (xs : Array Value) : ((List.range xs.size).filterMap fun (m : Nat) => xs[((xs.size : Int) - 1 + (m : Int) * -1).toNat]?).toArray = xs.toList.reverse.toArray := by
  congr 1
  rw [← PySem.W.krv_all xs, ← List.filterMap_reverse, ← PySem.W.krv_range, List.filterMap_map]
  refine fm_congr fun m hm => ?_
  have := List.mem_range.mp hm
  show xs[((xs.size : Int) - 1 + (m : Int) * -1).toNat]? = xs[xs.size - 1 - m]?
  congr 1
  omega
theorem getItem_tuple_back {t sl : Addr} {its : Array Value} {vl vu vs : Value} {Q : Value → Shared → Prop} (ht : IsTup s.heap t its) (hs : s.heap.IsSliceOf sl vl vu vs) (pl : IsPart vl none) (pu : IsPart vu none) (ps : IsPart vs (some (-1)))
    (h : Q (.ref s.heap.objs.size) { s with heap := s.heap.push { cls := .type "tuple", data := .seq its.toList.reverse.toArray } }) (hsz : its.size ≤ sizeLine) : wpAny (model prog w) A (getItem (.ref t) (.ref sl)) Q E s := by
  have hlen : sizeOk (.seq its.toList.reverse.toArray) := by
    show its.toList.reverse.toArray.size ≤ sizeLine
    rw [List.size_toArray, List.length_reverse, Array.length_toList]
    exact hsz
  obtain ⟨os, hos, hcs, hds⟩ := id hs
  have hTs : s.TypeIs (.ref sl) "slice" := ⟨os, hos, hcs⟩
  unfold getItem
  try with_reducible refine wpAny_holding ?_
  first | refine wpAny_bind (wpAny_pure ?_) | skip
  refine wpAny_bind (wpAny_sequenceKey ht.typeIs (by decide) ?_)
  refine wpAny_bind (wpAny_callSpecial?_slot (name := Str.ofString "__getitem__") ht.typeIs PyProof.Rows.slot_tuple_getitem (wpAny_call_entry PyProof.Rows.slot_tuple_getitem ht.typeIs entry_tuple_getitem ?_ (args_tuple_getitem _ _)))
  show wpAny _ _ (Builtin.Tuple.tupleItemsOf (.ref t) >>= _) _ _ s
  refine wpAny_bind (tupleItemsOf_ ht (wpAny_bind (wpAny_typeOf hTs ?_)))
  rw [if_pos (by decide)]
  refine wpAny_bind (sliceApplied_back hs pl pu ps ?_)
  show wpAny _ _ (if (((its.size : Int) - 1 == 0) && ((-1 : Int) == 1) && (its.size == its.size)) = true then _ else _) _ _ s
  rw [if_neg (by simp), pick_back]
  first
    | exact wpAny_bind (m := Builtin.Tuple.tupleExact _) (wpAny_newObj_type (wpAny_pure ⟨_, rfl, wpAny_pure h⟩) hlen)
    | exact wpAny_bind (m := Builtin.Tuple.tupleExact _) (wpAny_newObj_type (wpAny_bind (wpAny_pure (wpAny_pure ⟨_, rfl, wpAny_pure h⟩))) hlen)
    | exact wpAny_bind (wpAny_bind (m := Builtin.Tuple.tupleExact _) (wpAny_newObj_type (wpAny_pure (wpAny_pure ⟨_, rfl, wpAny_pure h⟩)) hlen))
    | exact wpAny_bind (wpAny_bind (m := Builtin.Tuple.tupleExact _) (wpAny_newObj_type (wpAny_pure ⟨_, rfl, wpAny_pure h⟩) hlen))
end
def mRevT (m : MExp) : MExp := fun ρ S => (m ρ S).bind fun p => match p.1 with
  | .tup ds => some (.tup ds.reverse, p.2)
  | _ => none
theorem me_revT {X : Cx} {e : Expr} {m : MExp} {k : Nat} {p1 p2 p3 pos : Pos} (he : ME X e m) : ME X (.Subscript e (.Slice none none (some (.UnaryOp .USub (.Constant (.int 1) k p1) p2)) p3) pos) (mRevT m) := by
  refine ⟨⟨fun pins s σ H Q I ⟨ρ, S, μ, d, S', st, e, q⟩ => ?_⟩⟩
  obtain ⟨⟨d1, S1⟩, e1, e⟩ := Option.bind_eq_some_iff.mp e
  refine Subscript_ (thn (he.pe.run pins s σ H (fun v H1 => ∃ μ1, Grow H H1 μ μ1 ∧ StR X.K H1 μ1 S1 ∧ Rp X.K H1 μ1 v d1) I ⟨ρ, S, μ, d1, S1, st, e1, fun v H' μ' g1 s1 r1 => ⟨μ', g1, s1, r1⟩⟩) fun v s1 h1 => ?_)
  obtain ⟨x, H1, I1, r1, μ1, g1, st1, rp⟩ := h1
  cases d1 with
  | tup ds =>
    cases e
    cases rp with
    | tup hT hA =>
    cases r1
    have hst : PO X (some (.UnaryOp .USub (.Constant (.int 1) k p1) p2)) (tPart (tUn (rU fun i => .int (-i)) (tC (.int 1)))) := po_some (pe_un un_neg pe_int)
    refine wpAny_Slice (thn (po_none.run pins s1 σ H1 (fun o H2 => o = none ∧ H2 = H1) I1 ⟨rfl, rfl⟩) fun vl s2 h2 => ?_)
    obtain ⟨l, H2, I2, pl, rfl, rfl⟩ := h2
    refine thn (po_none.run pins s2 σ H2 (fun o H3 => o = none ∧ H3 = H2) I2 ⟨rfl, rfl⟩) fun vu s3 h3 => ?_
    obtain ⟨u, H3, I3, pu, rfl, rfl⟩ := h3
    refine thn (hst.run pins s3 σ H3 (fun o H4 => o = some (-1) ∧ H4 = H3) I3 ⟨1, rfl, -1, rfl, rfl, rfl⟩) fun vs s4 h4 => ?_
    obtain ⟨o, H4, I4, ps, rfl, rfl⟩ := h4
    have I5 : Inv X pins σ H4 { s4 with heap := s4.heap.push { cls := .type "slice", data := .fields #[vl, vu, vs] } } := I4.kept (t' := s4.toks) fun b ob q => Heap.get?_push_of_some _ q
    obtain ⟨its, r, ht, hz⟩ := I5.tuple (sq _ _ hT)
    have hlen := r.length
    rename_i a xs
    refine tail_any (ops := [.ref a, .ref s4.heap.objs.size]) ht.typeIs PyProof.Rows.slot_tuple_getitem.lookup ?_ (by with_unfolding_all rfl)
    refine getItem_tuple_back ht (Heap.IsSliceOf.new _ vl vu vs) pl pu ps ?_ (by rw [List.size_toArray]; omega)
    refine ⟨.ref _, _, I5.laid (t' := s4.toks) (o := .tup xs.reverse) (fun b ob q => Heap.get?_push_of_some _ q) (Nat.le_refl _) ?_, rfl, Aft.tup (fun v H' μ' g2 => q v H' μ' (g1.trans g2)) st1 hA.reverse (I5.hok.fresh (Nat.le_refl _))⟩
    exact ⟨by rw [List.length_reverse]; exact hz, _, by simpa using r.reverse, ⟨_, Heap.get?_push_size _ rfl, rfl, _, rfl⟩⟩
  | _ => cases e
end MS

set_option Elab.async false
set_option linter.all false
set_option maxRecDepth 100000
set_option maxHeartbeats 4000000
namespace MS
open PySem PySem.Spec PyProof.Rows L2

/-! ### what a def does, as a function of data -/
section
variable {P : Program} {w : World} {K : PySem.W.Frag} {mg : Str → Option Value} {base : Heap}
/-- called at level k the def does what F says wherever F says something, and raises nothing -/
structure FnG (P : Program) (w : World) (K : PySem.W.Frag) (mg : Str → Option Value) (base : Heap) (k : Nat) (f : Addr) (fd : FuncData) (ps : List Str) (F : DCall) : Prop where
  run : ∀ (A : Around) (outer : List Env) (s : Shared) (H : Hp) (args : Args) (us : List Value) (vs : List V) (Q : VK) (S : Store) (μ : List Addr) (ds : List D) (d : D) (S' : Store), Room k A → A.guards = some [] → Env0 P w K mg base A outer s H →
    BindsTo s fd args (ps.zip us) → Vals vs us → vs.length = ps.length → StR K H μ S → RpA K H μ vs ds → F ds S = some (d, S') → Aft K H μ d S' Q → codeAny (model P w) A (.call (.ref f) args) (CR CX0 outer P w H s Q E0) s
theorem FnG.mono {j k : Nat} {f : Addr} {fd : FuncData} {ps : List Str} {F : DCall} (h : FnG P w K mg base j f fd ps F) (l : j ≤ k) : FnG P w K mg base k f fd ps F :=
  ⟨fun A outer s H args us vs Q S μ ds d S' hr => h.run A outer s H args us vs Q S μ ds d S' (hr.mono l)⟩
theorem FnG.imp {k : Nat} {f : Addr} {fd : FuncData} {ps : List Str} {F F' : DCall} (h : FnG P w K mg base k f fd ps F) (i : ∀ ds S r, F' ds S = some r → F ds S = some r) : FnG P w K mg base k f fd ps F' :=
  ⟨fun A outer s H args us vs Q S μ ds d S' hr hg he hb hv hl st ra e q => h.run A outer s H args us vs Q S μ ds d S' hr hg he hb hv hl st ra (i _ _ _ e) q⟩
def startD (n : Nat) (ds : List D) : Ev := ds.map some ++ List.replicate (n - ds.length) none
theorem sim_start {H : Hp} {μ : List Addr} {S : Store} {N : List Str} {vs : List V} {ds : List D} (st : StR K H μ S) (r : RpA K H μ vs ds) : Sim K H μ (L2.start N vs) (startD N.length ds) S := by
  refine ⟨st, ?_, fun i d e => ?_⟩
  · unfold startD L2.start
    rw [List.length_append, List.length_append, List.length_map, List.length_map, List.length_replicate, List.length_replicate, r.length]
  · unfold startD at e
    by_cases hi : i < ds.length
    · rw [List.getElem?_append_left (by rw [List.length_map]; exact hi), List.getElem?_map] at e
      obtain ⟨d', h1, h2⟩ := Option.map_eq_some_iff.mp e
      cases h2
      obtain ⟨v, h3, h4⟩ := r.get h1
      refine ⟨v, ?_, h4⟩
      unfold L2.start
      rw [List.getElem?_append_left (by rw [List.length_map, r.length]; exact hi), List.getElem?_map, h3]
      rfl
    · rw [List.getElem?_append_right (by rw [List.length_map]; omega), List.getElem?_replicate] at e
      split at e <;> cases e
/-- what the body's reading must give -/
def Does (n : Nat) (m : MStm) (F : DCall) : Prop := ∀ ds S d S', F ds S = some (d, S') → ∃ f ρ', m (startD n ds) S = some (f, ρ', S') ∧ (f = .rt d ∨ (f = .nx ∧ d = .non))
/-- a def's context -/
abbrev bodyX (P : Program) (w : World) (K : PySem.W.Frag) (mg : Str → Option Value) (base : Heap) (N : List Str) (qual : Str) (st : Stmt) (f : Addr) (cdv : Value) (A : Around) (outer : List Env) (s : Shared) (H : Hp) : Cx := (cxOf CX0 P w K mg base N qual (defScope st) f cdv A outer s H E0).nox
theorem fnG_of {x qual : Str} {st : Stmt} {f : Addr} {fd : FuncData} {N ps : List Str} {k : Nat} {F : DCall} (fn : Fun K x qual st f fd) (sc : FnScope N ps (defScope st))
    (hbody : ∀ (cdv : Value) (A : Around) (outer : List Env) (s : Shared) (H : Hp), let X := bodyX P w K mg base N qual st f cdv A outer s H; Room k X.A → X.A.guards = some [] → ∃ m, MSs X (defBody st) m ∧ Does N.length m F) : FnG P w K mg base (k + 1) f fd ps F := by
  obtain ⟨oc, od, kV, doc, pm, an, cdv, ct, osl, rfl, lk, hcd⟩ := fn.ex
  refine ⟨fun A outer s H args us vs Q S μ ds d S' hr hg he hb hv hl st' ra e q => ?_⟩
  have KX : K.In s.heap := he.mod.kin.keeps fun b o z => (he.bs b o z).1
  have kinds : ∀ y ∈ ps.zip us, (defScope st).names.lookup y.1 = some .local ∨ ((defScope st).names.lookup y.1 = some .cell ∧ ((cellsFrom (s.heap.objs.size + 1) (defScope st).names []).lookup y.1).isSome = true) := by
    rintro ⟨y, z⟩ hy
    rcases sc.par y (List.of_mem_zip hy).1 with c | c
    · exact .inl c
    · exact .inr ⟨c, PySem.W.cellsFrom_some _ _ _ (.inl c)⟩
  refine codeAny_call_function hr.depth (KX _ _ lk) rfl sc.co sc.gen rfl (PySem.W.codeRec_of KX hcd) (hb _ _ _ _ (wpAny_newFunctionEnv_cells sc.kind kinds fun env he' s1 ic => ?_))
  subst he'
  refine ⟨(he.mod.nolimit.keeps fun b o z => (he.bs b o z).1).keeps ic.toInCall.keep, codeAny_func ?_⟩
  obtain ⟨m, hm, hd⟩ := hbody cdv A outer s H (hr.deeper _) (by show (A.deeper _).guards = some []; exact hg)
  obtain ⟨f', ρ', h1, h2⟩ := hd ds S d S' e
  have I0 : Inv (cxOf CX0 P w K mg base N qual (defScope st) f cdv A outer s H E0) [] (L2.start N vs) H s1 := inv_start sc hr.hd he hl hv ic
  have rd : tS K m { nx := fun _ H' => Q .non H', rt := Q } (L2.start N vs) H := by
    refine ⟨_, S, μ, f', ρ', S', sim_start st' ra, h1, fun σ' H' μ' g sm => ?_⟩
    rcases h2 with rfl | ⟨rfl, rfl⟩
    · exact fun v r => q v H' μ' g sm.st r
    · exact q .non H' μ' g sm.st .non
  refine wpAny_mono (hm.pss.nox.run [] s1 (L2.start N vs) H _ I0 rd) (fun fl s' hs => ?_) fun e s' hs => hs
  have done : ∀ {σ' : L2.St} {H' : Hp} {v : V} {u : Value}, Inv (cxOf CX0 P w K mg base N qual (defScope st) f cdv A outer s H E0) [] σ' H' s' → RelV v u → Q v H' → CE outer P w H s Q u s' :=
    fun J rv z => ⟨_, _, J.os, J.bare, J.base, J.hok, rv, z⟩
  cases fl with
  | ret u => obtain ⟨v, σ', H', J, rv, z⟩ := hs; exact done J rv z
  | next => obtain ⟨σ', H', J, z⟩ := hs; exact done (v := .non) (u := .none) J rfl z
  | brk => obtain ⟨_, _, _, z⟩ := hs; exact z.elim
  | cont => obtain ⟨_, _, _, z⟩ := hs; exact z.elim
end
section
variable {X : Cx} {k : Nat} {f : Addr} {fd : FuncData} {ps : List Str} {F : DCall} {x : Str} {p pos : Pos} {e : Expr} {es : List Expr} {m : MArg}
theorem run_fnG {pins : List (Addr × Obj)} {σ : L2.St} {H : Hp} {s : Shared} {Q : VK} {us : List Value} {vs : List V} (G : FnG X.prog X.w X.K X.mg X.base k f fd ps F) (hr : Room k X.A) (hgd : X.A.guards = some []) (hb : Binds X.K fd ps [])
    (hlen : ∀ ds S r, F ds S = some r → ds.length = ps.length) (I : Inv X pins σ H s) (r : Vals vs us) (h : rCM X.K F vs H Q) : wpAny (model X.prog X.w) X.A (call (.ref f) us) (EP X pins σ Q) X.xe s := by
  obtain ⟨S, μ, ds, d, S', st, ra, e, q⟩ := h
  have hl : vs.length = ps.length := by rw [ra.length]; exact hlen _ _ _ e
  have hb' : BindsTo s fd ⟨us, []⟩ (ps.zip us) := by
    have := hb s us I.kIn (by rw [List.append_nil, ← r.length]; exact hl)
    rwa [List.append_nil] at this
  refine wpAny_call (codeAny_mono (G.run X.A X.stack s H ⟨us, []⟩ us vs Q S μ ds d S' hr hgd I.env0 hb' r hl st ra e q) fun res s' hq => ?_)
  cases res with
  | error e => exact False.elim hq
  | ok fl =>
    cases fl with
    | ret u => exact I.after hq
    | next => exact False.elim hq
    | brk => exact False.elim hq
    | cont => exact False.elim hq
theorem me_call (G : FnG X.prog X.w X.K X.mg X.base k f fd ps F) (hr : Room k X.A) (hgd : X.A.guards = some []) (hg : Gl X x) (hm : X.mg x = some (.ref f)) (hk : PySem.W.keepIn X.K (.ref f) = true) (hb : Binds X.K fd ps [])
    (hlen : ∀ ds S r, F ds S = some r → ds.length = ps.length) (ha : MA X (e :: es) m) (hdb : (x == ("__debug__" : Str)) = false := by decide) (he : starEach (e :: es) X.env = (false, eval e X.env) :: starEach es X.env := by rfl)
    (hpl : (backTo pos (starEach es X.env)).any (·.1) = false := by rfl) : ME X (.Call (.Name x p) (e :: es) [] pos) (mCall F m) := by
  refine ⟨⟨fun pins s σ H Q I h => ?_⟩⟩
  refine wpAny_Call_Name_kw (ld_glob I hg hm (PySem.W.callWith_K (h₀ := X.base) I.ok.mod.kin hk (thn (ha.pa.run pos pins s σ H _ I (tE_call h)) fun us s1 h1 => ?_) he hpl) hdb)
  obtain ⟨vs, H1, I1, r, q⟩ := h1
  exact ⟨I1.kIn, run_fnG G hr hgd hb hlen I1 r q⟩
theorem me_call0 (G : FnG X.prog X.w X.K X.mg X.base k f fd ps F) (hr : Room k X.A) (hgd : X.A.guards = some []) (hg : Gl X x) (hm : X.mg x = some (.ref f)) (hk : PySem.W.keepIn X.K (.ref f) = true) (hb : Binds X.K fd ps [])
    (hlen : ∀ ds S r, F ds S = some r → ds.length = ps.length) (hdb : (x == ("__debug__" : Str)) = false := by decide) : ME X (.Call (.Name x p) [] [] pos) (mCall F mNil) := by
  refine ⟨⟨fun pins s σ H Q I h => ?_⟩⟩
  refine wpAny_Call_Name_kw (ld_glob I hg hm ?_ hdb)
  obtain ⟨ρ, S, μ, d, S', st, e, q⟩ := h
  exact PySem.W.callWith_K0 I.kIn hk (run_fnG (us := []) G hr hgd hb hlen I .nil ⟨S, μ, [], d, S', st.st, .nil, e, q⟩)
end

/-! ### the law's end -/
/-- a law's def gives True at every script of at most n ints -/
def LawOk (n : Nat) (F : DCall) : Prop := ∀ ns : List Int, ns.length ≤ n → ∃ S', F [.lr 0] [.fz (ns.map D.int)] = some (.bl true, S')
theorem law_callG {P : Program} {w : World} {K : PySem.W.Frag} {mg mb : Str → Option Value} {k n : Nat} {fa a : Addr} {fd : FuncData} {x : Str} {F : DCall} {s₁ : Shared} {vs : List Value} {ns : List Int}
    (KX : K.In s₁.heap) (hns : s₁.heap.Ns mainGlobals mg) (hb : s₁.heap.Ns builtinsNs mb) (hbb : ∀ x : Str, x ≠ "__name__" → mb x = bootBuiltins x) (hlim : s₁.heap.NoLimit) (hg : s₁.gens = #[])
    (ha : s₁.heap.get? a = some { cls := .type "list", data := .seq vs.toArray }) (hi : IntsAre vs ns) (hl : ns.length ≤ n) (hn : n ≤ sizeLine) (hr : Room k callerA)
    (hF : ∀ base : Heap, K.In base → base.Ns mainGlobals mg → FnG P w K mg base k fa fd [x] F) (hbind : ∀ (s : Shared) (u : Value), BindsTo s fd ⟨[u], []⟩ [(x, u)]) (ok : LawOk n F) :
    codeAny (model P w) callerA (.call (.ref fa) ⟨[.ref a], []⟩) (fun r s' => r = .ok (.ret (.bool true)) ∧ OldK s₁.heap s'.heap ∧ s'.os = s₁.os ∧ AllBare s'.gens) s₁ := by
  have rv := vals_ints hi
  obtain ⟨S', hS'⟩ := ok ns hl
  have go : ∀ H : Hp, Only H → FzL K H a (ns.map V.int) → HOk P w H s₁.heap → (∀ b, H b ≠ none → b = a) → (H a ≠ none → K.lookup a = none) →
      codeAny (model P w) callerA (.call (.ref fa) ⟨[.ref a], []⟩) (fun r s' => r = .ok (.ret (.bool true)) ∧ OldK s₁.heap s'.heap ∧ s'.os = s₁.os ∧ AllBare s'.gens) s₁ := by
    intro H hO hS hok hA hK
    have isA : ∀ {b : Addr} {u : HO}, H b = some u → b = a := fun z => hA _ (by rw [z]; simp)
    have noDict : ∀ {b : Addr} {o : Obj} {es : Array DictEntry} {ep : Nat}, s₁.heap.get? b = some o → o.data = .dict es ep → H b = none := by
      intro b o es ep e d
      cases q : H b with
      | none => rfl
      | some u =>
        have z := isA q
        subst z
        rw [ha] at e
        cases e
        exact nomatch d
    have keepNs : ∀ {b : Addr} {m : Str → Option Value}, s₁.heap.Ns b m → (hidT s₁.heap H).Ns b m := fun ⟨o, es, ep, e, d, r⟩ => ⟨o, es, ep, hidT_get e (noDict e d), d, r⟩
    have hKb : K.In (hidT s₁.heap H) := fun b o e => hidT_get (KX b o e) (by
      cases q : H b with
      | none => rfl
      | some u =>
        have z := isA q
        subst z
        rw [hK (by rw [q]; simp)] at e
        cases e)
    have hM : Mod K mg (hidT s₁.heap H) := ⟨hKb, keepNs hns, ⟨mb, keepNs hb, hbb⟩, let ⟨mc, h1, h2⟩ := hlim; ⟨mc, keepNs h1, h2⟩⟩
    have e0 : Env0 P w K mg (hidT s₁.heap H) callerA [] s₁ H := ⟨rfl, hM, fun b o e => of_hidT e, Nat.le_of_eq (hidT_size _ _), trivial, fun b hb => absurd hb (List.not_mem_nil), hok, .of_eq hg⟩
    have st : StR K H [a] [.fz (ns.map D.int)] := by
      refine ⟨rfl, fun i j b y z e1 e2 m1 m2 e3 e4 => ?_, fun i mo b e1 e2 => ?_⟩
      · cases i with
        | zero => cases e1; cases m1
        | succ i => simp at e1
      · cases i with
        | zero => cases e1; cases e2; exact ⟨_, hS, RpA.ints⟩
        | succ i => simp at e1
    refine codeAny_mono ((hF _ hKb (keepNs hns)).run callerA [] s₁ H ⟨[.ref a], []⟩ [.ref a] [.ref a] (fun v _ => v = .bl true) _ _ _ _ _ hr rfl e0 (hbind s₁ (.ref a)) (.cons rfl .nil) rfl st (.cons (.lr rfl) .nil) hS' (fun v H' μ' _ _ r => by cases r; rfl)) fun r s' h => ?_
    cases r with
    | error e => exact False.elim h
    | ok fl =>
      cases fl with
      | next => exact False.elim h
      | brk => exact False.elim h
      | cont => exact False.elim h
      | ret u =>
        obtain ⟨v, H', os, bare, un, hok', r', rfl⟩ := h
        obtain rfl : u = Value.bool true := r'
        refine ⟨rfl, OldK.of_keep fun b o e => ?_, os, bare⟩
        cases q : H b with
        | none => exact un.keep b o e q (List.not_mem_nil) (List.not_mem_nil)
        | some u =>
          rcases hO b with z | ⟨ob, xs, z⟩
          · rw [q] at z; cases z
          · obtain ⟨e1, _⟩ := hok b _ z
            obtain ⟨e2, _⟩ := hok' b _ (un.frzs b ob _ z)
            rw [e] at e1; cases e1
            exact e2
  cases hk : K.lookup a with
  | some o =>
    have e := KX a o hk
    rw [ha] at e
    cases e
    refine go (fun _ => none) (fun _ => .inl rfl) (.inr ⟨_, vs.toArray, _, hk, rfl, rfl, rfl, ?_, by simpa using rv⟩) (fun b u z => nomatch z) (fun b z => absurd rfl z) fun z => absurd rfl z
    rw [List.size_toArray, hi.length]; omega
  | none =>
    obtain ⟨H, h1, h2⟩ : ∃ H : Hp, H a = some (.frz { cls := .type "list", data := .seq vs.toArray } (.lst (ns.map V.int))) ∧ ∀ b, b ≠ a → H b = none :=
      ⟨fun b => if b = a then some (.frz { cls := .type "list", data := .seq vs.toArray } (.lst (ns.map V.int))) else none, if_pos rfl, fun b hb => if_neg hb⟩
    refine go H (fun b => ?_) (.inl ⟨_, h1⟩) (fun b u z => ?_) (fun b z => ?_) fun _ => hk
    · by_cases hb : b = a
      · rw [hb]; exact .inr ⟨_, _, h1⟩
      · exact .inl (h2 b hb)
    · by_cases hb : b = a
      · subst hb
        rw [h1] at z
        cases z
        exact ⟨ha, by rw [List.length_map]; omega, vs, _, rv, ha⟩
      · rw [h2 b hb] at z; cases z
    · by_cases hb : b = a
      · exact hb
      · exact absurd (h2 b hb) z
theorem walkG {l : PySem.W.OpenLaw} {n k : Nat} {q : Program} {loose : List Str} {XP : (Str → Option Value) → Heap → Prop} {YP : World → Heap → Prop} {d : DefRec} {K : Params → PySem.W.Frag} {F : DCall} {x : Str}
    (hn : l.most = some n) (hn2 : n ≤ sizeLine) (hdf : d.params.defaults = []) (hr : Room k callerA) (hY : ∀ (w : World) (h : Heap), YP w h → (K w.params).In h) (ok : LawOk n F)
    (hF : ∀ (w : World) (mg : Str → Option Value) (fa : Addr) (h : Heap), (K w.params).In h → h.Ns mainGlobals mg → mg d.name = some (.ref fa) →
      ∃ fd : FuncData, (∀ (s : Shared) (u : Value), BindsTo s fd ⟨[u], []⟩ [(x, u)]) ∧ ∀ base : Heap, (K w.params).In base → base.Ns mainGlobals mg → FnG l.prog w (K w.params) mg base k fa fd [x] F) :
    PySem.W.WalkO q loose XP YP l.row.toRowW d [] (fun f vs => PySem.call f vs) := by
  refine Att.attach_call hn hdf fun w s₀ s₁ mg mb fa o pm cd doc a vs ns G Y ho hd hcd hmg hobj hints hlen hg => ?_
  obtain ⟨fd, hb, hf⟩ := hF w mg fa _ (hY w _ Y) G.T.g hmg
  exact law_callG (hY w _ Y) G.T.g G.T.b G.T.builtins G.T.nolimit hg hobj hints hlen hn2 hr hf hb ok
end MS
namespace MS
open PySem PySem.Spec PyProof.Rows L2
/-! ### a def as its reading says -/
def den (np n : Nat) (m : MStm) : DCall := fun ds S => if ds.length = np then (match m (startD n ds) S with
  | some (.rt d, _, S') => some (d, S')
  | some (.nx, _, S') => some (.non, S')
  | _ => none) else none
theorem den_does {np n : Nat} {m : MStm} : Does n m (den np n m) := fun ds S d S' e => by
  unfold den at e
  split at e
  · split at e
    · rename_i h; cases e; exact ⟨_, _, h, .inl rfl⟩
    · rename_i h; cases e; exact ⟨_, _, h, .inr ⟨rfl, rfl⟩⟩
    · cases e
  · cases e
theorem den_len {np n : Nat} {m : MStm} {ds : List D} {S : Store} {r : D × Store} (e : den np n m ds S = some r) : ds.length = np := by
  unfold den at e
  split at e
  · assumption
  · cases e
/-! ### the built-in names -/
theorem boot_repr : bootBuiltins "repr" = some (.builtin "repr") := by decide +kernel
theorem boot_len : bootBuiltins "len" = some (.builtin "len") := by decide +kernel
theorem boot_abs : bootBuiltins "abs" = some (.builtin "abs") := by decide +kernel
theorem boot_min : bootBuiltins "min" = some (.builtin "min") := by decide +kernel
theorem boot_max : bootBuiltins "max" = some (.builtin "max") := by decide +kernel
theorem boot_int : bootBuiltins "int" = some (.type "int") := by decide +kernel
theorem boot_list : bootBuiltins "list" = some (.type "list") := by decide +kernel
theorem boot_tuple : bootBuiltins "tuple" = some (.type "tuple") := by decide +kernel
end MS
theorem MS.room80 {k : Nat} {A : PySem.Around} (r : L2.Room k A) : A.units + 80 < PySem.cLine := by have := r.un; omega

set_option Elab.async false
set_option linter.all false
set_option maxRecDepth 100000
set_option maxHeartbeats 4000000
namespace MS
open PySem PySem.Spec PyProof.Rows L2

/-! ### what is shown is short -/
mutual
def sml : PyData → Bool
  | .none => true
  | .bool _ => true
  | .int i => decide (i.natAbs < 10 ^ 40)
  | .list xs => smlAll xs
  | .tuple xs => smlAll xs
  | _ => false
def smlAll : List PyData → Bool
  | [] => true
  | x :: xs => sml x && smlAll xs
end
mutual
def wt : PyData → Nat
  | .list xs => wtAll xs + 3
  | .tuple xs => wtAll xs + 3
  | _ => 42
def wtAll : List PyData → Nat
  | [] => 0
  | x :: xs => wt x + 2 + wtAll xs
end
theorem log2_small {n : Nat} (h : n < 10 ^ 40) : n.log2 < 1920 := by
  by_cases h0 : n = 0
  · subst h0; decide
  · rw [Nat.log2_lt h0]
    exact Nat.lt_of_lt_of_le h (Nat.le_trans (by decide : 10 ^ 40 ≤ 2 ^ 200) (Nat.pow_le_pow_right (by decide) (by decide)))
theorem listText_le (ts : List Str) : (listText ts).length ≤ piled ts + 2 := by
  cases ts with
  | nil => decide
  | cons t r =>
    have h := textFrom_length_pos r 1 (("[" : Str) ++ (if (0 : Nat) > 0 then ", " else "" : String) ++ t) (Nat.succ_pos 0)
    show (textFrom 1 (("[" : Str) ++ (if (0 : Nat) > 0 then ", " else "" : String) ++ t) r ++ ("]" : String)).length ≤ _
    rw [strLen_append, h, strLen_append, strLen_append, piled_cons]
    have e1 : ((("[" : String) : Str)).length = 1 := rfl
    have e2 : ((("]" : String) : Str)).length = 1 := rfl
    have e3 : ((((if (0 : Nat) > 0 then ", " else "" : String)) : Str)).length = 0 := rfl
    rw [e1, e2, e3]
    omega
theorem tupleText_le (ts : List Str) : (tupleText ts).length ≤ piled ts + 3 := by
  unfold tupleText
  rw [strLen_append, strLen_append]
  have e1 : ((("(" : String) : Str)).length = 1 := rfl
  have e3 : (((if ts.length == 1 then ",)" else ")" : String) : Str)).length ≤ 2 := by split <;> decide
  rw [e1]
  cases ts with
  | nil =>
    have e2 : (Str.join ", " ([] : List Str)).length = 0 := rfl
    rw [e2, piled_nil]
    omega
  | cons t r =>
    have e2 := join_length_add (t :: r) (List.cons_ne_nil _ _)
    omega
mutual
theorem sml_shown : ∀ p : PyData, sml p = true → p.showable = true ∧ p.hasDict = false ∧ p.shown.length ≤ wt p
  | .none, _ => ⟨rfl, rfl, by decide⟩
  | .bool b, _ => ⟨rfl, rfl, by cases b <;> decide⟩
  | .int i, h => by
    have h' : i.natAbs < 10 ^ 40 := of_decide_eq_true h
    refine ⟨decide_eq_true (log2_small h'), rfl, ?_⟩
    have := int_text_length_le10 (a := i) (k := 40) (by decide) h'
    show ((toString i : String) : Str).length ≤ 42
    rw [PySem.ofString_length]
    omega
  | .list xs, h => by
    obtain ⟨h1, h2, h3⟩ := smlAll_shown xs h
    refine ⟨h1, h2, ?_⟩
    have := listText_le (PyData.shownAll xs)
    show (listText (PyData.shownAll xs)).length ≤ wtAll xs + 3
    omega
  | .tuple xs, h => by
    obtain ⟨h1, h2, h3⟩ := smlAll_shown xs h
    refine ⟨h1, h2, ?_⟩
    have := tupleText_le (PyData.shownAll xs)
    show (tupleText (PyData.shownAll xs)).length ≤ wtAll xs + 3
    omega
  | .str _, h => by cases h
  | .dict _, h => by cases h
theorem smlAll_shown : ∀ xs : List PyData, smlAll xs = true → PyData.showableAll xs = true ∧ PyData.hasDictAll xs = false ∧ piled (PyData.shownAll xs) ≤ wtAll xs
  | [], _ => ⟨rfl, rfl, Nat.le_refl _⟩
  | x :: xs, h => by
    have h : (sml x && smlAll xs) = true := h
    rw [Bool.and_eq_true] at h
    obtain ⟨h1, h2, h3⟩ := sml_shown x h.1
    obtain ⟨h4, h5, h6⟩ := smlAll_shown xs h.2
    refine ⟨?_, ?_, ?_⟩
    · show (x.showable && PyData.showableAll xs) = true
      rw [h1, h4]; rfl
    · show (x.hasDict || PyData.hasDictAll xs) = false
      rw [h2, h5]; rfl
    · show piled (x.shown :: PyData.shownAll xs) ≤ wt x + 2 + wtAll xs
      rw [piled_cons]
      omega
end
theorem okShow_of {p : PyData} (h : sml p = true) (hd : p.depth ≤ 64) (hw : wt p ≤ szl) : okShow p = true := by
  obtain ⟨h1, h2, h3⟩ := sml_shown p h
  unfold okShow
  rw [h1, h2]
  simp only [Bool.not_false, Bool.and_true, Bool.true_and, Bool.and_eq_true, decide_eq_true_eq]
  exact ⟨hd, Nat.le_trans h3 hw⟩

/-! ### loops by invariants -/
theorem forL_inv {ok : Store → Bool} {g : MTg} {b : MStm} (Pv : Nat → Ev → Store → Prop) : ∀ (ds : List D) (n : Nat) (ρ : Ev) (S : Store), Pv n ρ S →
    (∀ i x ρ S, ds[i]? = some x → Pv (n + i) ρ S → ok S = true ∧ ∃ ρ1 S1, g x ρ S = some (ρ1, S1) ∧ ∃ f ρ2 S2, b ρ1 S1 = some (f, ρ2, S2) ∧ (f = .nx ∨ f = .ct) ∧ Pv (n + i + 1) ρ2 S2) →
    (∀ ρ S, Pv (n + ds.length) ρ S → ok S = true) → ∃ ρ' S', forL ok g b ds ρ S = some (.nx, ρ', S') ∧ Pv (n + ds.length) ρ' S'
  | [], n, ρ, S, h0, _, he => ⟨ρ, S, by unfold forL; rw [if_pos (he ρ S h0)], h0⟩
  | x :: r, n, ρ, S, h0, hs, he => by
    obtain ⟨hok, ρ1, S1, e1, f, ρ2, S2, e2, hf, h2⟩ := hs 0 x ρ S rfl h0
    have hlen : n + (x :: r).length = (n + 1) + r.length := by rw [List.length_cons]; omega
    obtain ⟨ρ', S', e3, h3⟩ := forL_inv (ok := ok) (g := g) (b := b) Pv r (n + 1) ρ2 S2 h2 (fun i y ρ S hi hp => by
      have := hs (i + 1) y ρ S (by simpa using hi) (by rw [show n + (i + 1) = n + 1 + i by omega]; exact hp)
      rw [show n + (i + 1) = n + 1 + i by omega] at this
      exact this) (fun ρ S hp => he ρ S (by rw [hlen]; exact hp))
    refine ⟨ρ', S', ?_, by rw [hlen]; exact h3⟩
    unfold forL
    rw [if_pos hok, e1]
    show ((b ρ1 S1).bind fun q => match q.1 with
      | .nx => forL ok g b r q.2.1 q.2.2
      | .ct => forL ok g b r q.2.1 q.2.2
      | .bk => some (.nx, q.2.1, q.2.2)
      | .rt d => some (.rt d, q.2.1, q.2.2)) = _
    rw [e2]
    rcases hf with rfl | rfl <;> exact e3
/-- from 0 -/
theorem forL_by {ok : Store → Bool} {g : MTg} {b : MStm} (Pv : Nat → Ev → Store → Prop) {ds : List D} {ρ : Ev} {S : Store} (h0 : Pv 0 ρ S)
    (hs : ∀ i x ρ S, ds[i]? = some x → Pv i ρ S → ok S = true ∧ ∃ ρ1 S1, g x ρ S = some (ρ1, S1) ∧ ∃ f ρ2 S2, b ρ1 S1 = some (f, ρ2, S2) ∧ (f = .nx ∨ f = .ct) ∧ Pv (i + 1) ρ2 S2)
    (he : ∀ ρ S, Pv ds.length ρ S → ok S = true) : ∃ ρ' S', forL ok g b ds ρ S = some (.nx, ρ', S') ∧ Pv ds.length ρ' S' := by
  have := forL_inv (ok := ok) (g := g) (b := b) Pv ds 0 ρ S h0 (fun i x ρ S hi hp => by
    have := hs i x ρ S hi (by simpa using hp)
    simpa using this) (fun ρ S hp => he ρ S (by simpa using hp))
  simpa using this
/-- a comprehension -/
theorem lcL_by {ok : Store → Bool} {g : MTg} {t : MTst} {e : MExp} {ρw : Ev} {n : Nat} (Pv : Nat → Store → Prop) : ∀ (ds : List D) (k : Nat) (S : Store), Pv k S →
    (∀ i x S, ds[i]? = some x → Pv (k + i) S → ok S = true ∧ ∃ ρ1 S1, g x ρw S = some (ρ1, S1) ∧ ∃ c S2, t ρ1 S1 = some (c, S2) ∧
      if c = true then ∃ y S3 acc, e ρ1 S2 = some (y, S3) ∧ mat S3 n = some acc ∧ acc.length < szl ∧ Pv (k + i + 1) (S3.set n (.lst (acc ++ [y]))) else Pv (k + i + 1) S2) →
    (∀ S, Pv (k + ds.length) S → ok S = true) → ∃ S', lcL ok g t e ρw n ds S = some S' ∧ Pv (k + ds.length) S'
  | [], k, S, h0, _, he => ⟨S, by unfold lcL; rw [if_pos (he S h0)], h0⟩
  | x :: r, k, S, h0, hs, he => by
    obtain ⟨hok, ρ1, S1, e1, c, S2, e2, h2⟩ := hs 0 x S rfl h0
    have hlen : k + (x :: r).length = (k + 1) + r.length := by rw [List.length_cons]; omega
    have again : ∀ S, Pv (k + 1) S → ∃ S', lcL ok g t e ρw n r S = some S' ∧ Pv (k + 1 + r.length) S' := fun S hp => lcL_by Pv r (k + 1) S hp (fun i y S hi hp => by
      have := hs (i + 1) y S (by simpa using hi) (by rw [show k + (i + 1) = k + 1 + i by omega]; exact hp)
      rw [show k + (i + 1) = k + 1 + i by omega] at this
      exact this) (fun S hp => he S (by rw [hlen]; exact hp))
    cases c with
    | true =>
      obtain ⟨y, S3, acc, e3, e4, hz, hp⟩ := h2
      obtain ⟨S', e5, h5⟩ := again _ hp
      refine ⟨S', ?_, by rw [hlen]; exact h5⟩
      unfold lcL
      rw [if_pos hok, e1]
      show ((t ρ1 S1).bind fun k => if k.1 then (e ρ1 k.2).bind fun y => (mat y.2 n).bind fun acc => if acc.length < szl then lcL ok g t e ρw n r (y.2.set n (.lst (acc ++ [y.1]))) else none
        else lcL ok g t e ρw n r k.2) = _
      rw [e2]
      show ((e ρ1 S2).bind fun y => (mat y.2 n).bind fun acc => if acc.length < szl then lcL ok g t e ρw n r (y.2.set n (.lst (acc ++ [y.1]))) else none) = _
      rw [e3]
      show ((mat S3 n).bind fun acc => if acc.length < szl then lcL ok g t e ρw n r (S3.set n (.lst (acc ++ [y]))) else none) = _
      rw [e4]
      show (if acc.length < szl then lcL ok g t e ρw n r (S3.set n (.lst (acc ++ [y]))) else none) = _
      rw [if_pos hz]
      exact e5
    | false =>
      obtain ⟨S', e5, h5⟩ := again _ h2
      refine ⟨S', ?_, by rw [hlen]; exact h5⟩
      unfold lcL
      rw [if_pos hok, e1]
      show ((t ρ1 S1).bind fun k => if k.1 then (e ρ1 k.2).bind fun y => (mat y.2 n).bind fun acc => if acc.length < szl then lcL ok g t e ρw n r (y.2.set n (.lst (acc ++ [y.1]))) else none
        else lcL ok g t e ρw n r k.2) = _
      rw [e2]
      exact e5

/-! ### the store by handles -/
/-- what stood stands, but for the list at p -/
structure Keeps (p : Nat) (S S' : Store) : Prop where
  len : S.length ≤ S'.length
  at_ : ∀ n x, n ≠ p → S[n]? = some x → S'[n]? = some x
theorem Keeps.refl {p : Nat} {S : Store} : Keeps p S S := ⟨Nat.le_refl _, fun _ _ _ h => h⟩
theorem Keeps.trans {p : Nat} {S S' S'' : Store} (a : Keeps p S S') (b : Keeps p S' S'') : Keeps p S S'' := ⟨Nat.le_trans a.len b.len, fun n x h e => b.at_ n x h (a.at_ n x h e)⟩
theorem Keeps.set {p : Nat} {S : Store} {x : MO} : Keeps p S (S.set p x) := ⟨by rw [List.length_set]; exact Nat.le_refl _, fun n y h e => by rw [List.getElem?_set_ne h.symm]; exact e⟩
theorem Keeps.app {p : Nat} {S l : Store} : Keeps p S (S ++ l) := ⟨by rw [List.length_append]; omega, fun n y h e => by rw [List.getElem?_append_left (List.getElem?_eq_some_iff.mp e).1]; exact e⟩
theorem lat_lst {S : Store} {n : Nat} {ds : List D} (h : S[n]? = some (.lst ds)) : lat S n = some ds := by unfold lat; rw [h]
theorem lat_fz {S : Store} {n : Nat} {ds : List D} (h : S[n]? = some (.fz ds)) : lat S n = some ds := by unfold lat; rw [h]
theorem mat_lst {S : Store} {n : Nat} {ds : List D} (h : S[n]? = some (.lst ds)) : mat S n = some ds := by unfold mat; rw [h]
theorem get_app {S : Store} {l : Store} {n : Nat} {x : MO} (h : S[n]? = some x) : (S ++ l)[n]? = some x := by rw [List.getElem?_append_left (List.getElem?_eq_some_iff.mp h).1]; exact h
theorem get_new {S : Store} {x : MO} : (S ++ [x])[S.length]? = some x := List.getElem?_concat_length
theorem get_set {S : Store} {n : Nat} {x y : MO} (h : S[n]? = some x) : (S.set n y)[n]? = some y := List.getElem?_set_self (List.getElem?_eq_some_iff.mp h).1
theorem get_ne {S : Store} {n m : Nat} {y : MO} (h : n ≠ m) : (S.set n y)[m]? = S[m]? := List.getElem?_set_ne h
end MS
/-! ### one step of a reading -/
local macro_rules | `(tactic| walk_at "ms") => `(tactic| skip)

set_option Elab.async false
set_option linter.all false
set_option maxRecDepth 100000
set_option maxHeartbeats 4000000
namespace MS
open PySem PySem.Spec PyProof.Rows L2

/-! ### going through a reading forwards -/
def GE {α : Type} (o : Option (α × Store)) (Q : α → Store → Prop) : Prop := ∃ a S', o = some (a, S') ∧ Q a S'
def GS (o : Option (Fl × Ev × Store)) (Q : Fl → Ev → Store → Prop) : Prop := ∃ f ρ' S', o = some (f, ρ', S') ∧ Q f ρ' S'
section
variable {α : Type} {ρ : Ev} {S : Store} {Q : D → Store → Prop} {QB : Bool → Store → Prop} {QA : List D → Store → Prop} {QS : Fl → Ev → Store → Prop} {QE : Ev → Store → Prop} {QI : (List D × (Store → Bool)) → Store → Prop}
  {m m' : MExp} {a : MArg} {t u : MTst} {f : DOp2} {fc : DCall} {d : D} {s s' : MStm} {g : MTg} {gs : MTgs}
theorem GE.mono {o : Option (α × Store)} {P P' : α → Store → Prop} (h : GE o P) (i : ∀ a S, P a S → P' a S) : GE o P' := let ⟨a, S', e, p⟩ := h; ⟨a, S', e, i _ _ p⟩
theorem GS.mono {o : Option (Fl × Ev × Store)} {P P' : Fl → Ev → Store → Prop} (h : GS o P) (i : ∀ f ρ S, P f ρ S → P' f ρ S) : GS o P' := let ⟨f, ρ', S', e, p⟩ := h; ⟨f, ρ', S', e, i _ _ _ p⟩
theorem ge_bind {β : Type} {o : Option (α × Store)} {k : α × Store → Option (β × Store)} {P : β → Store → Prop} (h : GE o fun a S' => GE (k (a, S')) P) : GE (o.bind k) P := by
  obtain ⟨a, S', e, b, S2, e2, p⟩ := h
  exact ⟨b, S2, by rw [e]; exact e2, p⟩
theorem gs_bind {o : Option (α × Store)} {k : α × Store → Option (Fl × Ev × Store)} {P : Fl → Ev → Store → Prop} (h : GE o fun a S' => GS (k (a, S')) P) : GS (o.bind k) P := by
  obtain ⟨a, S', e, f, r, S2, e2, p⟩ := h
  exact ⟨f, r, S2, by rw [e]; exact e2, p⟩
theorem gss_bind {o : Option (Fl × Ev × Store)} {k : Fl × Ev × Store → Option (Fl × Ev × Store)} {P : Fl → Ev → Store → Prop} (h : GS o fun f r S' => GS (k (f, r, S')) P) : GS (o.bind k) P := by
  obtain ⟨f, r, S', e, f2, r2, S2, e2, p⟩ := h
  exact ⟨f2, r2, S2, by rw [e]; exact e2, p⟩
theorem ge_of {x : α} {P : α → Store → Prop} (h : P x S) : GE (some (x, S)) P := ⟨_, _, rfl, h⟩
theorem gs_of {x : Fl} {P : Fl → Ev → Store → Prop} (h : P x ρ S) : GS (some (x, ρ, S)) P := ⟨_, _, _, rfl, h⟩
theorem ge_eq {o : Option (α × Store)} {x : α} {S' : Store} {P : α → Store → Prop} (e : o = some (x, S')) (h : P x S') : GE o P := ⟨_, _, e, h⟩
/-! expressions -/
theorem ge_var {i : Nat} (e : ρ[i]? = some (some d)) (q : Q d S) : GE (mVar i ρ S) Q := ⟨d, S, by unfold mVar; rw [e], q⟩
theorem ge_c (q : Q d S) : GE (mC d ρ S) Q := ⟨d, S, rfl, q⟩
theorem ge_nil (q : QA [] S) : GE (mNil ρ S) QA := ⟨_, _, rfl, q⟩
theorem ge_cons (h : GE (m ρ S) fun x S1 => GE (a ρ S1) fun xs S2 => QA (x :: xs) S2) : GE (mCons m a ρ S) QA := ge_bind (h.mono fun _ _ h => ge_bind (h.mono fun _ _ h => ge_of h))
theorem ge_bin (h : GE (m ρ S) fun x S1 => GE (m' ρ S1) fun y S2 => GE (f x y S2) Q) : GE (mBin f m m' ρ S) Q := ge_bind (h.mono fun _ _ h => ge_bind h)
theorem ge_call (h : GE (a ρ S) fun xs S1 => GE (fc xs S1) Q) : GE (mCall fc a ρ S) Q := ge_bind h
theorem ge_tup (h : GE (a ρ S) fun xs S1 => xs.length ≤ szl ∧ Q (.tup xs) S1) : GE (mTup a ρ S) Q := ge_bind (h.mono fun xs S1 ⟨h1, h2⟩ => ⟨_, _, if_pos h1, h2⟩)
theorem ge_lst (h : GE (a ρ S) fun xs S1 => xs.length ≤ szl ∧ Q (.lr S1.length) (S1 ++ [.lst xs])) : GE (mLst a ρ S) Q := ge_bind (h.mono fun xs S1 ⟨h1, h2⟩ => ⟨_, _, if_pos h1, h2⟩)
theorem ge_B (h : GE (m ρ S) fun x S1 => ∃ b, x = .bl b ∧ QB b S1) : GE (mB m ρ S) QB := ge_bind (h.mono fun x S1 ⟨b, e, h⟩ => by subst e; exact ge_of h)
theorem ge_and (h : GE (t ρ S) fun b S1 => (b = true → GE (u ρ S1) QB) ∧ (b = false → QB false S1)) : GE (mAnd t u ρ S) QB := ge_bind (h.mono fun b S1 ⟨h1, h2⟩ => by
  cases b with
  | true => exact h1 rfl
  | false => exact ge_of (h2 rfl))
theorem ge_or (h : GE (t ρ S) fun b S1 => (b = true → QB true S1) ∧ (b = false → GE (u ρ S1) QB)) : GE (mOr t u ρ S) QB := ge_bind (h.mono fun b S1 ⟨h1, h2⟩ => by
  cases b with
  | true => exact ge_of (h1 rfl)
  | false => exact h2 rfl)
theorem ge_not (h : GE (t ρ S) fun b S1 => QB (!b) S1) : GE (mNot t ρ S) QB := ge_bind (h.mono fun _ _ h => ge_of h)
theorem ge_if (h : GE (t ρ S) fun b S1 => (b = true → GE (m ρ S1) Q) ∧ (b = false → GE (m' ρ S1) Q)) : GE (mIf t m m' ρ S) Q := ge_bind (h.mono fun b S1 ⟨h1, h2⟩ => by
  cases b with
  | true => exact h1 rfl
  | false => exact h2 rfl)
theorem ge_andV (h : GE (m ρ S) fun x S1 => ∃ b, x = .bl b ∧ (b = true → GE (m' ρ S1) Q) ∧ (b = false → Q (.bl false) S1)) : GE (mAndV m m' ρ S) Q := ge_bind (h.mono fun x S1 ⟨b, e, h1, h2⟩ => by
  subst e
  cases b with
  | true => exact h1 rfl
  | false => exact ge_of (h2 rfl))
theorem ge_orV (h : GE (m ρ S) fun x S1 => ∃ b, x = .bl b ∧ (b = true → Q (.bl true) S1) ∧ (b = false → GE (m' ρ S1) Q)) : GE (mOrV m m' ρ S) Q := ge_bind (h.mono fun x S1 ⟨b, e, h1, h2⟩ => by
  subst e
  cases b with
  | true => exact ge_of (h1 rfl)
  | false => exact h2 rfl)
theorem ge_notV (h : GE (m ρ S) fun x S1 => ∃ b, x = .bl b ∧ Q (.bl (!b)) S1) : GE (mNotV m ρ S) Q := ge_bind (h.mono fun x S1 ⟨b, e, h⟩ => by subst e; exact ge_of h)
theorem ge_neg (h : GE (m ρ S) fun x S1 => ∃ i, x = .int i ∧ Q (.int (-i)) S1) : GE (mNeg m ρ S) Q := ge_bind (h.mono fun x S1 ⟨b, e, h⟩ => by subst e; exact ge_of h)
theorem ge_noPart {P : Option Int → Store → Prop} (h : P none S) : GE (mNoPart ρ S) P := ge_of h
theorem ge_part {P : Option Int → Store → Prop} (h : GE (m ρ S) fun x S1 => ∃ i, x = .int i ∧ P (some i) S1) : GE (mPart m ρ S) P := ge_bind (h.mono fun x S1 ⟨b, e, h⟩ => by subst e; exact ge_of h)
theorem ge_sl {lo hi : MPart} (h : GE (m ρ S) fun x S1 => GE (lo ρ S1) fun l S2 => GE (hi ρ S2) fun r S3 => GE (fSl x l r S3) Q) : GE (mSl m lo hi ρ S) Q := ge_bind (h.mono fun _ _ h => ge_bind (h.mono fun _ _ h => ge_bind h))
theorem ge_revT (h : GE (m ρ S) fun x S1 => ∃ ds, x = .tup ds ∧ Q (.tup ds.reverse) S1) : GE (mRevT m ρ S) Q := ge_bind (h.mono fun x S1 ⟨b, e, h⟩ => by subst e; exact ge_of h)
theorem ge_app (h : GE (m ρ S) fun x S1 => ∃ n, x = .lr n ∧ (∃ z, mat S1 n = some z) ∧ GE (a ρ S1) fun xs S2 => ∃ y ds, xs = [y] ∧ mat S2 n = some ds ∧ ds.length < szl ∧ Q .non (S2.set n (.lst (ds ++ [y])))) : GE (mApp m a ρ S) Q :=
  ge_bind (h.mono fun x S1 ⟨n, e, ⟨z, hz⟩, h⟩ => by
    subst e
    show GE ((mat S1 n).bind fun _ => _) Q
    rw [hz]
    refine ge_bind (h.mono fun xs S2 ⟨y, ds, e, h1, h2, h3⟩ => ?_)
    subst e
    show GE ((mat S2 n).bind fun ds => if ds.length < szl then some (D.non, S2.set n (.lst (ds ++ [y]))) else none) Q
    rw [h1]
    exact ⟨_, _, if_pos h2, h3⟩)
theorem ge_lc {i : MItr} {e : MExp} {vs : List Nat} (h : GE (i ρ S) fun p S1 => ∃ S2, lcL p.2 g t e (wipeD ρ vs) S1.length p.1 (S1 ++ [.lst []]) = some S2 ∧ Q (.lr S1.length) S2) : GE (mLc i g t e vs ρ S) Q :=
  ge_bind (h.mono fun p S1 ⟨S2, e1, h⟩ => ⟨_, _, by show (lcL p.2 g t e (wipeD ρ vs) S1.length p.1 (S1 ++ [.lst []])).bind _ = _; rw [e1]; rfl, h⟩)
theorem ge_chain {f' : DOp2} {mc : MExp} (h : GE (m ρ S) fun x S1 => GE (m' ρ S1) fun y S2 => GE (f x y S2) fun z S3 => ∃ b, z = .bl b ∧ (b = true → GE (mc ρ S3) fun w S4 => GE (f' y w S4) Q) ∧ (b = false → Q (.bl false) S3)) : GE (mChain f f' m m' mc ρ S) Q :=
  ge_bind (h.mono fun x S1 h => ge_bind (h.mono fun y S2 h => ge_bind (h.mono fun z S3 ⟨b, e, h1, h2⟩ => by
    subst e
    cases b with
    | true => exact ge_bind (h1 rfl)
    | false => exact ge_of (h2 rfl))))
/-! what is walked -/
theorem gi_items (h : GE (m ρ S) fun x S1 => (∃ ds, x = .tup ds ∧ QI (ds, always) S1) ∨ ∃ n ds, x = .lr n ∧ lat S1 n = some ds ∧ QI (ds, still n ds) S1) : GE (mItems m ρ S) QI := ge_bind (h.mono fun x S1 h => by
  rcases h with ⟨b, e, h⟩ | ⟨n, ds, e, h1, h⟩
  · subst e; exact ge_of h
  · subst e
    show GE ((lat S1 n).bind fun ds => some ((ds, still n ds), S1)) QI
    rw [h1]
    exact ge_of h)
theorem gi_range1 (h : GE (a ρ S) fun xs S1 => ∃ j, xs = [.int j] ∧ r62 j = true ∧ QI (rangeD 0 j.toNat, always) S1) : GE (mRange1 a ρ S) QI := ge_bind (h.mono fun x S1 ⟨j, e, h1, h⟩ => by subst e; exact ⟨_, _, if_pos h1, h⟩)
theorem gi_range2 (h : GE (a ρ S) fun xs S1 => ∃ i j, xs = [.int i, .int j] ∧ (r62 i && r62 j) = true ∧ QI (rangeD i (j - i).toNat, always) S1) : GE (mRange2 a ρ S) QI := ge_bind (h.mono fun x S1 ⟨i, j, e, h1, h⟩ => by subst e; exact ⟨_, _, if_pos h1, h⟩)
theorem gi_enum (h : GE (a ρ S) fun xs S1 => (∃ ds, xs = [.tup ds] ∧ QI (enumD ds, always) S1) ∨ ∃ n ds, xs = [.lr n] ∧ lat S1 n = some ds ∧ QI (enumD ds, still n ds) S1) : GE (mEnum a ρ S) QI := ge_bind (h.mono fun x S1 h => by
  rcases h with ⟨b, e, h⟩ | ⟨n, ds, e, h1, h⟩
  · subst e; exact ge_of h
  · subst e
    show GE ((lat S1 n).bind fun ds => some ((enumD ds, still n ds), S1)) QI
    rw [h1]
    exact ge_of h)
/-! statements -/
theorem gs_nx (h : QS .nx ρ S) : GS (mNx ρ S) QS := gs_of h
theorem gs_bk (h : QS .bk ρ S) : GS (mBk ρ S) QS := gs_of h
theorem gs_ct (h : QS .ct ρ S) : GS (mCt ρ S) QS := gs_of h
/-- what follows a statement in a block -/
def Then (s' : MStm) (QS : Fl → Ev → Store → Prop) : Fl → Ev → Store → Prop := fun f r S1 => match f with
  | .nx => GS (s' r S1) QS
  | f => QS f r S1
theorem then_nx (h : GS (s' ρ S) QS) : Then s' QS .nx ρ S := h
theorem then_rt (h : QS (.rt d) ρ S) : Then s' QS (.rt d) ρ S := h
theorem then_ct (h : QS .ct ρ S) : Then s' QS .ct ρ S := h
theorem then_bk (h : QS .bk ρ S) : Then s' QS .bk ρ S := h
theorem gs_seq (h : GS (s ρ S) (Then s' QS)) : GS (mSeq s s' ρ S) QS := gss_bind (h.mono fun f r S1 h => by
  cases f with
  | nx => exact h
  | _ => exact gs_of h)
theorem gs_ret (h : GE (m ρ S) fun x S1 => QS (.rt x) ρ S1) : GS (mRet m ρ S) QS := gs_bind (h.mono fun _ _ h => gs_of h)
theorem gs_retN (h : QS (.rt .non) ρ S) : GS (mRetN ρ S) QS := gs_of h
theorem gs_drop (h : GE (m ρ S) fun x S1 => QS .nx ρ S1) : GS (mDrop m ρ S) QS := gs_bind (h.mono fun _ _ h => gs_of h)
theorem gs_if (h : GE (t ρ S) fun b S1 => (b = true → GS (s ρ S1) QS) ∧ (b = false → GS (s' ρ S1) QS)) : GS (mIfS t s s' ρ S) QS := gs_bind (h.mono fun b S1 ⟨h1, h2⟩ => by
  cases b with
  | true => exact h1 rfl
  | false => exact h2 rfl)
theorem gs_asg (h : GE (m ρ S) fun x S1 => GE (g x ρ S1) fun r S2 => QS .nx r S2) : GS (mAsg m g ρ S) QS := gs_bind (h.mono fun x S1 h => gs_bind (h.mono fun _ _ h => gs_of h))
theorem gs_par {i j : Nat} (h : GE (a ρ S) fun xs S1 => ∃ x y, xs = [x, y] ∧ QS .nx ((ρ.set i (some x)).set j (some y)) S1) : GS (mPar i j a ρ S) QS := gs_bind (h.mono fun xs S1 ⟨x, y, e, h⟩ => by subst e; exact gs_of h)
theorem gs_aug {i : Nat} (e : ρ[i]? = some (some d)) (h : GE (m ρ S) fun x S1 => GE (f d x S1) fun z S2 => QS .nx (ρ.set i (some z)) S2) : GS (mAug i f m ρ S) QS := by
  unfold mAug
  rw [e]
  exact gs_bind (h.mono fun x S1 h => gs_bind (h.mono fun _ _ h => gs_of h))
theorem gs_for {i : MItr} (h : GE (i ρ S) fun p S1 => GS (forL p.2 g s p.1 ρ S1) QS) : GS (mFor i g s ρ S) QS := gs_bind h
/-! targets -/
theorem gt_name {i : Nat} (h : QE (ρ.set i (some d)) S) : GE (mName i d ρ S) QE := ge_of h
theorem gt_nil (h : QE ρ S) : GE (mgNil [] ρ S) QE := ge_of h
theorem gt_cons {ds : List D} (h : GE (g d ρ S) fun r S1 => GE (gs ds r S1) QE) : GE (mgCons g gs (d :: ds) ρ S) QE := ge_bind h
theorem gt_tup {ds : List D} {n : Nat} (e : ds.length = n) (h : GE (gs ds ρ S) QE) : GE (mgTup gs n (.tup ds) ρ S) QE := by
  show GE (if ds.length = n then gs ds ρ S else none) QE
  rw [if_pos e]
  exact h
theorem gt_sub {mi : MExp} (h : GE (m ρ S) fun x S1 => GE (mi ρ S1) fun i S2 => ∃ n k ds j, x = .lr n ∧ i = .int k ∧ mat S2 n = some ds ∧ L2.ixN ds.length k = some j ∧ QE ρ (S2.set n (.lst (ds.set j d)))) : GE (mgSub m mi d ρ S) QE :=
  ge_bind (h.mono fun x S1 h => ge_bind (h.mono fun i S2 ⟨n, k, ds, j, e1, e2, h1, h2, h3⟩ => by
    subst e1 e2
    show GE ((mat S2 n).bind fun ds => (L2.ixN ds.length k).bind fun j => some (ρ, S2.set n (.lst (ds.set j d)))) QE
    rw [h1]
    show GE ((L2.ixN ds.length k).bind fun j => some (ρ, S2.set n (.lst (ds.set j d)))) QE
    rw [h2]
    exact ge_of h3))
/-! operations -/
theorem ge_fI {k : Int → Int → Int} {i j : Int} (h : Q (.int (k i j)) S) : GE (fI k (.int i) (.int j) S) Q := ge_of h
theorem ge_sub {i j : Int} (h : Q (.int (i - j)) S) : GE (fSub (.int i) (.int j) S) Q := ge_of h
theorem ge_add {i j : Int} (h : Q (.int (i + j)) S) : GE (fAdd (.int i) (.int j) S) Q := ge_of h
theorem ge_addT {x y : List D} (hz : x.length + y.length ≤ szl) (h : Q (.tup (x ++ y)) S) : GE (fAdd (.tup x) (.tup y) S) Q := ⟨_, _, if_pos hz, h⟩
theorem ge_addL {n k : Nat} {x y : List D} (h1 : mat S n = some x) (h2 : mat S k = some y) (hz : x.length + y.length ≤ szl) (h : Q (.lr S.length) (S ++ [.lst (x ++ y)])) : GE (fAdd (.lr n) (.lr k) S) Q := by
  show GE ((mat S n).bind fun a => (mat S k).bind fun b => if a.length + b.length ≤ szl then some (D.lr S.length, S ++ [.lst (a ++ b)]) else none) Q
  rw [h1, h2]
  exact ⟨_, _, if_pos hz, h⟩
theorem ge_mul {i j : Int} (hc : (i64 i || i64 j) = true) (h : Q (.int (i * j)) S) : GE (fMul (.int i) (.int j) S) Q := ⟨_, _, if_pos hc, h⟩
theorem ge_mod {i j : Int} (hc : 0 < j) (h : Q (.int (i % j)) S) : GE (fMod (.int i) (.int j) S) Q := ⟨_, _, if_pos (decide_eq_true hc), h⟩
theorem ge_div {i j : Int} (hc : 0 < j) (hd : j < 1073741824) (h : Q (.int (i / j)) S) : GE (fDiv (.int i) (.int j) S) Q := ⟨_, _, if_pos (by simp [hc, hd]), h⟩
theorem ge_pow {i j : Int} (hc : (decide (0 ≤ j) && decide (j ≤ 1000) && i64 i) = true) (h : Q (.int (i ^ j.toNat)) S) : GE (fPow (.int i) (.int j) S) Q := ⟨_, _, if_pos hc, h⟩
theorem ge_lt {i j : Int} (h : Q (.bl (decide (i < j))) S) : GE (fLt (.int i) (.int j) S) Q := ge_of h
theorem ge_le {i j : Int} (h : Q (.bl (decide (i ≤ j))) S) : GE (fLe (.int i) (.int j) S) Q := ge_of h
theorem ge_gt {i j : Int} (h : Q (.bl (decide (j < i))) S) : GE (fGt (.int i) (.int j) S) Q := ge_of h
theorem ge_ge {i j : Int} (h : Q (.bl (decide (j ≤ i))) S) : GE (fGe (.int i) (.int j) S) Q := ge_of h
theorem ge_eqI {i j : Int} (h : Q (.bl (decide (i = j))) S) : GE (fEq (.int i) (.int j) S) Q := ge_of h
theorem ge_neI {i j : Int} (h : Q (.bl (!decide (i = j))) S) : GE (fNe (.int i) (.int j) S) Q := ge_of h
theorem ge_eqS {i j : Str} (h : Q (.bl (decide (i = j))) S) : GE (fEq (.str i) (.str j) S) Q := ge_of h
theorem ge_neS {i j : Str} (h : Q (.bl (!decide (i = j))) S) : GE (fNe (.str i) (.str j) S) Q := ge_of h
theorem ge_ixT {ds : List D} {i : Int} (e : L2.atI ds i = some d) (h : Q d S) : GE (fIx (.tup ds) (.int i) S) Q := by
  show GE ((L2.atI ds i).map fun d => (d, S)) Q
  rw [e]
  exact ge_of h
theorem ge_ixL {n : Nat} {ds : List D} {i : Int} (hl : lat S n = some ds) (e : L2.atI ds i = some d) (h : Q d S) : GE (fIx (.lr n) (.int i) S) Q := by
  show GE ((lat S n).bind fun ds => (L2.atI ds i).map fun d => (d, S)) Q
  rw [hl]
  show GE ((L2.atI ds i).map fun d => (d, S)) Q
  rw [e]
  exact ge_of h
theorem ge_in {b : Bool} {x y : D} {ds : List D} (hi : items S y = some ds) (hf : (flatD x && ds.all flatD) = true) (h : Q (.bl (if b then !inD x ds else inD x ds)) S) : GE (fIn b x y S) Q := by
  show GE ((items S y).bind fun ds => if flatD x && ds.all flatD then some (D.bl (if b then !inD x ds else inD x ds), S) else none) Q
  rw [hi]
  exact ⟨_, _, if_pos hf, h⟩
theorem ge_len {x : D} {ds : List D} (hi : items S x = some ds) (h : Q (.int (ds.length : Int)) S) : GE (cLen [x] S) Q := by
  show GE ((items S x).bind fun xs => some (D.int (xs.length : Int), S)) Q
  rw [hi]
  exact ge_of h
theorem ge_list {x : D} {ds : List D} (hi : items S x = some ds) (h : Q (.lr S.length) (S ++ [.lst ds])) : GE (cList [x] S) Q := by
  show GE ((items S x).bind fun xs => some (D.lr S.length, S ++ [.lst xs])) Q
  rw [hi]
  exact ge_of h
theorem ge_tuple {x : D} {ds : List D} (hi : items S x = some ds) (h : Q (.tup ds) S) : GE (cTuple [x] S) Q := by
  show GE ((items S x).bind fun xs => some (D.tup xs, S)) Q
  rw [hi]
  exact ge_of h
theorem ge_int {i : Int} (h : Q (.int i) S) : GE (cInt [.int i] S) Q := ge_of h
theorem ge_intB {i : Bool} (h : Q (.int (if i then 1 else 0)) S) : GE (cInt [.bl i] S) Q := ge_of h
theorem ge_min {i j : Int} (h : Q (.int (if j < i then j else i)) S) : GE (cMin [.int i, .int j] S) Q := ge_of h
theorem ge_max {i j : Int} (h : Q (.int (if j > i then j else i)) S) : GE (cMax [.int i, .int j] S) Q := ge_of h
theorem ge_abs {i : Int} (h : Q (.int (if i < 0 then -i else i)) S) : GE (cAbs [.int i] S) Q := ge_of h
theorem ge_repr {x : D} {p : PyData} (e : toPy S 64 x = some p) (ho : okShow p = true) (h : Q (.str p.shown) S) : GE (cRepr [x] S) Q := by
  show GE ((toPy S 64 x).bind fun p => if okShow p then some (D.str p.shown, S) else none) Q
  rw [e]
  exact ⟨_, _, if_pos ho, h⟩
theorem ge_slL {n : Nat} {ds : List D} {lo hi : Option Int} (e : lat S n = some ds) (h : Q (.lr S.length) (S ++ [.lst (cutD ds lo hi)])) : GE (fSl (.lr n) lo hi S) Q := by
  show GE ((lat S n).bind fun ds => some (D.lr S.length, S ++ [.lst (cutD ds lo hi)])) Q
  rw [e]
  exact ge_of h
theorem ge_slT {ds : List D} {lo hi : Option Int} (h : Q (.tup (cutD ds lo hi)) S) : GE (fSl (.tup ds) lo hi S) Q := ge_of h
theorem ge_den {np n : Nat} {ds : List D} (hl : ds.length = np) (h : GS (s (startD n ds) S) fun f _ S' => match f with
  | .rt d => Q d S'
  | .nx => Q .non S'
  | _ => False) : GE (den np n s ds S) Q := by
  obtain ⟨f, r, S', e, q⟩ := h
  unfold den
  rw [if_pos hl, e]
  cases f with
  | rt d => exact ge_of q
  | nx => exact ge_of q
  | bk => exact q.elim
  | ct => exact q.elim
end
/-- a loop that nothing leaves -/
theorem gs_forL {ok : Store → Bool} {g : MTg} {b : MStm} {QS : Fl → Ev → Store → Prop} (Pv : Nat → Ev → Store → Prop) {ds : List D} {ρ : Ev} {S : Store} (h0 : Pv 0 ρ S)
    (hs : ∀ i x ρ S, ds[i]? = some x → Pv i ρ S → ok S = true ∧ GE (g x ρ S) fun ρ1 S1 => GS (b ρ1 S1) fun f ρ2 S2 => (f = .nx ∨ f = .ct) ∧ Pv (i + 1) ρ2 S2)
    (he : ∀ ρ S, Pv ds.length ρ S → ok S = true ∧ QS .nx ρ S) : GS (forL ok g b ds ρ S) QS := by
  obtain ⟨ρ', S', e, h⟩ := forL_by (ok := ok) (g := g) (b := b) Pv h0 (fun i x ρ S hi hp => by
    obtain ⟨h1, ρ1, S1, e1, f, ρ2, S2, e2, h2⟩ := hs i x ρ S hi hp
    exact ⟨h1, ρ1, S1, e1, f, ρ2, S2, e2, h2⟩) fun ρ S hp => (he ρ S hp).1
  exact ⟨_, _, _, e, (he ρ' S' h).2⟩
/-- a comprehension's list -/
theorem lc_by {ok : Store → Bool} {g : MTg} {t : MTst} {e : MExp} {ρw : Ev} {n : Nat} {P : Store → Prop} (Pv : Nat → Store → Prop) {ds : List D} {S : Store} (h0 : Pv 0 S)
    (hs : ∀ i x S, ds[i]? = some x → Pv i S → ok S = true ∧ GE (g x ρw S) fun ρ1 S1 => GE (t ρ1 S1) fun c S2 =>
      (c = true → GE (e ρ1 S2) fun y S3 => ∃ acc, mat S3 n = some acc ∧ acc.length < szl ∧ Pv (i + 1) (S3.set n (.lst (acc ++ [y])))) ∧ (c = false → Pv (i + 1) S2))
    (he : ∀ S, Pv ds.length S → ok S = true ∧ P S) : ∃ S', lcL ok g t e ρw n ds S = some S' ∧ P S' := by
  obtain ⟨S', e1, h⟩ := lcL_by (ok := ok) (g := g) (t := t) (e := e) (ρw := ρw) (n := n) Pv ds 0 S h0 (fun i x S hi hp => by
    rw [Nat.zero_add] at hp ⊢
    obtain ⟨h1, ρ1, S1, e1, c, S2, e2, h2, h3⟩ := hs i x S hi hp
    refine ⟨h1, ρ1, S1, e1, c, S2, e2, ?_⟩
    cases c with
    | true =>
      obtain ⟨y, S3, e3, acc, h4⟩ := h2 rfl
      exact ⟨y, S3, acc, e3, h4⟩
    | false => exact h3 rfl) fun S hp => (he S (by simpa using hp)).1
  exact ⟨S', e1, (he S' (by simpa using h)).2⟩
end MS
namespace MS
open PySem PySem.Spec PyProof.Rows L2
/-- a while by what holds at each turn and a number that falls -/
theorem gs_while {t : MTst} {b : MStm} {QS : Fl → Ev → Store → Prop} (Pv : Nat → Ev → Store → Prop)
    (hs : ∀ m ρ S, Pv m ρ S → GE (t ρ S) fun c S1 => (c = true → GS (b ρ S1) fun f ρ2 S2 => (f = .nx ∨ f = .ct) ∧ ∃ m', m' < m ∧ Pv m' ρ2 S2) ∧ (c = false → QS .nx ρ S1)) :
    ∀ (n m : Nat) (ρ : Ev) (S : Store), m < n → Pv m ρ S → GS (whileN t b n ρ S) QS
  | 0, m, _, _, h, _ => absurd h (Nat.not_lt_zero _)
  | n + 1, m, ρ, S, h, hp => by
    obtain ⟨c, S1, e1, h1, h2⟩ := hs m ρ S hp
    unfold whileN
    rw [e1]
    cases c with
    | false => exact gs_of (h2 rfl)
    | true =>
      obtain ⟨f, ρ2, S2, e2, hf, m', hm, hp'⟩ := h1 rfl
      show GS ((b ρ S1).bind _) QS
      rw [e2]
      have ih := gs_while Pv hs n m' ρ2 S2 (by omega) hp'
      rcases hf with rfl | rfl <;> exact ih
end MS

set_option Elab.async false
set_option linter.all false
set_option maxRecDepth 100000
set_option maxHeartbeats 4000000
namespace MS
open PySem PySem.Spec PyProof.Rows L2

/-! ### zip(tuple, list) -/
/-- a tuple's and a list's items in new pairs -/
def ItzM (K : PySem.W.Frag) (a b : Addr) : It where
  go := fun i H => ∃ (xs ys : List V) (x y : V), SqT K H a xs ∧ SqL K H b ys ∧ xs[i]? = some x ∧ ys[i]? = some y
  yld := fun i H v H' => ∃ T x y, v = .ref T ∧ H T = none ∧ H' = upd H T (.tup [x, y]) ∧ (∀ xs, SqT K H a xs → xs[i]? = some x) ∧ ∀ ys, SqL K H b ys → ys[i]? = some y
  stop := fun i H => ∃ xs ys : List V, SqT K H a xs ∧ SqL K H b ys ∧ i = min xs.length ys.length
theorem plain_list {h : Heap} {b : Addr} {its : Array Value} (p : PlainL h b its) : h.IsList b its := let ⟨o, n, h1, h2, _, h4⟩ := p; ⟨o, h1, h2, n, h4⟩
theorem mem_zip {c z TI TO i1 i2 : Addr} (h : c ∈ [z, TO, i1, i2]) : c ∈ [z, TI, TO, i1, i2] := by
  simp only [List.mem_cons, List.not_mem_nil, or_false] at h ⊢
  rcases h with h | h | h | h
  · exact .inl h
  · exact .inr (.inr (.inl h))
  · exact .inr (.inr (.inr (.inl h)))
  · exact .inr (.inr (.inr (.inr h)))
theorem turn_zipM {P : Program} {w : World} {K : PySem.W.Frag} {elts : List Expr} {kk : Nat} {tpos : Pos} {N a b : Addr} (ha : a < N) (hb : b < N) :
    Turn P w K (.Tuple elts kk tpos) (ItzM K a b) [N + 4, N + 2, N + 3, N, N + 1] (N + 4) (fun i h => IsZip h (N + 4) (N + 2) (N + 3) .none ∧ IsTupOf2 h (N + 2) (.ref N) (.ref (N + 1)) ∧ (∃ x y, IsTupOf2 h (N + 3) x y) ∧ h.IsTupleIter N a i ∧ h.IsListIter (N + 1) b i) where
  mem := List.mem_cons_self ..
  obj := fun i h st c hc => by
    obtain ⟨h1, h2, ⟨x, y, h3⟩, ⟨o, ho, _, hd⟩, ⟨o', ho', _, hd'⟩⟩ := st
    rcases (by simpa using hc : c = N + 4 ∨ c = N + 2 ∨ c = N + 3 ∨ c = N ∨ c = N + 1) with z | z | z | z | z
    · rw [z]; exact ⟨_, h1, fun v q => nomatch q⟩
    · rw [z]; exact ⟨_, h2, fun v q => nomatch q⟩
    · rw [z]; exact ⟨_, h3, fun v q => nomatch q⟩
    · rw [z]; exact ⟨o, ho, fun v q => by rw [hd] at q; cases q⟩
    · rw [z]; exact ⟨o', ho', fun v q => by rw [hd'] at q; cases q⟩
  keep := fun i h h' ⟨h1, h2, ⟨x, y, h3⟩, h4, h5⟩ k => ⟨k _ (by simp) _ h1, k _ (by simp) _ h2, ⟨x, y, k _ (by simp) _ h3⟩, h4.at fun o q => k N (by simp) o q, h5.at fun o q => k (N + 1) (by simp) o q⟩
  item := by
    intro X hP hw hK hc i pins s σ H E I hf st hg
    subst hP hw hK
    obtain ⟨h1, h2, h3, h4, h5⟩ := st
    obtain ⟨xs, ys, x, y, hq, hr, hx, hy⟩ := hg
    obtain ⟨its, rv, p, hz⟩ := I.tuple hq
    obtain ⟨its', rv', p', hz'⟩ := I.list hr
    obtain ⟨u, hu, ru⟩ := rv.get hx
    obtain ⟨u', hu', ru'⟩ := rv'.get hy
    have W := GoesN.zip2 (elts := elts) (x1 := kk) (pos := tpos) (prog := X.prog) (w := X.w) (A := X.A) (zip_sep2 (N := N) (fp1 := [a]) (fp2 := [b]) (by simpa using ha) (by simpa using hb))
      (Draws.tuple (A := X.A.in1) (I.ok.hd hc) N a (Nat.ne_of_lt ha) its.toArray) (Draws.list (A := X.A.in1) (I.ok.hd hc) (N + 1) b (Nat.ne_of_lt (Nat.lt_succ_of_lt hb)) its'.toArray)
    have hlt : i < min its.toArray.size its'.toArray.size := by
      rw [List.size_toArray, List.size_toArray]
      exact Nat.lt_min.mpr ⟨(List.getElem?_eq_some_iff.mp hu).1, (List.getElem?_eq_some_iff.mp hu').1⟩
    refine W.goes i s _ E hlt ⟨h1, h2, h3, ⟨h4, p⟩, h5, (plain_list p')⟩ fun v h' tk hY st' hk htk => ?_
    obtain ⟨T, t1, t2, rfl, hT, e1, e2, hTup⟩ := hY
    have e1' : t1 = u := by
      rw [List.getElem?_toArray, hu] at e1
      exact (Option.some.inj e1).symm
    have e2' : t2 = u' := by
      rw [List.getElem?_toArray, hu'] at e2
      exact (Option.some.inj e2).symm
    subst e1' e2'
    have new : ObjOk X.prog X.w (upd H T (.tup [x, y])) h' T (.tup [x, y]) := ⟨by show 2 ≤ sizeLine; decide, [t1, t2], .cons ru (.cons ru' .nil), hTup⟩
    have hk' : ∀ (c : Addr) (o : Obj), ¬c ∈ [N + 4, N + 2, N + 3, N, N + 1] → s.heap.get? c = some o → h'.get? c = some o := fun c o hc q => hk c o (fun z => hc (mem_zip z)) q
    have I1 := I.turnedNew (t' := tk) (ch := [N + 4, N + 2, N + 3, N, N + 1]) hk' hf hT new
    obtain ⟨g1, g2, g3, ⟨g4, _⟩, g5, _⟩ := st'
    refine ⟨.ref T, _, I1, rfl, ⟨T, x, y, rfl, I.hok.fresh hT, rfl, fun zs hz => by rw [I.tuple_inj hz hq]; exact hx, fun zs hz => by rw [I.list_inj hz hr]; exact hy⟩, ⟨g1, g2, g3, g4, g5⟩, fun c hc => ?_⟩
    have hcs : c < s.heap.objs.size := by
      obtain ⟨x3, y3, h3⟩ := h3
      obtain ⟨_, q4, _⟩ := h4
      obtain ⟨_, q5, _⟩ := h5
      rcases (by simpa using hc : c = N + 4 ∨ c = N + 2 ∨ c = N + 3 ∨ c = N ∨ c = N + 1) with z | z | z | z | z
      · rw [z]; exact Heap.lt_size h1
      · rw [z]; exact Heap.lt_size h2
      · rw [z]; exact Heap.lt_size h3
      · rw [z]; exact Heap.lt_size q4
      · rw [z]; exact Heap.lt_size q5
    rw [upd_ne (Nat.ne_of_lt (Nat.lt_of_lt_of_le hcs hT))]
    exact (hf c hc).1
  done := by
    intro X hP hw hK hc i pins s σ H E I hf st hg
    subst hP hw hK
    obtain ⟨h1, h2, h3, h4, h5⟩ := st
    obtain ⟨xs, ys, hq, hr, hi⟩ := hg
    obtain ⟨its, rv, p, hz⟩ := I.tuple hq
    obtain ⟨its', rv', p', hz'⟩ := I.list hr
    have W := GoesN.zip2 (elts := elts) (x1 := kk) (pos := tpos) (prog := X.prog) (w := X.w) (A := X.A) (zip_sep2 (N := N) (fp1 := [a]) (fp2 := [b]) (by simpa using ha) (by simpa using hb))
      (Draws.tuple (A := X.A.in1) (I.ok.hd hc) N a (Nat.ne_of_lt ha) its.toArray) (Draws.list (A := X.A.in1) (I.ok.hd hc) (N + 1) b (Nat.ne_of_lt (Nat.lt_succ_of_lt hb)) its'.toArray)
    have en : i = min its.toArray.size its'.toArray.size := by
      rw [List.size_toArray, List.size_toArray, ← rv.length, ← rv'.length]; exact hi
    refine W.stops s _ E (by rw [← en]; exact ⟨h1, h2, h3, ⟨h4, p⟩, h5, (plain_list p')⟩) fun h' tk hk htk => ?_
    exact I.turnedL (ch := [N + 4, N + 2, N + 3, N, N + 1]) (fun c o hc q => hk c o (fun z => hc (mem_zip z)) q) hf
  self := fun A i s Q E st h => wpAny_pyIter_zip st.1 h
def iZipM (K : PySem.W.Frag) (ta : TA) : TI := fun σ H R => ta σ H fun vs H1 => ∃ a b xs ys, vs = [.ref a, .ref b] ∧ SqT K H1 a xs ∧ SqL K H1 b ys ∧ R (ItzM K a b) H1
section
variable {X : Cx} {e e2 : Expr} {p pos tpos : Pos} {elts : List Expr} {kk : Nat}
theorem pi_zipM {ta : TA} (hg : Gl X "zip") (hm : X.mg "zip" = none) (ha : PA X [e, e2] ta) (hs : starEach [e, e2] X.env = (false, eval e X.env) :: starEach [e2] X.env := by rfl) (hpl : (backTo pos (starEach [e2] X.env)).any (·.1) = false := by rfl) :
    PI X (.Tuple elts kk tpos) (.Call (.Name "zip" p) [e, e2] [] pos) (iZipM X.K ta) := by
  refine ⟨fun pins s σ H R I h => ?_⟩
  refine Call_ (ld_blt I hg hm boot_zip (PyProof.Rows.callWith_type1 (thn (ha.run pos pins s σ H _ I h) fun us s1 h1 => ?_) hs hpl))
  obtain ⟨vs, H1, I1, r1, a, b, xs, ys, ex, hq, hr, q⟩ := h1
  subst ex
  cases r1 with
  | cons r rr =>
    cases rr with
    | cons r2 rr =>
    cases rr
    cases r
    cases r2
    obtain ⟨its, rv, pt, hz⟩ := I1.tuple hq
    obtain ⟨its', rv', pt', hz'⟩ := I1.list hr
    have ha' : a < s1.heap.objs.size := let ⟨_, ho, _⟩ := pt; Heap.lt_size ho
    have hb' : b < s1.heap.objs.size := let ⟨_, ho, _⟩ := (plain_list pt'); Heap.lt_size ho
    refine zip_begins2 (begins_tuple a its.toArray) (begins_list b its'.toArray) pt (plain_list pt') fun h' h1 h2 h3 h4 h5 hsz hk => wpAny_pyIter_zip h1 ?_
    refine ⟨s1.heap.objs.size + 4, _, _, _, H1, rfl, I1.kept (t' := s1.toks) hk, turn_zipM ha' hb', ⟨h1, h2, ⟨_, _, h3⟩, ⟨_, h4, rfl, rfl⟩, ⟨_, h5, rfl, rfl⟩⟩, fun c hc => ?_, q⟩
    have hle : s1.heap.objs.size ≤ c := by
      rcases (by simpa using hc : c = s1.heap.objs.size + 4 ∨ c = s1.heap.objs.size + 2 ∨ c = s1.heap.objs.size + 3 ∨ c = s1.heap.objs.size ∨ c = s1.heap.objs.size + 1) with z | z | z | z | z <;> rw [z] <;> first | exact Nat.le_add_right _ _ | exact Nat.le_refl _
    exact I1.fpOk hle (I1.hok.fresh hle)
/-- the pairs that zip tells -/
def zipD (ds es : List D) : List D := List.zipWith (fun a b => .tup [a, b]) ds es
theorem zipD_get {ds es : List D} {i : Nat} {d : D} (h : (zipD ds es)[i]? = some d) : ∃ x y, ds[i]? = some x ∧ es[i]? = some y ∧ d = .tup [x, y] := by
  unfold zipD at h
  rw [List.getElem?_zipWith] at h
  cases h1 : ds[i]? <;> cases h2 : es[i]? <;> rw [h1, h2] at h <;> first | (cases h; done) | (cases h; exact ⟨_, _, rfl, rfl, rfl⟩)
theorem zipD_lt {ds es : List D} {i : Nat} (h : i < (zipD ds es).length) : i < ds.length ∧ i < es.length := by
  unfold zipD at h
  rw [List.length_zipWith] at h
  omega
def mZip (m : MArg) : MItr := fun ρ S => (m ρ S).bind fun p => match p.1 with
  | [.tup ds, .lr k] => (lat p.2 k).bind fun es => some ((zipD ds es, still k es), p.2)
  | [.lr n, .lr k] => (lat p.2 n).bind fun ds => (lat p.2 k).bind fun es => some ((zipD ds es, fun S => still n ds S && still k es S), p.2)
  | _ => none
theorem isIt_zipM {K : PySem.W.Frag} {H0 : Hp} {μ0 : List Addr} {k : Nat} {a b : Addr} {vs : List V} {ds es : List D} (h1 : SqT K H0 a vs) (h2 : RpA K H0 μ0 vs ds) (r : Rp K H0 μ0 (.ref b) (.lr k)) : IsIt K (ItzM K a b) H0 μ0 (zipD ds es) (still k es) where
  go := fun i H μ S g s h hi => by
    obtain ⟨a', ws, e1, h3, h4⟩ := s.lat (still_eq h) (r.grow g)
    cases e1
    obtain ⟨l1, l2⟩ := zipD_lt hi
    exact ⟨vs, ws, vs[i]'(by rw [h2.length]; exact l1), ws[i]'(by rw [h4.length]; exact l2), g.sqT h1, h3, List.getElem?_eq_getElem _, List.getElem?_eq_getElem _⟩
  stop := fun H μ S g s h => by
    obtain ⟨a', ws, e1, h3, h4⟩ := s.lat (still_eq h) (r.grow g)
    cases e1
    exact ⟨vs, ws, g.sqT h1, h3, by unfold zipD; rw [List.length_zipWith, h2.length, h4.length]⟩
  yld := fun i H μ S x H' g s h y d hd => by
    obtain ⟨T, z, t, rfl, hT, rfl, y1, y2⟩ := y
    obtain ⟨d1, d2, e1, e2, rfl⟩ := zipD_get hd
    obtain ⟨a', ws, e3, h3, h4⟩ := s.lat (still_eq h) (r.grow g)
    cases e3
    obtain ⟨w, h5, h6⟩ := (h2.grow g).get e1
    obtain ⟨w', h5', h6'⟩ := h4.get e2
    rw [y1 vs (g.sqT h1)] at h5
    rw [y2 ws h3] at h5'
    cases h5; cases h5'
    exact pairNew s hT h6 h6'
theorem isIt_zipL {K : PySem.W.Frag} {H0 : Hp} {μ0 : List Addr} {n k : Nat} {a b : Addr} {ds es : List D} (r0 : Rp K H0 μ0 (.ref a) (.lr n)) (r : Rp K H0 μ0 (.ref b) (.lr k)) : IsIt K (Itz K a b) H0 μ0 (zipD ds es) (fun S => still n ds S && still k es S) where
  go := fun i H μ S g s h hi => by
    obtain ⟨ha, hb⟩ := (Bool.and_eq_true ..).mp h
    obtain ⟨a', vs, e1, h1, h2⟩ := s.lat (still_eq ha) (r0.grow g)
    obtain ⟨b', ws, e2, h3, h4⟩ := s.lat (still_eq hb) (r.grow g)
    cases e1; cases e2
    obtain ⟨l1, l2⟩ := zipD_lt hi
    exact ⟨vs, ws, vs[i]'(by rw [h2.length]; exact l1), ws[i]'(by rw [h4.length]; exact l2), h1, h3, List.getElem?_eq_getElem _, List.getElem?_eq_getElem _⟩
  stop := fun H μ S g s h => by
    obtain ⟨ha, hb⟩ := (Bool.and_eq_true ..).mp h
    obtain ⟨a', vs, e1, h1, h2⟩ := s.lat (still_eq ha) (r0.grow g)
    obtain ⟨b', ws, e2, h3, h4⟩ := s.lat (still_eq hb) (r.grow g)
    cases e1; cases e2
    refine ⟨vs, ws, h1, h3, ?_⟩
    unfold zipD; rw [List.length_zipWith, h2.length, h4.length]; omega
  yld := fun i H μ S x H' g s h y d hd => by
    obtain ⟨T, z, t, rfl, hT, rfl, y1, y2⟩ := y
    obtain ⟨d1, d2, e1, e2, rfl⟩ := zipD_get hd
    obtain ⟨ha, hb⟩ := (Bool.and_eq_true ..).mp h
    obtain ⟨a', vs, e3, h1, h2⟩ := s.lat (still_eq ha) (r0.grow g)
    obtain ⟨b', ws, e4, h3, h4⟩ := s.lat (still_eq hb) (r.grow g)
    cases e3; cases e4
    obtain ⟨w, h5, h6⟩ := h2.get e1
    obtain ⟨w', h5', h6'⟩ := h4.get e2
    rw [y1 vs h1] at h5
    rw [y2 ws h3] at h5'
    cases h5; cases h5'
    exact pairNew s hT h6 h6'
theorem mi_zip {m : MArg} (hg : Gl X "zip") (hm : X.mg "zip" = none) (ha : MA X [e, e2] m) (hs : starEach [e, e2] X.env = (false, eval e X.env) :: starEach [e2] X.env := by rfl) (hpl : (backTo pos (starEach [e2] X.env)).any (·.1) = false := by rfl) :
    MI X (.Tuple elts kk tpos) (.Call (.Name "zip" p) [e, e2] [] pos) (mZip m) := by
  refine ⟨⟨fun pins s σ H R I h => ?_⟩⟩
  obtain ⟨ρ, S, μ, q0, S', st, e1, q⟩ := h
  obtain ⟨⟨ds, S1⟩, e2', e1⟩ := Option.bind_eq_some_iff.mp e1
  dsimp only at e1
  split at e1
  · obtain ⟨es, e3, e1⟩ := Option.bind_eq_some_iff.mp e1
    cases e1
    refine (pi_zipM hg hm ha.pa hs hpl).run pins s σ H R I ⟨ρ, S, μ, _, _, st, e2', fun vs H1 μ1 g1 s1 r1 => ?_⟩
    match vs, r1 with
    | _, .cons (.tup h1 h2) (.cons r2 .nil) =>
      obtain ⟨b, ws, rfl, h3, h4⟩ := s1.lat e3 r2
      exact ⟨_, _, _, _, rfl, sq _ _ h1, h3, q _ H1 μ1 g1 s1 (isIt_zipM (sq _ _ h1) h2 r2)⟩
  · obtain ⟨es0, e3, e1⟩ := Option.bind_eq_some_iff.mp e1
    obtain ⟨es, e4, e1⟩ := Option.bind_eq_some_iff.mp e1
    cases e1
    refine (pi_zip hg hm ha.pa hs hpl).run pins s σ H R I ⟨ρ, S, μ, _, _, st, e2', fun vs H1 μ1 g1 s1 r1 => ?_⟩
    match vs, r1 with
    | _, .cons r1 (.cons r2 .nil) =>
      obtain ⟨a, vs, rfl, h1, h2⟩ := s1.lat e3 r1
      obtain ⟨b, ws, rfl, h3, h4⟩ := s1.lat e4 r2
      exact ⟨a, b, _, _, rfl, h1, h3, q _ H1 μ1 g1 s1 (isIt_zipL r1 r2)⟩
  · cases e1
end

/-! ### gcd, sum, wide numbers, a tuple many times -/
section
variable {X : Cx} {x : Str} {p pos : Pos} {e : Expr} {es : List Expr} {m : MArg} {f : DCall} {id T : String}
theorem me_callI (hc : CallR X (.builtin id) (rCM X.K f)) (hg : Gl X x) (hm : X.mg x = some (.builtin id)) (ha : MA X (e :: es) m) (hdb : (x == ("__debug__" : Str)) = false := by decide)
    (he : starEach (e :: es) X.env = (false, eval e X.env) :: starEach es X.env := by rfl) (hpl : (backTo pos (starEach es X.env)).any (·.1) = false := by rfl) : ME X (.Call (.Name x p) (e :: es) [] pos) (mCall f m) :=
  ⟨PE.imp (pe_callBfun hc hg hm ha.pa hdb he hpl) fun _ _ _ h => tE_call h⟩
def cGcd : DCall := fun ds S => match ds with
  | [.int a, .int b] => some (.int ((Nat.gcd a.natAbs b.natAbs : Nat) : Int), S)
  | _ => none
theorem c_gcd : CallR X (.builtin "math.gcd") (rCM X.K cGcd) := CallR.imp cr_gcd fun vs H Q ⟨S, μ, ds, d, S', s, r, e, q⟩ => by
  unfold cGcd at e
  split at e
  · cases e
    match vs, r with
    | _, .cons (.int _) (.cons (.int _) .nil) => exact ⟨_, _, rfl, q.id s (.int _)⟩
  · cases e
def intsOf : List D → Option (List Int)
  | [] => some []
  | .int i :: ds => (intsOf ds).map (i :: ·)
  | _ :: _ => none
theorem intsOf_map : ∀ {ns : List Int}, intsOf (ns.map D.int) = some ns
  | [] => rfl
  | n :: ns => by
    rw [List.map_cons]; unfold intsOf; rw [intsOf_map]; rfl
theorem intsOf_rp {K : PySem.W.Frag} {H : Hp} {μ : List Addr} : ∀ {ds : List D} {vs : List V} {ns : List Int}, intsOf ds = some ns → RpA K H μ vs ds → vs = ns.map V.int
  | [], _, _, e, .nil => by cases e; rfl
  | .int i :: ds, _, _, e, .cons (.int _) r => by
    unfold intsOf at e
    obtain ⟨ns', e', rfl⟩ := Option.map_eq_some_iff.mp e
    rw [intsOf_rp e' r]; rfl
def cSum : DCall := fun ds S => match ds with
  | [.lr n] => (lat S n).bind fun es => (intsOf es).map fun ns => (.int ns.sum, S)
  | _ => none
theorem c_sum (hc : X.calm = true) : CallR X (.builtin "sum") (rCM X.K cSum) := CallR.imp (cr_sum hc) fun vs H Q ⟨S, μ, ds, d, S', s, r, e, q⟩ => by
  unfold cSum at e
  split at e
  · obtain ⟨es, e1, e⟩ := Option.bind_eq_some_iff.mp e
    obtain ⟨ns, e2, e⟩ := Option.map_eq_some_iff.mp e
    cases e
    match vs, r with
    | _, .cons r1 .nil =>
      obtain ⟨a, ws, rfl, h1, h2⟩ := s.lat e1 r1
      rw [intsOf_rp e2 h2] at h1
      exact ⟨a, ns, rfl, h1, q.id s (.int _)⟩
  · cases e
def narrow (i j : Int) : Bool := decide (i.natAbs.log2 + j.natAbs.log2 < 1000000)
theorem narrow_of {i j : Int} (h : narrow i j = true) : CMulW i j := by
  unfold narrow at h
  unfold CMulW
  exact of_decide_eq_true h
theorem tuple_mul1 (l : Addr) (items : Array Value) (n : Nat) (dd : Option Addr) (sl : Array (Option Value)) (x : Int) (u : Tok) (c0 : (decide (x < -(2 ^ 63)) || decide (x ≥ 2 ^ 63)) = false) (c1 : (items.isEmpty || x == 1) = true) :
    Meets (Builtin.«tuple.__mul__» ⟨[.ref l, .int x u], []⟩) (fun _ R s => s.heap.get? l = some { cls := .type "tuple", dict := dd, data := .seq items n, slots := sl } ∧
      R (.ok (.ret (Value.ref l))) s) :=
  .of_wp fun prog w A R s h => by
    obtain ⟨hp, g, d, tk, os⟩ := s
    obtain ⟨hl, h⟩ := h
    have f1 := AutoSeq1.idx_int
    wp_walk using wpAny_loadPart' hl
    refine wpAny_ite_false (decide_eq_false (by rw [c0]; exact Bool.false_ne_true)) ?_; wp_walk using wpAny_loadPart' hl
    all_goals (first | exact ⟨_, rfl, h⟩ | (exfalso; simp_all; done))
/-- a tuple times 1 is itself -/
def rRepT1 (K : PySem.W.Frag) : R2 := fun x y H Q => ∃ l xs, x = .ref l ∧ y = .int 1 ∧ SqT K H l xs ∧ Q (.ref l) H
theorem op_repT1 {X : Cx} : OpR X (binaryOp .Mult) (rRepT1 X.K) := by
  intro pins s σ H x y v u Q I rx ry h
  obtain ⟨l, xs, rfl, rfl, hT, q⟩ := h
  cases rx
  obtain ⟨t, rfl⟩ := ry
  obtain ⟨its, r, ⟨⟨cls, dd, data, sl⟩, ho, hc, n, hd⟩, hs⟩ := I.tuple hT
  simp only at hc hd
  subst hc hd
  refine wpAny_binaryOp_repeat_ref (T := "tuple") (U := "int") (by decide) ⟨_, ho, rfl⟩ (fun s' => typeIs_int s' 1 t) noFill_tuple_mul F.fills_int_mul F.slot_int_rmul repeat_tuple F.slot_int_index.lookup
    (call_meets F.slot_int_rmul (typeIs_int s 1 t) F.entry_int_rmul (F.args_int_rmul_2 _ _) (int_rmul_tuple 1 t l its.toArray n dd sl)
      ⟨ho, rfl, ⟨_, ho, rfl⟩, call_meets F.slot_tuple_mul ⟨_, ho, rfl⟩ F.entry_tuple_mul (F.args_tuple_mul_2 _ _) (tuple_mul1 l its.toArray n dd sl 1 t (by decide) (by simp)) ⟨ho, ?_⟩⟩)
  exact ⟨.ref l, _, I, rfl, q⟩
def fMulW : DOp2
  | .int i, .int j, S => if narrow i j then some (.int (i * j), S) else none
  | .lr n, .int k, S => fMul (.lr n) (.int k) S
  | .tup ds, .int k, S => if ds ≠ [] ∧ 1 ≤ k ∧ k ≤ 1000 ∧ ds.length ≤ 1000 then some (.tup (repD ds k), S) else none
  | _, _, _ => none
theorem repD_one {ds : List D} : repD ds 1 = ds := by
  unfold repD
  simp
theorem o_mulW {X : Cx} : OpR X (binaryOp .Mult) (rM X.K fMulW) := by
  intro pins s σ H x y v u Q I rx ry ⟨S, μ, dx, dy, d, S', st, px, py, e, q⟩
  unfold fMulW at e
  split at e
  · split at e
    · rename_i h
      cases e; cases px; cases py
      exact op_mulW pins s σ H _ _ v u Q I rx ry ⟨_, _, rfl, rfl, narrow_of h, q.id st (.int _)⟩
    · cases e
  · exact o_mul pins s σ H x y v u Q I rx ry ⟨S, μ, _, _, d, S', st, px, py, e, q⟩
  · split at e
    · rename_i h
      rcases (show ∀ {k : Int}, 1 ≤ k → 2 ≤ k ∨ k = 1 from fun h => by omega) h.2.1 with h1k | hk
      · cases e; cases py
        cases px with
        | tup h1 h2 =>
          refine op_repT pins s σ H _ _ v u Q I rx ry ⟨_, _, _, rfl, rfl, sq _ _ h1, ?_, h1k, h.2.2.1, ?_, fun p hp => q.tup st (h2.rep _) hp⟩
          · intro z
            rw [z] at h2
            cases h2
            exact h.1 rfl
          · rw [h2.length]; exact h.2.2.2
      · cases e; cases py
        subst hk
        cases px with
        | tup h1 h2 =>
          refine op_repT1 pins s σ H _ _ v u Q I rx ry ⟨_, _, rfl, rfl, sq _ _ h1, ?_⟩
          rw [repD_one] at q
          exact q.id st (.tup h1 h2)
    · cases e
  · cases e
theorem boot_sum : bootBuiltins "sum" = some (.builtin "sum") := by decide +kernel
/-- a list's items into names -/
def mgTupL (r : MTgs) (n : Nat) : MTg := fun d ρ S => match d with
  | .lr k => (lat S k).bind fun ds => if ds.length = n then r ds ρ S else none
  | _ => none
theorem mg_tupL {ts : List Expr} {k : Nat} {r : MTgs} {n : Nat} (hc : X.calm = true) (h : MGs X ts r) (hn : (assignEach ts X.env).length = n := by rfl) (hst : (assignEach ts X.env).findIdx? (·.1) = none := by rfl) : MG X (.Tuple ts k pos) (mgTupL r n) :=
  ⟨PG.imp (pg_unl hc h.pgs hn hst) fun v σ H Q ⟨d, ρ, S, μ, ρ', S', s, rr, e, q⟩ => by
    cases d with
    | lr m =>
      obtain ⟨ds, e1, e⟩ := Option.bind_eq_some_iff.mp (show ((lat S m).bind fun ds => if ds.length = n then r ds ρ S else none) = some (ρ', S') from e)
      obtain ⟨a, ws, rfl, h1, h2⟩ := s.st.lat e1 rr
      split at e
      · rename_i hl
        exact ⟨_, _, rfl, h1, by rw [h2.length]; exact hl, ds, ρ, S, μ, ρ', S', s, h2, e, q⟩
      · cases e
    | _ => cases e⟩
def fDivW := fIc (fun _ j => decide (0 < j) && decide (j.natAbs.log2 < 9000)) fun i j => i / j
theorem o_divW : OpR X (binaryOp .FloorDiv) (rM X.K fDivW) := op_fIc op_fdivW fun _ _ h => by
  obtain ⟨a, b⟩ := (Bool.and_eq_true ..).mp h
  exact ⟨of_decide_eq_true a, of_decide_eq_true b⟩
theorem log2_lt {i : Int} {k : Nat} (h : i.natAbs < 2 ^ k) (hk : 0 < k) : i.natAbs.log2 < k := by
  by_cases z : i.natAbs = 0
  · rw [z]; simpa using hk
  · exact (Nat.log2_lt z).mpr h
/-- a number of at most 2000 bits -/
def wd (i : Int) : Prop := i.natAbs < 2 ^ 2000
theorem wd.narrow {i j : Int} (a : wd i) (b : wd j) : narrow i j = true := by
  have h1 := log2_lt a (by decide)
  have h2 := log2_lt b (by decide)
  exact decide_eq_true (by omega)
theorem wd.div {j : Int} (a : wd j) (h : 0 < j) : (decide (0 < j) && decide (j.natAbs.log2 < 9000)) = true := by
  have h1 := log2_lt a (by decide)
  exact (Bool.and_eq_true ..).mpr ⟨decide_eq_true h, decide_eq_true (by omega)⟩
theorem ge_mulL {S : Store} {Q : D → Store → Prop} {n : Nat} {ds : List D} {k : Int} (h1 : mat S n = some ds) (hk0 : -(2 ^ 63) ≤ k) (hk1 : k < 2 ^ 63) (hz : ds.length * k.toNat ≤ szl) (h : Q (.lr S.length) (S ++ [.lst (repD ds k)])) : GE (fMulW (.lr n) (.int k) S) Q := by
  show GE ((mat S n).bind fun a => if -(2 ^ 63) ≤ k ∧ k < 2 ^ 63 ∧ a.length * k.toNat ≤ szl then some (D.lr S.length, S ++ [.lst (repD a k)]) else none) Q
  rw [h1]
  exact ⟨_, _, if_pos ⟨hk0, hk1, hz⟩, h⟩
theorem ge_mulW {S : Store} {Q : D → Store → Prop} {i j : Int} (hc : narrow i j = true) (h : Q (.int (i * j)) S) : GE (fMulW (.int i) (.int j) S) Q := ⟨_, _, if_pos hc, h⟩
theorem ge_mulT {S : Store} {Q : D → Store → Prop} {ds : List D} {k : Int} (hc : ds ≠ [] ∧ 1 ≤ k ∧ k ≤ 1000 ∧ ds.length ≤ 1000) (h : Q (.tup (repD ds k)) S) : GE (fMulW (.tup ds) (.int k) S) Q := ⟨_, _, if_pos hc, h⟩
theorem ge_divW {S : Store} {Q : D → Store → Prop} {i j : Int} (h0 : 0 < j) (hw : wd j) (h : Q (.int (i / j)) S) : GE (fDivW (.int i) (.int j) S) Q := ⟨_, _, if_pos (hw.div h0), h⟩
theorem ge_gcd {S : Store} {Q : D → Store → Prop} {i j : Int} (h : Q (.int ((Nat.gcd i.natAbs j.natAbs : Nat) : Int)) S) : GE (cGcd [.int i, .int j] S) Q := ⟨_, _, rfl, h⟩
theorem ge_sum {S : Store} {Q : D → Store → Prop} {n : Nat} {ns : List Int} (h1 : lat S n = some (ns.map D.int)) (h : Q (.int ns.sum) S) : GE (cSum [.lr n] S) Q := by
  show GE ((lat S n).bind fun es => (intsOf es).map fun ns => (D.int ns.sum, S)) Q
  rw [h1]
  show GE ((intsOf (ns.map D.int)).map fun ns => (D.int ns.sum, S)) Q
  rw [intsOf_map]
  exact ⟨_, _, rfl, h⟩
theorem gi_zipM {ρ : Ev} {S : Store} {a : MArg} {QI : (List D × (Store → Bool)) → Store → Prop} (h : GE (a ρ S) fun xs S1 => ∃ ds k es, xs = [.tup ds, .lr k] ∧ lat S1 k = some es ∧ QI (zipD ds es, still k es) S1) : GE (mZip a ρ S) QI := ge_bind (h.mono fun x S1 ⟨ds, k, es, e, h1, h⟩ => by
  subst e
  show GE ((lat S1 k).bind fun es => some ((zipD ds es, still k es), S1)) QI
  rw [h1]
  exact ge_of h)
theorem gi_zipL {ρ : Ev} {S : Store} {a : MArg} {QI : (List D × (Store → Bool)) → Store → Prop} (h : GE (a ρ S) fun xs S1 => ∃ n ds k es, xs = [.lr n, .lr k] ∧ lat S1 n = some ds ∧ lat S1 k = some es ∧ QI (zipD ds es, fun S => still n ds S && still k es S) S1) : GE (mZip a ρ S) QI := ge_bind (h.mono fun x S1 ⟨n, ds, k, es, e, h1, h2, h⟩ => by
  subst e
  show GE ((lat S1 n).bind fun ds => (lat S1 k).bind fun es => some ((zipD ds es, fun S => still n ds S && still k es S), S1)) QI
  rw [h1, h2]
  exact ge_of h)
theorem gt_tupL {ds : List D} {k n : Nat} {S : Store} {ρ : Ev} {gs : MTgs} {QE : Ev → Store → Prop} (h1 : lat S k = some ds) (e : ds.length = n) (h : GE (gs ds ρ S) QE) : GE (mgTupL gs n (.lr k) ρ S) QE := by
  show GE ((lat S k).bind fun ds => if ds.length = n then gs ds ρ S else none) QE
  rw [h1]
  show GE (if ds.length = n then gs ds ρ S else none) QE
  rw [if_pos e]
  exact h
end
end MS

set_option Elab.async false
set_option linter.all false
set_option maxRecDepth 100000
set_option maxHeartbeats 4000000
set_option exponentiation.threshold 3000
namespace MS
open PySem PySem.Spec PyProof.Rows L2

/-! ### isinstance -/
def tyD : D → String
  | .non => "NoneType"
  | .bl _ => "bool"
  | .int _ => "int"
  | .str _ => "str"
  | .tup _ => "tuple"
  | .lr _ => "list"
theorem tyX_seqT {K : PySem.W.Frag} {H : Hp} {a : Addr} {vs : List V} (h : SqT K H a vs) : TyX K H (.ref a) (.type "tuple") := by
  rcases h with (h | ⟨o, h⟩) | ⟨o, its, n, h1, h2, _⟩
  · exact .base (.tup h)
  · exact .fTuple h
  · exact .kTuple h1 h2
theorem tyX_seqL {K : PySem.W.Frag} {H : Hp} {a : Addr} {vs : List V} (h : SqL K H a vs) : TyX K H (.ref a) (.type "list") := by
  rcases h with (h | ⟨o, h⟩) | ⟨o, its, n, h1, h2, _⟩
  · exact .base (.lst h)
  · exact .base (.frz h)
  · exact .kList h1 h2
def okTy (S : Store) : D → Bool
  | .lr n => (lat S n).isSome
  | _ => true
theorem tyX_of {K : PySem.W.Frag} {H : Hp} {μ : List Addr} {S : Store} {v : V} {d : D} (s : StR K H μ S) (r : Rp K H μ v d) (h : okTy S d = true) : TyX K H v (.type (tyD d)) := by
  cases r with
  | non => exact .base .non
  | bl b => exact .base (.bl b)
  | int i => exact .base (.int i)
  | str x => exact .base (.str x)
  | tup h1 h2 => exact tyX_seqT (sq _ _ h1)
  | lr e =>
    rename_i a n
    obtain ⟨ds, hl⟩ := Option.isSome_iff_exists.mp h
    obtain ⟨a', vs, e1, h1, _⟩ := s.lat hl (Rp.lr e)
    cases e1
    exact tyX_seqL h1
def mIsi (m : MExp) (T : String) : MExp := fun ρ S => (m ρ S).bind fun p => if okTy p.2 p.1 = true then (kitB (tyD p.1) T).map fun b => (.bl b, p.2) else none
section
variable {X : Cx} {e : Expr} {p q pos : Pos} {m : MExp}
theorem boot_bool : bootBuiltins "bool" = some (.type "bool") := by decide +kernel
theorem boot_isi : bootBuiltins "isinstance" = some (.builtin "isinstance") := by decide +kernel
theorem me_isi {x : Str} {T : String} (hg : Gl X "isinstance") (hm : X.mg "isinstance" = none) (hgT : Gl X x) (hmT : X.mg x = none) (hv : bootBuiltins x = some (.type T)) (he : ME X e m) (hdb : (x == ("__debug__" : Str)) = false := by decide) (hn : x ≠ "__name__" := by decide)
    (hs : starEach [e, .Name x q] X.env = (false, eval e X.env) :: starEach [.Name x q] X.env := by rfl) (hs2 : starEach [.Name x q] X.env = [(false, eval (.Name x q) X.env)] := by rfl) (hpl : (backTo pos (starEach [.Name x q] X.env)).any (·.1) = false := by rfl) :
    ME X (.Call (.Name "isinstance" p) [e, .Name x q] [] pos) (mIsi m T) := by
  refine ⟨PE.imp (pe_callB call_isi hg hm boot_isi (pa_cons he.pe (pa_cons (pe_bltn (v := .ty T) hgT hmT hv rfl (hn := hn) (hd := hdb)) pa_nil hs2) hs) (by decide) (by decide) hs hpl) fun σ H Q h => ?_⟩
  obtain ⟨ρ, S, μ, d, S', st, e1, qq⟩ := h
  obtain ⟨⟨d0, S1⟩, e2, e1⟩ := Option.bind_eq_some_iff.mp e1
  dsimp only at e1
  split at e1
  · rename_i hok
    obtain ⟨b, e3, e4⟩ := Option.map_eq_some_iff.mp e1
    cases e4
    refine ⟨ρ, S, μ, d0, _, st, e2, fun v H1 μ1 g1 s1 r1 => ?_⟩
    exact ⟨v, .ty T, _, _, b, rfl, .ty T, tyX_of s1 r1 hok, kit_ty e3, qq _ H1 μ1 g1 s1 (.bl b)⟩
  · cases e1
end
theorem ge_isi {ρ : Ev} {S : Store} {Q : D → Store → Prop} {m : MExp} {T : String} (h : GE (m ρ S) fun x S1 => okTy S1 x = true ∧ ∃ b, kitB (tyD x) T = some b ∧ Q (.bl b) S1) : GE (mIsi m T ρ S) Q := ge_bind (h.mono fun x S1 ⟨h1, b, h2, h3⟩ => by
  show GE (if okTy S1 x = true then (kitB (tyD x) T).map fun b => (D.bl b, S1) else none) Q
  rw [if_pos h1, h2]
  exact ⟨_, _, rfl, h3⟩)
theorem kit_tt : kitB "tuple" "tuple" = some true := by decide +kernel
theorem kit_it : kitB "int" "tuple" = some false := by decide +kernel
theorem kit_ib : kitB "int" "bool" = some false := by decide +kernel
theorem kit_ii : kitB "int" "int" = some true := by decide +kernel
theorem kit_bi : kitB "bool" "int" = some true := by decide +kernel
theorem kit_bb : kitB "bool" "bool" = some true := by decide +kernel
theorem kit_tb : kitB "tuple" "bool" = some false := by decide +kernel
theorem kit_ti : kitB "tuple" "int" = some false := by decide +kernel
theorem kit_ni : kitB "NoneType" "int" = some false := by decide +kernel
theorem kit_si : kitB "str" "int" = some false := by decide +kernel
theorem kit_li : kitB "list" "int" = some false := by decide +kernel
theorem kit_lt : kitB "list" "tuple" = some false := by decide +kernel
theorem kit_nt : kitB "NoneType" "tuple" = some false := by decide +kernel
theorem kit_st : kitB "str" "tuple" = some false := by decide +kernel
theorem kit_bt : kitB "bool" "tuple" = some false := by decide +kernel

/-! ### all of a list -/
def blsOf : List D → Option (List Bool)
  | [] => some []
  | .bl b :: ds => (blsOf ds).map (b :: ·)
  | _ :: _ => none
theorem blsOf_map : ∀ {bs : List Bool}, blsOf (bs.map D.bl) = some bs
  | [] => rfl
  | b :: bs => by rw [List.map_cons]; unfold blsOf; rw [blsOf_map]; rfl
theorem blsOf_rp {K : PySem.W.Frag} {H : Hp} {μ : List Addr} : ∀ {ds : List D} {vs : List V} {bs : List Bool}, blsOf ds = some bs → RpA K H μ vs ds → vs = bs.map V.bl
  | [], _, _, e, .nil => by cases e; rfl
  | .bl b :: ds, _, _, e, .cons (.bl _) r => by
    unfold blsOf at e
    obtain ⟨bs', e', rfl⟩ := Option.map_eq_some_iff.mp e
    rw [blsOf_rp e' r]; rfl
def cAll : DCall := fun ds S => match ds with
  | [.lr n] => (lat S n).bind fun es => (blsOf es).map fun bs => (.bl (bs.all id), S)
  | _ => none
theorem c_all {X : Cx} (hc : X.calm = true) : CallR X (.builtin "all") (rCM X.K cAll) := CallR.imp (cr_all hc) fun vs H Q ⟨S, μ, ds, d, S', s, r, e, q⟩ => by
  unfold cAll at e
  split at e
  · obtain ⟨es, e1, e⟩ := Option.bind_eq_some_iff.mp e
    obtain ⟨bs, e2, e⟩ := Option.map_eq_some_iff.mp e
    cases e
    match vs, r with
    | _, .cons r1 .nil =>
      obtain ⟨a, ws, rfl, h1, h2⟩ := s.lat e1 r1
      rw [blsOf_rp e2 h2] at h1
      exact ⟨a, bs, rfl, h1, q.id s (.bl _)⟩
  · cases e
theorem boot_all : bootBuiltins "all" = some (.builtin "all") := by decide +kernel
theorem ge_all {S : Store} {Q : D → Store → Prop} {n : Nat} {bs : List Bool} (h1 : lat S n = some (bs.map D.bl)) (h : Q (.bl (bs.all id)) S) : GE (cAll [.lr n] S) Q := by
  show GE ((lat S n).bind fun es => (blsOf es).map fun bs => (D.bl (bs.all id), S)) Q
  rw [h1]
  show GE ((blsOf (bs.map D.bl)).map fun bs => (D.bl (bs.all id), S)) Q
  rw [blsOf_map]
  exact ⟨_, _, rfl, h⟩

/-! ### what is shown of long numbers -/
mutual
def smw : PyData → Bool
  | .none => true
  | .bool _ => true
  | .int i => decide (i.natAbs < 2 ^ 1910)
  | .list xs => smwAll xs
  | .tuple xs => smwAll xs
  | _ => false
def smwAll : List PyData → Bool
  | [] => true
  | x :: xs => smw x && smwAll xs
end
mutual
def wtw : PyData → Nat
  | .list xs => wtwAll xs + 3
  | .tuple xs => wtwAll xs + 3
  | _ => 642
def wtwAll : List PyData → Nat
  | [] => 0
  | x :: xs => wtw x + 2 + wtwAll xs
end
mutual
theorem smw_shown : ∀ p : PyData, smw p = true → p.showable = true ∧ p.hasDict = false ∧ p.shown.length ≤ wtw p
  | .none, _ => ⟨rfl, rfl, by decide⟩
  | .bool b, _ => ⟨rfl, rfl, by cases b <;> decide⟩
  | .int i, h => by
    have h' : i.natAbs < 2 ^ 1910 := of_decide_eq_true h
    have h2 := log2_lt h' (by decide)
    refine ⟨decide_eq_true (by omega), rfl, ?_⟩
    have := int_text_length_le10 (a := i) (k := 640) (by decide) (Nat.lt_of_lt_of_le h' (by decide))
    show ((toString i : String) : Str).length ≤ 642
    rw [PySem.ofString_length]
    omega
  | .list xs, h => by
    obtain ⟨h1, h2, h3⟩ := smwAll_shown xs h
    refine ⟨h1, h2, ?_⟩
    have := listText_le (PyData.shownAll xs)
    show (listText (PyData.shownAll xs)).length ≤ wtwAll xs + 3
    omega
  | .tuple xs, h => by
    obtain ⟨h1, h2, h3⟩ := smwAll_shown xs h
    refine ⟨h1, h2, ?_⟩
    have := tupleText_le (PyData.shownAll xs)
    show (tupleText (PyData.shownAll xs)).length ≤ wtwAll xs + 3
    omega
  | .str _, h => by cases h
  | .dict _, h => by cases h
theorem smwAll_shown : ∀ xs : List PyData, smwAll xs = true → PyData.showableAll xs = true ∧ PyData.hasDictAll xs = false ∧ piled (PyData.shownAll xs) ≤ wtwAll xs
  | [], _ => ⟨rfl, rfl, Nat.le_refl _⟩
  | x :: xs, h => by
    have h : (smw x && smwAll xs) = true := h
    rw [Bool.and_eq_true] at h
    obtain ⟨h1, h2, h3⟩ := smw_shown x h.1
    obtain ⟨h4, h5, h6⟩ := smwAll_shown xs h.2
    refine ⟨?_, ?_, ?_⟩
    · show (x.showable && PyData.showableAll xs) = true
      rw [h1, h4]; rfl
    · show (x.hasDict || PyData.hasDictAll xs) = false
      rw [h2, h5]; rfl
    · show piled (x.shown :: PyData.shownAll xs) ≤ wtw x + 2 + wtwAll xs
      rw [piled_cons]
      omega
end
theorem okShow_wide {p : PyData} (h : smw p = true) (hd : p.depth ≤ 64) (hw : wtw p ≤ szl) : okShow p = true := by
  obtain ⟨h1, h2, h3⟩ := smw_shown p h
  unfold okShow
  rw [h1, h2]
  simp only [Bool.not_false, Bool.and_true, Bool.true_and, Bool.and_eq_true, decide_eq_true_eq]
  exact ⟨hd, Nat.le_trans h3 hw⟩
end MS

set_option Elab.async false
set_option linter.all false
set_option maxRecDepth 100000
set_option maxHeartbeats 4000000
namespace MS
open PySem PySem.Spec PyProof.Rows L2

/-! ### list.pop(i) -/
theorem RpA.eraseIdx {K : PySem.W.Frag} {H : Hp} {μ : List Addr} : ∀ {xs : List V} {ds : List D} (n : Nat), RpA K H μ xs ds → RpA K H μ (xs.eraseIdx n) (ds.eraseIdx n)
  | _, [], _, h => by cases h; exact .nil
  | _, _ :: _, 0, h => by
    cases h with
    | cons _ h2 => exact h2
  | _, _ :: _, n + 1, h => by
    cases h with
    | cons h1 h2 => exact .cons h1 (RpA.eraseIdx n h2)
def popD (S : Store) (n : Nat) (i : Int) : Option (D × Store) := (mat S n).bind fun ds => if ds.length ≤ szl then (L2.ixN ds.length i).bind fun k => (ds[k]?).map fun y => (y, S.set n (.lst (ds.eraseIdx k))) else none
/-- xs.pop(i) -/
def mPop (m : MExp) (a : MArg) : MExp := fun ρ S => (m ρ S).bind fun p => match p.1 with
  | .lr n => (mat p.2 n).bind fun _ => (a ρ p.2).bind fun q => match q.1 with
    | [.int i] => popD q.2 n i
    | _ => none
  | _ => none
section
variable {X : Cx} {e : Expr} {es : List Expr} {m : MArg}
theorem me_pop {o : Expr} {mo : MExp} {apos cpos : Pos} (ho : ME X o mo) (ha : MA X (e :: es) m)
    (hbase : attributeBase o "pop" X.env (eval o X.env) = eval o X.env := by rfl)
    (hfew : ((backTo cpos (starEach (e :: es) X.env)).all (fun x => !x.1) && (backToKw cpos (keywordEach [] X.env)).all (fun x => x.1.isSome)
      && decide ((e :: es).length + ([] : List Keyword).length + (if ([] : List Keyword).isEmpty then 0 else 1) < 30)) = true := by rfl)
    (hline : (apos.endLine == cpos.line) = true := by rfl) (hs : starEach (e :: es) X.env = (false, eval e X.env) :: starEach es X.env := by rfl) (hplain : (backTo cpos (starEach es X.env)).any (·.1) = false := by rfl) :
    ME X (.Call (.Attribute o "pop" apos) (e :: es) [] cpos) (mPop mo m) :=
  ⟨PE.imp (pe_bm PySem.F.plainAttrs_list PySem.F.slot_list_pop PySem.F.type_list_pop mt_popAt ho.pe ha.pa hbase hfew hline hs hplain) fun σ H Q ⟨ρ, S, μ, d, S', st, e, q⟩ => by
    obtain ⟨⟨d1, S1⟩, e1, e⟩ := Option.bind_eq_some_iff.mp e
    refine ⟨ρ, S, μ, d1, S1, st, e1, fun v H1 μ1 g1 s1 r1 => ?_⟩
    cases d1 with
    | lr n =>
      obtain ⟨ds0, e2, e⟩ := Option.bind_eq_some_iff.mp (show ((mat S1 n).bind fun _ => (m ρ S1).bind fun q => (match q.1 with
        | [.int i] => popD q.2 n i
        | _ => none)) = some (d, S') from e)
      obtain ⟨⟨as, S2⟩, e3, e⟩ := Option.bind_eq_some_iff.mp e
      obtain ⟨a, vs, rfl, h1, h2, h3⟩ := s1.mat e2 r1
      refine ⟨.inl ⟨rfl, vs, .inl (.inl h2)⟩, ρ, S1, μ1, as, S2, st.grow g1 s1, e3, fun ws H2 μ2 g2 s2 r2 => ?_⟩
      match as, r2, e with
      | [.int i], .cons (.int _) .nil, e =>
        have e : popD S2 n i = some (d, S') := e
        unfold popD at e
        obtain ⟨ds, e4, e⟩ := Option.bind_eq_some_iff.mp e
        split at e
        · rename_i hz
          obtain ⟨k, e5, e⟩ := Option.bind_eq_some_iff.mp e
          obtain ⟨y, e6, e⟩ := Option.map_eq_some_iff.mp e
          cases e
          obtain ⟨a', vs', h4, h5, h6, h7⟩ := s2.mat e4 (r1.grow g2)
          cases h4
          obtain ⟨f1, f2, f3, f4⟩ := ixN_seq e5
          obtain ⟨w, h8, h9⟩ := h7.get e6
          have hl := h7.length
          have hzz : ds.length ≤ 16777216 := hz
          refine ⟨a, vs', i, k, w, rfl, rfl, h6, by omega, by omega, by rw [hl]; exact f1, h8, ?_⟩
          exact q _ _ μ2 ((g1.trans g2).trans (.wr h6)) (s2.wr (mat_eq e4) h5 (h7.eraseIdx k)) (h9.grow (.wr h6))
        · cases e
    | _ => cases e⟩
end
section
variable {ρ : Ev} {S : Store} {Q : D → Store → Prop} {m : MExp} {a : MArg}
theorem ge_pop (h : GE (m ρ S) fun x S1 => ∃ n, x = .lr n ∧ (∃ z, mat S1 n = some z) ∧ GE (a ρ S1) fun xs S2 => ∃ i ds k y, xs = [.int i] ∧ mat S2 n = some ds ∧ ds.length ≤ szl ∧ L2.ixN ds.length i = some k ∧ ds[k]? = some y ∧ Q y (S2.set n (.lst (ds.eraseIdx k)))) : GE (mPop m a ρ S) Q :=
  ge_bind (h.mono fun x S1 ⟨n, e, ⟨z, hz⟩, h⟩ => by
    subst e
    show GE ((mat S1 n).bind fun _ => _) Q
    rw [hz]
    refine ge_bind (h.mono fun xs S2 ⟨i, ds, k, y, e, h1, h2, h3, h4, h5⟩ => ?_)
    subst e
    show GE (popD S2 n i) Q
    unfold popD
    rw [h1]
    show GE (if ds.length ≤ szl then (L2.ixN ds.length i).bind fun k => (ds[k]?).map fun y => (y, S2.set n (.lst (ds.eraseIdx k))) else none) Q
    rw [if_pos h2, h3]
    show GE ((ds[k]?).map fun y => (y, S2.set n (.lst (ds.eraseIdx k)))) Q
    rw [h4]
    exact ⟨_, _, rfl, h5⟩)
end
end MS

set_option Elab.async false
set_option linter.all false
set_option maxRecDepth 100000
set_option maxHeartbeats 4000000
namespace MS
open PySem PySem.Spec PyProof.Rows L2

/-! ### dicts -/
/-- a datum as a key, a tuple's items as one -/
def keyOf : D → Option Key
  | .int i => some (.inl i)
  | .str x => some (.inr x)
  | _ => none
def keysOf : List D → Option (List Key)
  | [] => some []
  | d :: ds => (keyOf d).bind fun k => (keysOf ds).map fun ks => k :: ks
section
variable {κ : Type} [DecidableEq κ]
def valD (kvs : List (κ × D)) (k : κ) : Option D := (kvs.find? fun kv => decide (kv.1 = k)).map (·.2)
def putD (kvs : List (κ × D)) (k : κ) (d : D) : List (κ × D) :=
  if (kvs.map (·.1)).contains k then kvs.map (fun kv => if kv.1 = k then (kv.1, d) else kv) else kvs ++ [(k, d)]
theorem valD_nil {k : κ} : valD ([] : List (κ × D)) k = none := rfl
theorem valD_cons {p : κ × D} {r : List (κ × D)} {k : κ} : valD (p :: r) k = if p.1 = k then some p.2 else valD r k := by
  unfold valD
  rw [List.find?_cons]
  by_cases h : p.1 = k
  · rw [if_pos h, decide_eq_true h]; rfl
  · rw [if_neg h, decide_eq_false h]
theorem putD_len {kvs : List (κ × D)} {k : κ} {d : D} : (putD kvs k d).length ≤ kvs.length + 1 := by
  unfold putD
  split
  · rw [List.length_map]; omega
  · rw [List.length_append, List.length_singleton]; omega
end
section
variable {K : PySem.W.Frag} {H H' : Hp} {μ : List Addr} {κ : Type} [DecidableEq κ]
theorem rp_key {d : D} {v : V} {k : Key} (e : keyOf d = some k) (r : Rp K H μ v d) : v = kV k := by
  cases r <;> cases e <;> rfl
theorem rp_keys : ∀ {ds : List D} {vs : List V} {ks : List Key}, keysOf ds = some ks → RpA K H μ vs ds → vs = ks.map kV
  | [], _, _, e, r => by cases e; cases r; rfl
  | d :: ds, _, _, e, .cons r1 r2 => by
    obtain ⟨k, e1, e2⟩ := Option.bind_eq_some_iff.mp (show ((keyOf d).bind fun k => (keysOf ds).map fun ks => k :: ks) = _ from e)
    obtain ⟨ks, e3, e4⟩ := Option.map_eq_some_iff.mp e2
    subst e4
    rw [rp_key e1 r1, rp_keys e3 r2]
    rfl
theorem RpK.uncons {p : κ × V} {kws : List (κ × V)} {kvs : List (κ × D)} (h : RpK K H μ (p :: kws) kvs) : ∃ q kvs', kvs = q :: kvs' ∧ p.1 = q.1 ∧ Rp K H μ p.2 q.2 ∧ RpK K H μ kws kvs' := by
  obtain ⟨h1, h2⟩ := h
  cases kvs with
  | nil => cases h1
  | cons q kvs =>
    rw [List.map_cons, List.map_cons] at h1 h2
    cases h2 with
    | cons r1 r2 =>
      rw [List.cons.injEq] at h1
      exact ⟨q, kvs, rfl, h1.1, r1, h1.2, r2⟩
theorem RpK.val {k : κ} : ∀ {kws : List (κ × V)} {kvs : List (κ × D)}, RpK K H μ kws kvs → (valD kvs k = none ∧ valV kws k = none) ∨ ∃ d v, valD kvs k = some d ∧ valV kws k = some v ∧ Rp K H μ v d
  | [], kvs, h => by
    cases kvs with
    | nil => exact .inl ⟨rfl, rfl⟩
    | cons q kvs => cases h.1
  | p :: kws, kvs, h => by
    obtain ⟨q, kvs', rfl, e, r, h'⟩ := h.uncons
    rw [valD_cons]
    by_cases hk : p.1 = k
    · rw [if_pos (e ▸ hk), valV_pos hk]
      exact .inr ⟨_, _, rfl, rfl, r⟩
    · rw [if_neg (e ▸ hk), valV_neg hk]
      exact RpK.val h'
theorem RpA.mapSnd {k : κ} {v : V} {d : D} (r : Rp K H μ v d) : ∀ {kws : List (κ × V)} {kvs : List (κ × D)}, RpK K H μ kws kvs →
    RpK K H μ (kws.map fun kv => if kv.1 = k then (kv.1, v) else kv) (kvs.map fun kv => if kv.1 = k then (kv.1, d) else kv)
  | [], kvs, h => by
    cases kvs with
    | nil => exact h
    | cons q kvs => cases h.1
  | p :: kws, kvs, h => by
    obtain ⟨q, kvs', rfl, e, r', h'⟩ := h.uncons
    obtain ⟨i1, i2⟩ := RpA.mapSnd r h'
    rw [List.map_cons, List.map_cons]
    by_cases hk : p.1 = k
    · rw [if_pos hk, if_pos (e ▸ hk)]
      refine ⟨?_, ?_⟩
      · rw [List.map_cons, List.map_cons, i1]; simp only [e]
      · rw [List.map_cons, List.map_cons]; exact .cons r i2
    · rw [if_neg hk, if_neg (e ▸ hk)]
      refine ⟨?_, ?_⟩
      · rw [List.map_cons, List.map_cons, i1, e]
      · rw [List.map_cons, List.map_cons]; exact .cons r' i2
theorem any_keys {k : κ} : ∀ kws : List (κ × V), (kws.any fun kv => decide (kv.1 = k)) = (kws.map (·.1)).contains k
  | [] => rfl
  | p :: kws => by
    rw [List.any_cons, List.map_cons, List.contains_cons, any_keys kws]
    congr 1
    by_cases h : p.1 = k
    · rw [decide_eq_true h, h, beq_self_eq_true]
    · rw [decide_eq_false h]
      exact (beq_eq_false_iff_ne.mpr fun z => h z.symm).symm
theorem RpK.put {k : κ} {v : V} {d : D} {kws : List (κ × V)} {kvs : List (κ × D)} (h : RpK K H μ kws kvs) (r : Rp K H μ v d) : RpK K H μ (putK kws k v) (putD kvs k d) := by
  unfold putK putD
  rw [any_keys, h.1]
  split
  · exact RpA.mapSnd r h
  · obtain ⟨h1, h2⟩ := h
    refine ⟨?_, ?_⟩
    · rw [List.map_append, List.map_append, h1]; rfl
    · rw [List.map_append, List.map_append]; exact h2.append (.cons r .nil)
theorem RpK.len {kws : List (κ × V)} {kvs : List (κ × D)} (h : RpK K H μ kws kvs) : kws.length = kvs.length := by
  have := h.2.length
  rwa [List.length_map, List.length_map] at this
end
/-- what a dict of the store holds at a key -/
def dget (S : Store) (n : Nat) (y : D) : Option (Option D) := match S[n]? with
  | some (.dk kvs) => (keyOf y).map fun k => valD kvs k
  | some (.dt kvs) => match y with
    | .tup ds => (keysOf ds).map fun ks => valD kvs ks
    | _ => none
  | _ => none
/-- the store behind d[y] = v -/
def dput (S : Store) (n : Nat) (y d : D) : Option Store := match S[n]? with
  | some (.dk kvs) => if kvs.length < szl then (keyOf y).map fun k => S.set n (.dk (putD kvs k d)) else none
  | some (.dt kvs) => match y with
    | .tup ds => if kvs.length < szl then (keysOf ds).map fun ks => S.set n (.dt (putD kvs ks d)) else none
    | _ => none
  | _ => none
section
variable {K : PySem.W.Frag} {H : Hp} {μ : List Addr} {S : Store}
theorem StR.dget {n : Nat} {x y : V} {dy : D} {r : Option D} (s : StR K H μ S) (e : MS.dget S n dy = some r) (rx : Rp K H μ x (.lr n)) (ry : Rp K H μ y dy) :
    ∃ a o, x = .ref a ∧ DGet H a y o ∧ ((r = none ∧ o = none) ∨ ∃ d v, r = some d ∧ o = some v ∧ Rp K H μ v d) := by
  unfold MS.dget at e
  split at e
  · rename_i kvs h
    obtain ⟨k, e1, e2⟩ := Option.map_eq_some_iff.mp e
    obtain ⟨a, q1, kws, h1, h2⟩ := s.get h
    cases rx with
    | lr hx =>
    rw [hx] at q1; cases q1
    rw [rp_key e1 ry]
    refine ⟨_, _, rfl, DGet.k h1, ?_⟩
    rcases RpK.val (k := k) h2 with ⟨q2, q3⟩ | ⟨d, v, q2, q3, q4⟩
    · exact .inl ⟨by rw [← e2, q2], q3⟩
    · exact .inr ⟨d, v, by rw [← e2, q2], q3, q4⟩
  · rename_i kvs h
    split at e
    · obtain ⟨ks, e1, e2⟩ := Option.map_eq_some_iff.mp e
      obtain ⟨a, q1, kws, h1, h2⟩ := s.get h
      cases rx with
      | lr hx =>
      rw [hx] at q1; cases q1
      cases ry with
      | tup hy ry =>
      have hy := hy
      unfold OwnT at hy
      rw [rp_keys e1 ry] at hy
      refine ⟨_, _, rfl, DGet.t h1 hy, ?_⟩
      rcases RpK.val (k := ks) h2 with ⟨q2, q3⟩ | ⟨d, v, q2, q3, q4⟩
      · exact .inl ⟨by rw [← e2, q2], q3⟩
      · exact .inr ⟨d, v, by rw [← e2, q2], q3, q4⟩
    · cases e
  · cases e
theorem StR.dput {n : Nat} {x y v : V} {dy d : D} {S' : Store} (s : StR K H μ S) (e : MS.dput S n dy d = some S') (rx : Rp K H μ x (.lr n)) (ry : Rp K H μ y dy) (rv : Rp K H μ v d) :
    ∃ a H', x = .ref a ∧ DPut H a y v H' ∧ Grow H H' μ μ ∧ StR K H' μ S' := by
  unfold MS.dput at e
  split at e
  · rename_i kvs h
    split at e
    · rename_i hz
      obtain ⟨k, e1, e2⟩ := Option.map_eq_some_iff.mp e
      subst e2
      obtain ⟨a, q1, kws, h1, h2⟩ := s.get h
      cases rx with
      | lr hx =>
      rw [hx] at q1; cases q1
      rw [rp_key e1 ry]
      have g : Grow H (upd H a (.dK (putK kws k v))) μ μ := .wrM (.dk _) h1
      refine ⟨_, _, rfl, DPut.k h1 (by rw [h2.len]; exact szl_lt hz), g, ?_⟩
      exact s.wrM h rfl hx ⟨_, upd_same, (h2.put rv).grow g⟩
    · cases e
  · rename_i kvs h
    split at e
    · split at e
      · rename_i hz
        obtain ⟨ks, e1, e2⟩ := Option.map_eq_some_iff.mp e
        subst e2
        obtain ⟨a, q1, kws, h1, h2⟩ := s.get h
        cases rx with
        | lr hx =>
        rw [hx] at q1; cases q1
        cases ry with
        | tup hy ry =>
        have hy := hy
        unfold OwnT at hy
        rw [rp_keys e1 ry] at hy
        have g : Grow H (upd H a (.dT (putK kws ks v))) μ μ := .wrM (.dt _) h1
        refine ⟨_, _, rfl, DPut.t h1 hy (by rw [h2.len]; exact szl_lt hz), g, ?_⟩
        exact s.wrM h rfl hx ⟨_, upd_same, (h2.put rv).grow g⟩
      · cases e
    · cases e
  · cases e
end
def isDict (S : Store) : D → Bool
  | .lr n => match S[n]? with
    | some (.dk _) => true
    | some (.dt _) => true
    | _ => false
  | _ => false
/-- d[y], x[i] -/
def fIxD : DOp2 := fun x y S => if isDict S x = true then (match x with
  | .lr n => (dget S n y).bind fun r => r.map fun d => (d, S)
  | _ => none) else fIx x y S
/-- y in d, y in xs -/
def fInD (b : Bool) : DOp2 := fun y x S => if isDict S x = true then (match x with
  | .lr n => (dget S n y).map fun r => (.bl (if b then !r.isSome else r.isSome), S)
  | _ => none) else fIn b y x S
def mDNewK : MExp := fun _ S => some (.lr S.length, S ++ [.dk []])
def mDNewT : MExp := fun _ S => some (.lr S.length, S ++ [.dt []])
/-- d[y] = e, as a target -/
def mgDict (mo mi : MExp) : MTg := fun d ρ S => (mo ρ S).bind fun p => (mi ρ p.2).bind fun q => match p.1 with
  | .lr n => (dput q.2 n q.1 d).map fun S' => (ρ, S')
  | _ => none
def rSetK : V → V → V → Hp → (Hp → Prop) → Prop := fun o i v H Q => ∃ a H', o = .ref a ∧ DPut H a i v H' ∧ Q H'
section
variable {X : Cx} {a b : Expr} {ma mb : MExp} {pos : Pos}
theorem me_ixD (hu : X.A.units + 1 < cLine) (ha : ME X a ma) (hb : ME X b mb) (hs : PlainIx b) (hs2 : NoSl b) : ME X (.Subscript a b pos) (mBin fIxD ma mb) := by
  refine ⟨⟨fun pins s σ H Q I h => ?_⟩⟩
  obtain ⟨ρ, S, μ, d, S', st, e, q⟩ := h
  obtain ⟨⟨d1, S1⟩, e1, e⟩ := Option.bind_eq_some_iff.mp e
  obtain ⟨⟨d2, S2⟩, e2, e⟩ := Option.bind_eq_some_iff.mp e
  have e : fIxD d1 d2 S2 = some (d, S') := e
  unfold fIxD at e
  split at e
  · cases d1 with
    | lr n =>
      obtain ⟨r, e3, e4⟩ := Option.bind_eq_some_iff.mp (show ((dget S2 n d2).bind fun r => r.map fun d => (d, S2)) = some (d, S') from e)
      obtain ⟨d', e5, e6⟩ := Option.map_eq_some_iff.mp e4
      cases e6
      refine (pe_dget hu ha.pe hb.pe hs2).run pins s σ H Q I ⟨ρ, S, μ, _, S1, st, e1, fun x H1 μ1 g1 s1 r1 => ⟨ρ, S1, μ1, _, _, st.grow g1 s1, e2, fun y H2 μ2 g2 s2 r2 => ?_⟩⟩
      obtain ⟨a', o, rfl, hg, hr⟩ := s2.dget e3 (r1.grow g2) r2
      rcases hr with ⟨z, _⟩ | ⟨dd, v, z, rfl, rv⟩
      · rw [e5] at z; cases z
      · rw [e5] at z; cases z
        exact ⟨a', v, rfl, hg, q v H2 μ2 (g1.trans g2) s2 rv⟩
    | _ => cases e
  · refine (me_ix ha hb hs).pe.run pins s σ H Q I ⟨ρ, S, μ, d, S', st, ?_, q⟩
    unfold mBin
    rw [e1]
    show ((mb ρ S1).bind fun q => fIx d1 q.1 q.2) = _
    rw [e2]
    exact e
theorem o_inD (hu : X.A.units + 1 < cLine) : OpR X (compareOp .In) (rM X.K (fInD false)) := by
  intro pins s σ H y x u w Q I ry rx ⟨S, μ, dy, dx, d, S', st, py, px, e, q⟩
  unfold fInD at e
  split at e
  · cases dx with
    | lr n =>
      obtain ⟨r, e3, e4⟩ := Option.map_eq_some_iff.mp (show ((dget S n dy).map fun r => (D.bl (if false then !r.isSome else r.isSome), S)) = some (d, S') from e)
      cases e4
      obtain ⟨a', o, rfl, hg, hr⟩ := st.dget e3 px py
      cases rx
      refine d_in hu I hg ry fun s3 I3 => ?_
      have : o.isSome = r.isSome := by
        rcases hr with ⟨rfl, rfl⟩ | ⟨dd, v, rfl, rfl, _⟩ <;> rfl
      rw [this]
      exact ⟨.bl r.isSome, H, I3, rfl, q.id st (.bl _)⟩
    | _ => cases e
  · exact o_in pins s σ H y x u w Q I ry rx ⟨S, μ, dy, dx, d, S', st, py, px, e, q⟩
theorem o_notInD (hu : X.A.units + 1 < cLine) : OpR X (compareOp .NotIn) (rM X.K (fInD true)) := by
  intro pins s σ H y x u w Q I ry rx ⟨S, μ, dy, dx, d, S', st, py, px, e, q⟩
  unfold fInD at e
  split at e
  · cases dx with
    | lr n =>
      obtain ⟨r, e3, e4⟩ := Option.map_eq_some_iff.mp (show ((dget S n dy).map fun r => (D.bl (if true then !r.isSome else r.isSome), S)) = some (d, S') from e)
      cases e4
      obtain ⟨a', o, rfl, hg, hr⟩ := st.dget e3 px py
      cases rx
      refine d_notIn hu I hg ry fun s3 I3 => ?_
      have : o.isSome = r.isSome := by
        rcases hr with ⟨rfl, rfl⟩ | ⟨dd, v, rfl, rfl, _⟩ <;> rfl
      rw [this]
      exact ⟨.bl (!r.isSome), H, I3, rfl, q.id st (.bl _)⟩
    | _ => cases e
  · exact o_notIn pins s σ H y x u w Q I ry rx ⟨S, μ, dy, dx, d, S', st, py, px, e, q⟩
theorem me_dnewK : ME X (.Dict [] [] pos) mDNewK := ⟨PE.imp pe_dnewK fun σ H Q ⟨ρ, S, μ, d, S', s, e, q⟩ => by
  cases e
  exact fun p hp => q (.ref p) _ (μ ++ [p]) (.newL hp) (s.st.newM hp ⟨[], upd_same, rfl, .nil⟩) (.lr (by rw [← s.st.len, List.getElem?_concat_length]))⟩
theorem me_dnewT : ME X (.Dict [] [] pos) mDNewT := ⟨PE.imp pe_dnewT fun σ H Q ⟨ρ, S, μ, d, S', s, e, q⟩ => by
  cases e
  exact fun p hp => q (.ref p) _ (μ ++ [p]) (.newL hp) (s.st.newM hp ⟨[], upd_same, rfl, .nil⟩) (.lr (by rw [← s.st.len, List.getElem?_concat_length]))⟩
theorem set_dict (hu : X.A.units + 1 < cLine) : PSet X rSetK := by
  intro pins s σ H o i v ov iv u Q I ro ri rv ⟨a, H', ex, g, q⟩
  subst ex
  cases ro
  exact d_setItem hu I g ri rv fun s4 I4 => ⟨H', I4, q⟩
theorem mg_dict {o i : Expr} {mo mi : MExp} (hu : X.A.units + 1 < cLine) (ho : ME X o mo) (hi : ME X i mi)
    (ha : ∀ v, assign (.Subscript o i pos) X.env v = (do
      let ov ← holding [v] (eval o X.env)
      let iv ← holding [v, ov] (eval i X.env)
      standAt pos
      holding [v, ov, iv] (setItem ov iv v)
      release [v, ov, iv] []) := by intro _; rfl) : MG X (.Subscript o i pos) (mgDict mo mi) :=
  ⟨PG.imp (pg_sub ho.pe hi.pe (set_dict hu) ha) fun v σ H Q ⟨d, ρ, S, μ, ρ', S', s, rr, e, q⟩ => by
    obtain ⟨⟨d1, S1⟩, e1, e⟩ := Option.bind_eq_some_iff.mp e
    obtain ⟨⟨d2, S2⟩, e2, e⟩ := Option.bind_eq_some_iff.mp e
    refine ⟨ρ, S, μ, d1, S1, s, e1, fun v1 H1 μ1 g1 s1 r1 => ⟨ρ, S1, μ1, d2, S2, s.grow g1 s1, e2, fun v2 H2 μ2 g2 s2 r2 => ?_⟩⟩
    cases d1 with
    | lr n =>
      obtain ⟨S3, e3, e4⟩ := Option.map_eq_some_iff.mp (show ((dput S2 n d2 d).map fun S' => (ρ, S')) = some (ρ', S') from e)
      cases e4
      have g12 := g1.trans g2
      obtain ⟨a', H3, rfl, hp, g3, s3⟩ := s2.dput e3 (r1.grow g2) r2 (rr.grow g12)
      exact ⟨a', H3, rfl, hp, q σ H3 μ2 (g12.trans g3) ((s.grow g12 s2).grow g3 s3)⟩
    | _ => cases e⟩
end
end MS

set_option Elab.async false
set_option linter.all false
set_option maxRecDepth 100000
set_option maxHeartbeats 4000000
set_option exponentiation.threshold 9000
namespace MS
open PySem PySem.Spec PyProof.Rows L2

/-! ### lcm -/
def cLcm : DCall := fun ds S => match ds with
  | [.int a, .int b] => if a.natAbs.log2 < 2000 ∧ b.natAbs.log2 < 2000 then some (.int ((Nat.lcm a.natAbs b.natAbs : Nat) : Int), S) else none
  | _ => none
theorem log2_lcm {a b : Nat} (ha : a.log2 < 2000) (hb : b.log2 < 2000) : (Nat.lcm a b).log2 < 8000 := by
  by_cases h0 : Nat.lcm a b = 0
  · rw [h0]; decide
  · have ha' : a < 2 ^ 2000 := by
      by_cases h : a = 0
      · subst h; exact Nat.two_pow_pos _
      · exact (Nat.log2_lt h).mp ha
    have hb' : b < 2 ^ 2000 := by
      by_cases h : b = 0
      · subst h; exact Nat.two_pow_pos _
      · exact (Nat.log2_lt h).mp hb
    have hle : Nat.lcm a b ≤ a * b := by
      unfold Nat.lcm
      exact Nat.div_le_self _ _
    have hlt : Nat.lcm a b < 2 ^ 4000 := Nat.lt_of_le_of_lt hle (by
      have : a * b < 2 ^ 2000 * 2 ^ 2000 := Nat.mul_lt_mul'' ha' hb'
      rwa [← Nat.pow_add] at this)
    exact Nat.lt_trans ((Nat.log2_lt h0).mpr hlt) (by decide)
theorem c_lcm {X : Cx} : CallR X (.builtin "math.lcm") (rCM X.K cLcm) := by
  intro pins s σ H vs us Q I r ⟨S, μ, ds, d, S', st, ra, e, q⟩
  unfold cLcm at e
  split at e
  · split at e
    · rename_i h
      cases e
      match vs, ra with
      | _, .cons (.int a) (.cons (.int b) .nil) =>
        obtain ⟨t, u, rfl⟩ := Vals.int2 r
        have e1 : Nat.lcm 1 a.natAbs = a.natAbs := Nat.lcm_one_left _
        have h2 : (max a.natAbs b.natAbs).log2 < 2000 := by
          rcases Nat.le_total a.natAbs b.natAbs with hh | hh
          · rw [Nat.max_eq_right hh]; exact h.2
          · rw [Nat.max_eq_left hh]; exact h.1
        have h1 : (max 1 a.natAbs).log2 < 2000 := by
          rcases Nat.le_total 1 a.natAbs with hh | hh
          · rw [Nat.max_eq_right hh]; exact h.1
          · rw [Nat.max_eq_left hh]; decide
        refine call_function_meets PySem.W.MGF.kind_lcm PySem.W.MGF.plain_lcm PySem.W.MGF.entry_lcm (PySem.W.MGF.args_lcm _ _) (PySem.W.mg_run_lcm a t b u (by omega) (by omega) ?_).meets ?_
        · rw [e1, Int.natAbs_natCast]
          exact Nat.lt_trans (log2_lcm h.1 h.2) (by decide)
        · rw [e1]
          exact ⟨.int _, H, I.tok _, ⟨_, rfl⟩, q.id st (.int _)⟩
    · cases e
  · cases e

/-! ### the greatest and the least of a list or tuple of ints -/
def maxI : List Int → Option Int
  | [] => none
  | [x] => some x
  | x :: xs => (maxI xs).map fun m => if m > x then m else x
theorem maxI_spec : ∀ {ns : List Int} {m : Int}, maxI ns = some m → m ∈ ns ∧ ∀ y ∈ ns, y ≤ m
  | [x], m, h => by cases h; exact ⟨List.mem_cons_self, fun y hy => by rw [List.mem_singleton.mp hy]; exact Int.le_refl _⟩
  | x :: z :: xs, m, h => by
    obtain ⟨m', h1, h2⟩ := Option.map_eq_some_iff.mp (show (maxI (z :: xs)).map (fun m => if m > x then m else x) = some m from h)
    obtain ⟨k1, k2⟩ := maxI_spec h1
    subst h2
    refine ⟨?_, fun y hy => ?_⟩
    · split
      · exact List.mem_cons_of_mem _ k1
      · exact List.mem_cons_self
    · rcases List.mem_cons.mp hy with rfl | hy
      · split <;> omega
      · have := k2 y hy
        split <;> omega
theorem maxI_some : ∀ {ns : List Int}, ns ≠ [] → ∃ m, maxI ns = some m
  | [], h => absurd rfl h
  | [x], _ => ⟨x, rfl⟩
  | x :: z :: xs, _ => by
    obtain ⟨m, h⟩ := maxI_some (ns := z :: xs) (by simp)
    exact ⟨_, by show (maxI (z :: xs)).map _ = _; rw [h]; rfl⟩
def minI (ns : List Int) : Option Int := (maxI (ns.map fun x => -x)).map fun m => -m
theorem minI_spec {ns : List Int} {m : Int} (h : minI ns = some m) : m ∈ ns ∧ ∀ y ∈ ns, m ≤ y := by
  obtain ⟨k, h1, rfl⟩ := Option.map_eq_some_iff.mp h
  obtain ⟨h2, h3⟩ := maxI_spec h1
  obtain ⟨x, hx, rfl⟩ := List.mem_map.mp h2
  refine ⟨by rw [Int.neg_neg]; exact hx, fun y hy => ?_⟩
  have := h3 (-y) (List.mem_map.mpr ⟨y, hy, rfl⟩)
  omega
theorem minI_some {ns : List Int} (h : ns ≠ []) : ∃ m, minI ns = some m := by
  obtain ⟨m, e⟩ := maxI_some (ns := ns.map fun x => -x) (by simpa using h)
  exact ⟨-m, by unfold minI; rw [e]; rfl⟩
def cMaxA : DCall := fun ds S => match ds with
  | [d] => (MS.items S d).bind fun es => (intsOf es).bind fun ns => (maxI ns).map fun m => (.int m, S)
  | _ => cMax ds S
def cMinA : DCall := fun ds S => match ds with
  | [d] => (MS.items S d).bind fun es => (intsOf es).bind fun ns => (minI ns).map fun m => (.int m, S)
  | _ => cMin ds S
section
variable {prog : Program} {w : World} {A : Around} {E : Value → Shared → Prop} {s : Shared} {l : Addr}
theorem iter_tupleI {its : Array Value} {Q : Value → Shared → Prop} (hl : s.heap.IsTuple l its)
    (h : ∀ s2 : Shared, s2 = { s with heap := s.heap.push { cls := .type "tuple_iterator", data := .fields #[.ref l, .int 0 0] } } → s2.heap.IsTupleIter s.heap.objs.size l 0 → s2.heap.IsTuple l its → (∀ b ∈ [s.heap.objs.size, l], b < s2.heap.objs.size) → l ≠ s.heap.objs.size → Q (.ref s.heap.objs.size) s2) :
    wpAny (model prog w) A (pyIter (.ref l)) Q E s := by
  have hlt : l < s.heap.objs.size := by obtain ⟨_, e, _⟩ := hl; exact Heap.lt_size e
  refine wpAny_pyIter_tuple hl (h _ rfl ⟨_, Heap.get?_push_size _ rfl, rfl, rfl⟩ (hl.push _) (fun b hb => ?_) (Nat.ne_of_lt hlt))
  show b < (s.heap.push _).objs.size
  rw [Heap.size_push]
  simp only [List.mem_cons, List.not_mem_nil, or_false] at hb
  rcases hb with rfl | rfl
  · exact Nat.lt_succ_self _
  · exact Nat.lt_succ_of_lt hlt
theorem kept_tupleI {h' : Heap} (hk : ∀ b o, b ∉ [s.heap.objs.size] → (s.heap.push { cls := .type "tuple_iterator", data := .fields #[.ref l, .int 0 0] }).get? b = some o → h'.get? b = some o) :
    ∀ b o, s.heap.get? b = some o → h'.get? b = some o := fun b o e => by
  refine hk b o (fun z => ?_) (Heap.get?_push_of_some _ e)
  have := Heap.lt_size e
  rw [List.mem_singleton.mp z] at this
  exact Nat.lt_irrefl _ this
end
section
variable {X : Cx} {pins : List (Addr × Obj)} {σ : L2.St} {H : Hp} {s : Shared}
theorem max_tuple (hc : X.calm = true) (I : Inv X pins σ H s) {a : Addr} {ns : List Int} {Q : VK} (hq : SqT X.K H a (ns.map V.int)) (hne : 0 < ns.length) (q : ∀ m, m ∈ ns → (∀ y ∈ ns, y ≤ m) → Q (.int m) H) :
    wpAny (model X.prog X.w) X.A (call (.builtin "max") [.ref a]) (EP X pins σ Q) X.xe s := by
  obtain ⟨its, rv, hp, hz⟩ := I.tuple hq
  have hi := rv.ints
  obtain ⟨xs, e⟩ := hi.allInts.items
  have hn : numsOf (intItems xs).toList = ns := by rw [← e]; exact hi.numsOf
  rw [nums_intItems] at hn
  subst hn
  have hl : s.heap.IsTuple a (intItems xs) := by rw [← e]; exact hp
  have hsz : 0 < xs.size := by simpa using hne
  refine call_max_walk (iter_tupleI hl fun s2 e2 st1 st2 hfp hlI => ?_)
  subst e2
  refine ⟨_, _, _, _, _, _, _, rfl, Walks.tuple (A := X.A.in1) (I.ok.hd hc) _ a hlI (intItems xs), ⟨st1, st2⟩, hfp, by simpa [intItems] using hsz, CmpOf.ints_gt (numAt xs) (fun _ _ => intItems_at), fun v h' tk hP hk => ?_⟩
  have hP : (intItems xs)[argBest (fun i j => decide (numAt xs i > numAt xs j)) (xs.size - 1)]? = some v := by simpa [intItems] using hP
  obtain ⟨t, rfl⟩ := intItems_at hP
  obtain ⟨h1, h2⟩ := argBest_gt (numAt xs) (xs.size - 1)
  refine ⟨.int _, H, I.kept (kept_tupleI hk), ⟨_, rfl⟩, q _ ?_ fun y hy => ?_⟩
  · rw [numAt_eq]; exact PySem.getD_mem (by rw [List.length_map, Array.length_toList]; omega)
  · obtain ⟨j, hj, rfl⟩ := mem_getD hy
    rw [List.length_map, Array.length_toList] at hj
    rw [← numAt_eq]; exact h2 j (by omega)
theorem min_tuple (hc : X.calm = true) (I : Inv X pins σ H s) {a : Addr} {ns : List Int} {Q : VK} (hq : SqT X.K H a (ns.map V.int)) (hne : 0 < ns.length) (q : ∀ m, m ∈ ns → (∀ y ∈ ns, m ≤ y) → Q (.int m) H) :
    wpAny (model X.prog X.w) X.A (call (.builtin "min") [.ref a]) (EP X pins σ Q) X.xe s := by
  obtain ⟨its, rv, hp, hz⟩ := I.tuple hq
  have hi := rv.ints
  obtain ⟨xs, e⟩ := hi.allInts.items
  have hn : numsOf (intItems xs).toList = ns := by rw [← e]; exact hi.numsOf
  rw [nums_intItems] at hn
  subst hn
  have hl : s.heap.IsTuple a (intItems xs) := by rw [← e]; exact hp
  have hsz : 0 < xs.size := by simpa using hne
  refine call_min_walk (iter_tupleI hl fun s2 e2 st1 st2 hfp hlI => ?_)
  subst e2
  refine ⟨_, _, _, _, _, _, _, rfl, Walks.tuple (A := X.A.in1) (I.ok.hd hc) _ a hlI (intItems xs), ⟨st1, st2⟩, hfp, by simpa [intItems] using hsz, CmpOf.ints_lt (numAt xs) (fun _ _ => intItems_at), fun v h' tk hP hk => ?_⟩
  have hP : (intItems xs)[argBest (fun i j => decide (numAt xs i < numAt xs j)) (xs.size - 1)]? = some v := by simpa [intItems] using hP
  obtain ⟨t, rfl⟩ := intItems_at hP
  obtain ⟨h1, h2⟩ := argBest_lt (numAt xs) (xs.size - 1)
  refine ⟨.int _, H, I.kept (kept_tupleI hk), ⟨_, rfl⟩, q _ ?_ fun y hy => ?_⟩
  · rw [numAt_eq]; exact PySem.getD_mem (by rw [List.length_map, Array.length_toList]; omega)
  · obtain ⟨j, hj, rfl⟩ := mem_getD hy
    rw [List.length_map, Array.length_toList] at hj
    rw [← numAt_eq]; exact h2 j (by omega)
end
theorem c_maxA {X : Cx} (hc : X.calm = true) : CallR X (.builtin "max") (rCM X.K cMaxA) := by
  intro pins s σ H vs us Q I r ⟨S, μ, ds, d, S', st, ra, e, q⟩
  match ds, ra, e with
  | [d0], .cons r1 .nil, e =>
    obtain ⟨es, e1, e⟩ := Option.bind_eq_some_iff.mp (show ((MS.items S d0).bind fun es => (intsOf es).bind fun ns => (maxI ns).map fun m => (D.int m, S)) = some (d, S') from e)
    obtain ⟨ns, e2, e⟩ := Option.bind_eq_some_iff.mp e
    obtain ⟨m, e3, e4⟩ := Option.map_eq_some_iff.mp e
    cases e4
    obtain ⟨m1, m2⟩ := maxI_spec e3
    have uniq : ∀ k, k ∈ ns → (∀ y ∈ ns, y ≤ k) → k = m := fun k k1 k2 => Int.le_antisymm (m2 k k1) (k2 m m1)
    have hne : 0 < ns.length := List.length_pos_of_mem m1
    obtain ⟨a, ws, rfl, h1, h2⟩ := st.items e1 r1
    rw [intsOf_rp e2 h2] at h1
    rcases h1 with h1 | h1
    · exact cr_max hc pins s σ H _ us Q I r ⟨a, ns, rfl, h1, hne, fun k k1 k2 => by rw [uniq k k1 k2]; exact q.id st (.int _)⟩
    · rw [Vals.ref1 r]
      exact max_tuple hc I h1 hne fun k k1 k2 => by rw [uniq k k1 k2]; exact q.id st (.int _)
  | [], ra, e => exact c_max hc pins s σ H _ us Q I r ⟨S, μ, _, d, S', st, ra, e, q⟩
  | _ :: _ :: _, ra, e => exact c_max hc pins s σ H _ us Q I r ⟨S, μ, _, d, S', st, ra, e, q⟩
theorem c_minA {X : Cx} (hc : X.calm = true) : CallR X (.builtin "min") (rCM X.K cMinA) := by
  intro pins s σ H vs us Q I r ⟨S, μ, ds, d, S', st, ra, e, q⟩
  match ds, ra, e with
  | [d0], .cons r1 .nil, e =>
    obtain ⟨es, e1, e⟩ := Option.bind_eq_some_iff.mp (show ((MS.items S d0).bind fun es => (intsOf es).bind fun ns => (minI ns).map fun m => (D.int m, S)) = some (d, S') from e)
    obtain ⟨ns, e2, e⟩ := Option.bind_eq_some_iff.mp e
    obtain ⟨m, e3, e4⟩ := Option.map_eq_some_iff.mp e
    cases e4
    obtain ⟨m1, m2⟩ := minI_spec e3
    have uniq : ∀ k, k ∈ ns → (∀ y ∈ ns, k ≤ y) → k = m := fun k k1 k2 => Int.le_antisymm (k2 m m1) (m2 k k1)
    have hne : 0 < ns.length := List.length_pos_of_mem m1
    obtain ⟨a, ws, rfl, h1, h2⟩ := st.items e1 r1
    rw [intsOf_rp e2 h2] at h1
    rcases h1 with h1 | h1
    · exact cr_min hc pins s σ H _ us Q I r ⟨a, ns, rfl, h1, hne, fun k k1 k2 => by rw [uniq k k1 k2]; exact q.id st (.int _)⟩
    · rw [Vals.ref1 r]
      exact min_tuple hc I h1 hne fun k k1 k2 => by rw [uniq k k1 k2]; exact q.id st (.int _)
  | [], ra, e => exact c_min hc pins s σ H _ us Q I r ⟨S, μ, _, d, S', st, ra, e, q⟩
  | _ :: _ :: _, ra, e => exact c_min hc pins s σ H _ us Q I r ⟨S, μ, _, d, S', st, ra, e, q⟩
end MS

set_option Elab.async false
set_option linter.all false
set_option maxRecDepth 100000
set_option maxHeartbeats 4000000
namespace MS
open PySem PySem.Spec PyProof.Rows L2

/-! ### sorted(set(t)), t a tuple of ints -/
def insU (x : Int) : List Int → List Int
  | [] => [x]
  | y :: l => if x < y then x :: y :: l else if x = y then y :: l else y :: insU x l
def sortU (ns : List Int) : List Int := ns.foldr insU []
theorem mem_insU {x z : Int} : ∀ {l : List Int}, z ∈ insU x l ↔ z = x ∨ z ∈ l
  | [] => by simp [insU]
  | y :: l => by
    unfold insU
    split
    · simp
    · split
      · rename_i h1 h2
        subst h2
        simp
      · rw [List.mem_cons, mem_insU (l := l), List.mem_cons]
        constructor
        · rintro (h | h | h)
          · exact .inr (.inl h)
          · exact .inl h
          · exact .inr (.inr h)
        · rintro (h | h | h)
          · exact .inr (.inl h)
          · exact .inl h
          · exact .inr (.inr h)
theorem mem_sortU {z : Int} : ∀ {ns : List Int}, z ∈ sortU ns ↔ z ∈ ns
  | [] => Iff.rfl
  | x :: ns => by
    show z ∈ insU x (sortU ns) ↔ _
    rw [mem_insU, mem_sortU (ns := ns), List.mem_cons]
theorem insU_sorted {x : Int} : ∀ {l : List Int}, l.Pairwise (· < ·) → (insU x l).Pairwise (· < ·)
  | [], _ => by simp [insU]
  | y :: l, h => by
    obtain ⟨h1, h2⟩ := List.pairwise_cons.mp h
    unfold insU
    split
    · rename_i hx
      refine List.pairwise_cons.mpr ⟨fun z hz => ?_, h⟩
      rcases List.mem_cons.mp hz with rfl | hz
      · exact hx
      · exact Int.lt_trans hx (h1 z hz)
    · split
      · exact h
      · refine List.pairwise_cons.mpr ⟨fun z hz => ?_, insU_sorted h2⟩
        rcases mem_insU.mp hz with rfl | hz
        · omega
        · exact h1 z hz
theorem sortU_sorted : ∀ (ns : List Int), (sortU ns).Pairwise (· < ·)
  | [] => .nil
  | x :: ns => insU_sorted (sortU_sorted ns)
/-- one rising list of given members -/
theorem rising_ext : ∀ {l m : List Int}, l.Pairwise (· < ·) → m.Pairwise (· < ·) → (∀ z, z ∈ l ↔ z ∈ m) → l = m
  | [], [], _, _, _ => rfl
  | [], b :: m, _, _, h => absurd ((h b).mpr List.mem_cons_self) List.not_mem_nil
  | a :: l, [], _, _, h => absurd ((h a).mp List.mem_cons_self) List.not_mem_nil
  | a :: l, b :: m, hl, hm, h => by
    obtain ⟨l1, l2⟩ := List.pairwise_cons.mp hl
    obtain ⟨m1, m2⟩ := List.pairwise_cons.mp hm
    have e : a = b := by
      rcases List.mem_cons.mp ((h a).mp List.mem_cons_self) with e | ha
      · exact e
      · rcases List.mem_cons.mp ((h b).mpr List.mem_cons_self) with e | hb
        · exact e.symm
        · have := l1 b hb
          have := m1 a ha
          omega
    subst e
    rw [rising_ext l2 m2 fun z => ?_]
    constructor
    · intro hz
      rcases List.mem_cons.mp ((h z).mp (List.mem_cons_of_mem _ hz)) with e | hz'
      · subst e; exact absurd (l1 z hz) (Int.lt_irrefl z)
      · exact hz'
    · intro hz
      rcases List.mem_cons.mp ((h z).mpr (List.mem_cons_of_mem _ hz)) with e | hz'
      · subst e; exact absurd (m1 z hz) (Int.lt_irrefl z)
      · exact hz'
section
variable {X : Cx}
/-- set(t) -/
def rSetT (K : PySem.W.Frag) (w : World) : List V → Hp → VK → Prop := fun vs H Q => ∃ (a : Addr) (ns : List Int), vs = [V.ref a] ∧ SqT K H a (ns.map V.int) ∧ ns.length ≤ 1000 ∧
  ∀ p c, H p = none → c ≤ ns.length → Q (.ref p) (upd H p (SetO w p (fun j => decide (j ∈ ns)) c))
theorem cr_setT (hc : X.calm = true) : CallR X (.type "set") (rSetT X.K X.w) := by
  intro pins s σ H vs us Q I r ⟨a, ns, ex, hq, hl, q⟩
  subst ex
  obtain ⟨its, rv, pt, hz⟩ := I.tuple hq
  have hi : IntsAre its.toArray.toList ns := ints_of_vals rv
  rw [Vals.ref1 r]
  refine call_set_tupI ns (I.ok.hd hc) (show s.heap.IsTuple a its.toArray from pt) hi (by unfold scanBound; omega) fun h' tk c R hcn k => ?_
  have hn : H s.heap.objs.size = none := I.hok.fresh (Nat.le_refl _)
  have J := I.call (ch := []) (g' := s.gens) (t' := tk) (d' := s.drawn) (Un.laid (o := SetO X.w s.heap.objs.size (fun j => decide (j ∈ ns)) c) k (Nat.le_refl _) hn) (I.hok.laid k (Nat.le_refl _) (setO_new R)) I.bare (fun _ z => nomatch z)
  exact ⟨.ref s.heap.objs.size, _, J, rfl, q _ c hn hcn⟩
def mSortSet (m : MArg) : MExp := fun ρ S => (m ρ S).bind fun p => match p.1 with
  | [.tup ds] => (intsOf ds).bind fun ns => if ns.length < 64 then some (.lr p.2.length, p.2 ++ [.lst ((sortU ns).map D.int)]) else none
  | _ => none
theorem me_sortSet {e : Expr} {m : MArg} {p p2 q q2 : Pos} (hc : X.calm = true) (hg : Gl X "sorted") (hm : X.mg "sorted" = none) (hg2 : Gl X "set") (hm2 : X.mg "set" = none) (ha : MA X [e] m)
    (hs1 : starEach [.Call (.Name "set" p2) [e] [] q2] X.env = (false, eval (.Call (.Name "set" p2) [e] [] q2) X.env) :: starEach [] X.env := by rfl)
    (hs : starEach [e] X.env = (false, eval e X.env) :: starEach [] X.env := by rfl) : ME X (.Call (.Name "sorted" p) [.Call (.Name "set" p2) [e] [] q2] [] q) (mSortSet m) :=
  ⟨PE.imp (pe_callB (cr_sortedSet hc) hg hm (show bootBuiltins "sorted" = some (.builtin "sorted") by decide +kernel) (pa_cons (pe_callTy (cr_setT hc) hg2 hm2 PyProof.Rows.boot_set ha.pa (by decide) (by decide) hs (by rfl)) pa_nil hs1) (by decide) (by decide) hs1 (by rfl)) fun σ H Q ⟨ρ, S, μ, d, S', st, e, q⟩ => by
    obtain ⟨⟨ds, S1⟩, e1, e⟩ := Option.bind_eq_some_iff.mp e
    refine ⟨ρ, S, μ, ds, S1, st, e1, fun vs H1 μ1 g1 s1 r1 => ?_⟩
    match ds, r1, e with
    | [.tup es], .cons (.tup h1 h2) .nil, e =>
      obtain ⟨ns, e2, e⟩ := Option.bind_eq_some_iff.mp (show ((intsOf es).bind fun ns => if ns.length < 64 then some (D.lr S1.length, S1 ++ [.lst ((sortU ns).map D.int)]) else none) = some (d, S') from e)
      split at e
      · rename_i hz
        cases e
        have h1 := sq X.K _ h1
        rw [intsOf_rp e2 h2] at h1
        refine ⟨_, ns, rfl, h1, by omega, fun p c hp hcn => ?_⟩
        refine ⟨p, _, c, rfl, upd_same, by omega, fun ns' p' hs' hm' _ hp' => ?_⟩
        have en : ns' = sortU ns := rising_ext hs' (sortU_sorted ns) fun z => by rw [hm' z, mem_sortU, decide_eq_true_eq]
        subst en
        have s2 : StR X.K (upd H1 p (SetO X.w p (fun j => decide (j ∈ ns)) c)) μ1 S1 := s1.new hp
        have g2 : Grow H1 (upd H1 p (SetO X.w p (fun j => decide (j ∈ ns)) c)) μ1 μ1 := .new hp
        exact q (.ref p') _ (μ1 ++ [p']) ((g1.trans g2).trans (.newL hp')) (s2.newL hp' RpA.ints) (.lr (by rw [← s1.len, List.getElem?_concat_length]))
      · cases e
    | [], _, e => cases e
    | [.non], _, e => cases e
    | [.bl _], _, e => cases e
    | [.int _], _, e => cases e
    | [.str _], _, e => cases e
    | [.lr _], _, e => cases e
    | d1 :: _ :: _, _, e => (cases d1 <;> cases e)⟩
end

/-! ### xs[i] op= e -/
def augL (f : DOp2) (m : MExp) (n : Nat) (k : Int) : MStm := fun ρ S => if 0 ≤ k then (mat S n).bind fun ds => (L2.ixN ds.length k).bind fun j => (ds[j]?).bind fun old => (m ρ S).bind fun r => (f old r.1 r.2).bind fun z => (mat z.2 n).bind fun ds' => if ds'.length = ds.length then some (.nx, ρ, z.2.set n (.lst (ds'.set j z.1))) else none else none
def mAugS (f : DOp2) (mo mi m : MExp) : MStm := fun ρ S => (mo ρ S).bind fun p => (mi ρ p.2).bind fun q => match p.1, q.1 with
  | .lr n, .int k => augL f m n k ρ q.2
  | _, _ => none
section
variable {X : Cx}
def rGetL : V → V → Hp → VK → Prop := fun o i H Q => ∃ p xs k j v, o = .ref p ∧ i = .int k ∧ 0 ≤ k ∧ H p = some (.lst xs) ∧ ixN xs.length k = some j ∧ xs[j]? = some v ∧ Q v H
theorem get_list : PGet X rGetL := by
  intro pins s σ H o i ov iv Q I ro ri ⟨p, xs, k, j, v, eo, ei, h0, hp, hj, hv, q⟩
  subst eo ei
  cases ro
  obtain ⟨t, rfl⟩ := ri
  obtain ⟨its, r, pl, hz⟩ := I.list (SqL.of hp)
  obtain ⟨w, ew, rw'⟩ := r.get hv
  have hl := r.length
  obtain ⟨h1, h2, h3, h4⟩ := ixN_seq hj
  have hk : k.toNat = j := by
    rw [seqIndex_of h0 h4] at h1
    exact Option.some.inj h1
  have hn := line63
  refine wpAny_getItem_list (x := w) pl.isList h0 (by omega) (by rw [hk, List.getElem?_toArray]; exact ew) ⟨v, H, I, rw', q⟩
theorem ms_augS {o i e : Expr} {mo mi m : MExp} {op : Operator} {f : DOp2} {tpos pos : Pos} (ho : ME X o mo) (hi : ME X i mi) (he : ME X e m) (hp : PIp X op (rM X.K f))
    (ha : ∀ ov iv new, augStore i ov iv new = (do holding [new, ov, iv] (setItem ov iv new); release [new, ov, iv] []; pure .next) := by intros; rfl) : MS_ X (.AugAssign (.Subscript o i tpos) op e pos) (mAugS f mo mi m) :=
  ⟨PS.imp (ps_augS ho.pe hi.pe get_list he.pe hp set_list ha) fun D_ σ H ⟨ρ, S, μ, fl, ρ', S', st, e, q⟩ => by
    obtain ⟨⟨d1, S1⟩, e1, e⟩ := Option.bind_eq_some_iff.mp e
    obtain ⟨⟨d2, S2⟩, e2, e⟩ := Option.bind_eq_some_iff.mp e
    refine ⟨ρ, S, μ, d1, S1, st, e1, fun v1 H1 μ1 g1 s1 r1 => ⟨ρ, S1, μ1, d2, S2, st.grow g1 s1, e2, fun v2 H2 μ2 g2 s2 r2 => ?_⟩⟩
    cases d1 with
    | lr n =>
      cases d2 with
      | int k =>
        have e : augL f m n k ρ S2 = some (fl, ρ', S') := e
        unfold augL at e
        split at e
        · rename_i h0
          obtain ⟨ds, e3, e⟩ := Option.bind_eq_some_iff.mp e
          obtain ⟨j, e4, e⟩ := Option.bind_eq_some_iff.mp e
          obtain ⟨old, e5, e⟩ := Option.bind_eq_some_iff.mp e
          obtain ⟨⟨d3, S3⟩, e6, e⟩ := Option.bind_eq_some_iff.mp e
          obtain ⟨⟨d4, S4⟩, e7, e⟩ := Option.bind_eq_some_iff.mp e
          obtain ⟨ds', e8, e⟩ := Option.bind_eq_some_iff.mp e
          split at e
          · rename_i hlen
            cases e
            have g12 := g1.trans g2
            obtain ⟨a, vs, rfl, h1, h2, h3⟩ := s2.mat e3 (r1.grow g2)
            cases r2
            obtain ⟨w, h4, h5⟩ := h3.get e5
            refine ⟨a, vs, k, j, w, rfl, rfl, h0, h2, by rw [h3.ixN]; exact e4, h4, ?_⟩
            refine ⟨ρ, S2, μ2, d3, S3, st.grow g12 s2, e6, fun v3 H3 μ3 g3 s3 r3 => ?_⟩
            refine ⟨S3, μ3, old, d3, d4, S4, s3, h5.grow g3, r3, e7, fun v4 H4 μ4 g4 s4 r4 => ?_⟩
            have g34 := g3.trans g4
            obtain ⟨a', vs', h6, h7, h8, h9⟩ := s4.mat e8 ((r1.grow g2).grow g34)
            cases h6
            refine ⟨a, vs', k, j, rfl, rfl, h8, by rw [h9.ixN, hlen]; exact e4, ?_⟩
            have g14 := g12.trans g34
            exact q σ _ μ4 (g14.trans (.wr h8)) ((st.grow g14 s4).grow (.wr h8) (s4.wr (mat_eq e8) h7 (h9.set r4 j)))
          · cases e
        · cases e
      | _ => cases e
    | _ => cases e⟩
end

/-! ### is None -/
def D.isNon : D → Bool
  | .non => true
  | _ => false
def fIs : DOp2
  | d, .non, S => some (.bl d.isNon, S)
  | _, _, _ => none
def fIsNot : DOp2
  | d, .non, S => some (.bl (!d.isNon), S)
  | _, _, _ => none
theorem rp_non {K : PySem.W.Frag} {H : Hp} {μ : List Addr} {v : V} {d : D} (r : Rp K H μ v d) : decide (v = .non) = d.isNon := by
  cases r <;> first | rfl | exact decide_eq_false (by intro z; cases z)
section
variable {X : Cx}
theorem o_isN : OpR X (compareOp .Is) (rM X.K fIs) := OpR.imp op_isN fun x y H Q ⟨S, μ, dx, dy, d, S', s, rx, ry, e, q⟩ => by
  unfold fIs at e
  split at e
  · cases e; cases ry
    refine ⟨rfl, ?_⟩
    rw [rp_non rx]
    exact q.id s (.bl _)
  · cases e
theorem o_isNotN : OpR X (compareOp .IsNot) (rM X.K fIsNot) := OpR.imp op_notN fun x y H Q ⟨S, μ, dx, dy, d, S', s, rx, ry, e, q⟩ => by
  unfold fIsNot at e
  split at e
  · cases e; cases ry
    refine ⟨rfl, ?_⟩
    rw [rp_non rx]
    exact q.id s (.bl _)
  · cases e
end
end MS

set_option Elab.async false
set_option linter.all false
set_option maxRecDepth 100000
set_option maxHeartbeats 4000000
namespace MS
open PySem PySem.Spec PyProof.Rows L2
/-! ### the newer readings run forward -/
section
variable {ρ : Ev} {S : Store} {Q : D → Store → Prop} {QS : Fl → Ev → Store → Prop} {QE : Ev → Store → Prop} {m mo mi : MExp} {a : MArg}
theorem ge_isN {d : D} (h : Q (.bl d.isNon) S) : GE (fIs d .non S) Q := by cases d <;> exact ⟨_, _, rfl, h⟩
theorem ge_isNotN {d : D} (h : Q (.bl (!d.isNon)) S) : GE (fIsNot d .non S) Q := by cases d <;> exact ⟨_, _, rfl, h⟩
theorem ge_sortSet (h : GE (a ρ S) fun xs S1 => ∃ ns : List Int, xs = [.tup (ns.map D.int)] ∧ ns.length < 64 ∧ Q (.lr S1.length) (S1 ++ [.lst ((sortU ns).map D.int)])) : GE (mSortSet a ρ S) Q :=
  ge_bind (h.mono fun xs S1 ⟨ns, e, hz, h⟩ => by
    subst e
    show GE ((intsOf (ns.map D.int)).bind fun ns => if ns.length < 64 then some (D.lr S1.length, S1 ++ [.lst ((sortU ns).map D.int)]) else none) Q
    rw [intsOf_map]
    exact ⟨_, _, if_pos hz, h⟩)
theorem ge_maxA {x : D} {ns : List Int} {m : Int} (h1 : MS.items S x = some (ns.map D.int)) (h2 : maxI ns = some m) (h : Q (.int m) S) : GE (cMaxA [x] S) Q := by
  show GE ((MS.items S x).bind fun es => (intsOf es).bind fun ns => (maxI ns).map fun m => (D.int m, S)) Q
  rw [h1]
  show GE ((intsOf (ns.map D.int)).bind fun ns => (maxI ns).map fun m => (D.int m, S)) Q
  rw [intsOf_map]
  show GE ((maxI ns).map fun m => (D.int m, S)) Q
  rw [h2]
  exact ⟨_, _, rfl, h⟩
theorem ge_minA {x : D} {ns : List Int} {m : Int} (h1 : MS.items S x = some (ns.map D.int)) (h2 : minI ns = some m) (h : Q (.int m) S) : GE (cMinA [x] S) Q := by
  show GE ((MS.items S x).bind fun es => (intsOf es).bind fun ns => (minI ns).map fun m => (D.int m, S)) Q
  rw [h1]
  show GE ((intsOf (ns.map D.int)).bind fun ns => (minI ns).map fun m => (D.int m, S)) Q
  rw [intsOf_map]
  show GE ((minI ns).map fun m => (D.int m, S)) Q
  rw [h2]
  exact ⟨_, _, rfl, h⟩
theorem ge_lcm {i j : Int} (h1 : i.natAbs.log2 < 2000) (h2 : j.natAbs.log2 < 2000) (h : Q (.int ((Nat.lcm i.natAbs j.natAbs : Nat) : Int)) S) : GE (cLcm [.int i, .int j] S) Q := ⟨_, _, if_pos ⟨h1, h2⟩, h⟩
theorem ge_dnewK (h : Q (.lr S.length) (S ++ [.dk []])) : GE (mDNewK ρ S) Q := ⟨_, _, rfl, h⟩
theorem ge_dnewT (h : Q (.lr S.length) (S ++ [.dt []])) : GE (mDNewT ρ S) Q := ⟨_, _, rfl, h⟩
theorem ge_ixDk {n : Nat} {kvs : List (Key × D)} {y d : D} {k : Key} (e : S[n]? = some (.dk kvs)) (hk : keyOf y = some k) (hv : valD kvs k = some d) (h : Q d S) : GE (fIxD (.lr n) y S) Q := by
  have h1 : isDict S (.lr n) = true := by unfold isDict; (try dsimp only); rw [e]
  have h2 : dget S n y = some (some d) := by unfold dget; rw [e]; (try dsimp only); rw [hk]; show some (valD kvs k) = _; rw [hv]
  unfold fIxD
  rw [if_pos h1]
  show GE ((dget S n y).bind fun r => r.map fun d => (d, S)) Q
  rw [h2]
  exact ⟨_, _, rfl, h⟩
theorem gt_dictk {d : D} (h : GE (mo ρ S) fun x S1 => GE (mi ρ S1) fun y S2 => ∃ n kvs k, x = .lr n ∧ S2[n]? = some (.dk kvs) ∧ kvs.length < szl ∧ keyOf y = some k ∧ QE ρ (S2.set n (.dk (putD kvs k d)))) : GE (mgDict mo mi d ρ S) QE :=
  ge_bind (h.mono fun x S1 h => ge_bind (h.mono fun y S2 ⟨n, kvs, k, e, h1, h2, h3, h4⟩ => by
    subst e
    show GE ((dput S2 n y d).map fun S' => (ρ, S')) QE
    have : dput S2 n y d = some (S2.set n (.dk (putD kvs k d))) := by
      unfold dput
      rw [h1]
      (try dsimp only)
      rw [if_pos h2, h3]
      rfl
    rw [this]
    exact ⟨_, _, rfl, h4⟩))
theorem gs_augS {f : DOp2} (h : GE (mo ρ S) fun x S1 => GE (mi ρ S1) fun y S2 => ∃ n k ds j old, x = .lr n ∧ y = .int k ∧ 0 ≤ k ∧ mat S2 n = some ds ∧ L2.ixN ds.length k = some j ∧ ds[j]? = some old ∧
    GE (m ρ S2) fun r S3 => GE (f old r S3) fun z S4 => ∃ ds', mat S4 n = some ds' ∧ ds'.length = ds.length ∧ QS .nx ρ (S4.set n (.lst (ds'.set j z)))) : GS (mAugS f mo mi m ρ S) QS :=
  gs_bind (h.mono fun x S1 h => gs_bind (h.mono fun y S2 ⟨n, k, ds, j, old, e1, e2, h0, h1, h2, h3, hh⟩ => by
    subst e1 e2
    show GS (augL f m n k ρ S2) QS
    unfold augL
    rw [if_pos h0, h1]
    show GS ((L2.ixN ds.length k).bind _) QS
    rw [h2]
    show GS ((ds[j]?).bind _) QS
    rw [h3]
    show GS ((m ρ S2).bind _) QS
    refine gs_bind (hh.mono fun r S3 hh => gs_bind (hh.mono fun z S4 ⟨ds', h4, h5, h6⟩ => ?_))
    show GS ((mat S4 n).bind _) QS
    rw [h4]
    show GS (if ds'.length = ds.length then some (.nx, ρ, S4.set n (.lst (ds'.set j z))) else none) QS
    rw [if_pos h5]
    exact gs_of h6))
end
theorem valD_put {κ : Type} [DecidableEq κ] {k j : κ} {d : D} : ∀ {kvs : List (κ × D)}, valD (putD kvs k d) j = if k = j then some d else valD kvs j := by
  have app : ∀ (kvs : List (κ × D)), valD (kvs ++ [(k, d)]) j = match valD kvs j with
      | some x => some x
      | none => if k = j then some d else none := fun kvs => by
    induction kvs with
    | nil => rw [List.nil_append, valD_cons]; rfl
    | cons p kvs ih =>
      rw [List.cons_append, valD_cons, valD_cons]
      by_cases h : p.1 = j
      · rw [if_pos h, if_pos h]
      · rw [if_neg h, if_neg h, ih]
  have mp : ∀ (kvs : List (κ × D)), valD (kvs.map fun kv => if kv.1 = k then (kv.1, d) else kv) j = if k = j then (valD kvs j).map (fun _ => d) else valD kvs j := fun kvs => by
    induction kvs with
    | nil => rw [List.map_nil, valD_nil]; split <;> rfl
    | cons p kvs ih =>
      rw [List.map_cons, valD_cons, valD_cons, ih]
      by_cases h1 : p.1 = k
      · rw [if_pos h1]
        by_cases h2 : k = j
        · rw [if_pos h2, if_pos h2, if_pos (h1.trans h2), if_pos (h1.trans h2)]; rfl
        · rw [if_neg h2, if_neg (show ¬ p.1 = j from fun z => h2 (h1.symm.trans z)), if_neg h2, if_neg (show ¬ p.1 = j from fun z => h2 (h1.symm.trans z))]
      · rw [if_neg h1]
        by_cases h2 : k = j
        · rw [if_pos h2, if_neg (show ¬ p.1 = j from fun z => h1 (z.trans h2.symm)), if_pos h2, if_neg (show ¬ p.1 = j from fun z => h1 (z.trans h2.symm))]
        · rw [if_neg h2, if_neg h2]
  have mem : ∀ (kvs : List (κ × D)), (kvs.map (·.1)).contains k = (valD kvs k).isSome := fun kvs => by
    induction kvs with
    | nil => rfl
    | cons p kvs ih =>
      rw [List.map_cons, List.contains_cons, valD_cons, ih]
      by_cases h : p.1 = k
      · rw [if_pos h, h, beq_self_eq_true]; rfl
      · rw [if_neg h, beq_eq_false_iff_ne.mpr fun z => h z.symm]; rfl
  intro kvs
  unfold putD
  rw [mem]
  split
  · rename_i h
    rw [mp]
    by_cases h2 : k = j
    · subst h2
      obtain ⟨x, hx⟩ := Option.isSome_iff_exists.mp h
      rw [if_pos rfl, if_pos rfl, hx]; rfl
    · rw [if_neg h2, if_neg h2]
  · rename_i h
    rw [app]
    by_cases h2 : k = j
    · subst h2
      have : valD kvs k = none := by
        cases hv : valD kvs k with
        | none => rfl
        | some x => rw [hv] at h; exact absurd rfl h
      rw [this, if_pos rfl]
    · rw [if_neg h2, if_neg h2]
      cases valD kvs j <;> rfl
/-- a loop that a turn may leave by a return -/
theorem gs_forR {ok : Store → Bool} {g : MTg} {b : MStm} {QS : Fl → Ev → Store → Prop} : ∀ (ds : List D) (Pv : Nat → Ev → Store → Prop) {ρ : Ev} {S : Store}, Pv 0 ρ S →
    (∀ i x ρ S, ds[i]? = some x → Pv i ρ S → ok S = true ∧ GE (g x ρ S) fun ρ1 S1 => GS (b ρ1 S1) fun f ρ2 S2 => match f with
      | .nx => Pv (i + 1) ρ2 S2
      | .ct => Pv (i + 1) ρ2 S2
      | .bk => QS .nx ρ2 S2
      | .rt d => QS (.rt d) ρ2 S2) →
    (∀ ρ S, Pv ds.length ρ S → ok S = true ∧ QS .nx ρ S) → GS (forL ok g b ds ρ S) QS
  | [], Pv, ρ, S, h0, _, he => by
    obtain ⟨h1, h2⟩ := he ρ S h0
    unfold forL
    rw [if_pos h1]
    exact gs_of h2
  | x :: r, Pv, ρ, S, h0, hs, he => by
    obtain ⟨h1, ρ1, S1, e1, f, ρ2, S2, e2, h2⟩ := hs 0 x ρ S rfl h0
    have again : ∀ ρ2 S2, Pv 1 ρ2 S2 → GS (forL ok g b r ρ2 S2) QS := fun ρ2 S2 hp =>
      gs_forR r (fun i => Pv (i + 1)) hp (fun i y ρ S hi hp => hs (i + 1) y ρ S (by simpa using hi) hp) (fun ρ S hp => he ρ S (by simpa using hp))
    unfold forL
    rw [if_pos h1, e1]
    show GS ((b ρ1 S1).bind _) QS
    rw [e2]
    cases f with
    | nx => exact again ρ2 S2 h2
    | ct => exact again ρ2 S2 h2
    | bk => exact gs_of h2
    | rt d => exact gs_of h2
end MS

set_option Elab.async false
set_option linter.all false
set_option maxRecDepth 100000
set_option maxHeartbeats 4000000
namespace MS
open PySem PySem.Spec PyProof.Rows L2

/-! ### {e for x in xs}, e an int -/
section
variable {X : Cx}
/-- k put into the set at a, once more -/
abbrev grownS (w : World) (a : Addr) (P : Int → Bool) (c : Nat) (k : Int) : HO := SetO w a (fun j => P j || decide (j = k)) (if P k = true then c else c + 1)
/-- what one turn of such a comprehension asks: target, test, then the element, which goes into the set at a -/
def scTurn (w : World) (g : TG) (tt : TT) (te : TE) (vs : List Nat) (a : Addr) (σ : L2.St) (Nx : Hp → Prop) (x : V) (H : Hp) : Prop :=
  g x (L2.wipe σ vs) H fun σ' G => L2.wipe σ' vs = L2.wipe σ vs ∧ tt σ' G fun b G' =>
    if b = true then te σ' G' fun y G'' => ∃ (k : Int) (P : Int → Bool) (c : Nat), y = .int k ∧ G'' a = some (SetO w a P c) ∧ c + 1 < scanBound ∧ Nx (upd G'' a (grownS w a P c k)) else Nx G'
def tScI (w : World) (wi : TI) (g : TG) (tt : TT) (te : TE) (vs : List Nat) : TE := fun σ H Q => wi σ H fun J G => ∀ a, G a = none →
  ∃ V' : Nat → Nat → Hp → Prop, (∃ m, V' 0 m (upd G a (SetO w a (fun _ => false) 0))) ∧ ∀ i m F, V' i m F →
    (J.stop i F ∧ Q (.ref a) F) ∨ (J.go i F ∧ ∃ Nx : Hp → Prop, (∀ F', Nx F' → ∃ m', m' < m ∧ V' (i + 1) m' F') ∧ ∀ x F', J.yld i F x F' → scTurn w g tt te vs a σ Nx x F')
theorem addI_ok {pins : List (Addr × Obj)} {σ : L2.St} {H : Hp} {s : Shared} {E : Value → Shared → Prop} {a : Addr} {P : Int → Bool} {c : Nat} {k : Int} {t : Tok} {Q : Value → Shared → Prop}
    (I : Inv X pins σ H s) (ha : H a = some (SetO X.w a P c)) (room : c + 1 < scanBound) (h : ∀ z, Inv X pins σ (upd H a (grownS X.w a P c k)) z → Q .none z) :
    wpAny (model X.prog X.w) X.A (call (.builtin "set.add") [.ref a, .int k t]) Q E s :=
  setR_add (setO_get I ha) room fun h' sb new =>
    have ex : ∃ u, h'.get? a = some u := let ⟨o, _, _, _, ho, _⟩ := new; ⟨o, ho⟩
    h _ (I.write (e := a) (t' := s.toks + 1) (by rw [ha]; trivial) (.inl rfl) (fun b _ hb hu => (sb.2 b hb).trans hu) ex (setO_new new))
/-- the block's context -/
abbrev blkX (X : Cx) (scope : Scope) (s : Shared) (H : Hp) (C : Addr) (cl : List (PySem.Str × Addr)) (fp : List Addr) : Cx := X.blk s H scope (compEnvC scope cl C X.env) fp
theorem pe_setComp {elt tg iter : Expr} {ifs : List Expr} {scope : Scope} {own : List (PySem.Str × Nat)} {pos : Pos} {wi : TI} {g : TG} {tt : TT} {te : TE}
    (calm : X.calm = true) (nodup : X.N.Nodup) (hi : PI X tg iter wi) (ok : BlkOk X.N X.env.scope scope own)
    (hg : ∀ s H C cl fp, PG (blkX X scope s H C cl fp) tg g) (ht : ∀ s H C cl fp, PTs (blkX X scope s H C cl fp) ifs tt) (he : ∀ s H C cl fp, PE (blkX X scope s H C cl fp) elt te)
    (plain : ∀ x, foldedSetIterable iter X.env x = pure x := by intro _; rfl) : PE X (.SetComp elt [⟨tg, iter, ifs, 0⟩] scope pos) (tScI X.w wi g tt te (own.map (·.2))) := by
  constructor
  intro pins s σ H Q I wish
  rw [PpSet.eval_SetComp]
  have closed : ∀ y ∈ scope.names, y.2 = .free → ∃ c, X.env.cells.lookup y.1 = some c := by
    intro y hy e
    exact (ok.free y hy e).elim (fun k => I.ok.has _ (.inl k)) fun k => I.ok.has _ (.inr k)
  refine wpAny_comprehension_free (use := none) rfl plain (closure_ok closed) ok.kind (fun y hy e => by rw [ok.uniq y hy, e]) ?_
  refine thn (hi.run pins s σ H _ I wish) fun _ z1 h1 => thn h1 fun _ z2 h2 => ?_
  obtain ⟨it, own', tn, J, G, rfl, I2, T, t2, free2, q⟩ := h2
  refine PpSet.newSet_ok (newEnv_comp ?_)
  -- the new, empty set stands at a
  generalize ea : z2.heap.objs.size = a
  have na : G a = none := I2.hok.fresh (Nat.le_of_eq ea)
  obtain ⟨V', ⟨m0, v0⟩, turns⟩ := q a na
  generalize ez3 : ({ z2 with heap := z2.heap.push { cls := .type "set", dict := none, data := .set #[] 0 (.fresh 0 0 (!X.w.params.followText "set-order")) } } : Shared) = z3
  have e3 : z3.heap = z2.heap.push { cls := .type "set", dict := none, data := .set #[] 0 (.fresh 0 0 (!X.w.params.followText "set-order")) } := by rw [← ez3]
  have up3 : ∀ b o, z2.heap.get? b = some o → z3.heap.get? b = some o := fun b o e => by rw [e3]; exact Heap.get?_push_of_some _ e
  have new3 : SetR X.w z3.heap a (fun _ => false) 0 := by
    have at3 : z3.heap.get? a = some { cls := .type "set", dict := none, data := .set #[] 0 (.fresh 0 0 (!X.w.params.followText "set-order")) } := by
      rw [e3, ← ea]
      exact Heap.get?_push_size _ rfl
    have := setR_new_at (w := X.w) (ns := []) at3
    exact this.congr fun j => by simp
  have I3 : Inv X pins σ (upd G a (SetO X.w a (fun _ => false) 0)) z3 := by
    have hz : z3 = { z2 with heap := z3.heap } := by rw [← ez3]
    rw [hz]
    exact I2.laid (t' := z2.toks) up3 (Nat.le_of_eq ea) (setO_new new3)
  have below : ∀ b ∈ own', b < z2.heap.objs.size := fun b hb => let ⟨_, e, _⟩ := T.obj _ _ t2 b hb; Heap.lt_size e
  have free3 : ∀ b ∈ own', FpOk X pins (upd G a (SetO X.w a (fun _ => false) 0)) b ∧ b < z3.heap.objs.size := by
    intro b hb
    have lt := below b hb
    constructor
    · refine ⟨?_, (free2 b hb).2⟩
      rw [upd_ne (fun z => by rw [z, ← ea] at lt; exact Nat.lt_irrefl _ lt)]
      exact (free2 b hb).1
    · rw [e3, Heap.size_push]
      exact Nat.lt_succ_of_lt lt
  have t3 : tn 0 z3.heap := T.keep _ _ _ t2 fun b _ o e => up3 b o e
  have I4 := block_start I3 ok nodup free3
  generalize eG3 : upd G a (SetO X.w a (fun _ => false) 0) = G3 at I3 I4 v0 free3
  generalize ecl : cellsFrom (z3.heap.objs.size + 1) scope.names (cloFrom X.env.cells scope.names []) = cl at I4
  have pg := hg z3 G3 z3.heap.objs.size cl own'
  have pt := ht z3 G3 z3.heap.objs.size cl own'
  have pe := he z3 G3 z3.heap.objs.size cl own'
  have none3 : ∀ b ∈ own', G3 b = none := fun b hb => (free3 b hb).1.1
  unfold blkX at pg pt pe
  show codeAny (model X.prog X.w) X.A (.compStart (.SetComp elt [⟨tg, iter, ifs, 0⟩] scope pos) 0 (.ref it) (.ref a) (compEnvC scope cl z3.heap.objs.size X.env)) (compPost (model X.prog X.w) X.A X.xe none (EP X pins σ Q) (.ref a) z3.heap.objs.size) _
  generalize ece : compEnvC scope cl z3.heap.objs.size X.env = ce at I4 pg pt pe ⊢
  have lce : ce.locals = z3.heap.objs.size := by subst ece; rfl
  generalize ez4 : ({ z3 with heap := pushCells (z3.heap.push { cls := .type "dict", data := .dict #[] }) scope.names } : Shared) = z4 at I4 ⊢
  have t4 : tn 0 z4.heap := T.keep _ _ _ t3 fun b _ o e => by rw [← ez4]; exact pushCells_keeps _ _ _ _ (Heap.get?_push_of_some _ e)
  generalize eB : X.blk z3 G3 scope ce own' = B at I4 pg pt pe
  have Bf : B.prog = X.prog ∧ B.w = X.w ∧ B.K = X.K ∧ B.calm = true ∧ B.A = X.A := by subst eB; exact ⟨rfl, rfl, rfl, calm, rfl⟩
  have loop : codeAny (model X.prog X.w) X.A (.compLoop (.SetComp elt [⟨tg, iter, ifs, 0⟩] scope pos) 0 (.ref it) (.ref a) ce) (compPost (model X.prog X.w) X.A X.xe none (EP X pins σ Q) (.ref a) z3.heap.objs.size) z4 := by
    refine PpSet.compLoopS_any (fun n z => ∃ i F, Inv B [] (L2.wipe σ (own.map (·.2))) F z ∧ tn i z.heap ∧ (∀ b ∈ own', F b = none) ∧ V' i n F) ?_ m0 ⟨0, G3, I4, t4, none3, v0⟩
    rintro n z5 ⟨i, F5, I5, t5, none5, v5⟩
    have loose : ∀ {σ' : L2.St} {F : Hp} {z : Shared}, Inv B [] σ' F z → (∀ b ∈ own', F b = none) → ∀ b ∈ own', FpOk B [] F b := by
      subst eB
      intro σ' F z I' hn b hb
      exact ⟨hn b hb, (I'.ok.exf b hb).1, I'.ok.exfs b hb, .inl hb, fun x c e => (I'.ok.exf b hb).2 x c e, fun p hp => absurd (show p ∈ ([] : List (Addr × Obj)) ++ [] from hp) (by simp)⟩
    rcases turns i n F5 v5 with ⟨stop, fine⟩ | ⟨go, Nx, next, step⟩
    · have done := T.done B Bf.1 Bf.2.1 Bf.2.2.1 Bf.2.2.2.1 i [] z5 _ F5 (fun _ _ => False) I5 (loose I5 none5) t5 stop
      subst eB
      refine thnF done fun r z6 ⟨er, I6⟩ => ?_
      subst er
      have I7 : Inv X pins σ F5 z6 := I3.call' (ch := own') I6.os I6.base I6.hok I6.bare fun b hb =>
        have f := (free3 b hb).1
        ⟨f.2.2.2.1, f.2.1, f.2.2.2.2.1, f.2.2.2.2.2⟩
      obtain ⟨m, hn, _⟩ := I6.loc
      have hn : z6.heap.Ns z3.heap.objs.size m := by rw [← lce]; exact hn
      have nl : F5 z3.heap.objs.size = none := by rw [← lce]; exact I6.free
      obtain ⟨f0, f1, f2, f3, f4, f5⟩ := I3.fpOk (Nat.le_refl _) nl
      exact ⟨m, hn, fun h'' sb => ⟨.ref a, F5, I7.turned (t' := z6.toks) (fun b o hb e => (sb.2 b hb).trans e) f0 f1 f3 f4 f5, rfl, fine⟩⟩
    · have item := T.item B Bf.1 Bf.2.1 Bf.2.2.1 Bf.2.2.2.1 i [] z5 _ F5 (fun _ _ => False) I5 (loose I5 none5) t5 go
      have loose' := @loose
      clear loose
      subst eB
      refine thnF item fun r z6 ⟨u, er, h6⟩ => ?_
      subst er
      refine thnF h6 fun _ z7 ⟨x, F7, I7, r7, y7, t7, none7⟩ => ?_
      have pinned := I7.pinned (loose' I7 none7) (T.obj _ _ t7)
      refine thnF (pg.run _ z7 _ F7 x u _ pinned r7 (step x F7 y7)) fun _ z8 ⟨σ8, F8, I8, same, q8⟩ => ?_
      refine thnF (pt.run _ z8 σ8 F8 _ I8 q8) fun b z9 ⟨F9, I9, q9⟩ => ?_
      have onward : ∀ {z : Shared} {F : Hp}, Inv (X.blk z3 G3 scope ce own') ([] ++ pinsAt own' z7.heap) σ8 F z → Nx F →
          ∃ m, m < n ∧ ∃ i F, Inv (X.blk z3 G3 scope ce own') [] (L2.wipe σ (own.map (·.2))) F z ∧ tn i z.heap ∧ (∀ b ∈ own', F b = none) ∧ V' i m F := by
        intro z F I' nx
        obtain ⟨m', lt, v'⟩ := next F nx
        have still : ∀ b ∈ own', ∀ o, z7.heap.get? b = some o → z.heap.get? b = some o ∧ F b = none := fun b hb o e => by
          have w := I'.pin (b, o) (List.mem_append_right _ (List.mem_append_right _ (mem_pinsAt hb e)))
          exact ⟨w.1, w.2.1⟩
        have len8 : (L2.wipe σ (own.map (·.2))).length = σ8.length := by rw [← same, wipe_length]
        refine ⟨m', lt, i + 1, F, (I'.unpinned (pins := [])).weak len8 (fun j v e => ?_), T.keep _ _ _ t7 fun b hb o e => (still b hb o e).1, fun b hb => ?_, v'⟩
        · rw [← same] at e
          exact (wipe_some e).1
        · obtain ⟨o, e, _⟩ := T.obj _ _ t7 b hb
          exact (still b hb o e).2
      cases b with
      | false =>
        simp only [Bool.false_eq_true, if_false] at q9 ⊢
        exact onward I9 q9
      | true =>
        simp only [if_true] at q9 ⊢
        refine thnF (pe.run _ z9 σ8 F9 _ I9 q9) fun y z10 ⟨yv, F10, I10, r10, k, P, c, ey, at10, room, nx⟩ => ?_
        subst ey
        obtain ⟨t, rfl⟩ := r10
        exact addI_ok (X := X.blk z3 G3 scope ce own') I10 at10 room fun z11 I11 => onward I11 nx
  exact PpSet.codeAny_compStart_set loop (T.self X.A 0 _ _ _ t4 loop)
end
end MS

set_option Elab.async false
set_option linter.all false
set_option maxRecDepth 100000
set_option maxHeartbeats 4000000
namespace MS
open PySem PySem.Spec PyProof.Rows L2

/-! ### sorted({e for x in xs}), e an int -/
/-! a thing of no reading changed -/
section
variable {K : PySem.W.Frag} {H H' : Hp} {μ : List Addr}
mutual
theorem Rp.keepT (k : ∀ b xs, H b = some (.tup xs) → H' b = some (.tup xs)) : ∀ {d : D} {v : V}, Rp K H μ v d → Rp K H' μ v d
  | .non, _, h => by cases h; exact .non
  | .bl _, _, h => by cases h; exact .bl _
  | .int _, _, h => by cases h; exact .int _
  | .str _, _, h => by cases h; exact .str _
  | .tup _, _, h => by
    cases h with
    | tup h1 h2 => exact .tup (k _ _ h1) (RpA.keepT k h2)
  | .lr _, _, h => by
    cases h with
    | lr h1 => exact .lr h1
theorem RpA.keepT (k : ∀ b xs, H b = some (.tup xs) → H' b = some (.tup xs)) : ∀ {ds : List D} {vs : List V}, RpA K H μ vs ds → RpA K H' μ vs ds
  | [], _, h => by cases h; exact .nil
  | _ :: _, _, h => by
    cases h with
    | cons h1 h2 => exact .cons (Rp.keepT k h1) (RpA.keepT k h2)
end
theorem StR.keepX {S : Store} {a : Addr} {φ : Heap → Prop} {u : HO} (s : StR K H μ S) (h : H a = some (.ext φ)) : StR K (upd H a u) μ S := by
  have ne : ∀ {b : Addr} {o : HO}, H b = some o → (∀ ψ, o ≠ .ext ψ) → b ≠ a := fun e n z => by
    subst z
    rw [h] at e
    cases e
    exact n _ rfl
  have kt : ∀ b xs, H b = some (.tup xs) → (upd H a u) b = some (.tup xs) := fun b xs e => by rw [upd_ne (ne e fun _ z => nomatch z)]; exact e
  refine ⟨s.len, s.nd, fun n mo b e1 e2 => ?_⟩
  have q := s.at_ n mo b e1 e2
  cases mo with
  | lst ds => obtain ⟨vs, h1, h2⟩ := q; exact ⟨vs, by rw [upd_ne (ne h1 fun _ z => nomatch z)]; exact h1, h2.keepT kt⟩
  | fz ds =>
    obtain ⟨vs, h1, h2⟩ := q
    refine ⟨vs, ?_, h2.keepT kt⟩
    rcases h1 with ⟨o, h1⟩ | h1
    · exact .inl ⟨o, by rw [upd_ne (ne h1 fun _ z => nomatch z)]; exact h1⟩
    · exact .inr h1
  | dk kvs => obtain ⟨kws, h1, h2, h3⟩ := q; exact ⟨kws, by rw [upd_ne (ne h1 fun _ z => nomatch z)]; exact h1, h2, h3.keepT kt⟩
  | dt kvs => obtain ⟨kws, h1, h2, h3⟩ := q; exact ⟨kws, by rw [upd_ne (ne h1 fun _ z => nomatch z)]; exact h1, h2, h3.keepT kt⟩
end
def scL (ok : Store → Bool) (g : MTg) (t : MTst) (e : MExp) (ρw : Ev) : List D → List Int → Store → Option (List Int × Store)
  | [], acc, S => if ok S then some (acc, S) else none
  | x :: r, acc, S => if ok S then (g x ρw S).bind fun p => (t p.1 p.2).bind fun k => if k.1 then (e p.1 k.2).bind fun y => match y.1 with
      | .int z => if acc.length < 60 then scL ok g t e ρw r (acc ++ [z]) y.2 else none
      | _ => none
    else scL ok g t e ρw r acc k.2 else none
def mSortComp (i : MItr) (g : MTg) (t : MTst) (e : MExp) (vs : List Nat) : MExp := fun ρ S => (i ρ S).bind fun p =>
  (scL p.1.2 g t e (wipeD ρ vs) p.1.1 [] p.2).bind fun r => some (.lr r.2.length, r.2 ++ [.lst ((sortU r.1).map D.int)])
/-- the set of some ints -/
abbrev setOf (w : World) (a : Addr) (acc : List Int) (c : Nat) : HO := SetO w a (fun j => decide (j ∈ acc)) c
theorem grown_setOf {w : World} {a : Addr} {acc : List Int} {c : Nat} {z : Int} : ∃ c', (c' ≤ c + 1) ∧ grownS w a (fun j => decide (j ∈ acc)) c z = setOf w a (acc ++ [z]) c' := by
  refine ⟨if decide (z ∈ acc) = true then c else c + 1, by split <;> omega, ?_⟩
  unfold grownS setOf
  congr 1
  funext j
  simp [List.mem_append]
theorem tE_sortComp {X : Cx} {i : MItr} {g : MTg} {t : MTst} {e : MExp} {vs is : List Nat} {σ : L2.St} {H : Hp} {Q : VK} (hv : ∀ j ∈ is, j ∈ vs) (h : tE X.K (mSortComp i g t e vs) σ H Q) :
    tScI X.w (tI X.K i) (tGl X.K is g) (tT X.K t) (tE X.K e) vs σ H (fun v H1 => rSortedSet X.w [v] H1 Q) := by
  obtain ⟨ρ, S, μ, d, S', st, e0, q⟩ := h
  obtain ⟨⟨⟨ds, ok⟩, S1⟩, e1, e0⟩ := Option.bind_eq_some_iff.mp e0
  obtain ⟨⟨fin, S9⟩, e9, e0⟩ := Option.bind_eq_some_iff.mp e0
  cases e0
  refine ⟨ρ, S, μ, (ds, ok), S1, st, e1, fun J H1 μ1 g1 s1 hJ A hA => ?_⟩
  have st1 : Sim X.K H1 μ1 σ ρ S1 := st.grow g1 s1
  have gA : Grow H1 (upd H1 A (setOf X.w A [] 0)) μ1 μ1 := .new hA
  have sA : StR X.K (upd H1 A (setOf X.w A [] 0)) μ1 S1 := s1.new hA
  have e00 : SetO X.w A (fun _ => false) 0 = setOf X.w A [] 0 := by unfold setOf; congr 1
  rw [e00]
  refine ⟨fun k m F => m = ds.length - k ∧ k ≤ ds.length ∧ ∃ S μ acc c, StR X.K F μ S ∧ Grow H1 F μ1 μ ∧ F A = some (setOf X.w A acc c) ∧ c ≤ acc.length ∧ acc.length ≤ 60 ∧ scL ok g t e (wipeD ρ vs) (ds.drop k) acc S = some (fin, S9),
    ⟨ds.length, by omega, by omega, _, _, [], 0, sA, gA, upd_same, Nat.le_refl _, Nat.zero_le _, e9⟩, ?_⟩
  rintro k m F ⟨rfl, hk, S2, μ2, acc, c, s2, g2, hF, hca, hac, e2⟩
  have w2 : Sim X.K F μ2 (L2.wipe σ vs) (wipeD ρ vs) S2 := (st1.wipe vs).grow g2 s2
  by_cases hlt : k < ds.length
  · rw [List.drop_eq_getElem_cons hlt] at e2
    unfold scL at e2
    split at e2
    · rename_i hok
      obtain ⟨⟨ρ3, S3⟩, e3, e2⟩ := Option.bind_eq_some_iff.mp e2
      obtain ⟨⟨k4, S4⟩, e4, e2⟩ := Option.bind_eq_some_iff.mp e2
      refine .inr ⟨hJ.go k F μ2 S2 g2 s2 hok hlt, fun F' => ∃ S μ acc c, StR X.K F' μ S ∧ Grow H1 F' μ1 μ ∧ F' A = some (setOf X.w A acc c) ∧ c ≤ acc.length ∧ acc.length ≤ 60 ∧ scL ok g t e (wipeD ρ vs) (ds.drop (k + 1)) acc S = some (fin, S9),
        fun F' hN => ⟨ds.length - (k + 1), by omega, rfl, hlt, hN⟩, fun x F' y => ?_⟩
      obtain ⟨g3, s3, r3⟩ := hJ.yld k F μ2 S2 x F' g2 s2 hok y ds[k] (List.getElem?_eq_getElem hlt)
      refine ⟨ds[k], wipeD ρ vs, S2, μ2, ρ3, S3, w2.grow g3 s3, r3, e3, fun σ4 H4 μ4 g4 st4 l4 k4' => ?_⟩
      refine ⟨?_, ρ3, S3, μ4, k4, S4, st4, e4, fun H5 μ5 g5 s5 => ?_⟩
      · rw [wipe_same l4 fun j hj => k4' j fun z => hj (hv j z), wipe_wipe]
      · have gs := (g3.trans g4).trans g5
        cases k4 with
        | false => exact iteF ⟨S4, μ5, acc, c, s5, g2.trans gs, gs.exts _ _ hF, hca, hac, e2⟩
        | true =>
          obtain ⟨⟨y6, S6⟩, e6, e2⟩ := Option.bind_eq_some_iff.mp (show ((e ρ3 S4).bind fun y => (match y.1 with
            | .int z => if acc.length < 60 then scL ok g t e (wipeD ρ vs) (ds.drop (k + 1)) (acc ++ [z]) y.2 else none
            | _ => none)) = some (fin, S9) from e2)
          refine iteT ⟨ρ3, S4, μ5, y6, S6, st4.grow g5 s5, e6, fun v H6 μ6 g6 s6 r6 => ?_⟩
          cases y6 with
          | int z =>
            have e2 : (if acc.length < 60 then scL ok g t e (wipeD ρ vs) (ds.drop (k + 1)) (acc ++ [z]) S6 else none) = some (fin, S9) := e2
            split at e2
            · rename_i hz
              cases r6
              have g26 := g2.trans (gs.trans g6)
              have h6 := (gs.trans g6).exts _ _ hF
              obtain ⟨c', hc', eg⟩ := grown_setOf (w := X.w) (a := A) (acc := acc) (c := c) (z := z)
              refine ⟨z, _, c, rfl, h6, by show c + 1 < scanBound; unfold scanBound; omega, S6, μ6, acc ++ [z], c', ?_, ?_, ?_, by rw [List.length_append, List.length_singleton]; omega, by rw [List.length_append, List.length_singleton]; omega, e2⟩
              · exact s6.keepX h6
              · have nA : ∀ {b : Addr} {o : HO}, H1 b = some o → b ≠ A := fun e z => by subst z; rw [hA] at e; cases e
                exact ⟨fun a xs h => by rw [upd_ne (nA h)]; exact g26.tups _ _ h, fun a o u h => by rw [upd_ne (nA h)]; exact g26.frzs _ _ _ h, fun a φ h => by rw [upd_ne (nA h)]; exact g26.exts _ _ h, g26.pre⟩
              · rw [eg]; exact upd_same
            · cases e2
          | _ => cases e2
    · cases e2
  · have ei : k = ds.length := by omega
    subst ei
    rw [List.drop_length] at e2
    unfold scL at e2
    split at e2
    · rename_i hok
      cases e2
      refine .inl ⟨hJ.stop F μ2 _ g2 s2 hok, A, _, c, rfl, hF, by omega, fun ns p hs hm _ hp => ?_⟩
      have en : ns = sortU fin := rising_ext hs (sortU_sorted fin) fun z => by rw [hm z, mem_sortU, decide_eq_true_eq]
      subst en
      exact q (.ref p) _ (μ2 ++ [p]) ((g1.trans g2).trans (.newL hp)) (s2.newL hp RpA.ints) (.lr (by rw [← s2.len, List.getElem?_concat_length]))
    · cases e2
section
variable {X : Cx} {elt tg iter : Expr} {ifs : List Expr} {scope : Scope} {own : List (Str × Nat)} {pos q : Pos} {i : MItr} {g : MTg} {t : MTst} {e : MExp} {is : List Nat}
theorem me_sortComp {p : Pos} (hc : X.calm = true) (hN : X.N.Nodup) (hgl : Gl X "sorted") (hm : X.mg "sorted" = none) (hi : MI X tg iter i) (ok : BlkOk X.N X.env.scope scope own)
    (hg : ∀ s H C cl fp, MGl (blkX X scope s H C cl fp) is tg g) (ht : ∀ s H C cl fp, MTs (blkX X scope s H C cl fp) ifs t) (he : ∀ s H C cl fp, ME (blkX X scope s H C cl fp) elt e) (hv : ∀ j ∈ is, j ∈ own.map (·.2))
    (hs : ∀ x, foldedSetIterable iter X.env x = pure x := by intro _; rfl)
    (hs1 : starEach [.SetComp elt [⟨tg, iter, ifs, 0⟩] scope pos] X.env = (false, eval (.SetComp elt [⟨tg, iter, ifs, 0⟩] scope pos) X.env) :: starEach [] X.env := by rfl) :
    ME X (.Call (.Name "sorted" p) [.SetComp elt [⟨tg, iter, ifs, 0⟩] scope pos] [] q) (mSortComp i g t e (own.map (·.2))) :=
  ⟨PE.imp (pe_callB (cr_sortedSet hc) hgl hm (show bootBuiltins "sorted" = some (.builtin "sorted") by decide +kernel)
      (pa_cons (pe_setComp (wi := tI X.K i) (g := tGl X.K is g) (tt := tT X.K t) (te := tE X.K e) hc hN hi.pi ok (fun s H C cl fp => (hg s H C cl fp).pg) (fun s H C cl fp => (ht s H C cl fp).pts) (fun s H C cl fp => (he s H C cl fp).pe) hs) pa_nil hs1) (by decide) (by decide) hs1 (by rfl)) fun σ H Q h => by
    exact tE_sortComp (X := X) hv h⟩
end
end MS

set_option Elab.async false
set_option linter.all false
set_option maxRecDepth 100000
set_option maxHeartbeats 4000000
namespace MS
open PySem PySem.Spec PyProof.Rows L2
/-! ### sorted(xs), a list of ints -/
def insI (x : Int) : List Int → List Int
  | [] => [x]
  | y :: l => if x ≤ y then x :: y :: l else y :: insI x l
def sortI (ns : List Int) : List Int := ns.foldr insI []
theorem insI_perm {x : Int} : ∀ {l : List Int}, (insI x l).Perm (x :: l)
  | [] => .refl _
  | y :: l => by
    unfold insI
    split
    · exact .refl _
    · exact (List.Perm.cons y insI_perm).trans (.swap x y l)
theorem sortI_perm : ∀ (ns : List Int), (sortI ns).Perm ns
  | [] => .refl _
  | x :: ns => insI_perm.trans ((sortI_perm ns).cons x)
theorem insI_sorted {x : Int} : ∀ {l : List Int}, l.Pairwise (· ≤ ·) → (insI x l).Pairwise (· ≤ ·)
  | [], _ => by simp [insI]
  | y :: l, h => by
    obtain ⟨h1, h2⟩ := List.pairwise_cons.mp h
    unfold insI
    split
    · rename_i hx
      refine List.pairwise_cons.mpr ⟨fun z hz => ?_, h⟩
      rcases List.mem_cons.mp hz with rfl | hz
      · exact hx
      · exact Int.le_trans hx (h1 z hz)
    · refine List.pairwise_cons.mpr ⟨fun z hz => ?_, insI_sorted h2⟩
      rcases List.mem_cons.mp (insI_perm.mem_iff.mp hz) with rfl | hz
      · omega
      · exact h1 z hz
theorem sortI_sorted : ∀ (ns : List Int), (sortI ns).Pairwise (· ≤ ·)
  | [] => .nil
  | x :: ns => insI_sorted (sortI_sorted ns)
theorem sorted_one : ∀ {l m : List Int}, l.Perm m → l.Pairwise (· ≤ ·) → m.Pairwise (· ≤ ·) → l = m
  | [], m, h, _, _ => (List.Perm.nil_eq h)
  | a :: l, [], h, _, _ => absurd h.length_eq (by simp)
  | a :: l, b :: m, h, hl, hm => by
    obtain ⟨l1, l2⟩ := List.pairwise_cons.mp hl
    obtain ⟨m1, m2⟩ := List.pairwise_cons.mp hm
    have e : a = b := by
      rcases List.mem_cons.mp (h.mem_iff.mp List.mem_cons_self) with e | ha
      · exact e
      · rcases List.mem_cons.mp (h.mem_iff.mpr List.mem_cons_self) with e | hb
        · exact e.symm
        · have := l1 b hb
          have := m1 a ha
          omega
    subst e
    rw [sorted_one ((List.perm_cons a).mp h) l2 m2]
def cSorted : DCall := fun ds S => match ds with
  | [.lr n] => (lat S n).bind fun es => (intsOf es).map fun ns => (.lr S.length, S ++ [.lst ((sortI ns).map D.int)])
  | _ => none
theorem boot_sorted : bootBuiltins "sorted" = some (.builtin "sorted") := by decide +kernel
theorem c_sorted {X : Cx} : CallR X (.builtin "sorted") (rCM X.K cSorted) := CallR.imp cr_sortedI fun vs H Q ⟨S, μ, ds, d, S', s, r, e, q⟩ => by
  unfold cSorted at e
  split at e
  · obtain ⟨es, e1, e⟩ := Option.bind_eq_some_iff.mp e
    obtain ⟨ns, e2, e⟩ := Option.map_eq_some_iff.mp e
    cases e
    match vs, r with
    | _, .cons r1 .nil =>
      obtain ⟨a, ws, rfl, h1, h2⟩ := s.lat e1 r1
      rw [intsOf_rp e2 h2] at h1
      refine ⟨a, ns, rfl, h1, fun ns' p hp hs hn => ?_⟩
      have en : ns' = sortI ns := sorted_one (hp.trans (sortI_perm ns).symm) hs (sortI_sorted ns)
      subst en
      exact q.lst s RpA.ints hn
  · cases e
theorem ge_sorted {S : Store} {Q : D → Store → Prop} {n : Nat} {ns : List Int} (h1 : lat S n = some (ns.map D.int)) (h : Q (.lr S.length) (S ++ [.lst ((sortI ns).map D.int)])) : GE (cSorted [.lr n] S) Q := by
  show GE ((lat S n).bind fun es => (intsOf es).map fun ns => (D.lr S.length, S ++ [.lst ((sortI ns).map D.int)])) Q
  rw [h1]
  show GE ((intsOf (ns.map D.int)).map fun ns => (D.lr S.length, S ++ [.lst ((sortI ns).map D.int)])) Q
  rw [intsOf_map]
  exact ⟨_, _, rfl, h⟩
/-! ### sorted({..}) run forward -/
theorem ge_sortComp {ρ : Ev} {S : Store} {Q : D → Store → Prop} {i : MItr} {g : MTg} {t : MTst} {e : MExp} {vs : List Nat} (h : GE (i ρ S) fun p S1 => ∃ acc S2, scL p.2 g t e (wipeD ρ vs) p.1 [] S1 = some (acc, S2) ∧ Q (.lr S2.length) (S2 ++ [.lst ((sortU acc).map D.int)])) : GE (mSortComp i g t e vs ρ S) Q :=
  ge_bind (h.mono fun p S1 ⟨acc, S2, e1, h⟩ => ⟨_, _, by show (scL p.2 g t e (wipeD ρ vs) p.1 [] S1).bind _ = _; rw [e1]; rfl, h⟩)
theorem sc_by {ok : Store → Bool} {g : MTg} {t : MTst} {e : MExp} {ρw : Ev} : ∀ (ds : List D) (Pv : Nat → List Int → Store → Prop) (acc : List Int) (S : Store), Pv 0 acc S →
    (∀ i x acc S, ds[i]? = some x → Pv i acc S → ok S = true ∧ GE (g x ρw S) fun ρ1 S1 => GE (t ρ1 S1) fun c S2 =>
      (c = true → acc.length < 60 ∧ GE (e ρ1 S2) fun y S3 => ∃ z, y = .int z ∧ Pv (i + 1) (acc ++ [z]) S3) ∧ (c = false → Pv (i + 1) acc S2)) →
    (∀ acc S, Pv ds.length acc S → ok S = true) → ∃ acc' S', scL ok g t e ρw ds acc S = some (acc', S') ∧ Pv ds.length acc' S'
  | [], Pv, acc, S, h0, _, he => ⟨acc, S, by unfold scL; rw [if_pos (he acc S h0)], h0⟩
  | x :: r, Pv, acc, S, h0, hs, he => by
    obtain ⟨hok, ρ1, S1, e1, c, S2, e2, h1, h2⟩ := hs 0 x acc S rfl h0
    have again : ∀ acc S, Pv 1 acc S → ∃ acc' S', scL ok g t e ρw r acc S = some (acc', S') ∧ Pv (r.length + 1) acc' S' := fun acc S hp =>
      sc_by r (fun i => Pv (i + 1)) acc S hp (fun i y acc S hi hp => hs (i + 1) y acc S (by simpa using hi) hp) (fun acc S hp => he acc S (by simpa using hp))
    cases c with
    | true =>
      obtain ⟨hz, y, S3, e3, z, rfl, hp⟩ := h1 rfl
      obtain ⟨acc', S', e4, hp'⟩ := again _ _ hp
      refine ⟨acc', S', ?_, hp'⟩
      unfold scL
      rw [if_pos hok, e1]
      show ((t ρ1 S1).bind _) = _
      rw [e2]
      show ((e ρ1 S2).bind _) = _
      rw [e3]
      show (if acc.length < 60 then scL ok g t e ρw r (acc ++ [z]) S3 else none) = _
      rw [if_pos hz]
      exact e4
    | false =>
      obtain ⟨acc', S', e4, hp'⟩ := again _ _ (h2 rfl)
      refine ⟨acc', S', ?_, hp'⟩
      unfold scL
      rw [if_pos hok, e1]
      show ((t ρ1 S1).bind _) = _
      rw [e2]
      exact e4
end MS

set_option Elab.async false
set_option linter.all false
set_option maxRecDepth 100000
set_option maxHeartbeats 4000000
namespace Law
open PySem PySem.Spec PyProof.Rows L2 MS
abbrev N_law_pen : List Str := ["script"]
def M_law_pen : MStm :=
  (mRet (mLst (mCons (mCall cList (mCons (mSl (mVar 0) mNoPart (mPart (mC (.int 63)))) mNil)) (mCons (mC (.int 0)) (mCons (mC (.int 0)) mNil)))))
def F_law_pen : DCall := den 1 1 M_law_pen
-- level 1, params ['script'], calls []

abbrev N_law_fresh : List Str := ["pen", "cell", "prime", "state", "found", "lap", "seat", "given"]
def M_law_fresh : MStm :=
  (mSeq (mPar 6 7 (mCons (mBin fIx (mVar 0) (mC (.int 1))) (mCons (mBin fIx (mVar 0) (mC (.int 0))) mNil)))
    (mSeq (mAsg (mBin fAdd (mVar 6) (mC (.int 1))) (mgSub (mVar 0) (mC (.int 1))))
    (mSeq (mAsg (mIf (mB (mBin fNe (mVar 7) (mLst mNil))) (mBin fIx (mVar 7) (mBin fMod (mCall cInt (mCons (mVar 6) mNil)) (mCall cLen (mCons (mVar 7) mNil)))) (mC (.int 0))) (mName 1))
    (mSeq (mIfS (mAnd (mB (mBin fLt (mVar 6) (mCall cLen (mCons (mVar 7) mNil)))) (mB (mBin fGe (mVar 1) (mBin fPow (mC (.int 10)) (mC (.int 18)))))) (mRet (mBin fSub (mVar 1) (mBin fPow (mC (.int 10)) (mC (.int 18))))) mNx)
    (mSeq (mAsg (mC (.int 2305843009213693951)) (mName 2))
    (mSeq (mAsg (mBin fMod (mCall cInt (mCons (mBin fAdd (mBin fAdd (mBin fMul (mVar 1) (mC (.int 48271))) (mBin fMul (mC (.int 60013)) (mVar 6))) (mC (.int 31))) mNil)) (mVar 2)) (mName 3))
    (mSeq (mAsg (mVar 3) (mName 4))
    (mSeq (mFor (mRange1 (mCons (mC (.int 6)) mNil)) (mName 5) (mSeq (mAsg (mBin fMod (mCall cInt (mCons (mBin fAdd (mBin fAdd (mBin fMul (mVar 3) (mVar 3)) (mBin fMul (mBin fMul (mC (.int 70139)) (mBin fAdd (mVar 5) (mC (.int 5)))) (mBin fAdd (mVar 6) (mC (.int 1))))) (mVar 1)) mNil)) (mVar 2)) (mName 3))
    (mAsg (mBin fAdd (mBin fMul (mVar 4) (mVar 2)) (mVar 3)) (mName 4))))
    (mRet (mVar 4))))))))))
def F_law_fresh : DCall := den 1 8 M_law_fresh
-- level 1, params ['pen'], calls []

abbrev N_law_draw : List Str := ["pen", "bound", "digit"]
def M_law_draw : MStm :=
  (mSeq (mIfS (mB (mBin fLt (mBin fIx (mVar 0) (mC (.int 2))) (mVar 1))) (mAsg (mCall F_law_fresh (mCons (mVar 0) mNil)) (mgSub (mVar 0) (mC (.int 2)))) mNx)
    (mSeq (mAsg (mBin fMod (mCall cInt (mCons (mBin fIx (mVar 0) (mC (.int 2))) mNil)) (mVar 1)) (mName 2))
    (mSeq (mAsg (mBin fDiv (mCall cInt (mCons (mBin fIx (mVar 0) (mC (.int 2))) mNil)) (mVar 1)) (mgSub (mVar 0) (mC (.int 2))))
    (mRet (mVar 2)))))
def F_law_draw : DCall := den 2 3 M_law_draw
-- level 2, params ['pen', 'bound'], calls ['_law_fresh']

abbrev N_law_one_of : List Str := ["pen", "some"]
def M_law_one_of : MStm :=
  (mRet (mBin fIx (mVar 1) (mCall F_law_draw (mCons (mVar 0) (mCons (mCall cLen (mCons (mVar 1) mNil)) mNil)))))
def F_law_one_of : DCall := den 2 2 M_law_one_of
-- level 3, params ['pen', 'some'], calls ['_law_draw']

abbrev N_law_two_places : List Str := ["pen", "places", "one"]
def M_law_two_places : MStm :=
  (mSeq (mAsg (mCall F_law_draw (mCons (mVar 0) (mCons (mVar 1) mNil))) (mName 2))
    (mRet (mTup (mCons (mVar 2) (mCons (mBin fMod (mCall cInt (mCons (mBin fAdd (mBin fAdd (mVar 2) (mC (.int 1))) (mCall F_law_draw (mCons (mVar 0) (mCons (mBin fSub (mVar 1) (mC (.int 1))) mNil)))) mNil)) (mVar 1)) mNil)))))
def F_law_two_places : DCall := den 2 3 M_law_two_places
-- level 3, params ['pen', 'places'], calls ['_law_draw']

abbrev N_law_mine : List Str := ["pen", "most", "many", "places", "x", "lap", "ways", "pair", "inlet", "outlet"]
def M_law_mine : MStm :=
  (mSeq (mAsg (mCall F_law_one_of (mCons (mVar 0) (mCons (mLst (mCons (mC (.int 2)) (mCons (mC (.int 3)) (mCons (mVar 1) (mCons (mVar 1) (mCons (mBin fAdd (mC (.int 2)) (mCall F_law_draw (mCons (mVar 0) (mCons (mBin fSub (mVar 1) (mC (.int 1))) mNil)))) mNil)))))) mNil))) (mName 3))
    (mSeq (mPar 3 6 (mCons (mCall cMin (mCons (mVar 3) (mCons (mBin fAdd (mVar 2) (mC (.int 1))) mNil))) (mCons (mLst mNil) mNil)))
    (mSeq (mFor (mRange2 (mCons (mC (.int 1)) (mCons (mVar 3) mNil))) (mName 4) (mSeq (mAsg (mTup (mCons (mVar 4) (mCons (mCall F_law_draw (mCons (mVar 0) (mCons (mVar 4) mNil))) mNil))) (mName 7))
    (mDrop (mApp (mVar 6) (mCons (mIf (mB (mBin fEq (mCall F_law_draw (mCons (mVar 0) (mCons (mC (.int 2)) mNil))) (mC (.int 0)))) (mVar 7) (mRevT (mVar 7))) mNil)))))
    (mSeq (mFor (mRange1 (mCons (mCall F_law_draw (mCons (mVar 0) (mCons (mBin fAdd (mBin fSub (mVar 2) (mCall cLen (mCons (mVar 6) mNil))) (mC (.int 1))) mNil))) mNil)) (mName 5) (mDrop (mApp (mVar 6) (mCons (mCall F_law_two_places (mCons (mVar 0) (mCons (mVar 3) mNil))) mNil))))
    (mSeq (mAsg (mCall F_law_two_places (mCons (mVar 0) (mCons (mVar 3) mNil))) (mgTup (mgCons (mName 8) (mgCons (mName 9) mgNil)) 2))
    (mRet (mTup (mCons (mVar 3) (mCons (mCall cTuple (mCons (mVar 6) mNil)) (mCons (mVar 8) (mCons (mVar 9) mNil)))))))))))
def F_law_mine : DCall := den 3 10 M_law_mine
-- level 4, params ['pen', 'most', 'many'], calls ['_law_draw', '_law_one_of', '_law_two_places']
end Law

set_option Elab.async false
set_option linter.all false
set_option maxRecDepth 100000
set_option maxHeartbeats 4000000
namespace Law
open PySem PySem.Spec PyProof.Rows L2 MS
theorem at0 {α : Type} {a : α} {l : List α} : L2.atI (a :: l) 0 = some a := L2.atI_nat (j := 0) rfl
theorem at1 {α : Type} {a b : α} {l : List α} : L2.atI (a :: b :: l) 1 = some b := L2.atI_nat (j := 1) rfl
theorem at2 {α : Type} {a b c : α} {l : List α} : L2.atI (a :: b :: c :: l) 2 = some c := L2.atI_nat (j := 2) rfl
theorem at3 {α : Type} {a b c d : α} {l : List α} : L2.atI (a :: b :: c :: d :: l) 3 = some d := L2.atI_nat (j := 3) rfl
theorem i64_left {i j : Int} (h : i64 i = true) : (i64 i || i64 j) = true := by rw [h]; rfl
theorem i64_right {i j : Int} (h : i64 j = true) : (i64 i || i64 j) = true := by rw [h]; exact Bool.or_true _
theorem i64_of {i : Int} (h1 : -(2 ^ 64) < i) (h2 : i < 2 ^ 64) : i64 i = true := by
  unfold i64
  rw [decide_eq_true h1, decide_eq_true h2]
  rfl
local macro_rules | `(tactic| walk_at "st") => `(tactic| first
  | with_reducible refine gs_seq ?_ | with_reducible refine gs_asg ?_ | with_reducible refine gs_ret ?_ | with_reducible refine gs_retN ?_ | with_reducible refine gs_drop ?_ | with_reducible refine gs_if ?_ | with_reducible refine gs_par ?_ | with_reducible refine gs_for ?_ | with_reducible refine gs_nx ?_
  | with_reducible refine ge_cons ?_ | with_reducible refine ge_nil ?_ | with_reducible refine ge_c ?_ | with_reducible refine ge_bin ?_ | with_reducible refine ge_call ?_
  | ((with_reducible refine ge_var (d := ?d) ?h ?_); case h => exact rfl)
  | ((with_reducible refine gs_aug (d := ?d) ?h ?_); case h => exact rfl)
  | (with_reducible refine ge_tup ?_) | (with_reducible refine ge_lst ?_) | with_reducible refine ge_B ?_ | with_reducible refine ge_and ?_ | with_reducible refine ge_or ?_ | with_reducible refine ge_not ?_ | with_reducible refine ge_if ?_ | with_reducible refine ge_andV ?_ | with_reducible refine ge_orV ?_ | with_reducible refine ge_notV ?_ | with_reducible refine ge_neg ?_
  | with_reducible refine ge_sl ?_ | with_reducible refine ge_noPart ?_ | with_reducible refine ge_part ?_ | with_reducible refine ge_revT ?_ | with_reducible refine ge_app ?_ | with_reducible refine ge_lc ?_ | with_reducible refine ge_chain ?_
  | with_reducible refine gi_items ?_ | with_reducible refine gi_range1 ?_ | with_reducible refine gi_range2 ?_ | with_reducible refine gi_enum ?_
  | with_reducible refine gt_name ?_ | with_reducible refine gt_nil ?_ | with_reducible refine gt_cons ?_ | with_reducible refine gt_tup rfl ?_ | with_reducible refine gt_sub ?_
  | with_reducible refine ge_fI ?_ | with_reducible refine ge_sub ?_ | with_reducible refine ge_add ?_ | with_reducible refine ge_lt ?_ | with_reducible refine ge_le ?_ | with_reducible refine ge_gt ?_ | with_reducible refine ge_ge ?_ | with_reducible refine ge_eqI ?_ | with_reducible refine ge_neI ?_ | with_reducible refine ge_eqS ?_ | with_reducible refine ge_neS ?_
  | with_reducible refine ge_int ?_ | with_reducible refine ge_min ?_ | with_reducible refine ge_max ?_ | with_reducible refine ge_abs ?_ | with_reducible refine ge_slT ?_
  | with_reducible refine then_nx ?_ | with_reducible refine then_rt ?_
  | ((with_reducible refine ge_ixL (ds := ?ds) (d := ?dd) ?hl ?he ?_); (case hl => first | exact lat_lst (by assumption) | exact lat_fz (by assumption)); (case he => first | exact at0 | exact at1 | exact at2 | exact at3))
  | ((with_reducible refine ge_ixT (d := ?dd) ?he ?_); (case he => first | exact at0 | exact at1 | exact at2 | exact at3))
  | ((with_reducible refine ge_len (ds := ?ds) ?hl ?_); (case hl => first | exact lat_lst (by assumption) | exact lat_fz (by assumption) | exact rfl))
  | ((with_reducible refine ge_mod ?hc ?_); (case hc => first | assumption | decide | omega))
  | ((with_reducible refine ge_div ?hc ?hd ?_); (case hc => first | assumption | decide | omega); (case hd => first | assumption | decide | omega))
  | ((with_reducible refine ge_mul ?hc ?_); (case hc => first | assumption | exact i64_left rfl | exact i64_right rfl))
  | ((with_reducible refine ge_pow ?hc ?_); (case hc => decide))
  | (refine ⟨_, rfl, ?_⟩) | (refine ⟨_, _, rfl, ?_⟩))
/-- a pen: the cells, the next one's place, what is left -/
structure Pen (S : Store) (p g : Nat) : Prop where
  ex : ∃ (ns : List Int) (seat rest : Int), S[p]? = some (.lst [.lr g, .int seat, .int rest]) ∧ S[g]? = some (.lst (ns.map D.int)) ∧ g ≠ p ∧ 0 ≤ seat ∧ 0 ≤ rest
theorem toPy_ints {S : Store} {n : Nat} : ∀ ns : List Int, (ns.map D.int).mapM (toPy S (n + 1)) = some (ns.map PyData.int)
  | [] => rfl
  | i :: ns => by
    rw [List.map_cons, List.mapM_cons, toPy_ints ns]
    rfl
theorem ints_lay : ∀ ns : List Int, PyData.canLayAll0 (ns.map PyData.int) = true ∧ PyData.depthAll (ns.map PyData.int) = 0
  | [] => ⟨rfl, rfl⟩
  | i :: ns => by
    obtain ⟨h1, h2⟩ := ints_lay ns
    refine ⟨?_, ?_⟩
    · show (PyData.canLay0 (.int i) && PyData.canLayAll0 (ns.map PyData.int)) = true
      rw [h1]; rfl
    · show max (PyData.depth (.int i)) (PyData.depthAll (ns.map PyData.int)) = 0
      rw [h2]; rfl
theorem ge_neNil {S : Store} {n m : Nat} {ns : List Int} {Q : D → Store → Prop} (h1 : lat S n = some (ns.map D.int)) (h2 : lat S m = some []) (h : Q (.bl (!ns.isEmpty)) S) : GE (fNe (.lr n) (.lr m) S) Q := by
  have e1 : toPy S 64 (.lr n) = some (.list (ns.map PyData.int)) := by
    show ((lat S n).bind fun ds => (ds.mapM (toPy S 63)).map PyData.list) = _
    rw [h1]
    show ((ns.map D.int).mapM (toPy S 63)).map PyData.list = _
    rw [toPy_ints (n := 62)]
    rfl
  have e2 : toPy S 64 (.lr m) = some (.list []) := by
    show ((lat S m).bind fun ds => (ds.mapM (toPy S 63)).map PyData.list) = _
    rw [h2]
    rfl
  have s1 : SeqAt.shaped (.list (ns.map PyData.int)) = true := by
    obtain ⟨l1, l2⟩ := ints_lay ns
    unfold SeqAt.shaped
    rw [Bool.and_eq_true, decide_eq_true_eq]
    refine ⟨l1, ?_⟩
    show PyData.depthAll (ns.map PyData.int) + 1 ≤ 64
    omega
  refine ge_eq (x := .bl (!ns.isEmpty)) (S' := S) ?_ h
  show ((toPy S 64 (.lr n)).bind fun p => (toPy S 64 (.lr m)).bind fun q => if SeqAt.shaped p && SeqAt.shaped q then some (D.bl (not (PyData.eqv p q)), S) else none) = _
  rw [e1, e2]
  show (if SeqAt.shaped (.list (ns.map PyData.int)) && true then some (D.bl (not (PyData.eqv (.list (ns.map PyData.int)) (.list []))), S) else none) = _
  rw [s1]
  cases ns <;> rfl
theorem mod_lt {i j : Int} (h : 0 < j) : 0 ≤ i % j ∧ i % j < j := ⟨Int.emod_nonneg _ (by omega), Int.emod_lt_of_pos _ h⟩
theorem atI_of {α : Type} {l : List α} {i : Int} (h0 : 0 ≤ i) (h1 : i < l.length) : ∃ x, L2.atI l i = some x ∧ x ∈ l := by
  have hi : i.toNat < l.length := by omega
  refine ⟨l[i.toNat], ?_, List.getElem_mem hi⟩
  have := L2.atI_nat (j := i.toNat) (List.getElem?_eq_getElem hi)
  rwa [Int.toNat_of_nonneg h0] at this
theorem mem_ints {ns : List Int} {x : D} (h : x ∈ ns.map D.int) : ∃ c, x = .int c := by
  obtain ⟨c, _, e⟩ := List.mem_map.mp h
  exact ⟨c, e.symm⟩
theorem fresh_gives {S : Store} {p g : Nat} (h : Pen S p g) : GE (F_law_fresh [.lr p] S) fun d S' => ∃ n : Int, d = .int n ∧ 0 ≤ n ∧ Pen S' p g ∧ Keeps p S S' := by
  obtain ⟨ns, seat, rest, hp, hg, hne, h0, h1⟩ := h
  refine ge_den rfl ?_
  unfold M_law_fresh
  repeat walk_at "st"
  refine ⟨p, 1, _, 1, rfl, rfl, mat_lst hp, rfl, ?_⟩
  have hp1 : (S.set p (.lst [.lr g, .int (seat + 1), .int rest]))[p]? = some (.lst [.lr g, .int (seat + 1), .int rest]) := get_set hp
  have hg1 : (S.set p (.lst [.lr g, .int (seat + 1), .int rest]))[g]? = some (.lst (ns.map D.int)) := by rw [get_ne hne.symm]; exact hg
  have k1 : Keeps p S (S.set p (.lst [.lr g, .int (seat + 1), .int rest])) := Keeps.set
  rw [show List.set [D.lr g, D.int seat, D.int rest] 1 (D.int (seat + 1)) = [.lr g, .int (seat + 1), .int rest] from rfl]
  generalize S.set p (.lst [.lr g, .int (seat + 1), .int rest]) = S1 at hp1 hg1 k1 ⊢
  repeat walk_at "st"
  refine ⟨Nat.zero_le _, ge_neNil (lat_lst (get_app hg1)) (lat_lst get_new) ?_⟩
  have hp2 : (S1 ++ [.lst []])[p]? = some (.lst [.lr g, .int (seat + 1), .int rest]) := get_app hp1
  have hg2 : (S1 ++ [.lst []])[g]? = some (.lst (ns.map D.int)) := get_app hg1
  have k2 : Keeps p S (S1 ++ [.lst []]) := k1.trans .app
  generalize S1 ++ [.lst []] = S2 at hp2 hg2 k2 ⊢
  have pen2 : Pen S2 p g := ⟨ns, seat + 1, rest, hp2, hg2, hne, by omega, h1⟩
  -- the cell
  have tail : ∀ c : Int, GS (mSeq (mAsg (mC (.int 2305843009213693951)) (mName 2))
    (mSeq (mAsg (mBin fMod (mCall cInt (mCons (mBin fAdd (mBin fAdd (mBin fMul (mVar 1) (mC (.int 48271))) (mBin fMul (mC (.int 60013)) (mVar 6))) (mC (.int 31))) mNil)) (mVar 2)) (mName 3))
    (mSeq (mAsg (mVar 3) (mName 4))
    (mSeq (mFor (mRange1 (mCons (mC (.int 6)) mNil)) (mName 5) (mSeq (mAsg (mBin fMod (mCall cInt (mCons (mBin fAdd (mBin fAdd (mBin fMul (mVar 3) (mVar 3)) (mBin fMul (mBin fMul (mC (.int 70139)) (mBin fAdd (mVar 5) (mC (.int 5)))) (mBin fAdd (mVar 6) (mC (.int 1))))) (mVar 1)) mNil)) (mVar 2)) (mName 3))
    (mAsg (mBin fAdd (mBin fMul (mVar 4) (mVar 2)) (mVar 3)) (mName 4))))
    (mRet (mVar 4))))) [some (.lr p), some (.int c), none, none, none, none, some (.int seat), some (.lr g)] S2) fun f _ S' => match f with
      | .rt d => ∃ n : Int, d = .int n ∧ 0 ≤ n ∧ Pen S' p g ∧ Keeps p S S'
      | .nx => ∃ n : Int, D.non = .int n ∧ 0 ≤ n ∧ Pen S' p g ∧ Keeps p S S'
      | _ => False := by
    intro c
    repeat walk_at "st"
    refine ⟨by decide, ?_⟩
    have hm := mod_lt (i := c * 48271 + 60013 * seat + 31) (j := 2305843009213693951) (by decide)
    generalize (c * 48271 + 60013 * seat + 31) % 2305843009213693951 = st at hm
    refine gs_forL (fun _ ρ S' => S' = S2 ∧ ∃ (st fo : Int) (x5 : Option D), 0 ≤ st ∧ st < 2305843009213693951 ∧ 0 ≤ fo ∧ ρ = [some (.lr p), some (.int c), some (.int 2305843009213693951), some (.int st), some (.int fo), x5, some (.int seat), some (.lr g)])
      ⟨rfl, st, st, none, hm.1, hm.2, hm.1, rfl⟩ (fun i x ρ S' hx hP => ⟨rfl, ?_⟩) (fun ρ S' hP => ⟨rfl, ?_⟩)
    · obtain ⟨rfl, st, fo, x5, h3, h4, h5, rfl⟩ := hP
      obtain ⟨k, rfl, hk0, hk6⟩ : ∃ k : Int, x = .int k ∧ 0 ≤ k ∧ k < 6 := by
        have hi : i < 6 := by
          have := (List.getElem?_eq_some_iff.mp hx).1
          rw [rangeD_length] at this
          exact this
        unfold rangeD at hx
        rw [List.getElem?_map, List.getElem?_range (by exact hi)] at hx
        cases hx
        exact ⟨_, rfl, by omega, by omega⟩
      have hs64 : i64 st = true := i64_of (by omega) (by omega)
      repeat walk_at "st"
      refine ge_mul (i64_left hs64) ?_
      repeat walk_at "st"
      refine ge_mul (i64_left (i64_of (by omega) (by omega))) ?_
      repeat walk_at "st"
      have hm := mod_lt (i := st * st + 70139 * (k + 5) * (seat + 1) + c) (j := 2305843009213693951) (by decide)
      refine ⟨.inl rfl, rfl, _, _, _, hm.1, hm.2, ?_, rfl⟩
      have := Int.mul_nonneg h5 (by decide : (0 : Int) ≤ 2305843009213693951)
      omega
    · obtain ⟨rfl, st, fo, x5, h3, h4, h5, rfl⟩ := hP
      repeat walk_at "st"
      exact ⟨h5, pen2, k2⟩
  have rest_ : ∀ c : Int, GS (mSeq (mIfS (mAnd (mB (mBin fLt (mVar 6) (mCall cLen (mCons (mVar 7) mNil)))) (mB (mBin fGe (mVar 1) (mBin fPow (mC (.int 10)) (mC (.int 18)))))) (mRet (mBin fSub (mVar 1) (mBin fPow (mC (.int 10)) (mC (.int 18))))) mNx)
    (mSeq (mAsg (mC (.int 2305843009213693951)) (mName 2))
    (mSeq (mAsg (mBin fMod (mCall cInt (mCons (mBin fAdd (mBin fAdd (mBin fMul (mVar 1) (mC (.int 48271))) (mBin fMul (mC (.int 60013)) (mVar 6))) (mC (.int 31))) mNil)) (mVar 2)) (mName 3))
    (mSeq (mAsg (mVar 3) (mName 4))
    (mSeq (mFor (mRange1 (mCons (mC (.int 6)) mNil)) (mName 5) (mSeq (mAsg (mBin fMod (mCall cInt (mCons (mBin fAdd (mBin fAdd (mBin fMul (mVar 3) (mVar 3)) (mBin fMul (mBin fMul (mC (.int 70139)) (mBin fAdd (mVar 5) (mC (.int 5)))) (mBin fAdd (mVar 6) (mC (.int 1))))) (mVar 1)) mNil)) (mVar 2)) (mName 3))
    (mAsg (mBin fAdd (mBin fMul (mVar 4) (mVar 2)) (mVar 3)) (mName 4))))
    (mRet (mVar 4)))))) [some (.lr p), some (.int c), none, none, none, none, some (.int seat), some (.lr g)] S2) fun f _ S' => match f with
      | .rt d => ∃ n : Int, d = .int n ∧ 0 ≤ n ∧ Pen S' p g ∧ Keeps p S S'
      | .nx => ∃ n : Int, D.non = .int n ∧ 0 ≤ n ∧ Pen S' p g ∧ Keeps p S S'
      | _ => False := by
    intro c
    repeat walk_at "st"
    refine ⟨fun hc => ?_, fun hc => ⟨fun z => (by cases z), fun _ => ?_⟩⟩
    · repeat walk_at "st"
      refine ⟨fun hd => ?_, fun hd => ?_⟩
      · repeat walk_at "st"
        have : (10 : Int) ^ (18 : Int).toNat ≤ c := of_decide_eq_true hd
        exact ⟨by omega, pen2, k2⟩
      · exact gs_nx (tail c)
    · exact gs_nx (tail c)
  refine ⟨_, rfl, fun hn => ?_, fun hn => ?_⟩
  · have hlen : 0 < ns.length := by
      cases ns with
      | nil => cases hn
      | cons _ _ => exact Nat.succ_pos _
    have hlen' : (0 : Int) < ((ns.map D.int).length : Int) := by rw [List.length_map]; omega
    repeat walk_at "st"
    obtain ⟨h3, h4⟩ := mod_lt (i := seat) hlen'
    obtain ⟨x, h5, h6⟩ := atI_of h3 h4
    obtain ⟨c, rfl⟩ := mem_ints h6
    exact ge_ixL (lat_lst hg2) h5 (gt_name (then_nx (rest_ c)))
  · exact ge_c (gt_name (then_nx (rest_ 0)))
/-- the pen's rest changed -/
theorem Pen.put {S : Store} {p g : Nat} {seat rest n : Int} (h : Pen S p g) (hp : S[p]? = some (.lst [.lr g, .int seat, .int rest])) (hn : 0 ≤ n) : Pen (S.set p (.lst [.lr g, .int seat, .int n])) p g := by
  obtain ⟨ns, seat', rest', hp', hg, hne, h0, h1⟩ := h
  rw [hp] at hp'
  cases hp'
  exact ⟨ns, seat, n, get_set hp, by rw [get_ne hne.symm]; exact hg, hne, h0, hn⟩
theorem draw_gives {S : Store} {p g : Nat} {b : Int} (h : Pen S p g) (hb : 1 ≤ b) (hb2 : b < 1073741824) : GE (F_law_draw [.lr p, .int b] S) fun d S' => ∃ n : Int, d = .int n ∧ 0 ≤ n ∧ n < b ∧ Pen S' p g ∧ Keeps p S S' := by
  refine ge_den rfl ?_
  unfold M_law_draw
  have tail : ∀ S1, Pen S1 p g → Keeps p S S1 → GS (mSeq (mAsg (mBin fMod (mCall cInt (mCons (mBin fIx (mVar 0) (mC (.int 2))) mNil)) (mVar 1)) (mName 2))
    (mSeq (mAsg (mBin fDiv (mCall cInt (mCons (mBin fIx (mVar 0) (mC (.int 2))) mNil)) (mVar 1)) (mgSub (mVar 0) (mC (.int 2))))
    (mRet (mVar 2))) (startD 3 [.lr p, .int b]) S1) fun f _ S' => match f with
      | .rt d => ∃ n : Int, d = .int n ∧ 0 ≤ n ∧ n < b ∧ Pen S' p g ∧ Keeps p S S'
      | .nx => ∃ n : Int, D.non = .int n ∧ 0 ≤ n ∧ n < b ∧ Pen S' p g ∧ Keeps p S S'
      | _ => False := by
    intro S1 h1 k1
    obtain ⟨ns, seat, rest, hp, hg, hne, h0, hr⟩ := id h1
    repeat walk_at "st"
    refine ⟨p, 2, _, 2, rfl, rfl, mat_lst hp, rfl, ?_⟩
    repeat walk_at "st"
    obtain ⟨m1, m2⟩ := mod_lt (i := rest) (j := b) (by omega)
    exact ⟨m1, m2, h1.put hp (Int.ediv_nonneg hr (by omega)), k1.trans .set⟩
  obtain ⟨ns, seat, rest, hp, hg, hne, h0, hr⟩ := id h
  repeat walk_at "st"
  refine ⟨fun hc => ?_, fun hc => gs_nx (tail S h .refl)⟩
  repeat walk_at "st"
  refine (fresh_gives h).mono ?_
  rintro _ S1 ⟨n, rfl, hn, h1, k1⟩
  obtain ⟨ns1, seat1, rest1, hp1, hg1, hne1, h01, hr1⟩ := id h1
  repeat walk_at "st"
  refine ⟨p, 2, _, 2, rfl, rfl, mat_lst hp1, rfl, ?_⟩
  exact tail _ (h1.put hp1 hn) (k1.trans .set)
theorem one_of_gives {S : Store} {p g q : Nat} {ds : List D} (h : Pen S p g) (hq : S[q]? = some (.lst ds)) (hqp : q ≠ p) (h1 : 1 ≤ ds.length) (h2 : ds.length < 1073741824) : GE (F_law_one_of [.lr p, .lr q] S) fun d S' => d ∈ ds ∧ Pen S' p g ∧ Keeps p S S' := by
  refine ge_den rfl ?_
  unfold M_law_one_of
  repeat walk_at "st"
  refine (draw_gives h (by omega) (by omega)).mono ?_
  rintro _ S1 ⟨n, rfl, hn, hn2, h3, k1⟩
  obtain ⟨x, e, hx⟩ := atI_of hn hn2
  exact ge_ixL (lat_lst (k1.at_ q _ hqp hq)) e ⟨hx, h3, k1⟩
theorem turn_ne {a d b : Int} (h0 : 0 ≤ a) (h1 : a < b) (h2 : 0 ≤ d) (h3 : d < b - 1) : (a + 1 + d) % b ≠ a := by
  by_cases h : a + 1 + d < b
  · rw [Int.emod_eq_of_lt (by omega) h]; omega
  · have e : (a + 1 + d) % b = a + 1 + d - b := by
      rw [← Int.sub_emod_right, Int.emod_eq_of_lt (by omega) (by omega)]
    rw [e]; omega
def pairD (w : Int × Int) : D := .tup [.int w.1, .int w.2]
/-- a way between two of so many places -/
def WayOk (n : Int) (w : Int × Int) : Prop := (0 ≤ w.1 ∧ w.1 < n) ∧ (0 ≤ w.2 ∧ w.2 < n) ∧ w.1 ≠ w.2
theorem two_gives {S : Store} {p g : Nat} {b : Int} (h : Pen S p g) (hb : 2 ≤ b) (hb2 : b < 1073741824) : GE (F_law_two_places [.lr p, .int b] S) fun d S' => ∃ w, d = pairD w ∧ WayOk b w ∧ Pen S' p g ∧ Keeps p S S' := by
  refine ge_den rfl ?_
  unfold M_law_two_places
  repeat walk_at "st"
  refine (draw_gives h (by omega) hb2).mono ?_
  rintro _ S1 ⟨n, rfl, hn, hn2, h3, k1⟩
  repeat walk_at "st"
  refine (draw_gives h3 (by omega) (by omega)).mono ?_
  rintro _ S2 ⟨m, rfl, hm, hm2, h4, k2⟩
  repeat walk_at "st"
  obtain ⟨m1, m2⟩ := mod_lt (i := n + 1 + m) (j := b) (by omega)
  exact ⟨by show 2 ≤ szl; decide, (n, (n + 1 + m) % b), rfl, ⟨⟨hn, hn2⟩, ⟨m1, m2⟩, (turn_ne hn hn2 hm hm2).symm⟩, h4, k1.trans k2⟩
theorem keeps_wrNew {p wl : Nat} {S0 S : Store} {x : MO} (k : Keeps p S0 S) (h : S0.length ≤ wl) : Keeps p S0 (S.set wl x) :=
  ⟨by rw [List.length_set]; exact k.len, fun n y hn e => by
    have hl := (List.getElem?_eq_some_iff.mp e).1
    rw [List.getElem?_set_ne (by omega)]
    exact k.at_ n y hn e⟩
theorem Pen.lt {S : Store} {p g : Nat} (h : Pen S p g) : p < S.length ∧ g < S.length := by
  obtain ⟨ns, seat, rest, hp, hg, _⟩ := h
  exact ⟨(List.getElem?_eq_some_iff.mp hp).1, (List.getElem?_eq_some_iff.mp hg).1⟩
theorem Pen.app {S l : Store} {p g : Nat} (h : Pen S p g) : Pen (S ++ l) p g := by
  obtain ⟨ns, seat, rest, hp, hg, r⟩ := h
  exact ⟨ns, seat, rest, get_app hp, get_app hg, r⟩
theorem Pen.other {S : Store} {p g wl : Nat} {x : MO} (h : Pen S p g) (h1 : wl ≠ p) (h2 : wl ≠ g) : Pen (S.set wl x) p g := by
  obtain ⟨ns, seat, rest, hp, hg, r⟩ := h
  exact ⟨ns, seat, rest, by rw [get_ne h1]; exact hp, by rw [get_ne h2]; exact hg, r⟩
theorem range_int {lo : Int} {n i : Nat} {x : D} (h : (rangeD lo n)[i]? = some x) : x = .int (lo + (i : Int)) ∧ i < n := by
  have hi : i < n := by
    have := (List.getElem?_eq_some_iff.mp h).1
    rwa [rangeD_length] at this
  unfold rangeD at h
  rw [List.getElem?_map, List.getElem?_range hi] at h
  cases h
  exact ⟨rfl, hi⟩
theorem r62_of {i : Int} (h1 : -(2 ^ 62) ≤ i) (h2 : i < 2 ^ 62) : r62 i = true := by
  unfold r62
  rw [decide_eq_true h1, decide_eq_true h2]
  rfl
structure Mine where
  places : Int
  ways : List (Int × Int)
  inlet : Int
  outlet : Int
def mineD (M : Mine) : D := .tup [.int M.places, .tup (M.ways.map pairD), .int M.inlet, .int M.outlet]
structure MineOk (M : Mine) : Prop where
  lo : 2 ≤ M.places
  hi : M.places ≤ 8
  ways : ∀ w ∈ M.ways, WayOk M.places w
  ends : WayOk M.places (M.inlet, M.outlet)
/-- every place but 0 has a way to a lower one -/
def Tree (n : Int) (ws : List (Int × Int)) : Prop := ∀ x : Int, 1 ≤ x → x < n → ∃ y : Int, 0 ≤ y ∧ y < x ∧ ((x, y) ∈ ws ∨ (y, x) ∈ ws)
end Law

set_option Elab.async false
set_option linter.all false
set_option maxRecDepth 100000
set_option maxHeartbeats 4000000
namespace Law
open PySem PySem.Spec PyProof.Rows L2 MS
local macro_rules | `(tactic| walk_at "st") => `(tactic| first
  | with_reducible refine gs_seq ?_ | with_reducible refine gs_asg ?_ | with_reducible refine gs_ret ?_ | with_reducible refine gs_retN ?_ | with_reducible refine gs_drop ?_ | with_reducible refine gs_if ?_ | with_reducible refine gs_par ?_ | with_reducible refine gs_for ?_ | with_reducible refine gs_nx ?_
  | with_reducible refine ge_cons ?_ | with_reducible refine ge_nil ?_ | with_reducible refine ge_c ?_ | with_reducible refine ge_bin ?_ | with_reducible refine ge_call ?_
  | ((with_reducible refine ge_var (d := ?d) ?h ?_); case h => exact rfl)
  | ((with_reducible refine gs_aug (d := ?d) ?h ?_); case h => exact rfl)
  | (with_reducible refine ge_tup ?_) | (with_reducible refine ge_lst ?_) | with_reducible refine ge_B ?_ | with_reducible refine ge_and ?_ | with_reducible refine ge_or ?_ | with_reducible refine ge_not ?_ | with_reducible refine ge_if ?_ | with_reducible refine ge_andV ?_ | with_reducible refine ge_orV ?_ | with_reducible refine ge_notV ?_ | with_reducible refine ge_neg ?_
  | with_reducible refine ge_sl ?_ | with_reducible refine ge_noPart ?_ | with_reducible refine ge_part ?_ | with_reducible refine ge_revT ?_ | with_reducible refine ge_app ?_ | with_reducible refine ge_lc ?_ | with_reducible refine ge_chain ?_
  | with_reducible refine gi_items ?_ | with_reducible refine gi_range1 ?_ | with_reducible refine gi_range2 ?_ | with_reducible refine gi_enum ?_
  | with_reducible refine gt_name ?_ | with_reducible refine gt_nil ?_ | with_reducible refine gt_cons ?_ | with_reducible refine gt_tup rfl ?_ | with_reducible refine gt_sub ?_
  | with_reducible refine ge_fI ?_ | with_reducible refine ge_sub ?_ | with_reducible refine ge_add ?_ | with_reducible refine ge_lt ?_ | with_reducible refine ge_le ?_ | with_reducible refine ge_gt ?_ | with_reducible refine ge_ge ?_ | with_reducible refine ge_eqI ?_ | with_reducible refine ge_neI ?_ | with_reducible refine ge_eqS ?_ | with_reducible refine ge_neS ?_
  | with_reducible refine ge_int ?_ | with_reducible refine ge_min ?_ | with_reducible refine ge_max ?_ | with_reducible refine ge_abs ?_ | with_reducible refine ge_slT ?_
  | with_reducible refine then_nx ?_ | with_reducible refine then_rt ?_
  | ((with_reducible refine ge_ixL (ds := ?ds) (d := ?dd) ?hl ?he ?_); (case hl => first | exact lat_lst (by assumption) | exact lat_fz (by assumption)); (case he => first | exact at0 | exact at1 | exact at2 | exact at3))
  | ((with_reducible refine ge_ixT (d := ?dd) ?he ?_); (case he => first | exact at0 | exact at1 | exact at2 | exact at3))
  | ((with_reducible refine ge_len (ds := ?ds) ?hl ?_); (case hl => first | exact lat_lst (by assumption) | exact lat_fz (by assumption) | exact rfl))
  | ((with_reducible refine ge_mod ?hc ?_); (case hc => first | assumption | decide | omega))
  | ((with_reducible refine ge_div ?hc ?hd ?_); (case hc => first | assumption | decide | omega); (case hd => first | assumption | decide | omega))
  | ((with_reducible refine ge_mul ?hc ?_); (case hc => first | assumption | exact i64_left rfl | exact i64_right rfl))
  | ((with_reducible refine ge_pow ?hc ?_); (case hc => decide))
  | (refine ⟨_, rfl, ?_⟩) | (refine ⟨_, _, rfl, ?_⟩))
theorem mine_gives {S : Store} {p g : Nat} {most many : Int} (h : Pen S p g) (hm : 2 ≤ most) (hm8 : most ≤ 8) (hw : 1 ≤ many) (hw2 : many ≤ 1000) :
    GE (F_law_mine [.lr p, .int most, .int many] S) fun d S' => ∃ M, d = mineD M ∧ MineOk M ∧ (M.ways.length : Int) ≤ many ∧ Tree M.places M.ways ∧ (M.places ≤ most ∨ M.places ≤ 3) ∧ Pen S' p g ∧ Keeps p S S' := by
  refine ge_den rfl ?_
  unfold M_law_mine
  repeat walk_at "st"
  refine (draw_gives h (by omega) (by omega)).mono ?_
  rintro _ S1 ⟨n, rfl, hn, hn2, h1, k1⟩
  repeat walk_at "st"
  refine ⟨by show 5 ≤ szl; decide, ?_⟩
  repeat walk_at "st"
  refine (one_of_gives h1.app get_new (by have := h1.lt; omega) (by show 1 ≤ 5; decide) (by show 5 < 1073741824; decide)).mono ?_
  rintro d S2 ⟨hd, h2, k2⟩
  have k2' : Keeps p S S2 := (k1.trans .app).trans k2
  obtain ⟨pl, rfl, hp2, hp8, hpm⟩ : ∃ pl : Int, d = .int pl ∧ 2 ≤ pl ∧ pl ≤ 8 ∧ (pl ≤ most ∨ pl ≤ 3) := by
    simp only [List.mem_cons, List.not_mem_nil, or_false] at hd
    rcases hd with rfl | rfl | rfl | rfl | rfl
    · exact ⟨2, rfl, by omega, by omega, by omega⟩
    · exact ⟨3, rfl, by omega, by omega, by omega⟩
    · exact ⟨most, rfl, by omega, by omega, by omega⟩
    · exact ⟨most, rfl, by omega, by omega, by omega⟩
    · exact ⟨2 + n, rfl, by omega, by omega, by omega⟩
  repeat walk_at "st"
  refine ⟨Nat.zero_le _, ?_⟩
  repeat walk_at "st"
  obtain ⟨pl', hpl', hp2', hp8', hpm', hpmany⟩ : ∃ pl' : Int, (if many + 1 < pl then many + 1 else pl) = pl' ∧ 2 ≤ pl' ∧ pl' ≤ 8 ∧ (pl' ≤ most ∨ pl' ≤ 3) ∧ pl' ≤ many + 1 := by
    by_cases hc : many + 1 < pl
    · exact ⟨_, if_pos hc, by omega, by omega, by omega, by omega⟩
    · exact ⟨_, if_neg hc, by omega, by omega, by omega, by omega⟩
  rw [hpl']
  generalize hwl : S2.length = wl
  have hwp : wl ≠ p := by have := h2.lt; omega
  have hwg : wl ≠ g := by have := h2.lt; omega
  have hS0 : S.length ≤ wl := by have := k2'.len; omega
  refine ⟨by rw [r62_of (i := pl') (by omega) (by omega)]; decide, ?_⟩
  have S3 : Pen (S2 ++ [.lst []]) p g := h2.app
  refine gs_forL (fun i ρ S' => ∃ (ws : List (Int × Int)) (x4 x7 : Option D), ρ = [some (.lr p), some (.int most), some (.int many), some (.int pl'), x4, none, some (.lr wl), x7, none, none] ∧ Pen S' p g ∧ Keeps p S S' ∧
      S'[wl]? = some (.lst (ws.map pairD)) ∧ ws.length = i ∧ (∀ w ∈ ws, WayOk pl' w) ∧ Tree (i + 1 : Nat) ws)
    ⟨[], none, none, rfl, h2.app, k2'.trans .app, by rw [← hwl]; exact get_new, rfl, fun w z => (by cases z), fun x z1 z2 => by omega⟩ ?_ ?_
  · rintro i x ρ S4 hx ⟨ws, x4, x7, rfl, hp4, k4, hw4, hl4, ho4, ht4⟩
    obtain ⟨rfl, hi⟩ := range_int hx
    refine ⟨rfl, ?_⟩
    have hi2 : (i : Int) + 1 < pl' := by omega
    repeat walk_at "st"
    refine (draw_gives hp4 (by omega) (by omega)).mono ?_
    rintro _ S5 ⟨y, rfl, hy, hy2, hp5, k5⟩
    repeat walk_at "st"
    refine ⟨by show 2 ≤ szl; decide, ?_⟩
    repeat walk_at "st"
    have hw5 := k5.at_ wl _ hwp hw4
    refine ⟨⟨_, mat_lst hw5⟩, ?_⟩
    repeat walk_at "st"
    refine (draw_gives hp5 (by omega) (by omega)).mono ?_
    rintro _ S6 ⟨c, rfl, hc, hc2, hp6, k6⟩
    have hw6 := k6.at_ wl _ hwp hw5
    have fin : ∀ w : Int × Int, WayOk pl' w → (w = (1 + (i : Int), y) ∨ w = (y, 1 + (i : Int))) → ∃ ds, mat S6 wl = some ds ∧ ds.length < szl ∧ (Fl.nx = .nx ∨ Fl.nx = .ct) ∧
        ∃ (ws : List (Int × Int)) (x4 x7 : Option D), [some (.lr p), some (.int most), some (.int many), some (.int pl'), some (.int (1 + (i : Int))), none, some (.lr wl), some (.tup [.int (1 + (i : Int)), .int y]), none, none] = [some (.lr p), some (.int most), some (.int many), some (.int pl'), x4, none, some (.lr wl), x7, none, none] ∧
          Pen (S6.set wl (.lst (ds ++ [pairD w]))) p g ∧ Keeps p S (S6.set wl (.lst (ds ++ [pairD w]))) ∧ (S6.set wl (.lst (ds ++ [pairD w])))[wl]? = some (.lst (ws.map pairD)) ∧ ws.length = i + 1 ∧ (∀ w ∈ ws, WayOk pl' w) ∧ Tree (i + 1 + 1 : Nat) ws := by
      intro w hw hwe
      refine ⟨_, mat_lst hw6, by rw [List.length_map]; show ws.length < 16777216; omega, .inl rfl, ws ++ [w], _, _, rfl, hp6.other hwp hwg, keeps_wrNew ((k4.trans k5).trans k6) hS0, by rw [get_set hw6, List.map_append]; rfl, by rw [List.length_append, hl4]; rfl, fun w' h' => ?_, fun x' a b => ?_⟩
      · rcases List.mem_append.mp h' with h' | h'
        · exact ho4 w' h'
        · rw [List.mem_singleton.mp h']; exact hw
      · by_cases hx' : x' < (i + 1 : Nat)
        · obtain ⟨y', b1, b2, b3⟩ := ht4 x' a hx'
          exact ⟨y', b1, b2, b3.imp (fun z => List.mem_append_left _ z) fun z => List.mem_append_left _ z⟩
        · have e : x' = 1 + (i : Int) := by omega
          refine ⟨y, hy, by omega, ?_⟩
          rw [e]
          rcases hwe with rfl | rfl
          · exact .inl (List.mem_append_right _ (List.mem_singleton.mpr rfl))
          · exact .inr (List.mem_append_right _ (List.mem_singleton.mpr rfl))
    repeat walk_at "st"
    refine ⟨fun _ => ?_, fun _ => ?_⟩
    · repeat walk_at "st"
      obtain ⟨ds, f1, f2, f3⟩ := fin (1 + (i : Int), y) ⟨⟨by omega, by omega⟩, ⟨hy, by omega⟩, by show 1 + (i : Int) ≠ y; omega⟩ (.inl rfl)
      exact ⟨_, ds, rfl, f1, f2, f3⟩
    · repeat walk_at "st"
      obtain ⟨ds, f1, f2, f3⟩ := fin (y, 1 + (i : Int)) ⟨⟨hy, by omega⟩, ⟨by omega, by omega⟩, by show y ≠ 1 + (i : Int); omega⟩ (.inr rfl)
      exact ⟨_, ds, rfl, f1, f2, f3⟩
  · rintro ρ S4 ⟨ws, x4, x7, rfl, hp4, k4, hw4, hl4, ho4, ht4⟩
    rw [rangeD_length] at hl4 ht4
    refine ⟨rfl, ?_⟩
    have hlen : (ws.length : Int) = pl' - 1 := by omega
    have ht : Tree pl' ws := fun x a b => ht4 x a (by omega)
    repeat walk_at "st"
    rw [List.length_map]
    refine (draw_gives hp4 (by omega) (by omega)).mono ?_
    rintro _ S5 ⟨e, rfl, he, he2, hp5, k5⟩
    have hw5 := k5.at_ wl _ hwp hw4
    repeat walk_at "st"
    refine ⟨r62_of (by omega) (by omega), ?_⟩
    repeat walk_at "st"
    refine gs_forL (fun i ρ S' => ∃ (ws' : List (Int × Int)) (x5 : Option D), ρ = [some (.lr p), some (.int most), some (.int many), some (.int pl'), x4, x5, some (.lr wl), x7, none, none] ∧ Pen S' p g ∧ Keeps p S S' ∧
        S'[wl]? = some (.lst (ws'.map pairD)) ∧ ws'.length = ws.length + i ∧ (∀ w ∈ ws', WayOk pl' w) ∧ Tree pl' ws')
      ⟨ws, none, rfl, hp5, k4.trans k5, hw5, rfl, ho4, ht⟩ ?_ ?_
    · rintro i x ρ S6 hx ⟨ws', x5, rfl, hp6, k6, hw6, hl6, ho6, ht6⟩
      obtain ⟨rfl, hi⟩ := range_int hx
      refine ⟨rfl, ?_⟩
      repeat walk_at "st"
      refine ⟨⟨_, mat_lst hw6⟩, ?_⟩
      repeat walk_at "st"
      refine (two_gives hp6 hp2' (by omega)).mono ?_
      rintro _ S7 ⟨w, rfl, hw7, hp7, k7⟩
      have hw7' := k7.at_ wl _ hwp hw6
      repeat walk_at "st"
      refine ⟨_, _, rfl, mat_lst hw7', by rw [List.length_map]; show ws'.length < 16777216; omega, .inl rfl, ws' ++ [w], _, rfl, hp7.other hwp hwg, keeps_wrNew (k6.trans k7) hS0, by rw [get_set hw7', List.map_append]; rfl, by rw [List.length_append, hl6]; rfl, fun w' h' => ?_, fun x' a b => ?_⟩
      · rcases List.mem_append.mp h' with h' | h'
        · exact ho6 w' h'
        · rw [List.mem_singleton.mp h']; exact hw7
      · obtain ⟨y', b1, b2, b3⟩ := ht6 x' a b
        exact ⟨y', b1, b2, b3.imp (fun z => List.mem_append_left _ z) fun z => List.mem_append_left _ z⟩
    · rintro ρ S6 ⟨ws', x5, rfl, hp6, k6, hw6, hl6, ho6, ht6⟩
      rw [rangeD_length] at hl6
      refine ⟨rfl, ?_⟩
      repeat walk_at "st"
      refine (two_gives hp6 hp2' (by omega)).mono ?_
      rintro _ S7 ⟨w, rfl, hw7, hp7, k7⟩
      have hw7' := k7.at_ wl _ hwp hw6
      unfold pairD
      repeat walk_at "st"
      refine ge_tuple (lat_lst hw7') ?_
      repeat walk_at "st"
      exact ⟨by show 4 ≤ szl; decide, ⟨pl', ws', w.1, w.2⟩, rfl, ⟨hp2', hp8', ho6, hw7⟩, by show (ws'.length : Int) ≤ many; omega, ht6, hpm', hp7, k6.trans k7⟩
end Law

set_option Elab.async false
set_option linter.all false
set_option maxRecDepth 100000
set_option maxHeartbeats 4000000
namespace Law
/-! ### lists without duplicates -/
theorem nodup_le {α : Type} [DecidableEq α] : ∀ {l m : List α}, l.Nodup → (∀ x ∈ l, x ∈ m) → l.length ≤ m.length
  | [], m, _, _ => Nat.zero_le _
  | a :: l, m, h, s => by
    rw [List.nodup_cons] at h
    have ha : a ∈ m := s a (List.mem_cons_self ..)
    have := nodup_le (l := l) (m := m.erase a) h.2 fun x hx => by
      have hne : x ≠ a := fun e => h.1 (e ▸ hx)
      exact (List.mem_erase_of_ne hne).mpr (s x (List.mem_cons_of_mem _ hx))
    rw [List.length_erase_of_mem ha] at this
    have hp : 0 < m.length := List.length_pos_of_mem ha
    rw [List.length_cons]
    omega
theorem nodup_same {α : Type} [DecidableEq α] {l m : List α} (h : l.Nodup) (k : m.Nodup) (e : ∀ x, x ∈ l ↔ x ∈ m) : l.length = m.length :=
  Nat.le_antisymm (nodup_le h fun x hx => (e x).mp hx) (nodup_le k fun x hx => (e x).mpr hx)
theorem nodup_bound {l : List Int} {n : Int} (hn : 0 ≤ n) (h : l.Nodup) (b : ∀ x ∈ l, 0 ≤ x ∧ x < n) : (l.length : Int) ≤ n := by
  have := nodup_le (m := (List.range n.toNat).map fun (i : Nat) => (i : Int)) h fun x hx => by
    obtain ⟨h1, h2⟩ := b x hx
    exact List.mem_map.mpr ⟨x.toNat, List.mem_range.mpr (by omega), by omega⟩
  rw [List.length_map, List.length_range] at this
  omega
theorem nodup_snoc {α : Type} {l : List α} {a : α} (h : l.Nodup) (ha : a ∉ l) : (l ++ [a]).Nodup := by
  rw [List.nodup_append]
  refine ⟨h, List.nodup_cons.mpr ⟨List.not_mem_nil, List.nodup_nil⟩, fun x hx y hy e => ?_⟩
  rw [List.mem_singleton] at hy
  subst hy
  exact ha (e ▸ hx)
/-! ### places and ways -/
def Adj (ws : List (Int × Int)) (u v : Int) : Prop := (u, v) ∈ ws ∨ (v, u) ∈ ws
inductive Reach (ws : List (Int × Int)) (s : Int) : Int → Prop
  | start : Reach ws s s
  | step {u v : Int} : Reach ws s u → Adj ws u v → Reach ws s v
def Closed (ws : List (Int × Int)) (l : List Int) : Prop := ∀ u v, u ∈ l → Adj ws u v → v ∈ l
theorem Closed.reach {ws : List (Int × Int)} {s : Int} {l : List Int} (c : Closed ws l) (h : s ∈ l) : ∀ {v}, Reach ws s v → v ∈ l := by
  intro v r
  induction r with
  | start => exact h
  | step _ a ih => exact c _ _ ih a
/-- found so far -/
structure Found (ws : List (Int × Int)) (s n : Int) (l : List Int) : Prop where
  nd : l.Nodup
  st : s ∈ l
  rc : ∀ v ∈ l, Reach ws s v
  bd : ∀ v ∈ l, 0 ≤ v ∧ v < n
theorem Found.snoc {ws : List (Int × Int)} {s n : Int} {l : List Int} {u v : Int} (f : Found ws s n l) (hu : u ∈ l) (a : Adj ws u v) (hv : v ∉ l) (hb : 0 ≤ v ∧ v < n) : Found ws s n (l ++ [v]) where
  nd := nodup_snoc f.nd hv
  st := List.mem_append_left _ f.st
  rc := fun x hx => by
    rcases List.mem_append.mp hx with h | h
    · exact f.rc x h
    · rw [List.mem_singleton.mp h]; exact (f.rc u hu).step a
  bd := fun x hx => by
    rcases List.mem_append.mp hx with h | h
    · exact f.bd x h
    · rw [List.mem_singleton.mp h]; exact hb
theorem Found.same {ws : List (Int × Int)} {s n : Int} {l m : List Int} (f : Found ws s n l) (k : Found ws s n m) (c : Closed ws l) (d : Closed ws m) : l.length = m.length :=
  nodup_same f.nd k.nd fun x => ⟨fun h => d.reach k.st (f.rc x h), fun h => c.reach f.st (k.rc x h)⟩
end Law

set_option Elab.async false
set_option linter.all false
set_option maxRecDepth 100000
set_option maxHeartbeats 4000000
namespace Air
open PySem PySem.Spec PyProof.Rows L2 MS Law
abbrev N_inner_places : List Str := ["mine", "places", "_", "inlet", "outlet", "x"]
def M_inner_places : MStm :=
  (mSeq (mAsg (mVar 0) (mgTup (mgCons (mName 1) (mgCons (mName 2) (mgCons (mName 3) (mgCons (mName 4) mgNil)))) 4))
    (mRet (mCall cTuple (mCons (mLc (mRange1 (mCons (mVar 1) mNil)) (mName 5) (mB (mBin (fIn true) (mVar 5) (mTup (mCons (mVar 3) (mCons (mVar 4) mNil))))) (mVar 5) [5]) mNil))))
def F_inner_places : DCall := den 1 6 M_inner_places
-- level 1, params ['mine'], calls []

abbrev N_ways_at : List Str := ["mine", "x", "w", "way"]
def M_ways_at : MStm :=
  (mRet (mCall cTuple (mCons (mLc (mEnum (mCons (mBin fIx (mVar 0) (mC (.int 1))) mNil)) (mgTup (mgCons (mName 2) (mgCons (mName 3) mgNil)) 2) (mB (mBin (fIn false) (mVar 1) (mVar 3))) (mVar 2) [2, 3]) mNil)))
def F_ways_at : DCall := den 2 4 M_ways_at
-- level 1, params ['mine', 'x'], calls []

abbrev N_far_end : List Str := ["mine", "w", "x", "first", "second"]
def M_far_end : MStm :=
  (mSeq (mAsg (mBin fIx (mBin fIx (mVar 0) (mC (.int 1))) (mVar 1)) (mgTup (mgCons (mName 3) (mgCons (mName 4) mgNil)) 2))
    (mRet (mIf (mB (mBin fEq (mVar 2) (mVar 3))) (mVar 4) (mVar 3))))
def F_far_end : DCall := den 3 5 M_far_end
-- level 1, params ['mine', 'w', 'x'], calls []

abbrev N_leaving_shares : List Str := ["mine", "widths", "x", "shares", "w", "end"]
def M_leaving_shares : MStm :=
  (mSeq (mAsg (mBin fMulW (mLst (mCons (mC (.int 0)) mNil)) (mBin fIx (mVar 0) (mC (.int 0)))) (mName 3))
    (mSeq (mFor (mItems (mCall F_ways_at (mCons (mVar 0) (mCons (mVar 2) mNil)))) (mName 4) (mSeq (mAsg (mCall F_far_end (mCons (mVar 0) (mCons (mVar 4) (mCons (mVar 2) mNil)))) (mName 5))
    (mSeq (mAsg (mBin fAdd (mBin fIx (mVar 3) (mVar 2)) (mBin fIx (mVar 1) (mVar 4))) (mgSub (mVar 3) (mVar 2)))
    (mAsg (mBin fSub (mBin fIx (mVar 3) (mVar 5)) (mBin fIx (mVar 1) (mVar 4))) (mgSub (mVar 3) (mVar 5))))))
    (mRet (mVar 3))))
def F_leaving_shares : DCall := den 3 6 M_leaving_shares
-- level 2, params ['mine', 'widths', 'x'], calls ['far_end', 'ways_at']

abbrev N_cleared_row : List Str := ["row", "lead", "k", "before", "here", "there"]
def M_cleared_row : MStm :=
  (mRet (mLc (mZip (mCons (mVar 0) (mCons (mVar 1) mNil))) (mgTup (mgCons (mName 4) (mgCons (mName 5) mgNil)) 2) mYes (mBin fDivW (mBin fSub (mBin fMulW (mBin fIx (mVar 1) (mVar 2)) (mVar 4)) (mBin fMulW (mBin fIx (mVar 0) (mVar 2)) (mVar 5))) (mVar 3)) [4, 5]))
def F_cleared_row : DCall := den 4 6 M_cleared_row
-- level 1, params ['row', 'lead', 'k', 'before'], calls []

abbrev N_solve_rows : List Str := ["rows", "before", "unknowns", "k", "lead", "row", "i"]
def M_solve_rows : MStm :=
  (mSeq (mAsg (mC (.int 1)) (mName 1))
    (mSeq (mAsg (mCall cLen (mCons (mVar 0) mNil)) (mName 2))
    (mSeq (mFor (mRange1 (mCons (mVar 2) mNil)) (mName 3) (mSeq (mAsg (mBin fIx (mVar 0) (mVar 3)) (mName 4))
    (mSeq (mAsg (mLc (mEnum (mCons (mVar 0) mNil)) (mgTup (mgCons (mName 6) (mgCons (mName 5) mgNil)) 2) mYes (mIf (mB (mBin fEq (mVar 6) (mVar 3))) (mVar 5) (mCall F_cleared_row (mCons (mVar 5) (mCons (mVar 4) (mCons (mVar 3) (mCons (mVar 1) mNil)))))) [6, 5]) (mName 0))
    (mAsg (mBin fIx (mVar 4) (mVar 3)) (mName 1)))))
    (mRet (mTup (mCons (mVar 1) (mCons (mLc (mItems (mVar 0)) (mName 5) mYes (mBin fIx (mVar 5) (mNeg (mC (.int 1)))) [5]) mNil)))))))
def F_solve_rows : DCall := den 1 7 M_solve_rows
-- level 2, params ['rows'], calls ['cleared_row']

abbrev N_without_divisor : List Str := ["levels", "divisor", "level"]
def M_without_divisor : MStm :=
  (mSeq (mAsg (mC (.int 0)) (mName 1))
    (mSeq (mFor (mItems (mVar 0)) (mName 2) (mAsg (mCall cGcd (mCons (mVar 1) (mCons (mVar 2) mNil))) (mName 1)))
    (mRet (mCall cTuple (mCons (mLc (mItems (mVar 0)) (mName 2) mYes (mBin fDivW (mVar 2) (mVar 1)) [2]) mNil)))))
def F_without_divisor : DCall := den 1 3 M_without_divisor
-- level 1, params ['levels'], calls []

abbrev N_levels_for : List Str := ["mine", "widths", "inner", "rows", "x", "levels", "places", "_", "inlet", "shares", "common", "solved", "level", "z"]
def M_levels_for : MStm :=
  (mSeq (mAsg (mVar 0) (mgTup (mgCons (mName 6) (mgCons (mName 7) (mgCons (mName 8) (mgCons (mName 7) mgNil)))) 4))
    (mSeq (mAsg (mCall F_inner_places (mCons (mVar 0) mNil)) (mName 2))
    (mSeq (mAsg (mLst mNil) (mName 3))
    (mSeq (mFor (mItems (mVar 2)) (mName 4) (mSeq (mAsg (mCall F_leaving_shares (mCons (mVar 0) (mCons (mVar 1) (mCons (mVar 4) mNil)))) (mName 9))
    (mDrop (mApp (mVar 3) (mCons (mBin fAdd (mLc (mItems (mVar 2)) (mName 13) mYes (mBin fIx (mVar 9) (mVar 13)) [13]) (mLst (mCons (mNeg (mBin fIx (mVar 9) (mVar 8))) mNil))) mNil)))))
    (mSeq (mAsg (mCall F_solve_rows (mCons (mVar 3) mNil)) (mgTup (mgCons (mName 10) (mgCons (mName 11) mgNil)) 2))
    (mSeq (mAsg (mBin fMulW (mLst (mCons (mC (.int 0)) mNil)) (mVar 6)) (mName 5))
    (mSeq (mAsg (mVar 10) (mgSub (mVar 5) (mVar 8)))
    (mSeq (mFor (mZip (mCons (mVar 2) (mCons (mVar 11) mNil))) (mgTup (mgCons (mName 4) (mgCons (mName 12) mgNil)) 2) (mAsg (mVar 12) (mgSub (mVar 5) (mVar 4))))
    (mRet (mCall F_without_divisor (mCons (mVar 5) mNil)))))))))))
def F_levels_for : DCall := den 2 14 M_levels_for
-- level 3, params ['mine', 'widths'], calls ['inner_places', 'leaving_shares', 'solve_rows', 'without_divisor']

abbrev N_as_fraction : List Str := ["number", "parts", "divisor"]
def M_as_fraction : MStm :=
  (mSeq (mAsg (mCall cGcd (mCons (mVar 0) (mCons (mVar 1) mNil))) (mName 2))
    (mRet (mTup (mCons (mBin fDivW (mVar 0) (mVar 2)) (mCons (mBin fDivW (mVar 1) (mVar 2)) mNil)))))
def F_as_fraction : DCall := den 2 3 M_as_fraction
-- level 1, params ['number', 'parts'], calls []

abbrev N_air_of : List Str := ["mine", "widths", "levels", "whole", "air", "w", "amount", "a", "b"]
def M_air_of : MStm :=
  (mSeq (mAsg (mCall F_levels_for (mCons (mVar 0) (mCons (mVar 1) mNil))) (mName 2))
    (mSeq (mAsg (mBin fIx (mVar 2) (mBin fIx (mVar 0) (mC (.int 2)))) (mName 3))
    (mSeq (mAsg (mLc (mEnum (mCons (mBin fIx (mVar 0) (mC (.int 1))) mNil)) (mgTup (mgCons (mName 5) (mgCons (mgTup (mgCons (mName 7) (mgCons (mName 8) mgNil)) 2) mgNil)) 2) mYes (mBin fMulW (mBin fIx (mVar 1) (mVar 5)) (mBin fSub (mBin fIx (mVar 2) (mVar 7)) (mBin fIx (mVar 2) (mVar 8)))) [5, 7, 8]) (mName 4))
    (mRet (mCall cTuple (mCons (mLc (mItems (mVar 4)) (mName 6) mYes (mCall F_as_fraction (mCons (mVar 6) (mCons (mVar 3) mNil))) [6]) mNil))))))
def F_air_of : DCall := den 2 9 M_air_of
-- level 4, params ['mine', 'widths'], calls ['as_fraction', 'levels_for']

abbrev N_air_leaving : List Str := ["mine", "widths", "levels", "x", "w"]
def M_air_leaving : MStm :=
  (mRet (mCall cSum (mCons (mLc (mItems (mCall F_ways_at (mCons (mVar 0) (mCons (mVar 3) mNil)))) (mName 4) mYes (mBin fMulW (mBin fIx (mVar 1) (mVar 4)) (mBin fSub (mBin fIx (mVar 2) (mVar 3)) (mBin fIx (mVar 2) (mCall F_far_end (mCons (mVar 0) (mCons (mVar 4) (mCons (mVar 3) mNil))))))) [4]) mNil)))
def F_air_leaving : DCall := den 4 5 M_air_leaving
-- level 2, params ['mine', 'widths', 'levels', 'x'], calls ['far_end', 'ways_at']

abbrev N_total_air : List Str := ["mine", "widths", "inlet", "levels"]
def M_total_air : MStm :=
  (mSeq (mAsg (mBin fIx (mVar 0) (mC (.int 2))) (mName 2))
    (mSeq (mAsg (mCall F_levels_for (mCons (mVar 0) (mCons (mVar 1) mNil))) (mName 3))
    (mRet (mCall F_as_fraction (mCons (mCall F_air_leaving (mCons (mVar 0) (mCons (mVar 1) (mCons (mVar 3) (mCons (mVar 2) mNil))))) (mCons (mBin fIx (mVar 3) (mVar 2)) mNil))))))
def F_total_air : DCall := den 2 4 M_total_air
-- level 4, params ['mine', 'widths'], calls ['air_leaving', 'as_fraction', 'levels_for']

abbrev N_sign_between : List Str := ["levels", "x", "y"]
def M_sign_between : MStm :=
  (mSeq (mIfS (mB (mBin fEq (mBin fIx (mVar 0) (mVar 1)) (mBin fIx (mVar 0) (mVar 2)))) (mRet (mC (.int 0))) mNx)
    (mRet (mIf (mB (mBin fGt (mBin fIx (mVar 0) (mVar 1)) (mBin fIx (mVar 0) (mVar 2)))) (mC (.int 1)) (mNeg (mC (.int 1))))))
def F_sign_between : DCall := den 3 3 M_sign_between
-- level 1, params ['levels', 'x', 'y'], calls []

abbrev N_picture_of : List Str := ["mine", "levels", "a", "b"]
def M_picture_of : MStm :=
  (mRet (mCall cTuple (mCons (mLc (mItems (mBin fIx (mVar 0) (mC (.int 1)))) (mgTup (mgCons (mName 2) (mgCons (mName 3) mgNil)) 2) mYes (mCall F_sign_between (mCons (mVar 1) (mCons (mVar 2) (mCons (mVar 3) mNil)))) [2, 3]) mNil)))
def F_picture_of : DCall := den 2 4 M_picture_of
-- level 2, params ['mine', 'levels'], calls ['sign_between']
end Air

set_option Elab.async false
set_option linter.all false
set_option maxRecDepth 100000
set_option maxHeartbeats 4000000
namespace Air
open PySem PySem.Spec PyProof.Rows L2 MS Law
local macro_rules | `(tactic| walk_at "st") => `(tactic| first
  | with_reducible refine gs_seq ?_ | with_reducible refine gs_asg ?_ | with_reducible refine gs_ret ?_ | with_reducible refine gs_retN ?_ | with_reducible refine gs_drop ?_ | with_reducible refine gs_if ?_ | with_reducible refine gs_par ?_ | with_reducible refine gs_for ?_ | with_reducible refine gs_nx ?_
  | with_reducible refine ge_cons ?_ | with_reducible refine ge_nil ?_ | with_reducible refine ge_c ?_ | with_reducible refine ge_bin ?_ | with_reducible refine ge_call ?_
  | ((with_reducible refine ge_var (d := ?d) ?h ?_); case h => exact rfl)
  | ((with_reducible refine gs_aug (d := ?d) ?h ?_); case h => exact rfl)
  | (with_reducible refine ge_tup ?_) | (with_reducible refine ge_lst ?_) | with_reducible refine ge_B ?_ | with_reducible refine ge_and ?_ | with_reducible refine ge_or ?_ | with_reducible refine ge_not ?_ | with_reducible refine ge_if ?_ | with_reducible refine ge_andV ?_ | with_reducible refine ge_orV ?_ | with_reducible refine ge_notV ?_ | with_reducible refine ge_neg ?_
  | with_reducible refine ge_sl ?_ | with_reducible refine ge_noPart ?_ | with_reducible refine ge_part ?_ | with_reducible refine ge_revT ?_ | with_reducible refine ge_app ?_ | with_reducible refine ge_lc ?_ | with_reducible refine ge_chain ?_
  | with_reducible refine gi_items ?_ | with_reducible refine gi_range1 ?_ | with_reducible refine gi_range2 ?_ | with_reducible refine gi_enum ?_
  | with_reducible refine gt_name ?_ | with_reducible refine gt_nil ?_ | with_reducible refine gt_cons ?_ | with_reducible refine gt_tup rfl ?_ | with_reducible refine gt_sub ?_
  | with_reducible refine ge_fI ?_ | with_reducible refine ge_sub ?_ | with_reducible refine ge_add ?_ | with_reducible refine ge_lt ?_ | with_reducible refine ge_le ?_ | with_reducible refine ge_gt ?_ | with_reducible refine ge_ge ?_ | with_reducible refine ge_eqI ?_ | with_reducible refine ge_neI ?_ | with_reducible refine ge_eqS ?_ | with_reducible refine ge_neS ?_
  | with_reducible refine ge_int ?_ | with_reducible refine ge_min ?_ | with_reducible refine ge_max ?_ | with_reducible refine ge_abs ?_ | with_reducible refine ge_slT ?_
  | with_reducible refine then_nx ?_ | with_reducible refine then_rt ?_
  | ((with_reducible refine ge_ixL (ds := ?ds) (d := ?dd) ?hl ?he ?_); (case hl => first | exact lat_lst (by assumption) | exact lat_fz (by assumption)); (case he => first | exact at0 | exact at1 | exact at2 | exact at3))
  | ((with_reducible refine ge_ixT (d := ?dd) ?he ?_); (case he => first | exact at0 | exact at1 | exact at2 | exact at3))
  | ((with_reducible refine ge_len (ds := ?ds) ?hl ?_); (case hl => first | exact lat_lst (by assumption) | exact lat_fz (by assumption) | exact rfl))
  | ((with_reducible refine ge_mod ?hc ?_); (case hc => first | assumption | decide | omega))
  | ((with_reducible refine ge_div ?hc ?hd ?_); (case hc => first | assumption | decide | omega); (case hd => first | assumption | decide | omega))
  | ((with_reducible refine ge_mul ?hc ?_); (case hc => first | assumption | exact i64_left rfl | exact i64_right rfl))
  | ((with_reducible refine ge_pow ?hc ?_); (case hc => decide))
  | (with_reducible refine ⟨_, rfl, ?_⟩) | (with_reducible refine ⟨_, _, rfl, ?_⟩))
/-- what stood stands -/
def All (S S' : Store) : Prop := ∀ (n : Nat) (x : MO), S[n]? = some x → S'[n]? = some x
theorem All.refl {S : Store} : All S S := fun _ _ h => h
theorem All.trans {S S' S'' : Store} (a : All S S') (b : All S' S'') : All S S'' := fun n x h => b n x (a n x h)
theorem All.app {S l : Store} : All S (S ++ l) := fun _ _ h => get_app h
theorem All.pen {S S' : Store} {p g : Nat} (a : All S S') (h : Pen S p g) : Pen S' p g := by
  obtain ⟨ns, seat, rest, hp, hg, r⟩ := h
  exact ⟨ns, seat, rest, a _ _ hp, a _ _ hg, r⟩
theorem All.len {S S' : Store} (a : All S S') : S.length ≤ S'.length := by
  cases h : S.length with
  | zero => exact Nat.zero_le _
  | succ n =>
    have hn : n < S.length := by omega
    have := (List.getElem?_eq_some_iff.mp (a n S[n] (List.getElem?_eq_getElem hn))).1
    omega
theorem All.wr {S S' : Store} {n : Nat} {x : MO} (a : All S S') (h : S.length ≤ n) : All S (S'.set n x) := fun m y e => by
  have := (List.getElem?_eq_some_iff.mp e).1
  rw [List.getElem?_set_ne (by omega)]
  exact a m y e
/-- a comprehension without a test, whose items are known -/
theorem lc_map {ok : Store → Bool} {g : MTg} {e : MExp} {ρw : Ev} {S : Store} {ds ys : List D} (hl : ys.length = ds.length) (hz : ds.length ≤ 1000) (hok : ∀ S', All S S' → ok S' = true)
    (hs : ∀ (i : Nat) (x y : D) (S' : Store), ds[i]? = some x → ys[i]? = some y → All S S' → GE (g x ρw S') fun ρ1 S1 => S1 = S' ∧ GE (e ρ1 S') fun y' S2 => y' = y ∧ All S' S2) :
    ∃ S', lcL ok g mYes e ρw S.length ds (S ++ [.lst []]) = some S' ∧ All S S' ∧ S'[S.length]? = some (.lst ys) := by
  refine lc_by (fun i S' => All S S' ∧ S'[S.length]? = some (.lst (ys.take i))) ⟨.app, get_new⟩ (fun i d S' hd ⟨h1, h2⟩ => ⟨hok _ h1, ?_⟩) fun S' ⟨h1, h2⟩ => ⟨hok _ h1, h1, by rw [← hl, List.take_length] at h2; exact h2⟩
  have hi := (List.getElem?_eq_some_iff.mp hd).1
  have hy : ys[i]? = some ys[i] := List.getElem?_eq_getElem (by omega)
  refine (hs i d _ S' hd hy h1).mono ?_
  rintro ρ1 S1 ⟨rfl, h⟩
  refine ⟨true, S1, rfl, fun _ => h.mono ?_, fun z => (by cases z)⟩
  rintro y' S2 ⟨rfl, h3⟩
  have h4 := h3 _ _ h2
  refine ⟨_, mat_lst h4, by rw [List.length_take]; show _ < 16777216; omega, (h1.trans h3).wr (Nat.le_refl _), ?_⟩
  rw [get_set h4, List.take_succ, hy]
  rfl
/-- the i-th way touches x -/
def touch (ws : List (Int × Int)) (x : Int) (i : Nat) : Bool := match ws[i]? with
  | some w => decide (w.1 = x ∨ w.2 = x)
  | none => false
def hits (ws : List (Int × Int)) (x : Int) (n : Nat) : List Int := ((List.range n).filter (touch ws x)).map fun (i : Nat) => (i : Int)
theorem hits_succ (ws : List (Int × Int)) (x : Int) (n : Nat) : hits ws x (n + 1) = if touch ws x n = true then hits ws x n ++ [(n : Int)] else hits ws x n := by
  unfold hits
  rw [List.range_succ, List.filter_append]
  by_cases h : touch ws x n = true
  · rw [if_pos h, List.filter_cons, if_pos h, List.map_append]; rfl
  · rw [if_neg h, List.filter_cons, if_neg h, List.map_append]; exact List.append_nil _
theorem hits_length (ws : List (Int × Int)) (x : Int) (n : Nat) : (hits ws x n).length ≤ n := by
  unfold hits
  rw [List.length_map]
  exact Nat.le_trans (List.length_filter_le _ _) (by rw [List.length_range]; exact Nat.le_refl _)
theorem mem_hits {ws : List (Int × Int)} {x : Int} {n : Nat} {k : Int} (h : k ∈ hits ws x n) : ∃ (i : Nat) (w : Int × Int), k = (i : Int) ∧ i < n ∧ ws[i]? = some w ∧ (w.1 = x ∨ w.2 = x) := by
  unfold hits at h
  obtain ⟨i, h1, rfl⟩ := List.mem_map.mp h
  obtain ⟨h2, h3⟩ := List.mem_filter.mp h1
  unfold touch at h3
  split at h3
  · rename_i w e
    exact ⟨i, w, rfl, List.mem_range.mp h2, e, of_decide_eq_true h3⟩
  · cases h3
theorem hits_mem {ws : List (Int × Int)} {x : Int} {i : Nat} {w : Int × Int} (e : ws[i]? = some w) (h : w.1 = x ∨ w.2 = x) : (i : Int) ∈ hits ws x ws.length := by
  unfold hits
  refine List.mem_map.mpr ⟨i, List.mem_filter.mpr ⟨List.mem_range.mpr (List.getElem?_eq_some_iff.mp e).1, ?_⟩, rfl⟩
  unfold touch
  rw [e]
  exact decide_eq_true h
theorem inD_pair (x a b : Int) : inD (.int x) [.int a, .int b] = decide (a = x ∨ b = x) := by
  show ((a == x) || ((b == x) || false)) = _
  by_cases h1 : a = x
  · subst h1; simp
  · by_cases h2 : b = x
    · subst h2; simp
    · simp [h1, h2]
/-- the comprehension [w for w, way in enumerate(ways) if x in way], its block's slots given -/
theorem lc_hits {ws : List (Int × Int)} {x : Int} {S : Store} {ρw : Ev} {sx si sw : Nat} (hz : ws.length ≤ 1000)
    (hx : ∀ a b, ((ρw.set si (some a)).set sw (some b))[sx]? = some (some (.int x))) (hi : ∀ a b, ((ρw.set si (some a)).set sw (some b))[si]? = some (some a)) (hw : ∀ a b, ((ρw.set si (some a)).set sw (some b))[sw]? = some (some b)) :
    ∃ S', lcL always (mgTup (mgCons (mName si) (mgCons (mName sw) mgNil)) 2) (mB (mBin (fIn false) (mVar sx) (mVar sw))) (mVar si) ρw S.length (enumD (ws.map pairD)) (S ++ [.lst []]) = some S' ∧ All S S' ∧ S'[S.length]? = some (.lst ((hits ws x ws.length).map D.int)) := by
  have hn : (enumD (ws.map pairD)).length = ws.length := by rw [enumD_length, List.length_map]
  refine lc_by (fun i S' => All S S' ∧ S'[S.length]? = some (.lst ((hits ws x i).map D.int))) ⟨.app, get_new⟩ (fun i d S' hd ⟨h1, h2⟩ => ⟨rfl, ?_⟩) fun S' ⟨h1, h2⟩ => ⟨rfl, h1, by rw [hn] at h2; exact h2⟩
  obtain ⟨d', e1, rfl⟩ := enumD_get hd
  rw [List.getElem?_map] at e1
  obtain ⟨w, e2, rfl⟩ := Option.map_eq_some_iff.mp e1
  refine gt_tup rfl (gt_cons (gt_name (gt_cons (gt_name (gt_nil ?_)))))
  refine ge_B (ge_bin (ge_var (hx _ _) (ge_var (hw _ _) (ge_in (ds := [.int w.1, .int w.2]) rfl rfl ?_))))
  refine ⟨_, rfl, fun hc => ?_, fun hc => ?_⟩
  · refine ge_var (hi _ _) ?_
    have hc : inD (.int x) [.int w.1, .int w.2] = true := hc
    rw [inD_pair] at hc
    have ht : touch ws x i = true := by unfold touch; rw [e2]; exact hc
    have hl := hits_length ws x i
    have hi' := (List.getElem?_eq_some_iff.mp e2).1
    refine ⟨_, mat_lst h2, by rw [List.length_map]; show _ < 16777216; omega, h1.wr (Nat.le_refl _), ?_⟩
    rw [get_set h2, hits_succ, if_pos ht, List.map_append]
    rfl
  · have hc : inD (.int x) [.int w.1, .int w.2] = false := hc
    rw [inD_pair] at hc
    have ht : ¬ touch ws x i = true := by unfold touch; rw [e2]; show ¬ decide _ = true; rw [hc]; exact Bool.false_ne_true
    refine ⟨h1, ?_⟩
    rw [hits_succ, if_neg ht]
    exact h2
theorem ways_at_gives {S : Store} {M : Mine} {x : Int} (hz : M.ways.length ≤ 1000) : GE (F_ways_at [mineD M, .int x] S) fun d S' => d = .tup ((hits M.ways x M.ways.length).map D.int) ∧ All S S' := by
  refine ge_den rfl ?_
  unfold M_ways_at mineD
  repeat walk_at "st"
  refine .inl ⟨_, rfl, ?_⟩
  obtain ⟨S', e, h1, h2⟩ := lc_hits (S := S) (x := x) (ρw := wipeD (startD 4 [.tup [.int M.places, .tup (M.ways.map pairD), .int M.inlet, .int M.outlet], .int x]) [2, 3]) (sx := 1) (si := 2) (sw := 3) hz (fun _ _ => rfl) (fun _ _ => rfl) fun _ _ => rfl
  refine ⟨S', e, ?_⟩
  repeat walk_at "st"
  refine ge_tuple (lat_lst h2) ?_
  exact ⟨rfl, h1⟩
theorem far_end_gives {S : Store} {M : Mine} {i : Nat} {w : Int × Int} {x : Int} (e : M.ways[i]? = some w) : GE (F_far_end [mineD M, .int (i : Int), .int x] S) fun d S' => d = .int (if x = w.1 then w.2 else w.1) ∧ S' = S := by
  refine ge_den rfl ?_
  unfold M_far_end mineD
  repeat walk_at "st"
  refine ge_ixT (d := pairD w) (L2.atI_nat (by rw [List.getElem?_map, e]; rfl)) ?_
  unfold Law.pairD
  repeat walk_at "st"
  refine ⟨fun h => ?_, fun h => ?_⟩
  · repeat walk_at "st"
    exact ⟨by rw [if_pos (of_decide_eq_true h)], rfl⟩
  · repeat walk_at "st"
    exact ⟨by rw [if_neg (of_decide_eq_false h)], rfl⟩
theorem inV_ints (x : Int) : ∀ l : List Int, inV (V.int x) ((l.map D.int).map toV) = decide (x ∈ l)
  | [] => by simp [inV]
  | a :: l => by
    have ih := inV_ints x l
    unfold inV at ih ⊢
    rw [List.map_cons, List.map_cons, List.any_cons, ih]
    show ((a == x) || decide (x ∈ l)) = _
    by_cases h : a = x
    · subst h; simp
    · have h' : ¬ x = a := fun z => h z.symm
      simp [h, h']
theorem inD_ints (x : Int) (l : List Int) : inD (.int x) (l.map D.int) = decide (x ∈ l) := inV_ints x l
theorem flat_ints : ∀ l : List Int, (l.map D.int).all flatD = true
  | [] => rfl
  | a :: l => by rw [List.map_cons, List.all_cons, flat_ints l]; rfl
theorem end_ok {M : Mine} (ok : MineOk M) {i : Nat} {w : Int × Int} (e : M.ways[i]? = some w) (x : Int) : 0 ≤ (if x = w.1 then w.2 else w.1) ∧ (if x = w.1 then w.2 else w.1) < M.places := by
  obtain ⟨h1, h2, _⟩ := ok.ways w (List.mem_of_getElem? e)
  split
  · exact h2
  · exact h1
end Air

set_option Elab.async false
set_option linter.all false
set_option maxRecDepth 100000
set_option maxHeartbeats 4000000
namespace Air
open PySem PySem.Spec PyProof.Rows L2 MS Law
local macro_rules | `(tactic| walk_at "st") => `(tactic| first
  | with_reducible refine gs_seq ?_ | with_reducible refine gs_asg ?_ | with_reducible refine gs_ret ?_ | with_reducible refine gs_retN ?_ | with_reducible refine gs_drop ?_ | with_reducible refine gs_if ?_ | with_reducible refine gs_par ?_ | with_reducible refine gs_for ?_ | with_reducible refine gs_nx ?_
  | with_reducible refine ge_cons ?_ | with_reducible refine ge_nil ?_ | with_reducible refine ge_c ?_ | with_reducible refine ge_bin ?_ | with_reducible refine ge_call ?_
  | ((with_reducible refine ge_var (d := ?d) ?h ?_); case h => exact rfl)
  | ((with_reducible refine gs_aug (d := ?d) ?h ?_); case h => exact rfl)
  | (with_reducible refine ge_tup ?_) | (with_reducible refine ge_lst ?_) | with_reducible refine ge_B ?_ | with_reducible refine ge_and ?_ | with_reducible refine ge_or ?_ | with_reducible refine ge_not ?_ | with_reducible refine ge_if ?_ | with_reducible refine ge_andV ?_ | with_reducible refine ge_orV ?_ | with_reducible refine ge_notV ?_ | with_reducible refine ge_neg ?_
  | with_reducible refine ge_sl ?_ | with_reducible refine ge_noPart ?_ | with_reducible refine ge_part ?_ | with_reducible refine ge_revT ?_ | with_reducible refine ge_app ?_ | with_reducible refine ge_lc ?_ | with_reducible refine ge_chain ?_
  | with_reducible refine gi_items ?_ | with_reducible refine gi_range1 ?_ | with_reducible refine gi_range2 ?_ | with_reducible refine gi_enum ?_
  | with_reducible refine gt_name ?_ | with_reducible refine gt_nil ?_ | with_reducible refine gt_cons ?_ | with_reducible refine gt_tup rfl ?_ | with_reducible refine gt_sub ?_
  | with_reducible refine ge_fI ?_ | with_reducible refine ge_sub ?_ | with_reducible refine ge_add ?_ | with_reducible refine ge_lt ?_ | with_reducible refine ge_le ?_ | with_reducible refine ge_gt ?_ | with_reducible refine ge_ge ?_ | with_reducible refine ge_eqI ?_ | with_reducible refine ge_neI ?_ | with_reducible refine ge_eqS ?_ | with_reducible refine ge_neS ?_
  | with_reducible refine ge_int ?_ | with_reducible refine ge_min ?_ | with_reducible refine ge_max ?_ | with_reducible refine ge_abs ?_ | with_reducible refine ge_slT ?_
  | with_reducible refine then_nx ?_ | with_reducible refine then_rt ?_
  | ((with_reducible refine ge_ixL (ds := ?ds) (d := ?dd) ?hl ?he ?_); (case hl => first | exact lat_lst (by assumption) | exact lat_fz (by assumption)); (case he => first | exact at0 | exact at1 | exact at2 | exact at3))
  | ((with_reducible refine ge_ixT (d := ?dd) ?he ?_); (case he => first | exact at0 | exact at1 | exact at2 | exact at3))
  | ((with_reducible refine ge_len (ds := ?ds) ?hl ?_); (case hl => first | exact lat_lst (by assumption) | exact lat_fz (by assumption) | exact rfl))
  | ((with_reducible refine ge_mod ?hc ?_); (case hc => first | assumption | decide | omega))
  | ((with_reducible refine ge_div ?hc ?hd ?_); (case hc => first | assumption | decide | omega); (case hd => first | assumption | decide | omega))
  | ((with_reducible refine ge_mul ?hc ?_); (case hc => first | assumption | exact i64_left rfl | exact i64_right rfl))
  | ((with_reducible refine ge_pow ?hc ?_); (case hc => decide))
  | (with_reducible refine ⟨_, rfl, ?_⟩) | (with_reducible refine ⟨_, _, rfl, ?_⟩))
theorem ixN_of {n : Nat} {i : Int} (h0 : 0 ≤ i) (h1 : i < n) : L2.ixN n i = some i.toNat := by
  unfold L2.ixN
  rw [if_pos h0, if_pos h1]
theorem at_ints {sh : List Int} {i : Int} (h0 : 0 ≤ i) (h1 : i < sh.length) : L2.atI (sh.map D.int) i = some (.int (sh.getD i.toNat 0)) := by
  unfold L2.atI
  rw [List.length_map, ixN_of h0 h1]
  show (sh.map D.int)[i.toNat]? = _
  have h : i.toNat < sh.length := by omega
  rw [List.getElem?_map, List.getD_eq_getElem?_getD, List.getElem?_eq_getElem h]
  rfl
theorem set_ints {sh : List Int} {j : Nat} {v : Int} : (sh.map D.int).set j (.int v) = (sh.set j v).map D.int := by
  rw [List.map_set]
/-- a comprehension with a test that reads the place alone -/
theorem lc_pick {ok : Store → Bool} {g : MTg} {t : MTst} {e : MExp} {ρw : Ev} {S : Store} {ds : List D} (keep : Nat → Bool) (val : Nat → D) (hz : ds.length ≤ 1000) (hok : ∀ S', All S S' → ok S' = true)
    (hs : ∀ (i : Nat) (x : D) (S' : Store), ds[i]? = some x → All S S' → GE (g x ρw S') fun ρ1 S1 => S1 = S' ∧ GE (t ρ1 S') fun c S2 => c = keep i ∧ S2 = S' ∧ (keep i = true → GE (e ρ1 S') fun y S3 => y = val i ∧ All S' S3)) :
    ∃ S', lcL ok g t e ρw S.length ds (S ++ [.lst []]) = some S' ∧ All S S' ∧ S'[S.length]? = some (.lst (((List.range ds.length).filter keep).map val)) := by
  refine lc_by (fun i S' => All S S' ∧ S'[S.length]? = some (.lst (((List.range i).filter keep).map val))) ⟨.app, get_new⟩ (fun i d S' hd ⟨h1, h2⟩ => ⟨hok _ h1, ?_⟩) fun S' ⟨h1, h2⟩ => ⟨hok _ h1, h1, h2⟩
  have hi := (List.getElem?_eq_some_iff.mp hd).1
  refine (hs i d S' hd h1).mono ?_
  rintro ρ1 S1 ⟨rfl, h⟩
  refine h.mono ?_
  rintro c S2 ⟨rfl, rfl, h⟩
  refine ⟨fun hc => (h hc).mono ?_, fun hc => ⟨h1, ?_⟩⟩
  · rintro y S3 ⟨rfl, h3⟩
    have h4 := h3 _ _ h2
    refine ⟨_, mat_lst h4, ?_, (h1.trans h3).wr (Nat.le_refl _), ?_⟩
    · have := List.length_filter_le keep (List.range i)
      rw [List.length_map]; rw [List.length_range] at this
      show _ < 16777216
      omega
    · rw [get_set h4, List.range_succ, List.filter_append, List.filter_cons, if_pos hc, List.map_append]
      rfl
  · rw [List.range_succ, List.filter_append, List.filter_cons, if_neg (by rw [hc]; exact Bool.false_ne_true), List.map_append]
    rw [h2]
    show some (MO.lst _) = some (MO.lst (_ ++ []))
    rw [List.append_nil]
/-- the inner places -/
def isIn (M : Mine) (i : Nat) : Bool := !decide ((i : Int) = M.inlet ∨ (i : Int) = M.outlet)
def inner (M : Mine) : List Int := ((List.range M.places.toNat).filter (isIn M)).map fun (i : Nat) => (i : Int)
theorem inner_gives {S : Store} {M : Mine} (ok : MineOk M) : GE (F_inner_places [mineD M] S) fun d S' => d = .tup ((inner M).map D.int) ∧ All S S' := by
  refine ge_den rfl ?_
  unfold M_inner_places mineD
  repeat walk_at "st"
  have hlo := ok.lo
  have hhi := ok.hi
  refine ⟨r62_of (by omega) (by omega), ?_⟩
  generalize hm : D.tup [.int M.places, .tup (M.ways.map Law.pairD), .int M.inlet, .int M.outlet] = md
  generalize hw : D.tup (M.ways.map Law.pairD) = wd
  have hlen : (rangeD 0 M.places.toNat).length = M.places.toNat := rangeD_length
  obtain ⟨S', e, h1, h2⟩ := lc_pick (ok := always) (g := mName 5) (t := mB (mBin (fIn true) (mVar 5) (mTup (mCons (mVar 3) (mCons (mVar 4) mNil))))) (e := mVar 5) (S := S)
    (ρw := [some md, some (.int M.places), some wd, some (.int M.inlet), some (.int M.outlet), none]) (ds := rangeD 0 M.places.toNat) (isIn M) (fun i => .int (i : Int)) (by rw [hlen]; omega) (fun _ _ => rfl) (fun i x S' hx ha => by
      obtain ⟨rfl, hi⟩ := range_int hx
      rw [Int.zero_add]
      refine gt_name ⟨rfl, ge_B (ge_bin (ge_var rfl (ge_tup (ge_cons (ge_var rfl (ge_cons (ge_var rfl (ge_nil ⟨by show 2 ≤ szl; decide, ge_in (ds := [.int M.inlet, .int M.outlet]) rfl rfl ?_⟩)))))))) ⟩
      refine ⟨_, rfl, ?_, rfl, fun _ => ge_var rfl ⟨rfl, .refl⟩⟩
      show (!inD (.int (i : Int)) [.int M.inlet, .int M.outlet]) = isIn M i
      rw [inD_pair]
      unfold isIn
      congr 1
      exact decide_eq_decide.mpr ⟨fun h => h.elim (fun z => .inl z.symm) fun z => .inr z.symm, fun h => h.elim (fun z => .inl z.symm) fun z => .inr z.symm⟩)
  refine ⟨S', e, ?_⟩
  repeat walk_at "st"
  refine ge_tuple (lat_lst h2) ⟨?_, h1⟩
  rw [hlen]
  unfold inner
  rw [List.map_map]
  rfl
/-- a list with a number added at a place -/
def bump (sh : List Int) (x v : Int) : List Int := sh.set x.toNat (sh.getD x.toNat 0 + v)
theorem bump_length {sh : List Int} {x v : Int} : (bump sh x v).length = sh.length := List.length_set
def shareStep (M : Mine) (ws : List Int) (x : Int) (sh : List Int) (w : Int) : List Int := match M.ways[w.toNat]? with
  | some p => bump (bump sh x (ws.getD w.toNat 0)) (if x = p.1 then p.2 else p.1) (-(ws.getD w.toNat 0))
  | none => sh
def shares (M : Mine) (ws : List Int) (x : Int) : List Int := (hits M.ways x M.ways.length).foldl (shareStep M ws x) (List.replicate M.places.toNat 0)
theorem shareStep_length {M : Mine} {ws : List Int} {x w : Int} {sh : List Int} : (shareStep M ws x sh w).length = sh.length := by
  unfold shareStep
  split
  · rw [bump_length, bump_length]
  · rfl
theorem fold_length {M : Mine} {ws : List Int} {x : Int} : ∀ (l : List Int) (sh : List Int), (l.foldl (shareStep M ws x) sh).length = sh.length
  | [], _ => rfl
  | a :: l, sh => by rw [List.foldl_cons, fold_length l, shareStep_length]
theorem shares_length {M : Mine} {ws : List Int} {x : Int} : (shares M ws x).length = M.places.toNat := by
  unfold shares; rw [fold_length, List.length_replicate]
def widthsD (ws : List Int) : D := .tup (ws.map D.int)
theorem shares_gives {S : Store} {M : Mine} {ws : List Int} {x : Int} (ok : MineOk M) (hz : M.ways.length ≤ 1000) (hw : ws.length = M.ways.length) (hx : 0 ≤ x ∧ x < M.places) :
    GE (F_leaving_shares [mineD M, widthsD ws, .int x] S) fun d S' => ∃ q, d = .lr q ∧ S.length ≤ q ∧ S'[q]? = some (.lst ((shares M ws x).map D.int)) ∧ All S S' := by
  refine ge_den rfl ?_
  unfold M_leaving_shares
  have hlo := ok.lo
  have hhi := ok.hi
  refine gs_seq (gs_asg (ge_bin (ge_lst (ge_cons (ge_c (ge_nil ⟨by show 1 ≤ szl; decide, ?_⟩))))))
  refine ge_bin (ge_var rfl (ge_c (ge_ixT (d := .int M.places) at0 ?_)))
  refine ge_mulL (ds := [.int 0]) (mat_lst get_new) (by omega) (by omega) (by show _ ≤ 16777216; simp; omega) (gt_name (then_nx ?_))
  have hrep : repD [.int 0] M.places = (List.replicate M.places.toNat (0 : Int)).map D.int := by
    unfold repD
    rw [List.map_replicate]
    generalize M.places.toNat = k
    induction k with
    | zero => rfl
    | succ k ih => rw [List.replicate_succ, List.replicate_succ, List.flatten_cons, ih]; rfl
  rw [hrep]
  have h0 : (S ++ [MO.lst [D.int 0]] ++ [.lst ((List.replicate M.places.toNat (0 : Int)).map D.int)])[(S ++ [MO.lst [D.int 0]]).length]? = some (.lst ((List.replicate M.places.toNat (0 : Int)).map D.int)) := get_new
  have ha0 : All S (S ++ [MO.lst [D.int 0]] ++ [.lst ((List.replicate M.places.toNat (0 : Int)).map D.int)]) := All.app.trans .app
  have hq0 : S.length ≤ (S ++ [MO.lst [D.int 0]]).length := by rw [List.length_append]; omega
  generalize (S ++ [MO.lst [D.int 0]] ++ [.lst ((List.replicate M.places.toNat (0 : Int)).map D.int)]) = S0 at h0 ha0 ⊢
  generalize (S ++ [MO.lst [D.int 0]]).length = q at h0 hq0 ⊢
  refine gs_seq (gs_for (gi_items (ge_call (ge_cons (ge_var rfl (ge_cons (ge_var rfl (ge_nil ?_))))))))
  refine (ways_at_gives hz).mono ?_
  rintro _ S1 ⟨rfl, ha1⟩
  refine .inl ⟨_, rfl, ?_⟩
  have hlen : ((hits M.ways x M.ways.length).map D.int).length = (hits M.ways x M.ways.length).length := List.length_map ..
  refine gs_forL (fun i ρ S' => ∃ (x4 x5 : Option D), ρ = [some (mineD M), some (widthsD ws), some (.int x), some (.lr q), x4, x5] ∧ All S S' ∧
    S'[q]? = some (.lst ((((hits M.ways x M.ways.length).take i).foldl (shareStep M ws x) (List.replicate M.places.toNat 0)).map D.int))) ⟨none, none, rfl, ha0.trans ha1, ha1 _ _ h0⟩ ?_ ?_
  · rintro i d ρ S' hd ⟨x4, x5, rfl, ha, hq⟩
    refine ⟨rfl, ?_⟩
    rw [List.getElem?_map] at hd
    obtain ⟨k, hk, rfl⟩ := Option.map_eq_some_iff.mp hd
    obtain ⟨j, p, rfl, hj, hp, htch⟩ := mem_hits (List.mem_of_getElem? hk)
    have hjw : (j : Int) < ws.length := by omega
    obtain ⟨he0, he1⟩ := end_ok ok hp x
    refine gt_name (gs_seq (gs_asg (ge_call (ge_cons (ge_var rfl (ge_cons (ge_var rfl (ge_cons (ge_var rfl (ge_nil ?_))))))))))
    refine (far_end_gives hp).mono ?_
    rintro _ S2 ⟨rfl, rfl⟩
    refine gt_name (then_nx ?_)
    rw [List.take_add_one, hk, List.foldl_append]
    generalize hsh : ((hits M.ways x M.ways.length).take i).foldl (shareStep M ws x) (List.replicate M.places.toNat 0) = sh at hq ⊢
    have hshl : sh.length = M.places.toNat := by rw [← hsh, fold_length, List.length_replicate]
    generalize hen : (if x = p.1 then p.2 else p.1) = en at he0 he1 ⊢
    have hst : [(j : Int)].foldl (shareStep M ws x) sh = bump (bump sh x (ws.getD j 0)) en (-(ws.getD j 0)) := by
      show shareStep M ws x sh (j : Int) = _
      unfold shareStep
      rw [Int.toNat_natCast, hp]
      show bump _ (if x = p.1 then p.2 else p.1) _ = _
      rw [hen]
    have hwj : L2.atI (ws.map D.int) (j : Int) = some (.int (ws.getD j 0)) := by rw [at_ints (by omega) hjw, Int.toNat_natCast]
    refine gs_seq (gs_asg (ge_bin (ge_bin (ge_var rfl (ge_var rfl ?_)))))
    refine ge_ixL (lat_lst hq) (at_ints hx.1 (by omega)) (ge_bin (ge_var rfl (ge_var rfl (ge_ixT hwj (ge_add ?_)))))
    refine gt_sub (ge_var rfl (ge_var rfl ⟨q, x, _, x.toNat, rfl, rfl, mat_lst hq, by rw [List.length_map]; exact ixN_of hx.1 (by omega), then_nx ?_⟩))
    rw [set_ints]
    have hq2 : (S2.set q (.lst ((sh.set x.toNat (sh.getD x.toNat 0 + ws.getD j 0)).map D.int)))[q]? = some (.lst ((bump sh x (ws.getD j 0)).map D.int)) := get_set hq
    have ha2 : All S (S2.set q (.lst ((sh.set x.toNat (sh.getD x.toNat 0 + ws.getD j 0)).map D.int))) := ha.wr hq0
    generalize S2.set q (.lst ((sh.set x.toNat (sh.getD x.toNat 0 + ws.getD j 0)).map D.int)) = S3 at hq2 ha2 ⊢
    have hbl : (bump sh x (ws.getD j 0)).length = M.places.toNat := by rw [bump_length, hshl]
    refine gs_asg (ge_bin (ge_bin (ge_var rfl (ge_var rfl ?_))))
    refine ge_ixL (lat_lst hq2) (at_ints he0 (by omega)) (ge_bin (ge_var rfl (ge_var rfl (ge_ixT hwj (ge_sub ?_)))))
    refine gt_sub (ge_var rfl (ge_var rfl ⟨q, en, _, en.toNat, rfl, rfl, mat_lst hq2, by rw [List.length_map]; exact ixN_of he0 (by omega), .inl rfl, _, _, rfl, ha2.wr hq0, ?_⟩))
    rw [set_ints, show (some (j : Int)).toList = [(j : Int)] from rfl, hst, Int.sub_eq_add_neg]
    exact get_set hq2
  · rintro ρ S' ⟨x4, x5, rfl, ha, hq⟩
    refine ⟨rfl, then_nx (gs_ret (ge_var rfl ⟨q, rfl, hq0, ?_, ha⟩))⟩
    rw [hlen, List.take_length] at hq
    exact hq
end Air

set_option Elab.async false
set_option linter.all false
set_option maxRecDepth 100000
set_option maxHeartbeats 4000000
namespace Air
open PySem PySem.Spec PyProof.Rows L2 MS Law
local macro_rules | `(tactic| walk_at "st") => `(tactic| first
  | with_reducible refine gs_seq ?_ | with_reducible refine gs_asg ?_ | with_reducible refine gs_ret ?_ | with_reducible refine gs_retN ?_ | with_reducible refine gs_drop ?_ | with_reducible refine gs_if ?_ | with_reducible refine gs_par ?_ | with_reducible refine gs_for ?_ | with_reducible refine gs_nx ?_
  | with_reducible refine ge_cons ?_ | with_reducible refine ge_nil ?_ | with_reducible refine ge_c ?_ | with_reducible refine ge_bin ?_ | with_reducible refine ge_call ?_
  | ((with_reducible refine ge_var (d := ?d) ?h ?_); case h => exact rfl)
  | ((with_reducible refine gs_aug (d := ?d) ?h ?_); case h => exact rfl)
  | (with_reducible refine ge_tup ?_) | (with_reducible refine ge_lst ?_) | with_reducible refine ge_B ?_ | with_reducible refine ge_and ?_ | with_reducible refine ge_or ?_ | with_reducible refine ge_not ?_ | with_reducible refine ge_if ?_ | with_reducible refine ge_andV ?_ | with_reducible refine ge_orV ?_ | with_reducible refine ge_notV ?_ | with_reducible refine ge_neg ?_
  | with_reducible refine ge_sl ?_ | with_reducible refine ge_noPart ?_ | with_reducible refine ge_part ?_ | with_reducible refine ge_revT ?_ | with_reducible refine ge_app ?_ | with_reducible refine ge_lc ?_ | with_reducible refine ge_chain ?_
  | with_reducible refine gi_items ?_ | with_reducible refine gi_range1 ?_ | with_reducible refine gi_range2 ?_ | with_reducible refine gi_enum ?_
  | with_reducible refine gt_name ?_ | with_reducible refine gt_nil ?_ | with_reducible refine gt_cons ?_ | with_reducible refine gt_tup rfl ?_ | with_reducible refine gt_sub ?_
  | with_reducible refine ge_fI ?_ | with_reducible refine ge_sub ?_ | with_reducible refine ge_add ?_ | with_reducible refine ge_lt ?_ | with_reducible refine ge_le ?_ | with_reducible refine ge_gt ?_ | with_reducible refine ge_ge ?_ | with_reducible refine ge_eqI ?_ | with_reducible refine ge_neI ?_ | with_reducible refine ge_eqS ?_ | with_reducible refine ge_neS ?_
  | with_reducible refine ge_int ?_ | with_reducible refine ge_min ?_ | with_reducible refine ge_max ?_ | with_reducible refine ge_abs ?_ | with_reducible refine ge_slT ?_
  | with_reducible refine then_nx ?_ | with_reducible refine then_rt ?_
  | ((with_reducible refine ge_ixL (ds := ?ds) (d := ?dd) ?hl ?he ?_); (case hl => first | exact lat_lst (by assumption) | exact lat_fz (by assumption)); (case he => first | exact at0 | exact at1 | exact at2 | exact at3))
  | ((with_reducible refine ge_ixT (d := ?dd) ?he ?_); (case he => first | exact at0 | exact at1 | exact at2 | exact at3))
  | ((with_reducible refine ge_len (ds := ?ds) ?hl ?_); (case hl => first | exact lat_lst (by assumption) | exact lat_fz (by assumption) | exact rfl))
  | ((with_reducible refine ge_mod ?hc ?_); (case hc => first | assumption | decide | omega))
  | ((with_reducible refine ge_div ?hc ?hd ?_); (case hc => first | assumption | decide | omega); (case hd => first | assumption | decide | omega))
  | ((with_reducible refine ge_mul ?hc ?_); (case hc => first | assumption | exact i64_left rfl | exact i64_right rfl))
  | ((with_reducible refine ge_pow ?hc ?_); (case hc => decide))
  | (with_reducible refine ⟨_, rfl, ?_⟩) | (with_reducible refine ⟨_, _, rfl, ?_⟩))
theorem still_lst {S : Store} {n : Nat} {ds : List D} (h : S[n]? = some (.lst ds)) : still n ds S = true := still_of (lat_lst h)
theorem getD_of {l : List Int} {i : Nat} {x : Int} (h : l[i]? = some x) : l.getD i 0 = x := by
  rw [List.getD_eq_getElem?_getD, h]; rfl
theorem getD_mem {l : List Int} {i : Nat} (h : i < l.length) : l.getD i 0 ∈ l := by
  rw [List.getD_eq_getElem?_getD, List.getElem?_eq_getElem h]; exact List.getElem_mem h
/-- one row without its part at k -/
def cleared (row lead : List Int) (k : Nat) (before : Int) : List Int := List.zipWith (fun here there => (lead.getD k 0 * here - row.getD k 0 * there) / before) row lead
def Wds (l : List Int) : Prop := ∀ z ∈ l, wd z
theorem cleared_length {row lead : List Int} {k : Nat} {b : Int} (h : row.length = lead.length) : (cleared row lead k b).length = row.length := by
  unfold cleared; rw [List.length_zipWith]; omega
theorem cleared_gives {S : Store} {a b : Nat} {row lead : List Int} {k : Nat} {before : Int} (ha : S[a]? = some (.lst (row.map D.int))) (hb : S[b]? = some (.lst (lead.map D.int))) (hl : row.length = lead.length) (hz : row.length ≤ 1000) (hk : k < row.length)
    (h0 : 0 < before) (hw : wd before) (wr : Wds row) (wl : Wds lead) :
    GE (F_cleared_row [.lr a, .lr b, .int (k : Int), .int before] S) fun d S' => ∃ q, d = .lr q ∧ S.length ≤ q ∧ S'[q]? = some (.lst ((cleared row lead k before).map D.int)) ∧ All S S' := by
  refine ge_den rfl ?_
  unfold M_cleared_row
  refine gs_ret (ge_lc (gi_zipL (ge_cons (ge_var rfl (ge_cons (ge_var rfl (ge_nil ⟨a, _, b, _, rfl, lat_lst ha, lat_lst hb, ?_⟩)))))))
  have hzl : (zipD (row.map D.int) (lead.map D.int)).length = row.length := by unfold zipD; rw [List.length_zipWith, List.length_map, List.length_map]; omega
  obtain ⟨S', e, h1, h2⟩ := lc_map (ok := fun S => still a (row.map D.int) S && still b (lead.map D.int) S) (g := mgTup (mgCons (mName 4) (mgCons (mName 5) mgNil)) 2)
    (e := mBin fDivW (mBin fSub (mBin fMulW (mBin fIx (mVar 1) (mVar 2)) (mVar 4)) (mBin fMulW (mBin fIx (mVar 0) (mVar 2)) (mVar 5))) (mVar 3))
    (ρw := [some (.lr a), some (.lr b), some (.int (k : Int)), some (.int before), none, none]) (S := S) (ds := zipD (row.map D.int) (lead.map D.int)) (ys := (cleared row lead k before).map D.int)
    (by rw [hzl, List.length_map, cleared_length hl]) (by rw [hzl]; exact hz) (fun S' h => by rw [still_lst (h _ _ ha), still_lst (h _ _ hb)]; rfl) (fun i x y S' hx hy hS => by
      obtain ⟨d1, d2, e1, e2, rfl⟩ := zipD_get hx
      rw [List.getElem?_map] at e1 e2
      obtain ⟨u, f1, rfl⟩ := Option.map_eq_some_iff.mp e1
      obtain ⟨v, f2, rfl⟩ := Option.map_eq_some_iff.mp e2
      rw [List.getElem?_map] at hy
      obtain ⟨z, hz, rfl⟩ := Option.map_eq_some_iff.mp hy
      unfold cleared at hz
      rw [List.getElem?_zipWith, f1, f2] at hz
      have hz : (lead.getD k 0 * u - row.getD k 0 * v) / before = z := Option.some.inj hz
      refine gt_tup rfl (gt_cons (gt_name (gt_cons (gt_name (gt_nil ⟨rfl, ?_⟩)))))
      have hkl : (k : Int) < lead.length := by omega
      have hkr : (k : Int) < row.length := by omega
      refine ge_bin (ge_bin (ge_bin (ge_bin (ge_var rfl (ge_var rfl (ge_ixL (lat_lst (hS _ _ hb)) (at_ints (by omega) hkl) (ge_var rfl ?_)))))))
      rw [Int.toNat_natCast]
      refine ge_mulW ((wl _ (getD_mem (by omega))).narrow (wr _ (List.mem_of_getElem? f1))) ?_
      refine ge_bin (ge_bin (ge_var rfl (ge_var rfl (ge_ixL (lat_lst (hS _ _ ha)) (at_ints (by omega) hkr) (ge_var rfl ?_)))))
      rw [Int.toNat_natCast]
      refine ge_mulW ((wr _ (getD_mem (by omega))).narrow (wl _ (List.mem_of_getElem? f2))) ?_
      refine ge_sub (ge_var rfl (ge_divW h0 hw ⟨?_, .refl⟩))
      rw [hz])
  exact ⟨S', e, S.length, rfl, Nat.le_refl _, h2, h1⟩
/-- rows of numbers by their handles -/
structure RowsAt (S : Store) (r : Nat) (R : List (List Int)) : Prop where
  ex : ∃ qs : List Nat, S[r]? = some (.lst (qs.map D.lr)) ∧ qs.length = R.length ∧ (∀ q ∈ qs, q ≠ r) ∧ ∀ (i q : Nat) (row : List Int), qs[i]? = some q → R[i]? = some row → S[q]? = some (.lst (row.map D.int))
theorem RowsAt.mono {S S' : Store} {r : Nat} {R : List (List Int)} (h : RowsAt S r R) (a : All S S') : RowsAt S' r R := by
  obtain ⟨qs, h1, h2, h3, h4⟩ := h
  exact ⟨qs, a _ _ h1, h2, h3, fun i q row e1 e2 => a _ _ (h4 i q row e1 e2)⟩
def stepRows (R : List (List Int)) (k : Nat) (before : Int) : List (List Int) := R.mapIdx fun i row => if i = k then row else cleared row (R.getD k []) k before
def turnR (st : List (List Int) × Int) (k : Nat) : List (List Int) × Int := (stepRows st.1 k st.2, (st.1.getD k []).getD k 0)
def runR (R : List (List Int)) (k : Nat) : List (List Int) × Int := (List.range k).foldl turnR (R, 1)
theorem runR_succ {R : List (List Int)} {k : Nat} : runR R (k + 1) = turnR (runR R k) k := by
  unfold runR
  rw [List.range_succ, List.foldl_append]
  rfl
theorem runR_length {R : List (List Int)} : ∀ k, (runR R k).1.length = R.length
  | 0 => rfl
  | k + 1 => by
    rw [runR_succ]
    show (stepRows _ _ _).length = _
    unfold stepRows
    rw [List.length_mapIdx]
    exact runR_length k
structure Fine (n : Nat) (st : List (List Int) × Int) : Prop where
  pos : 0 < st.2
  wide : wd st.2
  rows : ∀ row ∈ st.1, row.length = n + 1 ∧ Wds row
theorem solve_gives {S : Store} {r : Nat} {R : List (List Int)} (h : RowsAt S r R) (hn : R.length ≤ 900) (hF : ∀ k ≤ R.length, Fine R.length (runR R k)) :
    GE (F_solve_rows [.lr r] S) fun d S' => ∃ q, d = .tup [.int (runR R R.length).2, .lr q] ∧ S'[q]? = some (.lst (((runR R R.length).1.map fun row => row.getD R.length 0).map D.int)) ∧ All S S' := by
  refine ge_den rfl ?_
  unfold M_solve_rows
  obtain ⟨qs, h1, h2, h3, h4⟩ := h
  refine gs_seq (gs_asg (ge_c (gt_name (then_nx (gs_seq (gs_asg (ge_call (ge_cons (ge_var rfl (ge_nil (ge_len (lat_lst h1) (gt_name (then_nx ?_)))))))))))))
  rw [List.length_map, h2]
  refine gs_seq (gs_for (gi_range1 (ge_cons (ge_var rfl (ge_nil ⟨_, rfl, r62_of (by omega) (by omega), ?_⟩)))))
  rw [Int.toNat_natCast]
  refine gs_forL (fun k ρ S' => ∃ (r' : Nat) (x3 x4 x5 x6 : Option D), ρ = [some (.lr r'), some (.int (runR R k).2), some (.int (R.length : Int)), x3, x4, x5, x6] ∧ All S S' ∧ RowsAt S' r' (runR R k).1)
    ⟨r, none, none, none, none, rfl, .refl, ⟨qs, h1, h2, h3, h4⟩⟩ ?_ ?_
  · rintro k d ρ S1 hd ⟨r', x3, x4, x5, x6, rfl, ha, hR⟩
    refine ⟨rfl, ?_⟩
    obtain ⟨rfl, hk⟩ := range_int hd
    rw [Int.zero_add]
    have F := hF k (by omega)
    obtain ⟨qs, g1, g2, g3, g4⟩ := hR
    rw [runR_length] at g2
    have hkq : k < qs.length := by omega
    have hkR : k < (runR R k).1.length := by rw [runR_length]; exact hk
    have eq_k : qs[k]? = some qs[k] := List.getElem?_eq_getElem hkq
    have eR_k : (runR R k).1[k]? = some (runR R k).1[k] := List.getElem?_eq_getElem hkR
    generalize qs[k] = qk at eq_k
    generalize hld : (runR R k).1[k] = lead at eR_k
    have g5 := g4 _ _ _ eq_k eR_k
    have F5 := F.rows lead (List.mem_of_getElem? eR_k)
    refine gt_name (gs_seq (gs_asg (ge_bin (ge_var rfl (ge_var rfl (ge_ixL (d := .lr qk) (lat_lst g1) (L2.atI_nat (by rw [List.getElem?_map, eq_k]; rfl)) (gt_name (then_nx (gs_seq (gs_asg (ge_lc (gi_enum (ge_cons (ge_var rfl (ge_nil (.inr ⟨r', _, rfl, lat_lst g1, ?_⟩))))))))))))))))
    have hen : (enumD (qs.map D.lr)).length = R.length := by rw [enumD_length, List.length_map, g2]
    -- the rows anew
    have lc : ∃ S', lcL (still r' (qs.map D.lr)) (mgTup (mgCons (mName 6) (mgCons (mName 5) mgNil)) 2) mYes (mIf (mB (mBin fEq (mVar 6) (mVar 3))) (mVar 5) (mCall F_cleared_row (mCons (mVar 5) (mCons (mVar 4) (mCons (mVar 3) (mCons (mVar 1) mNil))))))
        [some (.lr r'), some (.int (runR R k).2), some (.int (R.length : Int)), some (.int (k : Int)), some (.lr qk), none, none] S1.length (enumD (qs.map D.lr)) (S1 ++ [.lst []]) = some S' ∧ (All S1 S' ∧ RowsAt S' S1.length (stepRows (runR R k).1 k (runR R k).2)) := by
      refine lc_by (fun i S' => All S1 S' ∧ RowsAt S' S1.length ((stepRows (runR R k).1 k (runR R k).2).take i)) ⟨.app, ⟨[], get_new, rfl, fun q hq => absurd hq (List.not_mem_nil), fun i q row e => (by simp at e)⟩⟩ (fun i d S2 hd ⟨a2, b2⟩ => ⟨still_lst (a2 _ _ g1), ?_⟩) fun S2 ⟨a2, b2⟩ => ⟨still_lst (a2 _ _ g1), a2, ?_⟩
      · obtain ⟨d', e1, rfl⟩ := enumD_get hd
        rw [List.getElem?_map] at e1
        obtain ⟨qi, e2, rfl⟩ := Option.map_eq_some_iff.mp e1
        have hi : i < qs.length := (List.getElem?_eq_some_iff.mp e2).1
        have hiR : i < (runR R k).1.length := by rw [runR_length]; omega
        have eR_i : (runR R k).1[i]? = some (runR R k).1[i] := List.getElem?_eq_getElem hiR
        generalize (runR R k).1[i] = row at eR_i
        have g6 := g4 _ _ _ e2 eR_i
        have F6 := F.rows row (List.mem_of_getElem? eR_i)
        have eS : (stepRows (runR R k).1 k (runR R k).2)[i]? = some (if i = k then row else cleared row lead k (runR R k).2) := by
          unfold stepRows
          rw [List.getElem?_mapIdx, eR_i]
          show some (if i = k then row else cleared row ((runR R k).1.getD k []) k (runR R k).2) = _
          rw [List.getD_eq_getElem?_getD, eR_k]
          rfl
        -- what is appended
        have put : ∀ (S3 : Store) (q : Nat), All S2 S3 → q ≠ S1.length → S3[q]? = some (.lst ((if i = k then row else cleared row lead k (runR R k).2).map D.int)) →
            ∃ acc, mat S3 S1.length = some acc ∧ acc.length < szl ∧ All S1 (S3.set S1.length (.lst (acc ++ [.lr q]))) ∧ RowsAt (S3.set S1.length (.lst (acc ++ [.lr q]))) S1.length ((stepRows (runR R k).1 k (runR R k).2).take (i + 1)) := by
          intro S3 q a3 hne hq
          obtain ⟨ps, p1, p2, p3, p4⟩ := b2
          have p5 := a3 _ _ p1
          have hps : ps.length = i := by
            rw [p2, List.length_take]
            unfold stepRows
            rw [List.length_mapIdx, runR_length]
            omega
          refine ⟨_, mat_lst p5, by rw [List.length_map]; show _ < 16777216; omega, (a2.trans a3).wr (Nat.le_refl _), ⟨ps ++ [q], ?_, ?_, ?_, ?_⟩⟩
          · rw [get_set p5, List.map_append]; rfl
          · rw [List.length_append, p2, List.take_add_one, eS, List.length_append]; rfl
          · intro x hx
            rcases List.mem_append.mp hx with hx | hx
            · exact p3 x hx
            · rw [List.mem_singleton.mp hx]; exact hne
          · intro j x y ej ey
            rw [List.take_add_one, eS] at ey
            by_cases hj : j < ps.length
            · rw [List.getElem?_append_left hj] at ej
              rw [List.getElem?_append_left (by rw [← p2]; exact hj)] at ey
              have := a3 _ _ (p4 j x y ej ey)
              rw [get_ne (fun z => p3 x (List.mem_of_getElem? ej) z.symm)]
              exact this
            · have hj' : j = ps.length := by
                have := (List.getElem?_eq_some_iff.mp ej).1
                rw [List.length_append] at this
                simp at this
                omega
              subst hj'
              rw [List.getElem?_append_right (Nat.le_refl _)] at ej
              rw [List.getElem?_append_right (by rw [← p2]; exact Nat.le_refl _), ← p2] at ey
              simp at ej ey
              subst ej ey
              rw [get_ne (fun z => hne z.symm)]
              exact hq
        refine gt_tup rfl (gt_cons (gt_name (gt_cons (gt_name (gt_nil ⟨true, S2, rfl, fun _ => ?_, fun z => (by cases z)⟩)))))
        refine ge_if (ge_B (ge_bin (ge_var rfl (ge_var rfl (ge_eqI ⟨_, rfl, fun hc => ?_, fun hc => ?_⟩)))))
        · have hc : i = k := by have := of_decide_eq_true hc; omega
          have hne : qi ≠ S1.length := by have := (List.getElem?_eq_some_iff.mp g6).1; omega
          exact ge_var rfl (put S2 qi .refl hne (by rw [if_pos hc]; exact a2 _ _ g6))
        · have hc : ¬ i = k := by have := of_decide_eq_false hc; omega
          refine ge_call (ge_cons (ge_var rfl (ge_cons (ge_var rfl (ge_cons (ge_var rfl (ge_cons (ge_var rfl (ge_nil ?_)))))))))
          refine (cleared_gives (a2 _ _ g6) (a2 _ _ g5) (by rw [F6.1, F5.1]) (by rw [F6.1]; omega) (by rw [F6.1]; omega) F.pos F.wide F6.2 F5.2).mono ?_
          rintro _ S3 ⟨q, rfl, hq, e3, a3⟩
          have hlen2 := a2.len
          obtain ⟨ps, p1, _⟩ := b2
          have hp1 := (List.getElem?_eq_some_iff.mp p1).1
          exact put S3 q a3 (by omega) (by rw [if_neg hc]; exact e3)
      · rw [hen] at b2
        rw [List.take_of_length_le (by unfold stepRows; rw [List.length_mapIdx, runR_length]; exact Nat.le_refl _)] at b2
        exact b2
    obtain ⟨S', e, a', b'⟩ := lc
    refine ⟨S', e, gt_name (then_nx (gs_asg (ge_bin (ge_var rfl (ge_var rfl ?_)))))⟩
    refine ge_ixL (lat_lst (a' _ _ g5)) (at_ints (by omega) (by rw [F5.1]; omega)) (gt_name ⟨.inl rfl, S1.length, some (.int (k : Int)), some (.lr qk), x5, x6, ?_, ha.trans a', ?_⟩)
    · rw [runR_succ, Int.toNat_natCast]
      show _ = [some (D.lr S1.length), some (D.int (((runR R k).1.getD k []).getD k 0)), some (D.int (R.length : Int)), some (D.int (k : Int)), some (D.lr qk), x5, x6]
      rw [List.getD_eq_getElem?_getD (l := (runR R k).1), eR_k]
      rfl
    · rw [runR_succ]; exact b'
  · rintro ρ S1 ⟨r', x3, x4, x5, x6, rfl, ha, hR⟩
    refine ⟨rfl, then_nx ?_⟩
    rw [rangeD_length] at hR ⊢
    have F := hF R.length (Nat.le_refl _)
    obtain ⟨qs, g1, g2, g3, g4⟩ := hR
    rw [runR_length] at g2
    refine gs_ret (ge_tup (ge_cons (ge_var rfl (ge_cons (ge_lc (gi_items (ge_var rfl (.inr ⟨r', _, rfl, lat_lst g1, ?_⟩))))))))
    obtain ⟨S', e, h5, h6⟩ := lc_map (ok := still r' (qs.map D.lr)) (g := mName 5) (e := mBin fIx (mVar 5) (mNeg (mC (.int 1)))) (ρw := [some (.lr r'), some (.int (runR R R.length).2), some (.int (R.length : Int)), x3, x4, none, x6]) (S := S1) (ds := qs.map D.lr)
      (ys := ((runR R R.length).1.map fun row => row.getD R.length 0).map D.int) (by rw [List.length_map, List.length_map, List.length_map, runR_length, g2]) (by rw [List.length_map]; omega) (fun S' h => still_lst (h _ _ g1)) (fun i x y S' hx hy hS => by
        rw [List.getElem?_map] at hx
        obtain ⟨q, e1, rfl⟩ := Option.map_eq_some_iff.mp hx
        rw [List.getElem?_map, List.getElem?_map] at hy
        obtain ⟨z, e2, rfl⟩ := Option.map_eq_some_iff.mp hy
        obtain ⟨row, e3, rfl⟩ := Option.map_eq_some_iff.mp e2
        have hl := (F.rows row (List.mem_of_getElem? e3)).1
        refine gt_name ⟨rfl, ge_bin (ge_var rfl (ge_neg (ge_c ⟨1, rfl, ge_ixL (d := .int (row.getD R.length 0)) (lat_lst (hS _ _ (g4 _ _ _ e1 e3))) ?_ ⟨rfl, .refl⟩⟩)))⟩
        unfold L2.atI L2.ixN
        rw [List.length_map, hl, if_neg (by omega), if_pos (by omega)]
        show (row.map D.int)[((-1 : Int) + ((R.length + 1 : Nat) : Int)).toNat]? = _
        rw [show ((-1 : Int) + ((R.length + 1 : Nat) : Int)).toNat = R.length by omega, List.getElem?_map, List.getD_eq_getElem?_getD, List.getElem?_eq_getElem (by omega)]
        rfl)
    refine ⟨S', e, ge_nil ⟨by show 2 ≤ szl; decide, _, rfl, h6, ha.trans h5⟩⟩
end Air

set_option Elab.async false
set_option linter.all false
set_option maxRecDepth 100000
set_option maxHeartbeats 4000000
namespace Air
open PySem PySem.Spec PyProof.Rows L2 MS Law
local macro_rules | `(tactic| walk_at "st") => `(tactic| first
  | with_reducible refine gs_seq ?_ | with_reducible refine gs_asg ?_ | with_reducible refine gs_ret ?_ | with_reducible refine gs_retN ?_ | with_reducible refine gs_drop ?_ | with_reducible refine gs_if ?_ | with_reducible refine gs_par ?_ | with_reducible refine gs_for ?_ | with_reducible refine gs_nx ?_
  | with_reducible refine ge_cons ?_ | with_reducible refine ge_nil ?_ | with_reducible refine ge_c ?_ | with_reducible refine ge_bin ?_ | with_reducible refine ge_call ?_
  | ((with_reducible refine ge_var (d := ?d) ?h ?_); case h => exact rfl)
  | ((with_reducible refine gs_aug (d := ?d) ?h ?_); case h => exact rfl)
  | (with_reducible refine ge_tup ?_) | (with_reducible refine ge_lst ?_) | with_reducible refine ge_B ?_ | with_reducible refine ge_and ?_ | with_reducible refine ge_or ?_ | with_reducible refine ge_not ?_ | with_reducible refine ge_if ?_ | with_reducible refine ge_andV ?_ | with_reducible refine ge_orV ?_ | with_reducible refine ge_notV ?_ | with_reducible refine ge_neg ?_
  | with_reducible refine ge_sl ?_ | with_reducible refine ge_noPart ?_ | with_reducible refine ge_part ?_ | with_reducible refine ge_revT ?_ | with_reducible refine ge_app ?_ | with_reducible refine ge_lc ?_ | with_reducible refine ge_chain ?_
  | with_reducible refine gi_items ?_ | with_reducible refine gi_range1 ?_ | with_reducible refine gi_range2 ?_ | with_reducible refine gi_enum ?_
  | with_reducible refine gt_name ?_ | with_reducible refine gt_nil ?_ | with_reducible refine gt_cons ?_ | with_reducible refine gt_tup rfl ?_ | with_reducible refine gt_sub ?_
  | with_reducible refine ge_fI ?_ | with_reducible refine ge_sub ?_ | with_reducible refine ge_add ?_ | with_reducible refine ge_lt ?_ | with_reducible refine ge_le ?_ | with_reducible refine ge_gt ?_ | with_reducible refine ge_ge ?_ | with_reducible refine ge_eqI ?_ | with_reducible refine ge_neI ?_ | with_reducible refine ge_eqS ?_ | with_reducible refine ge_neS ?_
  | with_reducible refine ge_int ?_ | with_reducible refine ge_min ?_ | with_reducible refine ge_max ?_ | with_reducible refine ge_abs ?_ | with_reducible refine ge_slT ?_
  | with_reducible refine then_nx ?_ | with_reducible refine then_rt ?_
  | ((with_reducible refine ge_ixL (ds := ?ds) (d := ?dd) ?hl ?he ?_); (case hl => first | exact lat_lst (by assumption) | exact lat_fz (by assumption)); (case he => first | exact at0 | exact at1 | exact at2 | exact at3))
  | ((with_reducible refine ge_ixT (d := ?dd) ?he ?_); (case he => first | exact at0 | exact at1 | exact at2 | exact at3))
  | ((with_reducible refine ge_len (ds := ?ds) ?hl ?_); (case hl => first | exact lat_lst (by assumption) | exact lat_fz (by assumption) | exact rfl))
  | ((with_reducible refine ge_mod ?hc ?_); (case hc => first | assumption | decide | omega))
  | ((with_reducible refine ge_div ?hc ?hd ?_); (case hc => first | assumption | decide | omega); (case hd => first | assumption | decide | omega))
  | ((with_reducible refine ge_mul ?hc ?_); (case hc => first | assumption | exact i64_left rfl | exact i64_right rfl))
  | ((with_reducible refine ge_pow ?hc ?_); (case hc => decide))
  | (with_reducible refine ⟨_, rfl, ?_⟩) | (with_reducible refine ⟨_, _, rfl, ?_⟩))
def gdiv (ls : List Int) : Int := ls.foldl (fun d l => ((Nat.gcd d.natAbs l.natAbs : Nat) : Int)) 0
def without (ls : List Int) : List Int := ls.map fun l => l / gdiv ls
theorem without_gives {S : Store} {n : Nat} {ls : List Int} (h : S[n]? = some (.lst (ls.map D.int))) (hz : ls.length ≤ 1000) (h0 : 0 < gdiv ls) (hw : wd (gdiv ls)) :
    GE (F_without_divisor [.lr n] S) fun d S' => d = .tup ((without ls).map D.int) ∧ All S S' := by
  refine ge_den rfl ?_
  unfold M_without_divisor
  refine gs_seq (gs_asg (ge_c (gt_name (then_nx (gs_seq (gs_for (gi_items (ge_var rfl (.inr ⟨n, _, rfl, lat_lst h, ?_⟩)))))))))
  refine gs_forL (fun i ρ S' => S' = S ∧ ∃ x2 : Option D, ρ = [some (.lr n), some (.int ((ls.take i).foldl (fun d l => ((Nat.gcd d.natAbs l.natAbs : Nat) : Int)) 0)), x2]) ⟨rfl, none, rfl⟩ ?_ ?_
  · rintro i d ρ S' hd ⟨rfl, x2, rfl⟩
    refine ⟨still_lst h, ?_⟩
    rw [List.getElem?_map] at hd
    obtain ⟨l, hl, rfl⟩ := Option.map_eq_some_iff.mp hd
    refine gt_name (gs_asg (ge_call (ge_cons (ge_var rfl (ge_cons (ge_var rfl (ge_nil (ge_gcd (gt_name ⟨.inl rfl, rfl, some (.int l), ?_⟩)))))))))
    rw [List.take_add_one, hl, List.foldl_append]
    rfl
  · rintro ρ S' ⟨rfl, x2, rfl⟩
    refine ⟨still_lst h, then_nx ?_⟩
    rw [List.length_map, List.take_length]
    have hg : ls.foldl (fun d l => ((Nat.gcd d.natAbs l.natAbs : Nat) : Int)) 0 = gdiv ls := rfl
    rw [hg]
    obtain ⟨S2, e, h1, h2⟩ := lc_map (ok := still n (ls.map D.int)) (g := mName 2) (e := mBin fDivW (mVar 2) (mVar 1)) (ρw := [some (.lr n), some (.int (gdiv ls)), none]) (S := S') (ds := ls.map D.int) (ys := (without ls).map D.int)
      (by unfold without; rw [List.length_map, List.length_map, List.length_map]) (by rw [List.length_map]; exact hz) (fun S' k => still_lst (k _ _ h)) (fun i x y S' hx hy hS => by
        rw [List.getElem?_map] at hx
        obtain ⟨l, hl, rfl⟩ := Option.map_eq_some_iff.mp hx
        unfold without at hy
        rw [List.getElem?_map, List.getElem?_map, hl] at hy
        cases hy
        exact gt_name ⟨rfl, ge_bin (ge_var rfl (ge_var rfl (ge_divW h0 hw ⟨rfl, .refl⟩)))⟩)
    exact gs_ret (ge_call (ge_cons (ge_lc (gi_items (ge_var rfl (.inr ⟨n, _, rfl, lat_lst h, S2, e, ge_nil (ge_tuple (lat_lst h2) ⟨rfl, h1⟩)⟩))))))
/-- the rows for the inner places -/
def rowOf (M : Mine) (ws : List Int) (x : Int) : List Int := ((inner M).map fun z => (shares M ws x).getD z.toNat 0) ++ [-((shares M ws x).getD M.inlet.toNat 0)]
def rowsOf (M : Mine) (ws : List Int) : List (List Int) := (inner M).map (rowOf M ws)
def fin (M : Mine) (ws : List Int) : List (List Int) × Int := runR (rowsOf M ws) (rowsOf M ws).length
def solved (M : Mine) (ws : List Int) : List Int := (fin M ws).1.map fun row => row.getD (rowsOf M ws).length 0
def laid (M : Mine) (ws : List Int) : List Int := ((inner M).zip (solved M ws)).foldl (fun lv p => lv.set p.1.toNat p.2) ((List.replicate M.places.toNat 0).set M.inlet.toNat (fin M ws).2)
def levelsP (M : Mine) (ws : List Int) : List Int := without (laid M ws)
/-- what the program's way to the levels asks of the numbers -/
structure LevOk (M : Mine) (ws : List Int) : Prop where
  len : ws.length = M.ways.length
  run : ∀ k ≤ (rowsOf M ws).length, Fine (rowsOf M ws).length (runR (rowsOf M ws) k)
  pos : 0 < gdiv (laid M ws)
  wide : wd (gdiv (laid M ws))
theorem inner_mem {M : Mine} {x : Int} (h : x ∈ inner M) : 0 ≤ x ∧ x < M.places := by
  unfold inner at h
  obtain ⟨i, h1, rfl⟩ := List.mem_map.mp h
  have := List.mem_range.mp (List.mem_filter.mp h1).1
  omega
theorem inner_len {M : Mine} (ok : MineOk M) : (inner M).length ≤ 8 := by
  unfold inner
  have h := List.length_filter_le (isIn M) (List.range M.places.toNat)
  rw [List.length_range] at h
  rw [List.length_map]
  have := ok.hi
  omega
theorem laid_len {M : Mine} {ws : List Int} : (laid M ws).length = M.places.toNat := by
  unfold laid
  have : ∀ (l : List (Int × Int)) (lv : List Int), (l.foldl (fun lv p => lv.set p.1.toNat p.2) lv).length = lv.length := by
    intro l
    induction l with
    | nil => intro lv; rfl
    | cons a l ih => intro lv; rw [List.foldl_cons, ih, List.length_set]
  rw [this, List.length_set, List.length_replicate]
theorem levels_gives {S : Store} {M : Mine} {ws : List Int} (ok : MineOk M) (hz : M.ways.length ≤ 1000) (L : LevOk M ws) :
    GE (F_levels_for [mineD M, widthsD ws] S) fun d S' => d = .tup ((levelsP M ws).map D.int) ∧ All S S' := by
  refine ge_den rfl ?_
  unfold M_levels_for
  have hlo := ok.lo
  have hhi := ok.hi
  have hin := inner_len ok
  refine gs_seq (gs_asg (ge_var (d := mineD M) rfl ?_))
  refine gt_tup rfl (gt_cons (gt_name (gt_cons (gt_name (gt_cons (gt_name (gt_cons (gt_name (gt_nil (then_nx ?_))))))))))
  refine gs_seq (gs_asg (ge_call (ge_cons (ge_var rfl (ge_nil ?_)))))
  refine (inner_gives ok).mono ?_
  rintro _ S1 ⟨rfl, a1⟩
  refine gt_name (then_nx (gs_seq (gs_asg (ge_lst (ge_nil ⟨Nat.zero_le _, gt_name (then_nx ?_)⟩)))))
  have r0 : RowsAt (S1 ++ [.lst []]) S1.length ((rowsOf M ws).take 0) := ⟨[], get_new, rfl, fun q hq => absurd hq List.not_mem_nil, fun i q row e => (by simp at e)⟩
  have a2 : All S (S1 ++ [.lst []]) := a1.trans .app
  have hr : S.length ≤ S1.length := a1.len
  generalize S1 ++ [.lst []] = S2 at r0 a2 ⊢
  generalize S1.length = r at r0 hr ⊢
  refine gs_seq (gs_for (gi_items (ge_var rfl (.inl ⟨_, rfl, ?_⟩))))
  refine gs_forL (fun i ρ S' => ∃ (x4 x9 : Option D), ρ = [some (mineD M), some (widthsD ws), some (.tup ((inner M).map D.int)), some (.lr r), x4, none, some (.int M.places), some (.int M.outlet), some (.int M.inlet), x9, none, none, none, none] ∧ All S S' ∧ RowsAt S' r ((rowsOf M ws).take i))
    ⟨none, none, rfl, a2, r0⟩ ?_ ?_
  · rintro i d ρ S3 hd ⟨x4, x9, rfl, a3, r3⟩
    refine ⟨rfl, ?_⟩
    rw [List.getElem?_map] at hd
    obtain ⟨x, hx, rfl⟩ := Option.map_eq_some_iff.mp hd
    have hxm := inner_mem (List.mem_of_getElem? hx)
    have hii := (List.getElem?_eq_some_iff.mp hx).1
    have eR : (rowsOf M ws)[i]? = some (rowOf M ws x) := by unfold rowsOf; rw [List.getElem?_map, hx]; rfl
    refine gt_name (gs_seq (gs_asg (ge_call (ge_cons (ge_var rfl (ge_cons (ge_var rfl (ge_cons (ge_var rfl (ge_nil ?_))))))))))
    refine (shares_gives ok hz L.len hxm).mono ?_
    rintro _ S4 ⟨q, rfl, hq, e4, a4⟩
    have r4 := r3.mono a4
    have a4' := a3.trans a4
    refine gt_name (then_nx (gs_drop (ge_app (ge_var rfl ⟨r, rfl, ?_, ?_⟩))))
    · obtain ⟨qs, g1, _⟩ := r4; exact ⟨_, mat_lst g1⟩
    refine ge_cons (ge_bin (ge_lc (gi_items (ge_var rfl (.inl ⟨_, rfl, ?_⟩)))))
    have hsl := shares_length (M := M) (ws := ws) (x := x)
    obtain ⟨S5, e, a5, e5⟩ := lc_map (ok := always) (g := mName 13) (e := mBin fIx (mVar 9) (mVar 13)) (S := S4) (ds := (inner M).map D.int) (ys := ((inner M).map fun z => (shares M ws x).getD z.toNat 0).map D.int)
      (ρw := [some (mineD M), some (widthsD ws), some (.tup ((inner M).map D.int)), some (.lr r), some (.int x), none, some (.int M.places), some (.int M.outlet), some (.int M.inlet), some (.lr q), none, none, none, none])
      (by rw [List.length_map, List.length_map, List.length_map]) (by rw [List.length_map]; omega) (fun _ _ => rfl) (fun i y z S' hy hz hS => by
        rw [List.getElem?_map] at hy
        obtain ⟨y, hy', rfl⟩ := Option.map_eq_some_iff.mp hy
        rw [List.getElem?_map, List.getElem?_map, hy'] at hz
        cases hz
        have hym := inner_mem (List.mem_of_getElem? hy')
        exact gt_name ⟨rfl, ge_bin (ge_var rfl (ge_var rfl (ge_ixL (lat_lst (hS _ _ e4)) (at_ints hym.1 (by rw [hsl]; omega)) ⟨rfl, .refl⟩)))⟩)
    refine ⟨S5, e, ge_lst (ge_cons (ge_neg (ge_bin (ge_var rfl (ge_var rfl (ge_ixL (lat_lst (a5 _ _ e4)) (at_ints ok.ends.1.1 (by rw [hsl]; have := ok.ends.1.2; omega)) ⟨_, rfl, ge_nil ⟨by show 1 ≤ szl; decide, ?_⟩⟩))))))⟩
    refine ge_addL (mat_lst (get_app e5)) (mat_lst get_new) (by rw [List.length_map, List.length_map]; show _ ≤ 16777216; simp; omega) ?_
    have erow : ((inner M).map fun z => (shares M ws x).getD z.toNat 0).map D.int ++ [D.int (-(shares M ws x).getD M.inlet.toNat 0)] = (rowOf M ws x).map D.int := by
      unfold rowOf; rw [List.map_append]; rfl
    rw [erow]
    have a6 : All S4 (S5 ++ [.lst [D.int (-(shares M ws x).getD M.inlet.toNat 0)]] ++ [.lst ((rowOf M ws x).map D.int)]) := a5.trans (All.app.trans .app)
    have e6 : (S5 ++ [MO.lst [D.int (-(shares M ws x).getD M.inlet.toNat 0)]] ++ [.lst ((rowOf M ws x).map D.int)])[(S5 ++ [MO.lst [D.int (-(shares M ws x).getD M.inlet.toNat 0)]]).length]? = some (.lst ((rowOf M ws x).map D.int)) := get_new
    have hq6 : S4.length < (S5 ++ [MO.lst [D.int (-(shares M ws x).getD M.inlet.toNat 0)]]).length := by have := a5.len; rw [List.length_append]; simp; omega
    generalize (S5 ++ [MO.lst [D.int (-(shares M ws x).getD M.inlet.toNat 0)]] ++ [.lst ((rowOf M ws x).map D.int)]) = S6 at a6 e6 ⊢
    generalize (S5 ++ [MO.lst [D.int (-(shares M ws x).getD M.inlet.toNat 0)]]).length = q6 at e6 hq6 ⊢
    obtain ⟨ps, p1, p2, p3, p4⟩ := r4
    have hps : ps.length = i := by
      rw [p2, List.length_take]; unfold rowsOf; rw [List.length_map]; omega
    have p5 := a6 _ _ p1
    have hrl := (List.getElem?_eq_some_iff.mp p1).1
    refine ge_nil ⟨_, _, rfl, mat_lst p5, by rw [List.length_map]; show _ < 16777216; omega, .inl rfl, some (.int x), some (.lr q), rfl, (a4'.trans a6).wr hr, ⟨ps ++ [q6], ?_, ?_, ?_, ?_⟩⟩
    · rw [get_set p5, List.map_append]; rfl
    · rw [List.length_append, p2, List.take_add_one, eR, List.length_append]; rfl
    · intro y hy
      rcases List.mem_append.mp hy with hy | hy
      · exact p3 y hy
      · rw [List.mem_singleton.mp hy]; omega
    · intro j y z ej ez
      rw [List.take_add_one, eR] at ez
      by_cases hj : j < ps.length
      · rw [List.getElem?_append_left hj] at ej
        rw [List.getElem?_append_left (by rw [← p2]; exact hj)] at ez
        have := a6 _ _ (p4 j y z ej ez)
        rw [get_ne (fun z => p3 y (List.mem_of_getElem? ej) z.symm)]
        exact this
      · have hj' : j = ps.length := by
          have := (List.getElem?_eq_some_iff.mp ej).1
          rw [List.length_append] at this
          simp at this
          omega
        subst hj'
        rw [List.getElem?_append_right (Nat.le_refl _)] at ej
        rw [List.getElem?_append_right (by rw [← p2]; exact Nat.le_refl _), ← p2] at ez
        simp at ej ez
        subst ej ez
        rw [get_ne (by omega)]
        exact e6
  · rintro ρ S3 ⟨x4, x9, rfl, a3, r3⟩
    refine ⟨rfl, then_nx ?_⟩
    have hrl : (rowsOf M ws).length = (inner M).length := by unfold rowsOf; rw [List.length_map]
    rw [List.length_map, ← hrl, List.take_length] at r3
    refine gs_seq (gs_asg (ge_call (ge_cons (ge_var rfl (ge_nil ?_)))))
    refine (solve_gives r3 (by omega) L.run).mono ?_
    rintro _ S4 ⟨q, rfl, e4, a4⟩
    refine gt_tup rfl (gt_cons (gt_name (gt_cons (gt_name (gt_nil (then_nx ?_))))))
    have ef : (runR (rowsOf M ws) (rowsOf M ws).length) = fin M ws := rfl
    rw [ef] at e4 ⊢
    have es : ((fin M ws).1.map fun row => row.getD (rowsOf M ws).length 0) = solved M ws := rfl
    rw [es] at e4
    have hsl : (solved M ws).length = (inner M).length := by unfold solved fin; rw [List.length_map, runR_length, hrl]
    refine gs_seq (gs_asg (ge_bin (ge_lst (ge_cons (ge_c (ge_nil ⟨by show 1 ≤ szl; decide, ge_var rfl ?_⟩))))))
    refine ge_mulL (ds := [.int 0]) (mat_lst get_new) (by omega) (by omega) (by show _ ≤ 16777216; simp; omega) (gt_name (then_nx ?_))
    have hrep : repD [.int 0] M.places = (List.replicate M.places.toNat (0 : Int)).map D.int := by
      unfold repD
      rw [List.map_replicate]
      generalize M.places.toNat = k
      induction k with
      | zero => rfl
      | succ k ih => rw [List.replicate_succ, List.replicate_succ, List.flatten_cons, ih]; rfl
    rw [hrep]
    have e5 : (S4 ++ [MO.lst [D.int 0]] ++ [.lst ((List.replicate M.places.toNat (0 : Int)).map D.int)])[(S4 ++ [MO.lst [D.int 0]]).length]? = some (.lst ((List.replicate M.places.toNat (0 : Int)).map D.int)) := get_new
    have a5 : All S4 (S4 ++ [MO.lst [D.int 0]] ++ [.lst ((List.replicate M.places.toNat (0 : Int)).map D.int)]) := All.app.trans .app
    have hv : S4.length < (S4 ++ [MO.lst [D.int 0]]).length := by rw [List.length_append]; simp
    generalize (S4 ++ [MO.lst [D.int 0]] ++ [.lst ((List.replicate M.places.toNat (0 : Int)).map D.int)]) = S5 at e5 a5 ⊢
    generalize (S4 ++ [MO.lst [D.int 0]]).length = v at e5 hv ⊢
    have hl4 := (a3.trans a4).len
    refine gs_seq (gs_asg (ge_var rfl (gt_sub (ge_var rfl (ge_var rfl ⟨v, M.inlet, _, M.inlet.toNat, rfl, rfl, mat_lst e5, by rw [List.length_map, List.length_replicate]; exact ixN_of ok.ends.1.1 (by have := ok.ends.1.2; omega), then_nx ?_⟩)))))
    rw [set_ints]
    have e6 : (S5.set v (.lst (((List.replicate M.places.toNat (0 : Int)).set M.inlet.toNat (fin M ws).2).map D.int)))[v]? = some (.lst (((List.replicate M.places.toNat (0 : Int)).set M.inlet.toNat (fin M ws).2).map D.int)) := get_set e5
    have a6 : All S (S5.set v (.lst (((List.replicate M.places.toNat (0 : Int)).set M.inlet.toNat (fin M ws).2).map D.int))) := ((a3.trans a4).trans a5).wr (by omega)
    have e7 : (S5.set v (.lst (((List.replicate M.places.toNat (0 : Int)).set M.inlet.toNat (fin M ws).2).map D.int)))[q]? = some (.lst ((solved M ws).map D.int)) := by
      have := (List.getElem?_eq_some_iff.mp e4).1
      rw [get_ne (by omega)]; exact a5 _ _ e4
    have hqv : q ≠ v := by have := (List.getElem?_eq_some_iff.mp e4).1; omega
    generalize S5.set v (.lst (((List.replicate M.places.toNat (0 : Int)).set M.inlet.toNat (fin M ws).2).map D.int)) = S6 at e6 a6 e7 ⊢
    refine gs_seq (gs_for (gi_zipM (ge_cons (ge_var rfl (ge_cons (ge_var rfl (ge_nil ⟨_, q, _, rfl, lat_lst e7, ?_⟩)))))))
    refine gs_forL (fun i ρ S' => ∃ (x4 x12 : Option D), ρ = [some (mineD M), some (widthsD ws), some (.tup ((inner M).map D.int)), some (.lr r), x4, some (.lr v), some (.int M.places), some (.int M.outlet), some (.int M.inlet), x9, some (.int (fin M ws).2), some (.lr q), x12, none] ∧ All S S' ∧
      S'[q]? = some (.lst ((solved M ws).map D.int)) ∧ S'[v]? = some (.lst (((((inner M).zip (solved M ws)).take i).foldl (fun lv p => lv.set p.1.toNat p.2) ((List.replicate M.places.toNat 0).set M.inlet.toNat (fin M ws).2)).map D.int)))
      ⟨x4, none, rfl, a6, e7, e6⟩ ?_ ?_
    · rintro i d ρ S7 hd ⟨x4, x12, rfl, a7, e7, e8⟩
      refine ⟨still_lst e7, ?_⟩
      obtain ⟨d1, d2, f1, f2, rfl⟩ := zipD_get hd
      rw [List.getElem?_map] at f1 f2
      obtain ⟨x, g1, rfl⟩ := Option.map_eq_some_iff.mp f1
      obtain ⟨l, g2, rfl⟩ := Option.map_eq_some_iff.mp f2
      have hxm := inner_mem (List.mem_of_getElem? g1)
      have ez : ((inner M).zip (solved M ws))[i]? = some (x, l) := by rw [List.getElem?_zip_eq_some]; exact ⟨g1, g2⟩
      refine gt_tup rfl (gt_cons (gt_name (gt_cons (gt_name (gt_nil (gs_asg (ge_var rfl (gt_sub (ge_var rfl (ge_var rfl ⟨v, x, _, x.toNat, rfl, rfl, mat_lst e8, ?_, .inl rfl, some (.int x), some (.int l), rfl, a7.wr (by omega), ?_, ?_⟩)))))))))) 
      · rw [List.length_map]
        refine ixN_of hxm.1 ?_
        have : ∀ (l : List (Int × Int)) (lv : List Int), (l.foldl (fun lv p => lv.set p.1.toNat p.2) lv).length = lv.length := by
          intro l
          induction l with
          | nil => intro lv; rfl
          | cons a l ih => intro lv; rw [List.foldl_cons, ih, List.length_set]
        rw [this, List.length_set, List.length_replicate]; omega
      · rw [get_ne hqv.symm]; exact e7
      · rw [get_set e8, set_ints, List.take_add_one, ez, List.foldl_append]
        rfl
    · rintro ρ S7 ⟨x4, x12, rfl, a7, e7, e8⟩
      refine ⟨still_lst e7, then_nx ?_⟩
      have hzl : (zipD ((inner M).map D.int) ((solved M ws).map D.int)).length = ((inner M).zip (solved M ws)).length := by
        unfold zipD; rw [List.length_zipWith, List.length_map, List.length_map, List.length_zip]
      have e9 : S7[v]? = some (.lst ((laid M ws).map D.int)) := by
        rw [e8]
        show some (MO.lst _) = _
        rw [show (zipD ((inner M).map D.int) ((solved M ws).map D.int), still q ((solved M ws).map D.int)).1.length = ((inner M).zip (solved M ws)).length from hzl, List.take_length]
        rfl
      refine gs_ret (ge_call (ge_cons (ge_var rfl (ge_nil ?_))))
      refine (without_gives e9 (by rw [laid_len]; omega) L.pos L.wide).mono ?_
      rintro _ S8 ⟨rfl, a8⟩
      exact ⟨rfl, a7.trans a8⟩
end Air

set_option Elab.async false
set_option linter.all false
set_option maxRecDepth 100000
set_option maxHeartbeats 4000000
namespace Air
open PySem PySem.Spec PyProof.Rows L2 MS Law
local macro_rules | `(tactic| walk_at "st") => `(tactic| first
  | with_reducible refine gs_seq ?_ | with_reducible refine gs_asg ?_ | with_reducible refine gs_ret ?_ | with_reducible refine gs_retN ?_ | with_reducible refine gs_drop ?_ | with_reducible refine gs_if ?_ | with_reducible refine gs_par ?_ | with_reducible refine gs_for ?_ | with_reducible refine gs_nx ?_
  | with_reducible refine ge_cons ?_ | with_reducible refine ge_nil ?_ | with_reducible refine ge_c ?_ | with_reducible refine ge_bin ?_ | with_reducible refine ge_call ?_
  | ((with_reducible refine ge_var (d := ?d) ?h ?_); case h => exact rfl)
  | ((with_reducible refine gs_aug (d := ?d) ?h ?_); case h => exact rfl)
  | (with_reducible refine ge_tup ?_) | (with_reducible refine ge_lst ?_) | with_reducible refine ge_B ?_ | with_reducible refine ge_and ?_ | with_reducible refine ge_or ?_ | with_reducible refine ge_not ?_ | with_reducible refine ge_if ?_ | with_reducible refine ge_andV ?_ | with_reducible refine ge_orV ?_ | with_reducible refine ge_notV ?_ | with_reducible refine ge_neg ?_
  | with_reducible refine ge_sl ?_ | with_reducible refine ge_noPart ?_ | with_reducible refine ge_part ?_ | with_reducible refine ge_revT ?_ | with_reducible refine ge_app ?_ | with_reducible refine ge_lc ?_ | with_reducible refine ge_chain ?_
  | with_reducible refine gi_items ?_ | with_reducible refine gi_range1 ?_ | with_reducible refine gi_range2 ?_ | with_reducible refine gi_enum ?_
  | with_reducible refine gt_name ?_ | with_reducible refine gt_nil ?_ | with_reducible refine gt_cons ?_ | with_reducible refine gt_tup rfl ?_ | with_reducible refine gt_sub ?_
  | with_reducible refine ge_fI ?_ | with_reducible refine ge_sub ?_ | with_reducible refine ge_add ?_ | with_reducible refine ge_lt ?_ | with_reducible refine ge_le ?_ | with_reducible refine ge_gt ?_ | with_reducible refine ge_ge ?_ | with_reducible refine ge_eqI ?_ | with_reducible refine ge_neI ?_ | with_reducible refine ge_eqS ?_ | with_reducible refine ge_neS ?_
  | with_reducible refine ge_int ?_ | with_reducible refine ge_min ?_ | with_reducible refine ge_max ?_ | with_reducible refine ge_abs ?_ | with_reducible refine ge_slT ?_
  | with_reducible refine then_nx ?_ | with_reducible refine then_rt ?_
  | ((with_reducible refine ge_ixL (ds := ?ds) (d := ?dd) ?hl ?he ?_); (case hl => first | exact lat_lst (by assumption) | exact lat_fz (by assumption)); (case he => first | exact at0 | exact at1 | exact at2 | exact at3))
  | ((with_reducible refine ge_ixT (d := ?dd) ?he ?_); (case he => first | exact at0 | exact at1 | exact at2 | exact at3))
  | ((with_reducible refine ge_len (ds := ?ds) ?hl ?_); (case hl => first | exact lat_lst (by assumption) | exact lat_fz (by assumption) | exact rfl))
  | ((with_reducible refine ge_mod ?hc ?_); (case hc => first | assumption | decide | omega))
  | ((with_reducible refine ge_div ?hc ?hd ?_); (case hc => first | assumption | decide | omega); (case hd => first | assumption | decide | omega))
  | ((with_reducible refine ge_mul ?hc ?_); (case hc => first | assumption | exact i64_left rfl | exact i64_right rfl))
  | ((with_reducible refine ge_pow ?hc ?_); (case hc => decide))
  | (with_reducible refine ⟨_, rfl, ?_⟩) | (with_reducible refine ⟨_, _, rfl, ?_⟩))
def sgn (x y : Int) : Int := if x = y then 0 else if y < x then 1 else -1
theorem sign_gives {S : Store} {lv : List Int} {a b : Int} (ha : 0 ≤ a ∧ a < lv.length) (hb : 0 ≤ b ∧ b < lv.length) : GE (F_sign_between [.tup (lv.map D.int), .int a, .int b] S) fun d S' => d = .int (sgn (lv.getD a.toNat 0) (lv.getD b.toNat 0)) ∧ S' = S := by
  refine ge_den rfl ?_
  unfold M_sign_between sgn
  have e1 := at_ints ha.1 ha.2
  have e2 := at_ints hb.1 hb.2
  generalize lv.getD a.toNat 0 = u at e1 ⊢
  generalize lv.getD b.toNat 0 = v at e2 ⊢
  refine gs_seq (gs_if (ge_B (ge_bin (ge_bin (ge_var rfl (ge_var rfl (ge_ixT e1 (ge_bin (ge_var rfl (ge_var rfl (ge_ixT e2 (ge_eqI ⟨_, rfl, fun hc => ?_, fun hc => ?_⟩))))))))))))
  · exact gs_ret (ge_c ⟨by rw [if_pos (of_decide_eq_true hc)], rfl⟩)
  · have h := of_decide_eq_false hc
    refine gs_nx (then_nx (gs_ret (ge_if (ge_B (ge_bin (ge_bin (ge_var rfl (ge_var rfl (ge_ixT e1 (ge_bin (ge_var rfl (ge_var rfl (ge_ixT e2 (ge_gt ⟨_, rfl, fun hc => ?_, fun hc => ?_⟩))))))))))))))
    · exact ge_c ⟨by rw [if_neg h, if_pos (of_decide_eq_true hc)], rfl⟩
    · exact ge_neg (ge_c ⟨1, rfl, by rw [if_neg h, if_neg (of_decide_eq_false hc)], rfl⟩)
def pic (M : Mine) (lv : List Int) : List Int := M.ways.map fun w => sgn (lv.getD w.1.toNat 0) (lv.getD w.2.toNat 0)
theorem way_lt {M : Mine} {lv : List Int} (ok : MineOk M) (hl : lv.length = M.places.toNat) {w : Int × Int} (h : w ∈ M.ways) : (0 ≤ w.1 ∧ w.1 < lv.length) ∧ (0 ≤ w.2 ∧ w.2 < lv.length) := by
  obtain ⟨h1, h2, _⟩ := ok.ways w h
  have := ok.lo
  omega
theorem picture_gives {S : Store} {M : Mine} {lv : List Int} (ok : MineOk M) (hz : M.ways.length ≤ 1000) (hl : lv.length = M.places.toNat) : GE (F_picture_of [mineD M, .tup (lv.map D.int)] S) fun d S' => d = .tup ((pic M lv).map D.int) ∧ All S S' := by
  refine ge_den rfl ?_
  unfold M_picture_of
  refine gs_ret (ge_call (ge_cons (ge_lc (gi_items (ge_bin (ge_var (d := mineD M) rfl (ge_c (ge_ixT (d := .tup (M.ways.map Law.pairD)) at1 (.inl ⟨_, rfl, ?_⟩)))))))))
  obtain ⟨S', e, h1, h2⟩ := lc_map (ok := always) (g := mgTup (mgCons (mName 2) (mgCons (mName 3) mgNil)) 2) (e := mCall F_sign_between (mCons (mVar 1) (mCons (mVar 2) (mCons (mVar 3) mNil)))) (S := S) (ds := M.ways.map Law.pairD) (ys := (pic M lv).map D.int)
    (ρw := [some (mineD M), some (.tup (lv.map D.int)), none, none]) (by unfold pic; rw [List.length_map, List.length_map, List.length_map]) (by rw [List.length_map]; exact hz) (fun _ _ => rfl) (fun i x y S' hx hy hS => by
      rw [List.getElem?_map] at hx
      obtain ⟨w, hw, rfl⟩ := Option.map_eq_some_iff.mp hx
      unfold pic at hy
      rw [List.getElem?_map, List.getElem?_map, hw] at hy
      cases hy
      obtain ⟨k1, k2⟩ := way_lt ok hl (List.mem_of_getElem? hw)
      refine gt_tup rfl (gt_cons (gt_name (gt_cons (gt_name (gt_nil ⟨rfl, ?_⟩)))))
      refine ge_call (ge_cons (ge_var rfl (ge_cons (ge_var rfl (ge_cons (ge_var rfl (ge_nil ?_)))))))
      refine (sign_gives k1 k2).mono ?_
      rintro _ S2 ⟨rfl, rfl⟩
      exact ⟨rfl, .refl⟩)
  exact ⟨S', e, ge_nil (ge_tuple (lat_lst h2) ⟨rfl, h1⟩)⟩
def gcdI (a b : Int) : Int := ((Nat.gcd a.natAbs b.natAbs : Nat) : Int)
theorem gcdI_pos {a b : Int} (h : 0 < b) : 0 < gcdI a b := by
  unfold gcdI
  have := Nat.gcd_pos_of_pos_right a.natAbs (n := b.natAbs) (by omega)
  omega
theorem gcdI_le {a b : Int} (h : 0 < b) (hw : wd b) : wd (gcdI a b) := by
  unfold gcdI wd at *
  have := Nat.gcd_le_right a.natAbs (n := b.natAbs) (by omega)
  rw [Int.natAbs_natCast]
  exact Nat.lt_of_le_of_lt this hw
def frac (a b : Int) : List Int := [a / gcdI a b, b / gcdI a b]
theorem fraction_gives {S : Store} {a b : Int} (h : 0 < b) (hw : wd b) : GE (F_as_fraction [.int a, .int b] S) fun d S' => d = .tup ((frac a b).map D.int) ∧ S' = S := by
  refine ge_den rfl ?_
  unfold M_as_fraction
  have hp := gcdI_pos (a := a) h
  have hq := gcdI_le (a := a) h hw
  refine gs_seq (gs_asg (ge_call (ge_cons (ge_var rfl (ge_cons (ge_var rfl (ge_nil (ge_gcd (gt_name (then_nx ?_))))))))))
  have e : ((Nat.gcd a.natAbs b.natAbs : Nat) : Int) = gcdI a b := rfl
  rw [e]
  exact gs_ret (ge_tup (ge_cons (ge_bin (ge_var rfl (ge_var rfl (ge_divW hp hq (ge_cons (ge_bin (ge_var rfl (ge_var rfl (ge_divW hp hq (ge_nil ⟨by show 2 ≤ szl; decide, rfl, rfl⟩))))))))))))
theorem wd_diff {i a b : Int} (hi : wd i) (ha : wd a) (hb : wd b) : narrow i (a - b) = true := by
  unfold wd at *
  have h1 := log2_lt hi (by decide)
  have h2 : (a - b).natAbs < 2 ^ 2001 := by
    have : (a - b).natAbs ≤ a.natAbs + b.natAbs := by omega
    rw [Nat.pow_succ]
    omega
  have h3 := log2_lt h2 (by decide)
  exact decide_eq_true (by omega)
def airs (M : Mine) (ws lv : List Int) : List Int := M.ways.mapIdx fun i w => ws.getD i 0 * (lv.getD w.1.toNat 0 - lv.getD w.2.toNat 0)
/-- what the program's way to the air asks of the numbers, the levels known -/
structure AirOk (M : Mine) (ws : List Int) : Prop extends LevOk M ws where
  wsw : Wds ws
  lvw : Wds (levelsP M ws)
  top : 0 < (levelsP M ws).getD M.inlet.toNat 0
theorem levelsP_len {M : Mine} {ws : List Int} : (levelsP M ws).length = M.places.toNat := by
  unfold levelsP without; rw [List.length_map, laid_len]
theorem air_gives {S : Store} {M : Mine} {ws : List Int} (ok : MineOk M) (hz : M.ways.length ≤ 1000) (A : AirOk M ws) :
    GE (F_air_of [mineD M, widthsD ws] S) fun d S' => d = .tup ((airs M ws (levelsP M ws)).map fun a => .tup ((frac a ((levelsP M ws).getD M.inlet.toNat 0)).map D.int)) ∧ All S S' := by
  refine ge_den rfl ?_
  unfold M_air_of
  refine gs_seq (gs_asg (ge_call (ge_cons (ge_var rfl (ge_cons (ge_var rfl (ge_nil ?_)))))))
  refine (levels_gives ok hz A.toLevOk).mono ?_
  rintro _ S1 ⟨rfl, a1⟩
  have hl := levelsP_len (M := M) (ws := ws)
  have hw := A.lvw
  have htop := A.top
  have hio : M.inlet < (levelsP M ws).length := by have := ok.ends.1; have := ok.lo; omega
  have hmem := getD_mem (l := levelsP M ws) (i := M.inlet.toNat) (by have := ok.ends.1; omega)
  generalize levelsP M ws = lv at hl hw htop hio hmem ⊢
  refine gt_name (then_nx (gs_seq (gs_asg (ge_bin (ge_var rfl (ge_bin (ge_var (d := mineD M) rfl (ge_c (ge_ixT (d := .int M.inlet) at2 (ge_ixT (at_ints ok.ends.1.1 hio) (gt_name (then_nx ?_))))))))))))
  refine gs_seq (gs_asg (ge_lc (gi_enum (ge_cons (ge_bin (ge_var (d := mineD M) rfl (ge_c (ge_ixT (d := .tup (M.ways.map Law.pairD)) at1 (ge_nil (.inl ⟨_, rfl, ?_⟩))))))))))
  obtain ⟨S2, e, a2, e2⟩ := lc_map (ok := always) (g := mgTup (mgCons (mName 5) (mgCons (mgTup (mgCons (mName 7) (mgCons (mName 8) mgNil)) 2) mgNil)) 2)
    (e := mBin fMulW (mBin fIx (mVar 1) (mVar 5)) (mBin fSub (mBin fIx (mVar 2) (mVar 7)) (mBin fIx (mVar 2) (mVar 8)))) (S := S1) (ds := enumD (M.ways.map Law.pairD)) (ys := (airs M ws lv).map D.int)
    (ρw := [some (mineD M), some (widthsD ws), some (.tup (lv.map D.int)), some (.int (lv.getD M.inlet.toNat 0)), none, none, none, none, none]) (by unfold airs; rw [List.length_map, enumD_length, List.length_mapIdx, List.length_map]) (by rw [enumD_length, List.length_map]; exact hz) (fun _ _ => rfl) (fun i x y S' hx hy hS => by
      obtain ⟨x', hx', rfl⟩ := enumD_get hx
      rw [List.getElem?_map] at hx'
      obtain ⟨w, hw', rfl⟩ := Option.map_eq_some_iff.mp hx'
      unfold airs at hy
      rw [List.getElem?_map, List.getElem?_mapIdx, hw'] at hy
      cases hy
      obtain ⟨k1, k2⟩ := way_lt ok hl (List.mem_of_getElem? hw')
      have hi : (i : Int) < ws.length := by have := (List.getElem?_eq_some_iff.mp hw').1; have := A.len; omega
      refine gt_tup rfl (gt_cons (gt_name (gt_cons (gt_tup rfl (gt_cons (gt_name (gt_cons (gt_name (gt_nil (gt_nil ⟨rfl, ?_⟩))))))))))
      refine ge_bin (ge_bin (ge_var rfl (ge_var rfl (ge_ixT (at_ints (by omega) hi) ?_))))
      refine ge_bin (ge_bin (ge_var rfl (ge_var rfl (ge_ixT (at_ints k1.1 k1.2) (ge_bin (ge_var rfl (ge_var rfl (ge_ixT (at_ints k2.1 k2.2) (ge_sub ?_)))))))))
      refine ge_mulW (wd_diff (A.wsw _ (getD_mem (by omega))) (hw _ (getD_mem (by omega))) (hw _ (getD_mem (by omega)))) ⟨?_, .refl⟩
      rw [Int.toNat_natCast])
  refine ⟨S2, e, gt_name (then_nx (gs_ret (ge_call (ge_cons (ge_lc (gi_items (ge_var rfl (.inr ⟨_, _, rfl, lat_lst e2, ?_⟩))))))))⟩
  have hal : (airs M ws lv).length = M.ways.length := by unfold airs; rw [List.length_mapIdx]
  obtain ⟨S3, e3, a3, e4⟩ := lc_map (ok := still S1.length ((airs M ws lv).map D.int)) (g := mName 6) (e := mCall F_as_fraction (mCons (mVar 6) (mCons (mVar 3) mNil))) (S := S2) (ds := (airs M ws lv).map D.int) (ys := (airs M ws lv).map fun a => .tup ((frac a (lv.getD M.inlet.toNat 0)).map D.int))
    (ρw := [some (mineD M), some (widthsD ws), some (.tup (lv.map D.int)), some (.int (lv.getD M.inlet.toNat 0)), some (.lr S1.length), none, none, none, none]) (by rw [List.length_map, List.length_map]) (by rw [List.length_map, hal]; exact hz) (fun S' h => still_lst (h _ _ e2)) (fun i x y S' hx hy hS => by
      rw [List.getElem?_map] at hx
      obtain ⟨a, ha, rfl⟩ := Option.map_eq_some_iff.mp hx
      rw [List.getElem?_map, ha] at hy
      cases hy
      refine gt_name ⟨rfl, ge_call (ge_cons (ge_var rfl (ge_cons (ge_var rfl (ge_nil ?_)))))⟩
      refine (fraction_gives htop (hw _ hmem)).mono ?_
      rintro _ S4 ⟨rfl, rfl⟩
      exact ⟨rfl, .refl⟩)
  exact ⟨S3, e3, ge_nil (ge_tuple (lat_lst e4) ⟨rfl, (a1.trans a2).trans a3⟩)⟩
def far (M : Mine) (x w : Int) : Int := match M.ways[w.toNat]? with
  | some p => if x = p.1 then p.2 else p.1
  | none => 0
def leaving (M : Mine) (ws lv : List Int) (x : Int) : Int := ((hits M.ways x M.ways.length).map fun w => ws.getD w.toNat 0 * (lv.getD x.toNat 0 - lv.getD (far M x w).toNat 0)).sum
theorem leaving_gives {S : Store} {M : Mine} {ws lv : List Int} {x : Int} (ok : MineOk M) (hz : M.ways.length ≤ 1000) (hx : 0 ≤ x ∧ x < M.places) (hl : lv.length = M.places.toNat) (hn : ws.length = M.ways.length) (hws : Wds ws) (hlv : Wds lv) :
    GE (F_air_leaving [mineD M, widthsD ws, .tup (lv.map D.int), .int x] S) fun d S' => d = .int (leaving M ws lv x) ∧ All S S' := by
  refine ge_den rfl ?_
  unfold M_air_leaving
  refine gs_ret (ge_call (ge_cons (ge_lc (gi_items (ge_call (ge_cons (ge_var rfl (ge_cons (ge_var rfl (ge_nil ?_))))))))))
  refine (ways_at_gives hz).mono ?_
  rintro _ S1 ⟨rfl, a1⟩
  refine .inl ⟨_, rfl, ?_⟩
  have hlo := ok.lo
  have hhl := hits_length M.ways x M.ways.length
  obtain ⟨S2, e, a2, e2⟩ := lc_map (ok := always) (g := mName 4) (e := mBin fMulW (mBin fIx (mVar 1) (mVar 4)) (mBin fSub (mBin fIx (mVar 2) (mVar 3)) (mBin fIx (mVar 2) (mCall F_far_end (mCons (mVar 0) (mCons (mVar 4) (mCons (mVar 3) mNil)))))))
    (S := S1) (ds := (hits M.ways x M.ways.length).map D.int) (ys := ((hits M.ways x M.ways.length).map fun w => ws.getD w.toNat 0 * (lv.getD x.toNat 0 - lv.getD (far M x w).toNat 0)).map D.int)
    (ρw := [some (mineD M), some (widthsD ws), some (.tup (lv.map D.int)), some (.int x), none]) (by rw [List.length_map, List.length_map, List.length_map]) (by rw [List.length_map]; omega) (fun _ _ => rfl) (fun i y z S' hy hz hS => by
      rw [List.getElem?_map] at hy
      obtain ⟨k, hk, rfl⟩ := Option.map_eq_some_iff.mp hy
      rw [List.getElem?_map, List.getElem?_map, hk] at hz
      cases hz
      obtain ⟨j, p, rfl, hj, hp, _⟩ := mem_hits (List.mem_of_getElem? hk)
      obtain ⟨he0, he1⟩ := end_ok ok hp x
      have hf : far M x (j : Int) = if x = p.1 then p.2 else p.1 := by unfold far; rw [Int.toNat_natCast, hp]
      dsimp only
      rw [hf]
      refine gt_name ⟨rfl, ?_⟩
      refine ge_bin (ge_bin (ge_var rfl (ge_var rfl (ge_ixT (at_ints (by omega) (by omega)) ?_))))
      refine ge_bin (ge_bin (ge_var rfl (ge_var rfl (ge_ixT (at_ints hx.1 (by omega)) ?_))))
      refine ge_bin (ge_var rfl (ge_call (ge_cons (ge_var rfl (ge_cons (ge_var rfl (ge_cons (ge_var rfl (ge_nil ?_)))))))))
      refine (far_end_gives hp).mono ?_
      rintro _ S2 ⟨rfl, rfl⟩
      refine ge_ixT (at_ints he0 (by omega)) (ge_sub (ge_mulW (wd_diff (hws _ (getD_mem (by omega))) (hlv _ (getD_mem (by omega))) (hlv _ (getD_mem (by omega)))) ⟨rfl, .refl⟩)))
  exact ⟨S2, e, ge_nil (ge_sum (lat_lst e2) ⟨rfl, a1.trans a2⟩)⟩
theorem total_gives {S : Store} {M : Mine} {ws : List Int} (ok : MineOk M) (hz : M.ways.length ≤ 1000) (A : AirOk M ws) :
    GE (F_total_air [mineD M, widthsD ws] S) fun d S' => d = .tup ((frac (leaving M ws (levelsP M ws) M.inlet) ((levelsP M ws).getD M.inlet.toNat 0)).map D.int) ∧ All S S' := by
  refine ge_den rfl ?_
  unfold M_total_air
  refine gs_seq (gs_asg (ge_bin (ge_var (d := mineD M) rfl (ge_c (ge_ixT (d := .int M.inlet) at2 (gt_name (then_nx ?_)))))))
  refine gs_seq (gs_asg (ge_call (ge_cons (ge_var rfl (ge_cons (ge_var rfl (ge_nil ?_)))))))
  refine (levels_gives ok hz A.toLevOk).mono ?_
  rintro _ S1 ⟨rfl, a1⟩
  have hl := levelsP_len (M := M) (ws := ws)
  have hw := A.lvw
  have htop := A.top
  have hio : M.inlet < (levelsP M ws).length := by have := ok.ends.1; have := ok.lo; omega
  have hmem := getD_mem (l := levelsP M ws) (i := M.inlet.toNat) (by have := ok.ends.1; omega)
  generalize levelsP M ws = lv at hl hw htop hio hmem ⊢
  refine gt_name (then_nx (gs_ret (ge_call (ge_cons (ge_call (ge_cons (ge_var rfl (ge_cons (ge_var rfl (ge_cons (ge_var rfl (ge_cons (ge_var rfl (ge_nil ?_))))))))))))))
  refine (leaving_gives ok hz ok.ends.1 hl A.len A.wsw hw).mono ?_
  rintro _ S2 ⟨rfl, a2⟩
  refine ge_cons (ge_bin (ge_var rfl (ge_var rfl (ge_ixT (at_ints ok.ends.1.1 hio) (ge_nil ?_)))))
  refine (fraction_gives htop (hw _ hmem)).mono ?_
  rintro _ S3 ⟨rfl, rfl⟩
  exact ⟨rfl, a1.trans a2⟩
end Air

set_option Elab.async false
set_option linter.all false
set_option maxRecDepth 100000
set_option maxHeartbeats 4000000
set_option exponentiation.threshold 3000
namespace Air
open PySem PySem.Spec PyProof.Rows L2 MS Law
local macro_rules | `(tactic| walk_at "st") => `(tactic| first
  | with_reducible refine gs_seq ?_ | with_reducible refine gs_asg ?_ | with_reducible refine gs_ret ?_ | with_reducible refine gs_retN ?_ | with_reducible refine gs_drop ?_ | with_reducible refine gs_if ?_ | with_reducible refine gs_par ?_ | with_reducible refine gs_for ?_ | with_reducible refine gs_nx ?_
  | with_reducible refine ge_cons ?_ | with_reducible refine ge_nil ?_ | with_reducible refine ge_c ?_ | with_reducible refine ge_bin ?_ | with_reducible refine ge_call ?_
  | ((with_reducible refine ge_var (d := ?d) ?h ?_); case h => exact rfl)
  | ((with_reducible refine gs_aug (d := ?d) ?h ?_); case h => exact rfl)
  | (with_reducible refine ge_tup ?_) | (with_reducible refine ge_lst ?_) | with_reducible refine ge_B ?_ | with_reducible refine ge_and ?_ | with_reducible refine ge_or ?_ | with_reducible refine ge_not ?_ | with_reducible refine ge_if ?_ | with_reducible refine ge_andV ?_ | with_reducible refine ge_orV ?_ | with_reducible refine ge_notV ?_ | with_reducible refine ge_neg ?_
  | with_reducible refine ge_sl ?_ | with_reducible refine ge_noPart ?_ | with_reducible refine ge_part ?_ | with_reducible refine ge_revT ?_ | with_reducible refine ge_app ?_ | with_reducible refine ge_lc ?_ | with_reducible refine ge_chain ?_
  | with_reducible refine gi_items ?_ | with_reducible refine gi_range1 ?_ | with_reducible refine gi_range2 ?_ | with_reducible refine gi_enum ?_
  | with_reducible refine gt_name ?_ | with_reducible refine gt_nil ?_ | with_reducible refine gt_cons ?_ | with_reducible refine gt_tup rfl ?_ | with_reducible refine gt_sub ?_
  | with_reducible refine ge_fI ?_ | with_reducible refine ge_sub ?_ | with_reducible refine ge_add ?_ | with_reducible refine ge_lt ?_ | with_reducible refine ge_le ?_ | with_reducible refine ge_gt ?_ | with_reducible refine ge_ge ?_ | with_reducible refine ge_eqI ?_ | with_reducible refine ge_neI ?_ | with_reducible refine ge_eqS ?_ | with_reducible refine ge_neS ?_
  | with_reducible refine ge_int ?_ | with_reducible refine ge_min ?_ | with_reducible refine ge_max ?_ | with_reducible refine ge_abs ?_ | with_reducible refine ge_slT ?_
  | with_reducible refine then_nx ?_ | with_reducible refine then_rt ?_
  | ((with_reducible refine ge_ixL (ds := ?ds) (d := ?dd) ?hl ?he ?_); (case hl => first | exact lat_lst (by assumption) | exact lat_fz (by assumption)); (case he => first | exact at0 | exact at1 | exact at2 | exact at3))
  | ((with_reducible refine ge_ixT (d := ?dd) ?he ?_); (case he => first | exact at0 | exact at1 | exact at2 | exact at3))
  | ((with_reducible refine ge_len (ds := ?ds) ?hl ?_); (case hl => first | exact lat_lst (by assumption) | exact lat_fz (by assumption) | exact rfl))
  | ((with_reducible refine ge_mod ?hc ?_); (case hc => first | assumption | decide | omega))
  | ((with_reducible refine ge_div ?hc ?hd ?_); (case hc => first | assumption | decide | omega); (case hd => first | assumption | decide | omega))
  | ((with_reducible refine ge_mul ?hc ?_); (case hc => first | assumption | exact i64_left rfl | exact i64_right rfl))
  | ((with_reducible refine ge_pow ?hc ?_); (case hc => decide))
  | (with_reducible refine ⟨_, rfl, ?_⟩) | (with_reducible refine ⟨_, _, rfl, ?_⟩))
/-! numbers of at most k bits -/
def wk (k : Nat) (i : Int) : Prop := i.natAbs < 2 ^ k
theorem wk.mono {k l : Nat} {i : Int} (h : wk k i) (hl : k ≤ l) : wk l i := Nat.lt_of_lt_of_le h (Nat.pow_le_pow_right (by decide) hl)
theorem wk.wd {k : Nat} {i : Int} (h : wk k i) (hl : k ≤ 2000) : wd i := wk.mono h hl
theorem wk.mul {k l : Nat} {i j : Int} (h : wk k i) (g : wk l j) : wk (k + l) (i * j) := by
  unfold wk at *
  rw [Int.natAbs_mul, Nat.pow_add]
  exact Nat.mul_lt_mul'' h g
theorem wk.add {k : Nat} {i j : Int} (h : wk k i) (g : wk k j) : wk (k + 1) (i + j) := by
  unfold wk at *
  have : (i + j).natAbs ≤ i.natAbs + j.natAbs := by omega
  rw [Nat.pow_succ]; omega
theorem wk.sub {k : Nat} {i j : Int} (h : wk k i) (g : wk k j) : wk (k + 1) (i - j) := by
  unfold wk at *
  have : (i - j).natAbs ≤ i.natAbs + j.natAbs := by omega
  rw [Nat.pow_succ]; omega
theorem wk.neg {k : Nat} {i : Int} (h : wk k i) : wk k (-i) := by
  unfold wk at *; omega
theorem wd_zero : wd 0 := by unfold wd; exact Nat.two_pow_pos _
theorem wd_small {i : Int} (h : i.natAbs < 2 ^ 62) : wd i := wk.mono (k := 62) h (by decide)
theorem wd_div {i j : Int} (h : wd i) : wd (i / j) := by
  unfold wd at *
  exact Nat.lt_of_le_of_lt (Int.natAbs_ediv_le_natAbs i j) h
/-! the common divisor -/
theorem gfold_dvd : ∀ (ls : List Int) (d : Int), (ls.foldl (fun d l => ((Nat.gcd d.natAbs l.natAbs : Nat) : Int)) d ∣ d) ∧ ∀ l ∈ ls, ls.foldl (fun d l => ((Nat.gcd d.natAbs l.natAbs : Nat) : Int)) d ∣ l
  | [], d => ⟨Int.dvd_refl d, fun l h => absurd h List.not_mem_nil⟩
  | a :: ls, d => by
    obtain ⟨h1, h2⟩ := gfold_dvd ls ((Nat.gcd d.natAbs a.natAbs : Nat) : Int)
    rw [List.foldl_cons]
    have k1 : ((Nat.gcd d.natAbs a.natAbs : Nat) : Int) ∣ d := Int.ofNat_dvd_left.mpr (Nat.gcd_dvd_left _ _)
    have k2 : ((Nat.gcd d.natAbs a.natAbs : Nat) : Int) ∣ a := Int.ofNat_dvd_left.mpr (Nat.gcd_dvd_right _ _)
    refine ⟨Int.dvd_trans h1 k1, fun l hl => ?_⟩
    rcases List.mem_cons.mp hl with rfl | hl
    · exact Int.dvd_trans h1 k2
    · exact h2 l hl
theorem gdiv_dvd {ls : List Int} {l : Int} (h : l ∈ ls) : gdiv ls ∣ l := (gfold_dvd ls 0).2 l h
theorem gfold_nonneg : ∀ (ls : List Int) (d : Int), 0 ≤ d → 0 ≤ ls.foldl (fun d l => ((Nat.gcd d.natAbs l.natAbs : Nat) : Int)) d
  | [], d, h => h
  | a :: ls, d, _ => by
    rw [List.foldl_cons]
    exact gfold_nonneg ls _ (by omega)
theorem gdiv_pos {ls : List Int} {l : Int} (h : l ∈ ls) (hl : l ≠ 0) : 0 < gdiv ls := by
  have h1 := gfold_nonneg ls 0 (Int.le_refl 0)
  have h2 := gdiv_dvd h
  have h3 : gdiv ls ≠ 0 := fun z => by
    rw [z] at h2
    exact hl (Int.zero_dvd.mp h2)
  unfold gdiv at *
  omega
theorem gdiv_wd {ls : List Int} {l : Int} (h : l ∈ ls) (hl : l ≠ 0) (hw : wd l) : wd (gdiv ls) := by
  have h1 := Int.natAbs_dvd_natAbs.mpr (gdiv_dvd h)
  unfold wd at *
  exact Nat.lt_of_le_of_lt (Nat.le_of_dvd (by omega) h1) hw
theorem sgn_div {x y g : Int} (hg : 0 < g) (hx : g ∣ x) (hy : g ∣ y) : sgn (x / g) (y / g) = sgn x y := by
  obtain ⟨u, rfl⟩ := hx
  obtain ⟨v, rfl⟩ := hy
  rw [Int.mul_ediv_cancel_left _ (by omega), Int.mul_ediv_cancel_left _ (by omega)]
  unfold sgn
  by_cases h1 : u = v
  · rw [if_pos h1, if_pos (by rw [h1])]
  · rw [if_neg h1, if_neg (fun z => h1 (Int.eq_of_mul_eq_mul_left (by omega) z))]
    by_cases h2 : v < u
    · rw [if_pos h2, if_pos (Int.mul_lt_mul_of_pos_left h2 hg)]
    · rw [if_neg h2, if_neg (fun z => h2 (Int.lt_of_mul_lt_mul_left z (by omega)))]
theorem getD_map {ls : List Int} {f : Int → Int} {i : Nat} (h : i < ls.length) : (ls.map f).getD i 0 = f (ls.getD i 0) := by
  rw [List.getD_eq_getElem?_getD, List.getD_eq_getElem?_getD, List.getElem?_map, List.getElem?_eq_getElem h]
  rfl
theorem pic_without {M : Mine} {ls : List Int} (ok : MineOk M) (hl : ls.length = M.places.toNat) (h0 : 0 < gdiv ls) : pic M (without ls) = pic M ls := by
  unfold pic
  refine List.map_congr_left fun w hw => ?_
  obtain ⟨k1, k2⟩ := way_lt ok hl hw
  unfold without
  rw [getD_map (by omega), getD_map (by omega)]
  exact sgn_div h0 (gdiv_dvd (getD_mem (by omega))) (gdiv_dvd (getD_mem (by omega)))
/-! equality of tuples of whole numbers -/
theorem eqv_ints : ∀ l m : List Int, PyData.eqvAll (l.map PyData.int) (m.map PyData.int) = decide (l = m)
  | [], [] => by simp; rfl
  | [], _ :: _ => by simp; rfl
  | _ :: _, [] => by simp; rfl
  | a :: l, b :: m => by
    rw [List.map_cons, List.map_cons]
    show (PyData.eqv (.int a) (.int b) && PyData.eqvAll (l.map PyData.int) (m.map PyData.int)) = _
    rw [eqv_ints l m]
    show ((a == b) && _) = _
    by_cases h1 : a = b
    · subst h1; simp
    · simp [h1]
theorem shaped_ints (l : List Int) : SeqAt.shaped (.tuple (l.map PyData.int)) = true := by
  obtain ⟨l1, l2⟩ := ints_lay l
  unfold SeqAt.shaped
  rw [Bool.and_eq_true, decide_eq_true_eq]
  refine ⟨l1, ?_⟩
  show PyData.depthAll (l.map PyData.int) + 1 ≤ 64
  omega
theorem eqG_ints {S : Store} {Q : D → Store → Prop} {g : Bool → Bool} {l m : List Int} (h : Q (.bl (g (decide (l = m)))) S) : GE (fEqG g (.tup (l.map D.int)) (.tup (m.map D.int)) S) Q := by
  have e : ∀ l : List Int, toPy S 64 (.tup (l.map D.int)) = some (.tuple (l.map PyData.int)) := fun l => by
    show (((l.map D.int).mapM (toPy S 63)).map PyData.tuple) = _
    rw [toPy_ints (n := 62)]
    rfl
  refine ge_eq (x := .bl (g (decide (l = m)))) (S' := S) ?_ h
  show ((toPy S 64 (.tup (l.map D.int))).bind fun p => (toPy S 64 (.tup (m.map D.int))).bind fun q => if SeqAt.shaped p && SeqAt.shaped q then some (D.bl (g (PyData.eqv p q)), S) else none) = _
  rw [e, e]
  show (if SeqAt.shaped (.tuple (l.map PyData.int)) && SeqAt.shaped (.tuple (m.map PyData.int)) then some (D.bl (g (PyData.eqv (.tuple (l.map PyData.int)) (.tuple (m.map PyData.int)))), S) else none) = _
  rw [shaped_ints, shaped_ints]
  show some (D.bl (g (PyData.eqvAll (l.map PyData.int) (m.map PyData.int))), S) = _
  rw [eqv_ints]
theorem ge_eqT {S : Store} {Q : D → Store → Prop} {l m : List Int} (h : Q (.bl (decide (l = m))) S) : GE (fEq (.tup (l.map D.int)) (.tup (m.map D.int)) S) Q := eqG_ints (g := id) h
theorem ge_neT {S : Store} {Q : D → Store → Prop} {l m : List Int} (h : Q (.bl (!decide (l = m))) S) : GE (fNe (.tup (l.map D.int)) (.tup (m.map D.int)) S) Q := eqG_ints (g := not) h
theorem pen_gives {S : Store} {n : Nat} {ns : List Int} (h : lat S n = some (ns.map D.int)) : GE (F_law_pen [.lr n] S) fun d S' => ∃ p g, d = .lr p ∧ Pen S' p g ∧ All S S' := by
  refine ge_den rfl ?_
  unfold M_law_pen
  repeat walk_at "st"
  refine ge_slL h ?_
  repeat walk_at "st"
  refine ge_list (lat_lst get_new) ?_
  repeat walk_at "st"
  refine ⟨by show 3 ≤ szl; decide, ?_⟩
  have hc : ∃ ms : List Int, MS.cutD (ns.map D.int) none (some 63) = ms.map D.int := by
    unfold MS.cutD
    rw [← List.map_drop, ← List.map_take]
    exact ⟨_, rfl⟩
  obtain ⟨ms, hc⟩ := hc
  rw [hc]
  refine ⟨_, _, rfl, ⟨ms, 0, 0, get_new, get_app get_new, ?_, by decide, by decide⟩, (All.app.trans .app).trans .app⟩
  simp only [List.length_append, List.length_singleton]
  omega
end Air

set_option Elab.async false
set_option linter.all false
set_option maxRecDepth 100000
set_option maxHeartbeats 4000000
namespace K02
open PySem PySem.Spec PyProof.Rows L2 MS Law Air
abbrev N_near_places : List Str := ["mine", "x", "w"]
def M_near_places : MStm :=
  (mRet (mCall cTuple (mCons (mSortComp (mItems (mCall F_ways_at (mCons (mVar 0) (mCons (mVar 1) mNil)))) (mName 2) mYes (mCall F_far_end (mCons (mVar 0) (mCons (mVar 2) (mCons (mVar 1) mNil)))) [2]) mNil)))
def F_near_places : DCall := den 2 3 M_near_places
-- level 2, params ['mine', 'x'], calls ['far_end', 'ways_at']

abbrev N_reached_from : List Str := ["mine", "starts", "reached", "tried", "z"]
def M_reached_from : MStm :=
  (mSeq (mAsg (mCall cList (mCons (mVar 1) mNil)) (mName 2))
    (mSeq (mAsg (mC (.int 0)) (mName 3))
    (mSeq (whileN (mB (mBin fLt (mVar 3) (mCall cLen (mCons (mVar 2) mNil)))) (mSeq (mFor (mItems (mCall F_near_places (mCons (mVar 0) (mCons (mBin fIx (mVar 2) (mVar 3)) mNil)))) (mName 4) (mIfS (mB (mBin (fIn true) (mVar 4) (mVar 2))) (mDrop (mApp (mVar 2) (mCons (mVar 4) mNil))) mNx))
    (mAug 3 (fI fun i j => i + j) (mC (.int 1)))) 100)
    (mRet (mCall cTuple (mCons (mCall cSorted (mCons (mVar 2) mNil)) mNil))))))
def F_reached_from : DCall := den 2 5 M_reached_from
-- level 3, params ['mine', 'starts'], calls ['near_places']

abbrev N_reached_places : List Str := ["mine"]
def M_reached_places : MStm :=
  (mRet (mCall F_reached_from (mCons (mVar 0) (mCons (mSl (mVar 0) (mPart (mC (.int 2))) (mPart (mC (.int 3)))) mNil))))
def F_reached_places : DCall := den 1 1 M_reached_places
-- level 4, params ['mine'], calls ['reached_from']

abbrev N_is_joined : List Str := ["mine"]
def M_is_joined : MStm :=
  (mRet (mBin fEq (mCall cLen (mCons (mCall F_reached_places (mCons (mVar 0) mNil)) mNil)) (mBin fIx (mVar 0) (mC (.int 0)))))
def F_is_joined : DCall := den 1 1 M_is_joined
-- level 5, params ['mine'], calls ['reached_places']

abbrev N_law_reached : List Str := ["ways", "x", "shut", "found", "lap", "one", "other", "end", "far"]
def M_law_reached : MStm :=
  (mSeq (mAsg (mLst (mCons (mVar 1) mNil)) (mName 3))
    (mSeq (mFor (mRange1 (mCons (mC (.int 8)) mNil)) (mName 4) (mFor (mItems (mVar 0)) (mgTup (mgCons (mName 5) (mgCons (mName 6) mgNil)) 2) (mFor (mItems (mTup (mCons (mTup (mCons (mVar 5) (mCons (mVar 6) mNil))) (mCons (mTup (mCons (mVar 6) (mCons (mVar 5) mNil))) mNil)))) (mgTup (mgCons (mName 7) (mgCons (mName 8) mgNil)) 2) (mIfS (mAnd (mB (mBin (fIn false) (mVar 7) (mVar 3))) (mAnd (mB (mBin (fIn true) (mVar 8) (mVar 3))) (mB (mBin (fIn true) (mVar 8) (mVar 2))))) (mDrop (mApp (mVar 3) (mCons (mVar 8) mNil))) mNx))))
    (mRet (mVar 3))))
def F_law_reached : DCall := den 3 9 M_law_reached
-- level 1, params ['ways', 'x', 'shut'], calls []

abbrev N_law_is_joined : List Str := ["mine"]
def M_law_is_joined : MStm :=
  (mRet (mBin fEq (mCall cLen (mCons (mCall F_law_reached (mCons (mBin fIx (mVar 0) (mC (.int 1))) (mCons (mBin fIx (mVar 0) (mC (.int 2))) (mCons (mTup mNil) mNil)))) mNil)) (mBin fIx (mVar 0) (mC (.int 0)))))
def F_law_is_joined : DCall := den 1 1 M_law_is_joined
-- level 2, params ['mine'], calls ['_law_reached']

abbrev N_law : List Str := ["script", "pen", "turn", "mine", "before", "x", "ways", "due", "w", "lap", "one", "other", "at", "way"]
def M_law : MStm :=
  (mSeq (mAsg (mCall F_law_pen (mCons (mVar 0) mNil)) (mName 1))
    (mSeq (mFor (mRange1 (mCons (mCall cMax (mCons (mC (.int 3)) (mCons (mCall cMin (mCons (mC (.int 8)) (mCons (mCall cLen (mCons (mVar 0) mNil)) mNil))) mNil))) mNil)) (mName 2) (mSeq (mAsg (mCall F_law_mine (mCons (mVar 1) (mCons (mBin fAdd (mC (.int 2)) (mCall F_law_draw (mCons (mVar 1) (mCons (mC (.int 7)) mNil)))) (mCons (mC (.int 12)) mNil)))) (mName 3))
    (mSeq (mIfS (mB (mBin fEq (mCall F_law_draw (mCons (mVar 1) (mCons (mC (.int 2)) mNil))) (mC (.int 0)))) (mSeq (mAsg (mLc (mRange1 (mCons (mBin fAdd (mC (.int 1)) (mCall F_law_draw (mCons (mVar 1) (mCons (mC (.int 8)) mNil)))) mNil)) (mName 9) mYes (mCall F_law_two_places (mCons (mVar 1) (mCons (mBin fIx (mVar 3) (mC (.int 0))) mNil))) [9]) (mName 6))
    (mAsg (mTup (mCons (mBin fIx (mVar 3) (mC (.int 0))) (mCons (mCall cTuple (mCons (mVar 6) mNil)) (mCons (mBin fIx (mVar 3) (mC (.int 2))) (mCons (mBin fIx (mVar 3) (mC (.int 3))) mNil))))) (mName 3))) mNx)
    (mSeq (mAsg (mCall cRepr (mCons (mVar 3) mNil)) (mName 4))
    (mSeq (mIfS (mB (mBin fNe (mCall cRepr (mCons (mCall F_is_joined (mCons (mVar 3) mNil)) mNil)) (mCall cRepr (mCons (mCall F_law_is_joined (mCons (mVar 3) mNil)) mNil)))) (mRet (mC (.bl false))) mNx)
    (mSeq (mFor (mRange1 (mCons (mBin fIx (mVar 3) (mC (.int 0))) mNil)) (mName 5) (mSeq (mAsg (mLc (mEnum (mCons (mBin fIx (mVar 3) (mC (.int 1))) mNil)) (mgTup (mgCons (mName 12) (mgCons (mName 13) mgNil)) 2) (mB (mBin (fIn false) (mVar 5) (mVar 13))) (mVar 12) [12, 13]) (mName 7))
    (mSeq (mIfS (mB (mBin fNe (mCall cRepr (mCons (mCall F_ways_at (mCons (mVar 3) (mCons (mVar 5) mNil))) mNil)) (mCall cRepr (mCons (mCall cTuple (mCons (mVar 7) mNil)) mNil)))) (mRet (mC (.bl false))) mNx)
    (mFor (mItems (mVar 7)) (mName 8) (mSeq (mAsg (mBin fIx (mBin fIx (mVar 3) (mC (.int 1))) (mVar 8)) (mgTup (mgCons (mName 10) (mgCons (mName 11) mgNil)) 2))
    (mIfS (mB (mBin fNe (mCall cRepr (mCons (mCall F_far_end (mCons (mVar 3) (mCons (mVar 8) (mCons (mVar 5) mNil)))) mNil)) (mCall cRepr (mCons (mIf (mB (mBin fEq (mVar 5) (mVar 10))) (mVar 11) (mVar 10)) mNil)))) (mRet (mC (.bl false))) mNx))))))
    (mIfS (mB (mBin fNe (mCall cRepr (mCons (mVar 3) mNil)) (mVar 4))) (mRet (mC (.bl false))) mNx)))))))
    (mRet (mC (.bl true)))))
def F_law : DCall := den 1 14 M_law
-- level 6, params ['script'], calls ['_law_draw', '_law_is_joined', '_law_mine', '_law_pen', '_law_two_places', 'far_end', 'is_joined', 'ways_at']


end K02

set_option Elab.async false
set_option linter.all false
set_option maxRecDepth 100000
set_option maxHeartbeats 4000000
namespace K02
open PySem PySem.Spec PyProof.Rows L2 MS Law Air
local macro_rules | `(tactic| walk_at "st") => `(tactic| first
  | with_reducible refine gs_seq ?_ | with_reducible refine gs_asg ?_ | with_reducible refine gs_ret ?_ | with_reducible refine gs_retN ?_ | with_reducible refine gs_drop ?_ | with_reducible refine gs_if ?_ | with_reducible refine gs_par ?_ | with_reducible refine gs_for ?_ | with_reducible refine gs_nx ?_
  | with_reducible refine ge_cons ?_ | with_reducible refine ge_nil ?_ | with_reducible refine ge_c ?_ | with_reducible refine ge_bin ?_ | with_reducible refine ge_call ?_
  | ((with_reducible refine ge_var (d := ?d) ?h ?_); case h => exact rfl)
  | ((with_reducible refine gs_aug (d := ?d) ?h ?_); case h => exact rfl)
  | (with_reducible refine ge_tup ?_) | (with_reducible refine ge_lst ?_) | with_reducible refine ge_B ?_ | with_reducible refine ge_and ?_ | with_reducible refine ge_or ?_ | with_reducible refine ge_not ?_ | with_reducible refine ge_if ?_ | with_reducible refine ge_andV ?_ | with_reducible refine ge_orV ?_ | with_reducible refine ge_notV ?_ | with_reducible refine ge_neg ?_
  | with_reducible refine ge_sl ?_ | with_reducible refine ge_noPart ?_ | with_reducible refine ge_part ?_ | with_reducible refine ge_revT ?_ | with_reducible refine ge_app ?_ | with_reducible refine ge_lc ?_ | with_reducible refine ge_chain ?_
  | with_reducible refine gi_items ?_ | with_reducible refine gi_range1 ?_ | with_reducible refine gi_range2 ?_ | with_reducible refine gi_enum ?_
  | with_reducible refine gt_name ?_ | with_reducible refine gt_nil ?_ | with_reducible refine gt_cons ?_ | with_reducible refine gt_tup rfl ?_ | with_reducible refine gt_sub ?_
  | with_reducible refine ge_fI ?_ | with_reducible refine ge_sub ?_ | with_reducible refine ge_add ?_ | with_reducible refine ge_lt ?_ | with_reducible refine ge_le ?_ | with_reducible refine ge_gt ?_ | with_reducible refine ge_ge ?_ | with_reducible refine ge_eqI ?_ | with_reducible refine ge_neI ?_ | with_reducible refine ge_eqS ?_ | with_reducible refine ge_neS ?_
  | with_reducible refine ge_int ?_ | with_reducible refine ge_min ?_ | with_reducible refine ge_max ?_ | with_reducible refine ge_abs ?_ | with_reducible refine ge_slT ?_
  | with_reducible refine then_nx ?_ | with_reducible refine then_rt ?_
  | ((with_reducible refine ge_ixL (ds := ?ds) (d := ?dd) ?hl ?he ?_); (case hl => first | exact lat_lst (by assumption) | exact lat_fz (by assumption)); (case he => first | exact at0 | exact at1 | exact at2 | exact at3))
  | ((with_reducible refine ge_ixT (d := ?dd) ?he ?_); (case he => first | exact at0 | exact at1 | exact at2 | exact at3))
  | ((with_reducible refine ge_len (ds := ?ds) ?hl ?_); (case hl => first | exact lat_lst (by assumption) | exact lat_fz (by assumption) | exact rfl))
  | ((with_reducible refine ge_mod ?hc ?_); (case hc => first | assumption | decide | omega))
  | ((with_reducible refine ge_div ?hc ?hd ?_); (case hc => first | assumption | decide | omega); (case hd => first | assumption | decide | omega))
  | ((with_reducible refine ge_mul ?hc ?_); (case hc => first | assumption | exact i64_left rfl | exact i64_right rfl))
  | ((with_reducible refine ge_pow ?hc ?_); (case hc => decide))
  | with_reducible refine ge_isN ?_ | with_reducible refine ge_isNotN ?_ | with_reducible refine ge_dnewK ?_ | with_reducible refine ge_dnewT ?_ | with_reducible refine ge_sortSet ?_ | with_reducible refine gt_dictk ?_ | with_reducible refine gs_augS ?_ | with_reducible refine then_ct ?_ | with_reducible refine gs_ct ?_ | with_reducible refine then_bk ?_ | with_reducible refine gs_bk ?_
  | (with_reducible refine ⟨_, rfl, ?_⟩) | (with_reducible refine ⟨_, _, rfl, ?_⟩))
local macro_rules | `(tactic| walk_at "stp") => `(tactic| repeat (first | walk_at "st" | refine ⟨Nat.le_of_ble_eq_true rfl, ?_⟩))


theorem adj_of {ws : List (Int × Int)} {i : Nat} {w : Int × Int} {x : Int} (e : ws[i]? = some w) (h : w.1 = x ∨ w.2 = x) : Adj ws x (if x = w.1 then w.2 else w.1) := by
  have hm : w ∈ ws := List.mem_of_getElem? e
  by_cases hx : x = w.1
  · rw [if_pos hx]; subst hx; exact .inl hm
  · rw [if_neg hx]
    rcases h with h | h
    · exact absurd h.symm hx
    · subst h; exact .inr hm
theorem adj_hit {ws : List (Int × Int)} {x v : Int} (h : Adj ws x v) (hne : ∀ w ∈ ws, w.1 ≠ w.2) : ∃ (i : Nat) (w : Int × Int), ws[i]? = some w ∧ (w.1 = x ∨ w.2 = x) ∧ v = if x = w.1 then w.2 else w.1 := by
  rcases h with h | h
  · obtain ⟨i, hi, e⟩ := List.getElem_of_mem h
    exact ⟨i, (x, v), by rw [List.getElem?_eq_getElem hi, e], .inl rfl, by rw [if_pos rfl]⟩
  · obtain ⟨i, hi, e⟩ := List.getElem_of_mem h
    exact ⟨i, (v, x), by rw [List.getElem?_eq_getElem hi, e], .inr rfl, by rw [if_neg (fun z => hne _ h z.symm)]⟩
theorem near_gives {S : Store} {M : Mine} {x : Int} (hz : M.ways.length ≤ 50) (hne : ∀ w ∈ M.ways, w.1 ≠ w.2) : GE (F_near_places [mineD M, .int x] S) fun d S' => ∃ ns : List Int, d = .tup (ns.map D.int) ∧ (∀ v, v ∈ ns ↔ Adj M.ways x v) ∧ All S S' := by
  refine ge_den rfl ?_
  unfold M_near_places
  refine gs_ret (ge_call (ge_cons (ge_sortComp (gi_items (ge_call (ge_cons (ge_var rfl (ge_cons (ge_var rfl (ge_nil ?_))))))))))
  refine (ways_at_gives (M := M) (x := x) (by omega)).mono ?_
  rintro _ S1 ⟨rfl, ha⟩
  refine .inl ⟨_, rfl, ?_⟩
  have hhl := hits_length M.ways x M.ways.length
  obtain ⟨acc, S2, e, hp⟩ := sc_by (ok := always) (g := mName 2) (t := mYes) (e := mCall F_far_end (mCons (mVar 0) (mCons (mVar 2) (mCons (mVar 1) mNil)))) (ρw := wipeD [some (mineD M), some (.int x), none] [2]) ((hits M.ways x M.ways.length).map D.int)
    (fun i acc S' => All S S' ∧ acc.length = i ∧ ∀ v, v ∈ acc ↔ ∃ (j k : Nat) (w : Int × Int), j < i ∧ (hits M.ways x M.ways.length)[j]? = some (k : Int) ∧ M.ways[k]? = some w ∧ v = if x = w.1 then w.2 else w.1)
    [] S1 ⟨ha, rfl, fun v => ⟨fun h => absurd h List.not_mem_nil, fun ⟨j, _, _, h, _⟩ => absurd h (Nat.not_lt_zero _)⟩⟩ (fun i d acc S' hd ⟨h1, h2, h3⟩ => by
      have hi := (List.getElem?_eq_some_iff.mp hd).1
      rw [List.length_map] at hi
      rw [List.getElem?_map] at hd
      obtain ⟨k, hkk, rfl⟩ := Option.map_eq_some_iff.mp hd
      obtain ⟨kn, w, rfl, hkn, hw, hxw⟩ := mem_hits (List.mem_of_getElem? hkk)
      refine ⟨rfl, gt_name ⟨true, S', rfl, fun _ => ⟨by omega, ?_⟩, fun z => (by cases z)⟩⟩
      refine ge_call (ge_cons (ge_var rfl (ge_cons (ge_var rfl (ge_cons (ge_var rfl (ge_nil ?_)))))))
      refine (far_end_gives hw).mono ?_
      rintro _ _ ⟨rfl, rfl⟩
      refine ⟨_, rfl, h1, by rw [List.length_append, h2]; rfl, fun v => ?_⟩
      rw [List.mem_append, h3 v, List.mem_singleton]
      constructor
      · rintro (⟨j, k, w', hj, e1, e2, e3⟩ | rfl)
        · exact ⟨j, k, w', by omega, e1, e2, e3⟩
        · exact ⟨i, kn, w, by omega, hkk, hw, rfl⟩
      · rintro ⟨j, k, w', hj, e1, e2, e3⟩
        by_cases hj' : j < i
        · exact .inl ⟨j, k, w', hj', e1, e2, e3⟩
        · have : j = i := by omega
          subst this
          rw [hkk] at e1
          have ek : kn = k := by have := Option.some.inj e1; omega
          subst ek
          rw [hw] at e2; cases e2
          exact .inr e3) (fun _ _ _ => rfl)
  refine ⟨acc, S2, e, ge_nil (ge_tuple (lat_lst get_new) ⟨sortU acc, rfl, fun v => ?_, hp.1.trans .app⟩)⟩
  rw [mem_sortU, hp.2.2 v]
  constructor
  · rintro ⟨j, k, w, hj, e1, e2, rfl⟩
    obtain ⟨kn, w', ek, hkn, hw, hxw⟩ := mem_hits (List.mem_of_getElem? e1)
    have ek : k = kn := by omega
    subst ek
    rw [e2] at hw; cases hw
    exact adj_of e2 hxw
  · intro had
    obtain ⟨i, w, e2, e3, rfl⟩ := adj_hit had hne
    obtain ⟨j, hj, e4⟩ := List.getElem_of_mem (hits_mem e2 e3)
    exact ⟨j, i, w, by rw [List.length_map]; exact hj, by rw [List.getElem?_eq_getElem hj, e4], e2, rfl⟩
theorem adj_bd {M : Mine} (ok : MineOk M) {u v : Int} (h : Adj M.ways u v) : 0 ≤ v ∧ v < M.places := by
  rcases h with h | h
  · exact (ok.ways _ h).2.1
  · exact (ok.ways _ h).1
/-- the list of the reached places by the program -/
theorem joined_gives {S : Store} {M : Mine} (ok : MineOk M) (hz : M.ways.length ≤ 50) : GE (F_is_joined [mineD M] S) fun d S' => ∃ l, d = .bl (decide ((l.length : Int) = M.places)) ∧ Found M.ways M.inlet M.places l ∧ Closed M.ways l ∧ All S S' := by
  refine ge_den rfl ?_
  unfold M_is_joined
  have hne : ∀ w ∈ M.ways, w.1 ≠ w.2 := fun w hw => (ok.ways w hw).2.2
  have hA : GE (F_reached_from [mineD M, .tup [.int M.inlet]] S) fun d S' => ∃ l l' : List Int, d = .tup (l'.map D.int) ∧ l'.length = l.length ∧ Found M.ways M.inlet M.places l ∧ Closed M.ways l ∧ All S S' := by
    refine ge_den rfl ?_
    unfold M_reached_from
    refine gs_seq (gs_asg (ge_call (ge_cons (ge_var rfl (ge_nil ?_)))))
    refine ge_list (ds := [.int M.inlet]) rfl ?_
    refine gt_name (then_nx (gs_seq (gs_asg (ge_c (gt_name (then_nx (gs_seq ?_)))))))
    generalize hr : S.length = r
    refine gs_while (fun m ρ S' => ∃ (l : List Int) (t : Nat) (x3 : Option D), ρ = [some (mineD M), some (.tup [.int M.inlet]), some (.lr r), some (.int (t : Int)), x3] ∧
        S'[r]? = some (.lst (l.map D.int)) ∧ Found M.ways M.inlet M.places l ∧ t ≤ l.length ∧ (∀ (j : Nat) (u v : Int), j < t → l[j]? = some u → Adj M.ways u v → v ∈ l) ∧ All S S' ∧ m = 8 - t) ?_ 100 8 _ _ (by decide)
      ⟨[M.inlet], 0, none, rfl, by rw [← hr]; exact get_new, ⟨List.nodup_cons.mpr ⟨List.not_mem_nil, List.nodup_nil⟩, List.mem_cons_self .., fun v hv => by rw [List.mem_singleton.mp hv]; exact .start, fun v hv => by rw [List.mem_singleton.mp hv]; exact ok.ends.1⟩, Nat.zero_le _, fun j u v hj => absurd hj (Nat.not_lt_zero _), .app, rfl⟩
    rintro m ρ S1 ⟨l, t, x3, rfl, hl, hf, ht, hc, ha, rfl⟩
    have hlen : (l.length : Int) ≤ M.places := nodup_bound (by have := ok.lo; omega) hf.nd hf.bd
    have hl8 : l.length ≤ 8 := by have := ok.hi; omega
    refine ge_B (ge_bin (ge_var rfl (ge_call (ge_cons (ge_var rfl (ge_nil (ge_len (lat_lst hl) (ge_lt ⟨_, rfl, ?_⟩))))))))
    rw [List.length_map]
    refine ⟨fun h => ?_, fun h => ?_⟩
    · have hlt : t < l.length := by have := of_decide_eq_true h; omega
      refine gs_seq (gs_for (gi_items (ge_call (ge_cons (ge_var rfl (ge_cons (ge_bin (ge_var rfl (ge_var rfl ?_)))))))))
      refine ge_ixL (d := .int l[t]) (lat_lst hl) (L2.atI_nat (by rw [List.getElem?_map, List.getElem?_eq_getElem hlt]; rfl)) (ge_nil ?_)
      refine (near_gives (S := S1) (M := M) (x := l[t]) hz hne).mono ?_
      rintro _ S2 ⟨ns, rfl, hns, ha2⟩
      refine .inl ⟨_, rfl, ?_⟩
      have hl2 := ha2 _ _ hl
      generalize hx : l[t] = x at hns
      have hxl : x ∈ l := by rw [← hx]; exact List.getElem_mem hlt
      have hxt : l[t]? = some x := by rw [List.getElem?_eq_getElem hlt, hx]
      have hat : ((t : Int) + 1) = ((t + 1 : Nat) : Int) := by omega
      have hrS : S.length ≤ r := by omega
      refine gs_forL (fun i ρ S' => ∃ (l' : List Int) (x3 : Option D), ρ = [some (mineD M), some (.tup [.int M.inlet]), some (.lr r), some (.int (t : Int)), x3] ∧
          S'[r]? = some (.lst ((l ++ l').map D.int)) ∧ Found M.ways M.inlet M.places (l ++ l') ∧ All S S' ∧
          ∀ (j : Nat) (v : Int), j < i → ns[j]? = some v → v ∈ l ++ l')
        ⟨[], x3, rfl, by rw [List.append_nil]; exact hl2, by rw [List.append_nil]; exact hf, ha.trans ha2, fun j v hj => absurd hj (Nat.not_lt_zero _)⟩ ?_ ?_
      · rintro i d ρ S3 hd ⟨l', x3, rfl, hl3, hf3, ha3, hk3⟩
        refine ⟨rfl, ?_⟩
        rw [List.getElem?_map] at hd
        obtain ⟨v, hkk, rfl⟩ := Option.map_eq_some_iff.mp hd
        have hadj := (hns v).mp (List.mem_of_getElem? hkk)
        refine gt_name (gs_if (ge_B (ge_bin (ge_var rfl (ge_var rfl ?_)))))
        refine ge_in (ds := (l ++ l').map D.int) (lat_lst hl3) (by rw [flat_ints]; rfl) ?_
        rw [inD_ints]
        refine ⟨_, rfl, fun hn => ?_, fun hn => ?_⟩
        · have hn : v ∉ l ++ l' := by
            have hn : (!decide (v ∈ l ++ l')) = true := hn
            rw [Bool.not_eq_true', decide_eq_false_iff_not] at hn
            exact hn
          have hf4 := hf3.snoc (List.mem_append_left _ hxl) hadj hn (adj_bd ok hadj)
          have hb4 := nodup_bound (by have := ok.lo; omega) hf3.nd hf3.bd
          refine gs_drop (ge_app (ge_var rfl ⟨_, rfl, ⟨_, mat_lst hl3⟩, ge_cons (ge_var rfl (ge_nil ⟨_, _, rfl, mat_lst hl3, by rw [List.length_map]; show _ < 16777216; have := ok.hi; omega, ?_⟩))⟩))
          refine ⟨.inl rfl, l' ++ [v], _, rfl, ?_, by rw [← List.append_assoc]; exact hf4, ha3.wr hrS, ?_⟩
          · rw [get_set hl3, ← List.append_assoc, List.map_append (l₁ := l ++ l')]; rfl
          · intro j v' hj e1
            by_cases hj' : j < i
            · have := hk3 j v' hj' e1
              rw [← List.append_assoc]
              exact List.mem_append_left _ this
            · have : j = i := by omega
              subst this
              rw [hkk] at e1
              cases e1
              rw [← List.append_assoc]
              exact List.mem_append_right _ (List.mem_singleton.mpr rfl)
        · have hn : v ∈ l ++ l' := by
            have hn : (!decide (v ∈ l ++ l')) = false := hn
            rw [Bool.not_eq_false', decide_eq_true_eq] at hn
            exact hn
          refine gs_nx ⟨.inl rfl, l', _, rfl, hl3, hf3, ha3, ?_⟩
          intro j v' hj e1
          by_cases hj' : j < i
          · exact hk3 j v' hj' e1
          · have : j = i := by omega
            subst this
            rw [hkk] at e1
            cases e1
            exact hn
      · rintro ρ S3 ⟨l', x3, rfl, hl3, hf3, ha3, hk3⟩
        rw [List.length_map] at hk3
        refine ⟨rfl, then_nx (gs_aug rfl (ge_c (ge_fI ?_)))⟩
        rw [hat]
        refine ⟨.inl rfl, 8 - (t + 1), by omega, l ++ l', t + 1, _, rfl, hl3, hf3, by rw [List.length_append]; omega, ?_, ha3, rfl⟩
        intro j u v hj e1 hadj
        by_cases hj' : j < t
        · rw [List.getElem?_append_left (by omega)] at e1
          exact List.mem_append_left _ (hc j u v hj' e1 hadj)
        · have : j = t := by omega
          subst this
          rw [List.getElem?_append_left hlt, hxt] at e1
          cases e1
          obtain ⟨j2, hj2, e4⟩ := List.getElem_of_mem ((hns v).mpr hadj)
          exact hk3 j2 v hj2 (by rw [List.getElem?_eq_getElem hj2, e4])
    · have hge : l.length ≤ t := by
        have := of_decide_eq_false h
        omega
      refine then_nx (gs_ret (ge_call (ge_cons (ge_call (ge_cons (ge_var rfl (ge_nil (ge_sorted (lat_lst hl) (ge_nil (ge_tuple (lat_lst get_new) ?_))))))))))
      refine ⟨l, sortI l, rfl, (sortI_perm l).length_eq, hf, fun u v hu hadj => ?_, ha.trans .app⟩
      obtain ⟨j, hj, e⟩ := List.getElem_of_mem hu
      exact hc j u v (by omega) (by rw [List.getElem?_eq_getElem hj, e]) hadj
  have hB : GE (F_reached_places [mineD M] S) fun d S' => ∃ l l' : List Int, d = .tup (l'.map D.int) ∧ l'.length = l.length ∧ Found M.ways M.inlet M.places l ∧ Closed M.ways l ∧ All S S' := by
    refine ge_den rfl ?_
    unfold M_reached_places
    refine gs_ret (ge_call (ge_cons (ge_var (d := mineD M) rfl (ge_cons (ge_sl (ge_var (d := mineD M) rfl ?_))))))
    exact ge_part (ge_c ⟨_, rfl, ge_part (ge_c ⟨_, rfl, ge_slT (ge_nil hA)⟩)⟩)
  refine gs_ret (ge_bin (ge_call (ge_cons (ge_call (ge_cons (ge_var rfl (ge_nil ?_)))))))
  refine hB.mono ?_
  rintro _ S1 ⟨l, l', rfl, hll, hf, hc, ha⟩
  refine ge_nil (ge_len rfl (ge_bin (ge_var rfl (ge_c (ge_ixT (d := .int M.places) at0 (ge_eqI ?_))))))
  rw [List.length_map, hll]
  exact ⟨l, rfl, hf, hc, ha⟩
end K02

set_option Elab.async false
set_option linter.all false
set_option maxRecDepth 100000
set_option maxHeartbeats 4000000
namespace K02
open PySem PySem.Spec PyProof.Rows L2 MS Law Air
local macro_rules | `(tactic| walk_at "st") => `(tactic| first
  | with_reducible refine gs_seq ?_ | with_reducible refine gs_asg ?_ | with_reducible refine gs_ret ?_ | with_reducible refine gs_retN ?_ | with_reducible refine gs_drop ?_ | with_reducible refine gs_if ?_ | with_reducible refine gs_par ?_ | with_reducible refine gs_for ?_ | with_reducible refine gs_nx ?_
  | with_reducible refine ge_cons ?_ | with_reducible refine ge_nil ?_ | with_reducible refine ge_c ?_ | with_reducible refine ge_bin ?_ | with_reducible refine ge_call ?_
  | ((with_reducible refine ge_var (d := ?d) ?h ?_); case h => exact rfl)
  | ((with_reducible refine gs_aug (d := ?d) ?h ?_); case h => exact rfl)
  | (with_reducible refine ge_tup ?_) | (with_reducible refine ge_lst ?_) | with_reducible refine ge_B ?_ | with_reducible refine ge_and ?_ | with_reducible refine ge_or ?_ | with_reducible refine ge_not ?_ | with_reducible refine ge_if ?_ | with_reducible refine ge_andV ?_ | with_reducible refine ge_orV ?_ | with_reducible refine ge_notV ?_ | with_reducible refine ge_neg ?_
  | with_reducible refine ge_sl ?_ | with_reducible refine ge_noPart ?_ | with_reducible refine ge_part ?_ | with_reducible refine ge_revT ?_ | with_reducible refine ge_app ?_ | with_reducible refine ge_lc ?_ | with_reducible refine ge_chain ?_
  | with_reducible refine gi_items ?_ | with_reducible refine gi_range1 ?_ | with_reducible refine gi_range2 ?_ | with_reducible refine gi_enum ?_
  | with_reducible refine gt_name ?_ | with_reducible refine gt_nil ?_ | with_reducible refine gt_cons ?_ | with_reducible refine gt_tup rfl ?_ | with_reducible refine gt_sub ?_
  | with_reducible refine ge_fI ?_ | with_reducible refine ge_sub ?_ | with_reducible refine ge_add ?_ | with_reducible refine ge_lt ?_ | with_reducible refine ge_le ?_ | with_reducible refine ge_gt ?_ | with_reducible refine ge_ge ?_ | with_reducible refine ge_eqI ?_ | with_reducible refine ge_neI ?_ | with_reducible refine ge_eqS ?_ | with_reducible refine ge_neS ?_
  | with_reducible refine ge_int ?_ | with_reducible refine ge_min ?_ | with_reducible refine ge_max ?_ | with_reducible refine ge_abs ?_ | with_reducible refine ge_slT ?_
  | with_reducible refine then_nx ?_ | with_reducible refine then_rt ?_
  | ((with_reducible refine ge_ixL (ds := ?ds) (d := ?dd) ?hl ?he ?_); (case hl => first | exact lat_lst (by assumption) | exact lat_fz (by assumption)); (case he => first | exact at0 | exact at1 | exact at2 | exact at3))
  | ((with_reducible refine ge_ixT (d := ?dd) ?he ?_); (case he => first | exact at0 | exact at1 | exact at2 | exact at3))
  | ((with_reducible refine ge_len (ds := ?ds) ?hl ?_); (case hl => first | exact lat_lst (by assumption) | exact lat_fz (by assumption) | exact rfl))
  | ((with_reducible refine ge_mod ?hc ?_); (case hc => first | assumption | decide | omega))
  | ((with_reducible refine ge_div ?hc ?hd ?_); (case hc => first | assumption | decide | omega); (case hd => first | assumption | decide | omega))
  | ((with_reducible refine ge_mul ?hc ?_); (case hc => first | assumption | exact i64_left rfl | exact i64_right rfl))
  | ((with_reducible refine ge_pow ?hc ?_); (case hc => decide))
  | with_reducible refine ge_isN ?_ | with_reducible refine ge_isNotN ?_ | with_reducible refine ge_dnewK ?_ | with_reducible refine ge_dnewT ?_ | with_reducible refine ge_sortSet ?_ | with_reducible refine gt_dictk ?_ | with_reducible refine gs_augS ?_ | with_reducible refine then_ct ?_ | with_reducible refine gs_ct ?_ | with_reducible refine then_bk ?_ | with_reducible refine gs_bk ?_
  | (with_reducible refine ⟨_, rfl, ?_⟩) | (with_reducible refine ⟨_, _, rfl, ?_⟩))
local macro_rules | `(tactic| walk_at "stp") => `(tactic| repeat (first | walk_at "st" | refine ⟨Nat.le_of_ble_eq_true rfl, ?_⟩))

theorem forL_nil {ok : Store → Bool} {g : MTg} {b : MStm} {QS : Fl → Ev → Store → Prop} {ρ : Ev} {S : Store} (h : ok S = true) (q : QS .nx ρ S) : GS (forL ok g b [] ρ S) QS := by
  unfold forL
  rw [if_pos h]
  exact gs_of q
theorem forL_cons {ok : Store → Bool} {g : MTg} {b : MStm} {QS : Fl → Ev → Store → Prop} {ρ : Ev} {S : Store} {x : D} {r : List D} (h : ok S = true)
    (q : GE (g x ρ S) fun ρ1 S1 => GS (b ρ1 S1) fun f ρ2 S2 => f = .nx ∧ GS (forL ok g b r ρ2 S2) QS) : GS (forL ok g b (x :: r) ρ S) QS := by
  obtain ⟨ρ1, S1, e1, f, ρ2, S2, e2, rfl, q⟩ := q
  unfold forL
  rw [if_pos h, e1]
  show GS ((b ρ1 S1).bind _) QS
  rw [e2]
  exact q
theorem reach_try {ws : List (Int × Int)} {s n u v : Int} {S S' : Store} {r : Nat} {l : List Int} {ρ : Ev} {Q : Fl → Ev → Store → Prop} (hr : S.length ≤ r) (hl : S'[r]? = some (.lst (l.map D.int))) (hf : Found ws s n l) (ha : All S S') (had : Adj ws u v) (hb : 0 ≤ v ∧ v < n) (hn : 0 ≤ n ∧ n ≤ 1000)
    (h7 : ρ[7]? = some (some (.int u))) (h8 : ρ[8]? = some (some (.int v))) (h3 : ρ[3]? = some (some (.lr r))) (h2 : ρ[2]? = some (some (.tup [])))
    (hQ : ∀ l' S'', S''[r]? = some (.lst (l'.map D.int)) → Found ws s n l' → (∃ t, l' = l ++ t) → (u ∈ l → v ∈ l') → All S S'' → Q .nx ρ S'') :
    GS (mIfS (mAnd (mB (mBin (fIn false) (mVar 7) (mVar 3))) (mAnd (mB (mBin (fIn true) (mVar 8) (mVar 3))) (mB (mBin (fIn true) (mVar 8) (mVar 2))))) (mDrop (mApp (mVar 3) (mCons (mVar 8) mNil))) mNx ρ S') Q := by
  refine gs_if (ge_and (ge_B (ge_bin (ge_var h7 (ge_var h3 (ge_in (ds := l.map D.int) (lat_lst hl) (by rw [flat_ints]; rfl) ?_))))))
  rw [inD_ints]
  refine ⟨_, rfl, fun c1 => ?_, fun c1 => ?_⟩
  · have c1 : u ∈ l := of_decide_eq_true c1
    refine ge_and (ge_B (ge_bin (ge_var h8 (ge_var h3 (ge_in (ds := l.map D.int) (lat_lst hl) (by rw [flat_ints]; rfl) ?_)))))
    rw [inD_ints]
    refine ⟨_, rfl, fun c2 => ?_, fun c2 => ?_⟩
    · have c2 : v ∉ l := by
        have c2 : (!decide (v ∈ l)) = true := c2
        rw [Bool.not_eq_true', decide_eq_false_iff_not] at c2
        exact c2
      refine ge_B (ge_bin (ge_var h8 (ge_var h2 (ge_in (ds := []) rfl rfl ⟨_, rfl, ?_⟩))))
      refine ⟨fun _ => ?_, fun z => (by cases z)⟩
      refine gs_drop (ge_app (ge_var h3 ⟨_, rfl, ⟨_, mat_lst hl⟩, ge_cons (ge_var h8 (ge_nil ⟨_, _, rfl, mat_lst hl, ?_, ?_⟩))⟩))
      · rw [List.length_map]
        have := nodup_bound hn.1 hf.nd hf.bd
        show _ < 16777216
        omega
      · refine hQ (l ++ [v]) _ ?_ (hf.snoc c1 had c2 hb) ⟨[v], rfl⟩ (fun _ => List.mem_append_right _ (List.mem_singleton.mpr rfl)) (ha.wr hr)
        rw [get_set hl, List.map_append]
        rfl
    · have c2 : v ∈ l := by
        have c2 : (!decide (v ∈ l)) = false := c2
        rw [Bool.not_eq_false', decide_eq_true_eq] at c2
        exact c2
      refine ⟨fun z => (by cases z), fun _ => gs_nx (hQ l S' hl hf ⟨[], (List.append_nil l).symm⟩ (fun _ => c2) ha)⟩
  · have c1 : u ∉ l := of_decide_eq_false c1
    exact ⟨fun z => (by cases z), fun _ => gs_nx (hQ l S' hl hf ⟨[], (List.append_nil l).symm⟩ (fun z => absurd z c1) ha)⟩
theorem reached_gives {ws : List (Int × Int)} {s n : Int} {S : Store} (hw : ∀ w ∈ ws, WayOk n w) (hs : 0 ≤ s ∧ s < n) (hn : n ≤ 8) : GE (F_law_reached [.tup (ws.map Law.pairD), .int s, .tup []] S) fun d S' => ∃ r l, d = .lr r ∧ S'[r]? = some (.lst (l.map D.int)) ∧ Found ws s n l ∧ Closed ws l ∧ All S S' := by
  refine ge_den rfl ?_
  unfold M_law_reached
  repeat walk_at "st"
  refine ⟨by show 1 ≤ szl; decide, ?_⟩
  repeat walk_at "st"
  refine ⟨by decide, ?_⟩
  repeat walk_at "st"
  have f0 : Found ws s n [s] := ⟨List.nodup_cons.mpr ⟨List.not_mem_nil, List.nodup_nil⟩, List.mem_cons_self .., fun v hv => by rw [List.mem_singleton.mp hv]; exact .start, fun v hv => by rw [List.mem_singleton.mp hv]; exact hs⟩
  have l0 : (S ++ [MO.lst [D.int s]])[S.length]? = some (.lst ([s].map D.int)) := get_new
  obtain ⟨r, hre⟩ : ∃ r, S.length = r := ⟨_, rfl⟩
  have hr : S.length ≤ r := Nat.le_of_eq hre
  rw [hre] at l0 ⊢
  have hadj : ∀ w ∈ ws, Adj ws w.1 w.2 ∧ Adj ws w.2 w.1 := fun w h => ⟨.inl h, .inr h⟩
  refine gs_forL (fun i ρ S' => ∃ (l : List Int) (x4 x5 x6 x7 x8 : Option D), ρ = [some (.tup (ws.map Law.pairD)), some (.int s), some (.tup []), some (.lr r), x4, x5, x6, x7, x8] ∧ S'[r]? = some (.lst (l.map D.int)) ∧ Found ws s n l ∧ All S S' ∧ (Closed ws l ∨ i + 1 ≤ l.length))
    ⟨[s], none, none, none, none, none, rfl, l0, f0, .app, .inr (by show 1 ≤ 1; omega)⟩ ?_ ?_
  · rintro i d ρ S1 hd ⟨l, x4, x5, x6, x7, x8, rfl, hl, hf, ha, hc⟩
    refine ⟨rfl, ?_⟩
    repeat walk_at "st"
    refine .inl ⟨_, rfl, ?_⟩
    refine gs_forL (fun j ρ S' => ∃ (l' : List Int) (x4 x5 x6 x7 x8 : Option D), ρ = [some (.tup (ws.map Law.pairD)), some (.int s), some (.tup []), some (.lr r), x4, x5, x6, x7, x8] ∧ S'[r]? = some (.lst (l'.map D.int)) ∧ Found ws s n l' ∧ All S S' ∧ (∃ t, l' = l ++ t) ∧
        ∀ (k : Nat) (w : Int × Int), k < j → ws[k]? = some w → (w.1 ∈ l → w.2 ∈ l') ∧ (w.2 ∈ l → w.1 ∈ l'))
      ⟨l, some d, x5, x6, x7, x8, rfl, hl, hf, ha, ⟨[], (List.append_nil l).symm⟩, fun k w hk => absurd hk (Nat.not_lt_zero _)⟩ ?_ ?_
    · rintro j d ρ S2 hd ⟨l', x4, x5, x6, x7, x8, rfl, hl2, hf2, ha2, ⟨t, rfl⟩, hk2⟩
      refine ⟨rfl, ?_⟩
      rw [List.getElem?_map] at hd
      obtain ⟨w, hw2, rfl⟩ := Option.map_eq_some_iff.mp hd
      have hmem := List.mem_of_getElem? hw2
      obtain ⟨b1, b2, _⟩ := hw w hmem
      obtain ⟨a1, a2⟩ := hadj w hmem
      refine gt_tup (ds := [.int w.1, .int w.2]) rfl ?_
      repeat walk_at "st"
      refine ⟨by show 2 ≤ szl; decide, ?_⟩
      repeat walk_at "st"
      refine ⟨by show 2 ≤ szl; decide, ?_⟩
      repeat walk_at "st"
      refine ⟨by show 2 ≤ szl; decide, ?_⟩
      refine .inl ⟨_, rfl, ?_⟩
      refine forL_cons rfl (gt_tup rfl (gt_cons (gt_name (gt_cons (gt_name (gt_nil ?_))))))
      refine reach_try (u := w.1) (v := w.2) hr hl2 hf2 ha2 a1 b2 (by omega) ?h7 ?h8 ?h3 ?h2 ?_
      (case h7 => exact rfl); (case h8 => exact rfl); (case h3 => exact rfl); (case h2 => exact rfl)
      rintro l3 S3 hl3 hf3 ⟨t3, rfl⟩ hc3 ha3
      refine ⟨rfl, forL_cons rfl (gt_tup rfl (gt_cons (gt_name (gt_cons (gt_name (gt_nil ?_))))))⟩
      refine reach_try (u := w.2) (v := w.1) hr hl3 hf3 ha3 a2 b1 (by omega) ?h7 ?h8 ?h3 ?h2 ?_
      (case h7 => exact rfl); (case h8 => exact rfl); (case h3 => exact rfl); (case h2 => exact rfl)
      rintro l4 S4 hl4 hf4 ⟨t4, rfl⟩ hc4 ha4
      refine ⟨rfl, forL_nil rfl ⟨.inl rfl, _, _, _, _, _, _, rfl, hl4, hf4, ha4, ⟨t ++ t3 ++ t4, by rw [List.append_assoc, List.append_assoc, List.append_assoc]⟩, fun k w' hk e => ?_⟩⟩
      by_cases hk' : k < j
      · obtain ⟨c1, c2⟩ := hk2 k w' hk' e
        exact ⟨fun z => List.mem_append_left _ (List.mem_append_left _ (c1 z)), fun z => List.mem_append_left _ (List.mem_append_left _ (c2 z))⟩
      · have : k = j := by omega
        subst this
        rw [hw2] at e; cases e
        exact ⟨fun z => List.mem_append_left _ (hc3 (List.mem_append_left _ z)), fun z => hc4 (List.mem_append_left _ (List.mem_append_left _ z))⟩
    · rintro ρ S2 ⟨l', x4, x5, x6, x7, x8, rfl, hl2, hf2, ha2, ⟨t, rfl⟩, hk2⟩
      rw [List.length_map] at hk2
      refine ⟨rfl, .inl rfl, _, _, _, _, _, _, rfl, hl2, hf2, ha2, ?_⟩
      rcases hc with hc | hc
      · refine .inl fun u v hu hv => List.mem_append_left _ (hc.reach hf.st ((hf2.rc u hu).step hv))
      · cases t with
        | cons a t => right; rw [List.length_append, List.length_cons]; omega
        | nil =>
          left
          intro u v hu hv
          rw [List.append_nil] at hu
          rcases hv with hv | hv
          · obtain ⟨k, hk, e⟩ := List.getElem_of_mem hv
            exact (hk2 k (u, v) hk (by rw [List.getElem?_eq_getElem hk, e])).1 hu
          · obtain ⟨k, hk, e⟩ := List.getElem_of_mem hv
            exact (hk2 k (v, u) hk (by rw [List.getElem?_eq_getElem hk, e])).2 hu
  · rintro ρ S1 ⟨l, x4, x5, x6, x7, x8, rfl, hl, hf, ha, hc⟩
    refine ⟨rfl, ?_⟩
    repeat walk_at "st"
    refine ⟨_, l, rfl, hl, hf, ?_, ha⟩
    rcases hc with hc | hc
    · exact hc
    · have := nodup_bound (by omega) hf.nd hf.bd
      rw [rangeD_length] at hc
      have : (8 : Int).toNat = 8 := rfl
      omega
theorem is_joined_gives {S : Store} {M : Mine} (ok : MineOk M) : GE (F_law_is_joined [mineD M] S) fun d S' => ∃ l, d = .bl (decide ((l.length : Int) = M.places)) ∧ Found M.ways M.inlet M.places l ∧ Closed M.ways l ∧ All S S' := by
  refine ge_den rfl ?_
  unfold M_law_is_joined mineD
  repeat walk_at "st"
  refine ⟨by show 0 ≤ szl; decide, ?_⟩
  repeat walk_at "st"
  refine (reached_gives ok.ways ok.ends.1 ok.hi).mono ?_
  rintro _ S1 ⟨r, l, rfl, hl, hf, hc, ha⟩
  repeat walk_at "st"
  rw [List.length_map]
  exact ⟨l, rfl, hf, hc, ha⟩
end K02

set_option Elab.async false
set_option linter.all false
set_option maxRecDepth 100000
set_option maxHeartbeats 4000000
namespace K02
open PySem PySem.Spec PyProof.Rows L2 MS Law Air
local macro_rules | `(tactic| walk_at "st") => `(tactic| first
  | with_reducible refine gs_seq ?_ | with_reducible refine gs_asg ?_ | with_reducible refine gs_ret ?_ | with_reducible refine gs_retN ?_ | with_reducible refine gs_drop ?_ | with_reducible refine gs_if ?_ | with_reducible refine gs_par ?_ | with_reducible refine gs_for ?_ | with_reducible refine gs_nx ?_
  | with_reducible refine ge_cons ?_ | with_reducible refine ge_nil ?_ | with_reducible refine ge_c ?_ | with_reducible refine ge_bin ?_ | with_reducible refine ge_call ?_
  | ((with_reducible refine ge_var (d := ?d) ?h ?_); case h => exact rfl)
  | ((with_reducible refine gs_aug (d := ?d) ?h ?_); case h => exact rfl)
  | (with_reducible refine ge_tup ?_) | (with_reducible refine ge_lst ?_) | with_reducible refine ge_B ?_ | with_reducible refine ge_and ?_ | with_reducible refine ge_or ?_ | with_reducible refine ge_not ?_ | with_reducible refine ge_if ?_ | with_reducible refine ge_andV ?_ | with_reducible refine ge_orV ?_ | with_reducible refine ge_notV ?_ | with_reducible refine ge_neg ?_
  | with_reducible refine ge_sl ?_ | with_reducible refine ge_noPart ?_ | with_reducible refine ge_part ?_ | with_reducible refine ge_revT ?_ | with_reducible refine ge_app ?_ | with_reducible refine ge_lc ?_ | with_reducible refine ge_chain ?_
  | with_reducible refine gi_items ?_ | with_reducible refine gi_range1 ?_ | with_reducible refine gi_range2 ?_ | with_reducible refine gi_enum ?_
  | with_reducible refine gt_name ?_ | with_reducible refine gt_nil ?_ | with_reducible refine gt_cons ?_ | with_reducible refine gt_tup rfl ?_ | with_reducible refine gt_sub ?_
  | with_reducible refine ge_fI ?_ | with_reducible refine ge_sub ?_ | with_reducible refine ge_add ?_ | with_reducible refine ge_lt ?_ | with_reducible refine ge_le ?_ | with_reducible refine ge_gt ?_ | with_reducible refine ge_ge ?_ | with_reducible refine ge_eqI ?_ | with_reducible refine ge_neI ?_ | with_reducible refine ge_eqS ?_ | with_reducible refine ge_neS ?_
  | with_reducible refine ge_int ?_ | with_reducible refine ge_min ?_ | with_reducible refine ge_max ?_ | with_reducible refine ge_abs ?_ | with_reducible refine ge_slT ?_
  | with_reducible refine then_nx ?_ | with_reducible refine then_rt ?_
  | ((with_reducible refine ge_ixL (ds := ?ds) (d := ?dd) ?hl ?he ?_); (case hl => first | exact lat_lst (by assumption) | exact lat_fz (by assumption)); (case he => first | exact at0 | exact at1 | exact at2 | exact at3))
  | ((with_reducible refine ge_ixT (d := ?dd) ?he ?_); (case he => first | exact at0 | exact at1 | exact at2 | exact at3))
  | ((with_reducible refine ge_len (ds := ?ds) ?hl ?_); (case hl => first | exact lat_lst (by assumption) | exact lat_fz (by assumption) | exact rfl))
  | ((with_reducible refine ge_mod ?hc ?_); (case hc => first | assumption | decide | omega))
  | ((with_reducible refine ge_div ?hc ?hd ?_); (case hc => first | assumption | decide | omega); (case hd => first | assumption | decide | omega))
  | ((with_reducible refine ge_mul ?hc ?_); (case hc => first | assumption | exact i64_left rfl | exact i64_right rfl))
  | ((with_reducible refine ge_pow ?hc ?_); (case hc => decide))
  | with_reducible refine ge_isN ?_ | with_reducible refine ge_isNotN ?_ | with_reducible refine ge_dnewK ?_ | with_reducible refine ge_dnewT ?_ | with_reducible refine ge_sortSet ?_ | with_reducible refine gt_dictk ?_ | with_reducible refine gs_augS ?_ | with_reducible refine then_ct ?_ | with_reducible refine gs_ct ?_ | with_reducible refine then_bk ?_ | with_reducible refine gs_bk ?_
  | (with_reducible refine ⟨_, rfl, ?_⟩) | (with_reducible refine ⟨_, _, rfl, ?_⟩))
local macro_rules | `(tactic| walk_at "stp") => `(tactic| repeat (first | walk_at "st" | refine ⟨Nat.le_of_ble_eq_true rfl, ?_⟩))

theorem toPy_list {S : Store} {n : Nat} {l : List Int} : toPy S (n + 2) (.tup (l.map D.int)) = some (.tuple (l.map PyData.int)) := by
  show ((l.map D.int).mapM (toPy S (n + 1))).map PyData.tuple = _
  rw [toPy_ints]
  rfl
theorem toPy_pairs {S : Store} {n : Nat} : ∀ ws : List (Int × Int), (ws.map Law.pairD).mapM (toPy S (n + 2)) = some (ws.map fun w => PyData.tuple [.int w.1, .int w.2])
  | [] => rfl
  | w :: ws => by
    rw [List.map_cons, List.mapM_cons, toPy_pairs ws]
    rfl
def mineP (M : Mine) : PyData := .tuple [.int M.places, .tuple (M.ways.map fun w => PyData.tuple [.int w.1, .int w.2]), .int M.inlet, .int M.outlet]
theorem toPy_mine {S : Store} {M : Mine} : toPy S 64 (mineD M) = some (mineP M) := by
  show (List.mapM (toPy S 63) [.int M.places, .tup (M.ways.map Law.pairD), .int M.inlet, .int M.outlet]).map PyData.tuple = _
  rw [List.mapM_cons, List.mapM_cons, List.mapM_cons, List.mapM_cons, List.mapM_nil]
  have e : toPy S 63 (.tup (M.ways.map Law.pairD)) = some (.tuple (M.ways.map fun w => PyData.tuple [.int w.1, .int w.2])) := by
    show ((M.ways.map Law.pairD).mapM (toPy S 62)).map PyData.tuple = _
    rw [toPy_pairs (n := 60)]
    rfl
  rw [e]
  rfl
def sm (i : Int) : Prop := i.natAbs < 10 ^ 40
theorem sml_ints : ∀ l : List Int, (∀ i ∈ l, sm i) → smlAll (l.map PyData.int) = true ∧ wtAll (l.map PyData.int) = 44 * l.length ∧ PyData.depthAll (l.map PyData.int) = 0
  | [], _ => ⟨rfl, rfl, rfl⟩
  | i :: l, h => by
    obtain ⟨h1, h2, h3⟩ := sml_ints l fun j hj => h j (List.mem_cons_of_mem _ hj)
    refine ⟨?_, ?_, ?_⟩
    · show (sml (.int i) && smlAll (l.map PyData.int)) = true
      rw [h1, show sml (.int i) = true from decide_eq_true (h i (List.mem_cons_self ..))]; rfl
    · show 42 + 2 + wtAll (l.map PyData.int) = 44 * (i :: l).length
      rw [h2, List.length_cons]; omega
    · show max 0 (PyData.depthAll (l.map PyData.int)) = 0
      rw [h3]; rfl
theorem ok_ints {l : List Int} (h : ∀ i ∈ l, sm i) (hz : l.length ≤ 1000) : okShow (.tuple (l.map PyData.int)) = true := by
  obtain ⟨h1, h2, h3⟩ := sml_ints l h
  refine okShow_of h1 ?_ ?_
  · show PyData.depthAll (l.map PyData.int) + 1 ≤ 64
    omega
  · show wtAll (l.map PyData.int) + 3 ≤ 16777216
    omega
theorem ok_int {i : Int} (h : sm i) : okShow (.int i) = true := okShow_of (decide_eq_true h) (by show 0 ≤ 64; decide) (by show 42 ≤ 16777216; decide)
theorem ok_bool {b : Bool} : okShow (.bool b) = true := okShow_of rfl (by show 0 ≤ 64; decide) (by show 42 ≤ 16777216; decide)
theorem sml_pairs : ∀ ws : List (Int × Int), (∀ w ∈ ws, sm w.1 ∧ sm w.2) → smlAll (ws.map fun w => PyData.tuple [.int w.1, .int w.2]) = true ∧ wtAll (ws.map fun w => PyData.tuple [.int w.1, .int w.2]) = 93 * ws.length ∧ PyData.depthAll (ws.map fun w => PyData.tuple [.int w.1, .int w.2]) ≤ 1
  | [], _ => ⟨rfl, rfl, Nat.zero_le _⟩
  | w :: ws, h => by
    obtain ⟨h1, h2, h3⟩ := sml_pairs ws fun j hj => h j (List.mem_cons_of_mem _ hj)
    obtain ⟨a, b⟩ := h w (List.mem_cons_self ..)
    refine ⟨?_, ?_, ?_⟩
    · show ((sml (.int w.1) && (sml (.int w.2) && true)) && smlAll (ws.map fun w => PyData.tuple [.int w.1, .int w.2])) = true
      rw [h1, show sml (.int w.1) = true from decide_eq_true a, show sml (.int w.2) = true from decide_eq_true b]; rfl
    · show (42 + 2 + (42 + 2 + 0) + 3) + 2 + wtAll (ws.map fun w => PyData.tuple [.int w.1, .int w.2]) = 93 * (w :: ws).length
      rw [h2, List.length_cons]; omega
    · show max 1 (PyData.depthAll (ws.map fun w => PyData.tuple [.int w.1, .int w.2])) ≤ 1
      omega
theorem sm_lt {i n : Int} (h0 : 0 ≤ i) (h : i < n) (hn : n ≤ 1000000) : sm i := by
  have : i.natAbs < 1000000 := by omega
  exact Nat.lt_trans this (by decide)
theorem ok_mine {M : Mine} (ok : MineOk M) (hz : M.ways.length ≤ 1000) : okShow (mineP M) = true := by
  have hp := ok.hi
  have hl := ok.lo
  obtain ⟨h1, h2, h3⟩ := sml_pairs M.ways fun w hw => by
    obtain ⟨a, b, _⟩ := ok.ways w hw
    exact ⟨sm_lt a.1 a.2 (by omega), sm_lt b.1 b.2 (by omega)⟩
  obtain ⟨a, b, _⟩ := ok.ends
  have s1 : sml (.int M.places) = true := decide_eq_true (sm_lt (n := 9) (by omega) (by omega) (by omega))
  have s2 : sml (.int M.inlet) = true := decide_eq_true (sm_lt a.1 a.2 (by omega))
  have s3 : sml (.int M.outlet) = true := decide_eq_true (sm_lt b.1 b.2 (by omega))
  refine okShow_of ?_ ?_ ?_
  · show (sml (.int M.places) && (smlAll (M.ways.map fun w => PyData.tuple [.int w.1, .int w.2]) && (sml (.int M.inlet) && (sml (.int M.outlet) && true)))) = true
    rw [h1, s1, s2, s3]; rfl
  · show max 0 (max (PyData.depthAll (M.ways.map fun w => PyData.tuple [.int w.1, .int w.2]) + 1) (max 0 (max 0 0))) + 1 ≤ 64
    omega
  · show 42 + 2 + (wtAll (M.ways.map fun w => PyData.tuple [.int w.1, .int w.2]) + 3 + 2 + (42 + 2 + (42 + 2 + 0))) + 3 ≤ 16777216
    omega
/-- the due list of the law at x -/
theorem due_gives {S : Store} {M : Mine} {x : Int} {ρ : Ev} (hz : M.ways.length ≤ 1000) (h3 : ρ[3]? = some (some (mineD M))) (hx : ∀ a b, (((wipeD ρ [12, 13]).set 12 (some a)).set 13 (some b))[5]? = some (some (.int x)))
    (hi : ∀ a b, (((wipeD ρ [12, 13]).set 12 (some a)).set 13 (some b))[12]? = some (some a)) (hw : ∀ a b, (((wipeD ρ [12, 13]).set 12 (some a)).set 13 (some b))[13]? = some (some b)) :
    GE (mLc (mEnum (mCons (mBin fIx (mVar 3) (mC (.int 1))) mNil)) (mgTup (mgCons (mName 12) (mgCons (mName 13) mgNil)) 2) (mB (mBin (fIn false) (mVar 5) (mVar 13))) (mVar 12) [12, 13] ρ S) fun d S' =>
      d = .lr S.length ∧ S'[S.length]? = some (.lst ((hits M.ways x M.ways.length).map D.int)) ∧ All S S' := by
  refine ge_lc (gi_enum (ge_cons (ge_bin (ge_var h3 (ge_c (ge_ixT (d := .tup (M.ways.map Law.pairD)) at1 (ge_nil (.inl ⟨_, rfl, ?_⟩))))))))
  obtain ⟨S', e, h1, h2⟩ := lc_hits (S := S) (x := x) (ws := M.ways) (ρw := wipeD ρ [12, 13]) (sx := 5) (si := 12) (sw := 13) hz hx hi hw
  exact ⟨S', e, rfl, h2, h1⟩
/-- some ways drawn -/
theorem drawn_gives {S : Store} {M : Mine} {p g : Nat} {ρ : Ev} (hp : Pen S p g) (ok : MineOk M) (h1 : ρ[1]? = some (some (.lr p))) (h3 : ρ[3]? = some (some (mineD M)))
    (h1' : ∀ a, ((wipeD ρ [9]).set 9 (some a))[1]? = some (some (.lr p))) (h3' : ∀ a, ((wipeD ρ [9]).set 9 (some a))[3]? = some (some (mineD M))) :
    GE (mLc (mRange1 (mCons (mBin fAdd (mC (.int 1)) (mCall F_law_draw (mCons (mVar 1) (mCons (mC (.int 8)) mNil)))) mNil)) (mName 9) mYes (mCall F_law_two_places (mCons (mVar 1) (mCons (mBin fIx (mVar 3) (mC (.int 0))) mNil))) [9] ρ S) fun d S' =>
      ∃ (n : Nat) (ws : List (Int × Int)), d = .lr n ∧ S'[n]? = some (.lst (ws.map Law.pairD)) ∧ (∀ w ∈ ws, WayOk M.places w) ∧ ws.length ≤ 8 ∧ Pen S' p g := by
  have hl := ok.lo
  have hh := ok.hi
  refine ge_lc (gi_range1 (ge_cons (ge_bin (ge_c (ge_call (ge_cons (ge_var h1 (ge_cons (ge_c (ge_nil ?_)))))))))) 
  refine (draw_gives hp (by decide) (by decide)).mono ?_
  rintro _ S1 ⟨n, rfl, hn, hn2, hp1, k1⟩
  refine ge_add (ge_nil ⟨_, rfl, r62_of (by omega) (by omega), ?_⟩)
  have hr : S1.length ≠ p ∧ S1.length ≠ g := by have := hp1.lt; omega
  obtain ⟨r, hre⟩ : ∃ r, S1.length = r := ⟨_, rfl⟩
  rw [hre] at hr ⊢
  have hlen : (rangeD 0 (1 + n).toNat).length ≤ 8 := by rw [rangeD_length]; omega
  refine (lc_by (fun i S' => ∃ ws : List (Int × Int), S'[r]? = some (.lst (ws.map Law.pairD)) ∧ (∀ w ∈ ws, WayOk M.places w) ∧ ws.length = i ∧ Pen S' p g)
    ⟨[], by rw [← hre]; exact get_new, fun w z => (by cases z), rfl, hp1.app⟩ (fun i x S2 hx => ?_) fun S2 h => ⟨rfl, h⟩).imp fun S' h => ⟨h.1, ?_⟩
  · rintro ⟨ws, hw, ho, hi, hp2⟩
    refine ⟨rfl, gt_name ⟨true, S2, rfl, fun _ => ?_, fun z => (by cases z)⟩⟩
    refine ge_call (ge_cons (ge_var (h1' _) (ge_cons (ge_bin (ge_var (h3' _) (ge_c (ge_ixT (d := .int M.places) at0 (ge_nil ?_))))))))
    refine (two_gives hp2 hl (by omega)).mono ?_
    rintro _ S3 ⟨w, rfl, hw3, hp3, k3⟩
    have hi8 : i < (rangeD 0 (1 + n).toNat).length := (List.getElem?_eq_some_iff.mp hx).1
    have hr3 := k3.at_ r _ hr.1 hw
    refine ⟨_, mat_lst hr3, by rw [List.length_map]; show _ < 16777216; omega, ws ++ [w], by rw [get_set hr3, List.map_append]; rfl, fun w' h' => ?_, by rw [List.length_append, hi]; rfl, hp3.other hr.1 hr.2⟩
    rcases List.mem_append.mp h' with h' | h'
    · exact ho w' h'
    · rw [List.mem_singleton.mp h']; exact hw3
  · obtain ⟨ws, hw, ho, hi, hp2⟩ := h.2
    have hi : ws.length = (rangeD 0 (1 + n).toNat).length := hi
    exact ⟨r, ws, rfl, hw, ho, by omega, hp2⟩
end K02

set_option Elab.async false
set_option linter.all false
set_option maxRecDepth 100000
set_option maxHeartbeats 4000000
namespace K02
open PySem PySem.Spec PyProof.Rows L2 MS Law Air
local macro_rules | `(tactic| walk_at "st") => `(tactic| first
  | with_reducible refine gs_seq ?_ | with_reducible refine gs_asg ?_ | with_reducible refine gs_ret ?_ | with_reducible refine gs_retN ?_ | with_reducible refine gs_drop ?_ | with_reducible refine gs_if ?_ | with_reducible refine gs_par ?_ | with_reducible refine gs_for ?_ | with_reducible refine gs_nx ?_
  | with_reducible refine ge_cons ?_ | with_reducible refine ge_nil ?_ | with_reducible refine ge_c ?_ | with_reducible refine ge_bin ?_ | with_reducible refine ge_call ?_
  | ((with_reducible refine ge_var (d := ?d) ?h ?_); case h => exact rfl)
  | ((with_reducible refine gs_aug (d := ?d) ?h ?_); case h => exact rfl)
  | (with_reducible refine ge_tup ?_) | (with_reducible refine ge_lst ?_) | with_reducible refine ge_B ?_ | with_reducible refine ge_and ?_ | with_reducible refine ge_or ?_ | with_reducible refine ge_not ?_ | with_reducible refine ge_if ?_ | with_reducible refine ge_andV ?_ | with_reducible refine ge_orV ?_ | with_reducible refine ge_notV ?_ | with_reducible refine ge_neg ?_
  | with_reducible refine ge_sl ?_ | with_reducible refine ge_noPart ?_ | with_reducible refine ge_part ?_ | with_reducible refine ge_revT ?_ | with_reducible refine ge_app ?_ | with_reducible refine ge_lc ?_ | with_reducible refine ge_chain ?_
  | with_reducible refine gi_items ?_ | with_reducible refine gi_range1 ?_ | with_reducible refine gi_range2 ?_ | with_reducible refine gi_enum ?_
  | with_reducible refine gt_name ?_ | with_reducible refine gt_nil ?_ | with_reducible refine gt_cons ?_ | with_reducible refine gt_tup rfl ?_ | with_reducible refine gt_sub ?_
  | with_reducible refine ge_fI ?_ | with_reducible refine ge_sub ?_ | with_reducible refine ge_add ?_ | with_reducible refine ge_lt ?_ | with_reducible refine ge_le ?_ | with_reducible refine ge_gt ?_ | with_reducible refine ge_ge ?_ | with_reducible refine ge_eqI ?_ | with_reducible refine ge_neI ?_ | with_reducible refine ge_eqS ?_ | with_reducible refine ge_neS ?_
  | with_reducible refine ge_int ?_ | with_reducible refine ge_min ?_ | with_reducible refine ge_max ?_ | with_reducible refine ge_abs ?_ | with_reducible refine ge_slT ?_
  | with_reducible refine then_nx ?_ | with_reducible refine then_rt ?_
  | ((with_reducible refine ge_ixL (ds := ?ds) (d := ?dd) ?hl ?he ?_); (case hl => first | exact lat_lst (by assumption) | exact lat_fz (by assumption)); (case he => first | exact at0 | exact at1 | exact at2 | exact at3))
  | ((with_reducible refine ge_ixT (d := ?dd) ?he ?_); (case he => first | exact at0 | exact at1 | exact at2 | exact at3))
  | ((with_reducible refine ge_len (ds := ?ds) ?hl ?_); (case hl => first | exact lat_lst (by assumption) | exact lat_fz (by assumption) | exact rfl))
  | ((with_reducible refine ge_mod ?hc ?_); (case hc => first | assumption | decide | omega))
  | ((with_reducible refine ge_div ?hc ?hd ?_); (case hc => first | assumption | decide | omega); (case hd => first | assumption | decide | omega))
  | ((with_reducible refine ge_mul ?hc ?_); (case hc => first | assumption | exact i64_left rfl | exact i64_right rfl))
  | ((with_reducible refine ge_pow ?hc ?_); (case hc => decide))
  | (refine ⟨_, rfl, ?_⟩) | (refine ⟨_, _, rfl, ?_⟩))
theorem mine_parts {M : Mine} : (∃ d, L2.atI [D.int M.places, D.tup (M.ways.map Law.pairD), D.int M.inlet, D.int M.outlet] 0 = some d) := ⟨_, at0⟩
/-- one mine of the law is gone through -/
theorem body_gives {S : Store} {M : Mine} {p g : Nat} {x0 x2 x4 x5 x6 x7 x8 x9 x10 x11 x12 x13 : Option D} {Q : Fl → Ev → Store → Prop} (hp : Pen S p g) (ok : MineOk M) (hz : M.ways.length ≤ 12)
    (hQ : ∀ (S' : Store) (x4 x5 x6 x7 x8 x9 x10 x11 x12 x13 : Option D), Pen S' p g → Q .nx [x0, some (.lr p), x2, some (mineD M), x4, x5, x6, x7, x8, x9, x10, x11, x12, x13] S') :
    GS (mSeq (mAsg (mCall cRepr (mCons (mVar 3) mNil)) (mName 4))
    (mSeq (mIfS (mB (mBin fNe (mCall cRepr (mCons (mCall F_is_joined (mCons (mVar 3) mNil)) mNil)) (mCall cRepr (mCons (mCall F_law_is_joined (mCons (mVar 3) mNil)) mNil)))) (mRet (mC (.bl false))) mNx)
    (mSeq (mFor (mRange1 (mCons (mBin fIx (mVar 3) (mC (.int 0))) mNil)) (mName 5) (mSeq (mAsg (mLc (mEnum (mCons (mBin fIx (mVar 3) (mC (.int 1))) mNil)) (mgTup (mgCons (mName 12) (mgCons (mName 13) mgNil)) 2) (mB (mBin (fIn false) (mVar 5) (mVar 13))) (mVar 12) [12, 13]) (mName 7))
    (mSeq (mIfS (mB (mBin fNe (mCall cRepr (mCons (mCall F_ways_at (mCons (mVar 3) (mCons (mVar 5) mNil))) mNil)) (mCall cRepr (mCons (mCall cTuple (mCons (mVar 7) mNil)) mNil)))) (mRet (mC (.bl false))) mNx)
    (mFor (mItems (mVar 7)) (mName 8) (mSeq (mAsg (mBin fIx (mBin fIx (mVar 3) (mC (.int 1))) (mVar 8)) (mgTup (mgCons (mName 10) (mgCons (mName 11) mgNil)) 2))
    (mIfS (mB (mBin fNe (mCall cRepr (mCons (mCall F_far_end (mCons (mVar 3) (mCons (mVar 8) (mCons (mVar 5) mNil)))) mNil)) (mCall cRepr (mCons (mIf (mB (mBin fEq (mVar 5) (mVar 10))) (mVar 11) (mVar 10)) mNil)))) (mRet (mC (.bl false))) mNx))))))
    (mIfS (mB (mBin fNe (mCall cRepr (mCons (mVar 3) mNil)) (mVar 4))) (mRet (mC (.bl false))) mNx)))
      [x0, some (.lr p), x2, some (mineD M), x4, x5, x6, x7, x8, x9, x10, x11, x12, x13] S) Q := by
  have hz' : M.ways.length ≤ 1000 := by omega
  repeat walk_at "st"
  refine ge_repr toPy_mine (ok_mine ok hz') ?_
  repeat walk_at "st"
  refine (joined_gives ok (by omega)).mono ?_
  rintro _ S1 ⟨l, rfl, hf, hc, ha⟩
  repeat walk_at "st"
  refine ge_repr rfl ok_bool ?_
  repeat walk_at "st"
  refine (is_joined_gives ok).mono ?_
  rintro _ S2 ⟨l2, rfl, hf2, hc2, ha2⟩
  rw [hf.same hf2 hc hc2]
  repeat walk_at "st"
  refine ge_repr rfl ok_bool ?_
  repeat walk_at "st"
  refine ⟨fun z => (by simp at z), fun _ => ?_⟩
  repeat walk_at "st"
  have hl := ok.lo
  have hh := ok.hi
  refine ⟨r62_of (by omega) (by omega), ?_⟩
  have hp2 := ha2.pen (ha.pen hp)
  refine gs_forL (fun i ρ S' => ∃ x5 x6 x7 x8 x9 x10 x11 x12 x13 : Option D, ρ = [x0, some (.lr p), x2, some (mineD M), some (.str (mineP M).shown), x5, x6, x7, x8, x9, x10, x11, x12, x13] ∧ Pen S' p g)
    ⟨x5, x6, x7, x8, x9, x10, x11, x12, x13, rfl, hp2⟩ ?_ ?_
  · rintro i d ρ S3 hd ⟨x5, x6, x7, x8, x9, x10, x11, x12, x13, rfl, hp3⟩
    refine ⟨rfl, ?_⟩
    obtain ⟨rfl, hi⟩ := range_int hd
    rw [Int.zero_add]
    refine gt_name (gs_seq (gs_asg ?_))
    refine (due_gives (M := M) (x := (i : Int)) hz' rfl (fun _ _ => rfl) (fun _ _ => rfl) (fun _ _ => rfl)).mono ?_
    rintro _ S4 ⟨rfl, hr, ha4⟩
    obtain ⟨r, hre⟩ : ∃ r, S3.length = r := ⟨_, rfl⟩
    rw [hre] at hr ⊢
    have hp4 := ha4.pen hp3
    repeat walk_at "st"
    refine (ways_at_gives hz').mono ?_
    rintro _ S5 ⟨rfl, ha5⟩
    have hr5 := ha5 _ _ hr
    have hp5 := ha5.pen hp4
    have hsm : ∀ k ∈ hits M.ways (i : Int) M.ways.length, sm k := fun k hk => by
      obtain ⟨j, w, rfl, hj, _⟩ := mem_hits hk
      exact sm_lt (n := 13) (by omega) (by omega) (by omega)
    have hhl := hits_length M.ways (i : Int) M.ways.length
    repeat walk_at "st"
    refine ge_repr (toPy_list (n := 62)) (ok_ints hsm (by omega)) ?_
    repeat walk_at "st"
    refine ge_tuple (lat_lst hr5) ?_
    repeat walk_at "st"
    refine ge_repr (toPy_list (n := 62)) (ok_ints hsm (by omega)) ?_
    repeat walk_at "st"
    refine ⟨fun z => (by simp at z), fun _ => ?_⟩
    repeat walk_at "st"
    refine .inr ⟨r, _, rfl, lat_lst hr5, ?_⟩
    refine gs_forL (fun j ρ S' => S' = S5 ∧ ∃ x8 x10 x11 : Option D, ρ = [x0, some (.lr p), x2, some (mineD M), some (.str (mineP M).shown), some (.int (i : Int)), x6, some (.lr r), x8, x9, x10, x11, x12, x13])
      ⟨rfl, x8, x10, x11, rfl⟩ ?_ ?_
    · rintro j d ρ _ hd ⟨rfl, x8, x10, x11, rfl⟩
      refine ⟨still_of (lat_lst hr5), ?_⟩
      rw [List.getElem?_map] at hd
      obtain ⟨k, hkk, rfl⟩ := Option.map_eq_some_iff.mp hd
      obtain ⟨kn, w, rfl, hkn, hw, hxw⟩ := mem_hits (List.mem_of_getElem? hkk)
      obtain ⟨b1, b2, b3⟩ := ok.ways w (List.mem_of_getElem? hw)
      repeat walk_at "st"
      refine ge_ixT (d := Law.pairD w) (L2.atI_nat (by rw [List.getElem?_map, hw]; rfl)) ?_
      refine gt_tup (ds := [.int w.1, .int w.2]) rfl ?_
      repeat walk_at "st"
      refine (far_end_gives hw).mono ?_
      rintro _ _ ⟨rfl, rfl⟩
      have hs : sm (if (i : Int) = w.1 then w.2 else w.1) := by
        split
        · exact sm_lt b2.1 b2.2 (by omega)
        · exact sm_lt b1.1 b1.2 (by omega)
      repeat walk_at "st"
      refine ge_repr rfl (ok_int hs) ?_
      repeat walk_at "st"
      refine ⟨fun z => ?_, fun z => ?_⟩
      · have z : (i : Int) = w.1 := of_decide_eq_true z
        rw [if_pos z] at hs ⊢
        repeat walk_at "st"
        refine ge_repr rfl (ok_int hs) ?_
        repeat walk_at "st"
        refine ⟨fun z => (by simp at z), fun _ => ?_⟩
        repeat walk_at "st"
        exact ⟨.inl rfl, rfl, _, _, _, rfl⟩
      · have z : ¬ (i : Int) = w.1 := of_decide_eq_false z
        rw [if_neg z] at hs ⊢
        repeat walk_at "st"
        refine ge_repr rfl (ok_int hs) ?_
        repeat walk_at "st"
        refine ⟨fun z => (by simp at z), fun _ => ?_⟩
        repeat walk_at "st"
        exact ⟨.inl rfl, rfl, _, _, _, rfl⟩
    · rintro ρ _ ⟨rfl, x8, x10, x11, rfl⟩
      exact ⟨still_of (lat_lst hr5), .inl rfl, _, _, _, _, _, _, _, _, _, rfl, hp5⟩
  · rintro ρ S3 ⟨x5, x6, x7, x8, x9, x10, x11, x12, x13, rfl, hp3⟩
    refine ⟨rfl, ?_⟩
    repeat walk_at "st"
    refine ge_repr toPy_mine (ok_mine ok hz') ?_
    repeat walk_at "st"
    refine ⟨fun z => (by simp at z), fun _ => ?_⟩
    repeat walk_at "st"
    exact hQ S3 _ _ _ _ _ _ _ _ _ _ hp3
end K02

set_option Elab.async false
set_option linter.all false
set_option maxRecDepth 100000
set_option maxHeartbeats 4000000
namespace K02
open PySem PySem.Spec PyProof.Rows L2 MS Law Air
local macro_rules | `(tactic| walk_at "st") => `(tactic| first
  | with_reducible refine gs_seq ?_ | with_reducible refine gs_asg ?_ | with_reducible refine gs_ret ?_ | with_reducible refine gs_retN ?_ | with_reducible refine gs_drop ?_ | with_reducible refine gs_if ?_ | with_reducible refine gs_par ?_ | with_reducible refine gs_for ?_ | with_reducible refine gs_nx ?_
  | with_reducible refine ge_cons ?_ | with_reducible refine ge_nil ?_ | with_reducible refine ge_c ?_ | with_reducible refine ge_bin ?_ | with_reducible refine ge_call ?_
  | ((with_reducible refine ge_var (d := ?d) ?h ?_); case h => exact rfl)
  | ((with_reducible refine gs_aug (d := ?d) ?h ?_); case h => exact rfl)
  | (with_reducible refine ge_tup ?_) | (with_reducible refine ge_lst ?_) | with_reducible refine ge_B ?_ | with_reducible refine ge_and ?_ | with_reducible refine ge_or ?_ | with_reducible refine ge_not ?_ | with_reducible refine ge_if ?_ | with_reducible refine ge_andV ?_ | with_reducible refine ge_orV ?_ | with_reducible refine ge_notV ?_ | with_reducible refine ge_neg ?_
  | with_reducible refine ge_sl ?_ | with_reducible refine ge_noPart ?_ | with_reducible refine ge_part ?_ | with_reducible refine ge_revT ?_ | with_reducible refine ge_app ?_ | with_reducible refine ge_lc ?_ | with_reducible refine ge_chain ?_
  | with_reducible refine gi_items ?_ | with_reducible refine gi_range1 ?_ | with_reducible refine gi_range2 ?_ | with_reducible refine gi_enum ?_
  | with_reducible refine gt_name ?_ | with_reducible refine gt_nil ?_ | with_reducible refine gt_cons ?_ | with_reducible refine gt_tup rfl ?_ | with_reducible refine gt_sub ?_
  | with_reducible refine ge_fI ?_ | with_reducible refine ge_sub ?_ | with_reducible refine ge_add ?_ | with_reducible refine ge_lt ?_ | with_reducible refine ge_le ?_ | with_reducible refine ge_gt ?_ | with_reducible refine ge_ge ?_ | with_reducible refine ge_eqI ?_ | with_reducible refine ge_neI ?_ | with_reducible refine ge_eqS ?_ | with_reducible refine ge_neS ?_
  | with_reducible refine ge_int ?_ | with_reducible refine ge_min ?_ | with_reducible refine ge_max ?_ | with_reducible refine ge_abs ?_ | with_reducible refine ge_slT ?_
  | with_reducible refine then_nx ?_ | with_reducible refine then_rt ?_
  | ((with_reducible refine ge_ixL (ds := ?ds) (d := ?dd) ?hl ?he ?_); (case hl => first | exact lat_lst (by assumption) | exact lat_fz (by assumption)); (case he => first | exact at0 | exact at1 | exact at2 | exact at3))
  | ((with_reducible refine ge_ixT (d := ?dd) ?he ?_); (case he => first | exact at0 | exact at1 | exact at2 | exact at3))
  | ((with_reducible refine ge_len (ds := ?ds) ?hl ?_); (case hl => first | exact lat_lst (by assumption) | exact lat_fz (by assumption) | exact rfl))
  | ((with_reducible refine ge_mod ?hc ?_); (case hc => first | assumption | decide | omega))
  | ((with_reducible refine ge_div ?hc ?hd ?_); (case hc => first | assumption | decide | omega); (case hd => first | assumption | decide | omega))
  | ((with_reducible refine ge_mul ?hc ?_); (case hc => first | assumption | exact i64_left rfl | exact i64_right rfl))
  | ((with_reducible refine ge_pow ?hc ?_); (case hc => decide))
  | (refine ⟨_, rfl, ?_⟩) | (refine ⟨_, _, rfl, ?_⟩))
theorem law_gives {ns : List Int} : GE (F_law [.lr 0] [.fz (ns.map D.int)]) fun d S' => d = .bl true := by
  refine ge_den rfl ?_
  unfold M_law
  refine gs_seq (gs_asg (ge_call (ge_cons (ge_var rfl (ge_nil ?_)))))
  refine (pen_gives (S := [.fz (ns.map D.int)]) (n := 0) (ns := ns) rfl).mono ?_
  rintro _ S1 ⟨p, g, rfl, hp, ha⟩
  have h0 : S1[0]? = some (.fz (ns.map D.int)) := ha 0 _ rfl
  repeat walk_at "st"
  rw [List.length_map]
  have hb : ∀ z : Int, 0 ≤ z → r62 (if (if z < 8 then z else 8) > 3 then (if z < 8 then z else 8) else 3) = true := fun z hz => r62_of (by split <;> split <;> omega) (by split <;> split <;> omega)
  refine ⟨hb _ (by omega), ?_⟩
  refine gs_forL (fun i ρ S' => ∃ x2 x3 x4 x5 x6 x7 x8 x9 x10 x11 x12 x13 : Option D, ρ = [some (.lr 0), some (.lr p), x2, x3, x4, x5, x6, x7, x8, x9, x10, x11, x12, x13] ∧ Pen S' p g)
    ⟨none, none, none, none, none, none, none, none, none, none, none, none, rfl, hp⟩ ?_ ?_
  · rintro i d ρ S2 hd ⟨x2, x3, x4, x5, x6, x7, x8, x9, x10, x11, x12, x13, rfl, hp2⟩
    refine ⟨rfl, ?_⟩
    repeat walk_at "st"
    refine (draw_gives hp2 (by decide) (by decide)).mono ?_
    rintro _ S3 ⟨n, rfl, hn, hn2, hp3, k3⟩
    repeat walk_at "st"
    refine (mine_gives hp3 (by omega) (by omega) (by decide) (by decide)).mono ?_
    rintro _ S4 ⟨M, rfl, ok, hl, ht, hm, hp4, k4⟩
    repeat walk_at "st"
    refine (draw_gives hp4 (by decide) (by decide)).mono ?_
    rintro _ S5 ⟨c, rfl, hc, hc2, hp5, k5⟩
    repeat walk_at "st"
    refine ⟨fun _ => ?_, fun _ => ?_⟩
    · refine gs_seq (gs_asg ((drawn_gives (M := M) hp5 ok rfl rfl (fun _ => rfl) (fun _ => rfl)).mono ?_))
      rintro _ S6 ⟨r, ws, rfl, hr, ho, hw8, hp6⟩
      refine gt_name (then_nx (gs_asg (ge_tup (ge_cons (ge_bin (ge_var rfl (ge_c (ge_ixT (d := .int M.places) at0 (ge_cons (ge_call (ge_cons (ge_var rfl (ge_nil (ge_tuple (lat_lst hr) ?_)))))))))))))) 
      refine ge_cons (ge_bin (ge_var rfl (ge_c (ge_ixT (d := .int M.inlet) at2 (ge_cons (ge_bin (ge_var rfl (ge_c (ge_ixT (d := .int M.outlet) at3 (ge_nil ⟨by show 4 ≤ szl; decide, gt_name (then_nx ?_)⟩)))))))))) 
      exact body_gives (M := ⟨M.places, ws, M.inlet, M.outlet⟩) hp6 ⟨ok.lo, ok.hi, ho, ok.ends⟩ (by show ws.length ≤ 12; omega) fun S' x4 x5 x6 x7 x8 x9 x10 x11 x12 x13 h => ⟨.inl rfl, _, _, _, _, _, _, _, _, _, _, _, _, rfl, h⟩
    · refine gs_nx (then_nx ?_)
      exact body_gives hp5 ok (by omega) fun S' x4 x5 x6 x7 x8 x9 x10 x11 x12 x13 h => ⟨.inl rfl, _, _, _, _, _, _, _, _, _, _, _, _, rfl, h⟩
  · rintro ρ S2 ⟨x2, x3, x4, x5, x6, x7, x8, x9, x10, x11, x12, x13, rfl, hp2⟩
    refine ⟨rfl, ?_⟩
    repeat walk_at "st"
    rfl
theorem law_ok : LawOk 63 F_law := fun ns _ => by
  obtain ⟨d, S', e, rfl⟩ := law_gives (ns := ns)
  exact ⟨S', e⟩
end K02

set_option Elab.async false
set_option linter.all false
set_option maxRecDepth 100000
set_option maxHeartbeats 4000000
namespace K02
open PySem PySem.Spec PyProof.Rows L2 MS Law Air
def topS (i : Nat) : Stmt := PySem.Challenge.pw_windways_k02_ways_and_places_joined.main.body.getD i (.Pass ⟨0, 0, 0, 0⟩)
abbrev s_far_end : Stmt := topS 6
theorem sc_far_end : FnScope N_far_end ["mine", "w", "x"] (defScope s_far_end) := ⟨rfl, rfl, rfl, by decide +kernel, rfl, by decide +kernel, by decide +kernel⟩
abbrev s_ways_at : Stmt := topS 5
theorem sc_ways_at : FnScope N_ways_at ["mine", "x"] (defScope s_ways_at) := ⟨rfl, rfl, rfl, by decide +kernel, rfl, by decide +kernel, by decide +kernel⟩
abbrev s_near_places : Stmt := topS 4
theorem sc_near_places : FnScope N_near_places ["mine", "x"] (defScope s_near_places) := ⟨rfl, rfl, rfl, by decide +kernel, rfl, by decide +kernel, by decide +kernel⟩
abbrev s_reached_from : Stmt := topS 3
theorem sc_reached_from : FnScope N_reached_from ["mine", "starts"] (defScope s_reached_from) := ⟨rfl, rfl, rfl, by decide +kernel, rfl, by decide +kernel, by decide +kernel⟩
abbrev s_reached_places : Stmt := topS 2
theorem sc_reached_places : FnScope N_reached_places ["mine"] (defScope s_reached_places) := ⟨rfl, rfl, rfl, by decide +kernel, rfl, by decide +kernel, by decide +kernel⟩
abbrev s_is_joined : Stmt := topS 1
theorem sc_is_joined : FnScope N_is_joined ["mine"] (defScope s_is_joined) := ⟨rfl, rfl, rfl, by decide +kernel, rfl, by decide +kernel, by decide +kernel⟩
abbrev s_law_pen : Stmt := topS 8
theorem sc_law_pen : FnScope N_law_pen ["script"] (defScope s_law_pen) := ⟨rfl, rfl, rfl, by decide +kernel, rfl, by decide +kernel, by decide +kernel⟩
abbrev s_law_fresh : Stmt := topS 9
theorem sc_law_fresh : FnScope N_law_fresh ["pen"] (defScope s_law_fresh) := ⟨rfl, rfl, rfl, by decide +kernel, rfl, by decide +kernel, by decide +kernel⟩
abbrev s_law_draw : Stmt := topS 10
theorem sc_law_draw : FnScope N_law_draw ["pen", "bound"] (defScope s_law_draw) := ⟨rfl, rfl, rfl, by decide +kernel, rfl, by decide +kernel, by decide +kernel⟩
abbrev s_law_one_of : Stmt := topS 11
theorem sc_law_one_of : FnScope N_law_one_of ["pen", "some"] (defScope s_law_one_of) := ⟨rfl, rfl, rfl, by decide +kernel, rfl, by decide +kernel, by decide +kernel⟩
abbrev s_law_reached : Stmt := topS 12
theorem sc_law_reached : FnScope N_law_reached ["ways", "x", "shut"] (defScope s_law_reached) := ⟨rfl, rfl, rfl, by decide +kernel, rfl, by decide +kernel, by decide +kernel⟩
abbrev s_law_is_joined : Stmt := topS 13
theorem sc_law_is_joined : FnScope N_law_is_joined ["mine"] (defScope s_law_is_joined) := ⟨rfl, rfl, rfl, by decide +kernel, rfl, by decide +kernel, by decide +kernel⟩
abbrev s_law_two_places : Stmt := topS 14
theorem sc_law_two_places : FnScope N_law_two_places ["pen", "places"] (defScope s_law_two_places) := ⟨rfl, rfl, rfl, by decide +kernel, rfl, by decide +kernel, by decide +kernel⟩
abbrev s_law_mine : Stmt := topS 15
theorem sc_law_mine : FnScope N_law_mine ["pen", "most", "many"] (defScope s_law_mine) := ⟨rfl, rfl, rfl, by decide +kernel, rfl, by decide +kernel, by decide +kernel⟩
abbrev s_law : Stmt := topS 16
theorem sc_law : FnScope N_law ["script"] (defScope s_law) := ⟨rfl, rfl, rfl, by decide +kernel, rfl, by decide +kernel, by decide +kernel⟩
section
variable {P : Program} {w : World} {K : PySem.W.Frag} {mg : Str → Option Value} {base : Heap}
theorem ok_far_end {f : Addr} {fd : FuncData} (fn : Fun K "far_end" "far_end" s_far_end f fd) : FnG P w K mg base 1 f fd ["mine", "w", "x"] F_far_end := by
  refine fnG_of fn sc_far_end fun cdv A outer s H hr hgd => ⟨M_far_end, ?_, den_does⟩
  have hu := hr.units
  have hud := L2.hu_of hr
  have hu80 := room80 hr
  have hu65 := Nat.lt_of_le_of_lt (Nat.add_le_add_left (show 65 ≤ 80 by decide) _) hu80
  exact (mss_cons (ms_asg (me_ix (me_ix (mv 0) me_int (fun _ _ => rfl)) (mv 1) (fun _ _ => rfl)) (mg_tup rfl (mgs_cons (mg_name (i := 3) sc_far_end.nd rfl (by first | exact Or.inl rfl | exact Or.inr rfl)) (mgs_cons (mg_name (i := 4) sc_far_end.nd rfl (by first | exact Or.inl rfl | exact Or.inr rfl)) mgs_nil))))
    (mss_one (ms_ret (me_ifExp (mt_cmp (o_eq hu) (mv 2) (mv 3) (nomark _)) (mv 4) (mv 3)))))
theorem ok_ways_at {f : Addr} {fd : FuncData} (fn : Fun K "ways_at" "ways_at" s_ways_at f fd) (n_enumerate : mg "enumerate" = none) (n_tuple : mg "tuple" = none) : FnG P w K mg base 1 f fd ["mine", "x"] F_ways_at := by
  refine fnG_of fn sc_ways_at fun cdv A outer s H hr hgd => ⟨M_ways_at, ?_, den_does⟩
  have hu := hr.units
  have hud := L2.hu_of hr
  have hu80 := room80 hr
  have hu65 := Nat.lt_of_le_of_lt (Nat.add_le_add_left (show 65 ≤ 80 by decide) _) hu80
  exact (mss_one (ms_ret (me_callTy c_tuple (by rfl) n_tuple MS.boot_tuple (ma_cons (me_lc (own := [("w", 2), ("way", 3)]) (e := (mVar 2)) (is := [2, 3]) rfl sc_ways_at.nd (mi_enum (by rfl) n_enumerate (ma_cons (me_ix (mv 0) me_int (fun _ _ => rfl)) ma_nil)) (blkOk_by (own := [("w", 2), ("way", 3)]) (N := N_ways_at) (sc := defScope s_ways_at) (by decide +kernel)) (fun _ _ _ _ _ => (mgl_tup rfl (mgsl_cons (mgl_name (i := 2) sc_ways_at.nd rfl (by first | exact Or.inl rfl | exact Or.inr rfl)) (mgsl_cons (mgl_name (i := 3) sc_ways_at.nd rfl (by first | exact Or.inl rfl | exact Or.inr rfl)) mgsl_nil)))) (fun _ _ _ _ _ => (mts_one (mt_cmp o_in (mv 1) (mv 3) (by rfl)))) (fun _ _ _ _ _ => (mv 2)) (by decide)) ma_nil))))
theorem ok_near_places {f : Addr} {fd : FuncData} (fn : Fun K "near_places" "near_places" s_near_places f fd) {a_far_end : Addr} {d_far_end : FuncData} (f_far_end : Fun K "far_end" "far_end" s_far_end a_far_end d_far_end) (g_far_end : FnG P w K mg base 1 a_far_end d_far_end ["mine", "w", "x"] F_far_end) (m_far_end : mg "far_end" = some (.ref a_far_end)) (b_far_end : Binds K d_far_end ["mine", "w", "x"] []) {a_ways_at : Addr} {d_ways_at : FuncData} (f_ways_at : Fun K "ways_at" "ways_at" s_ways_at a_ways_at d_ways_at) (g_ways_at : FnG P w K mg base 1 a_ways_at d_ways_at ["mine", "x"] F_ways_at) (m_ways_at : mg "ways_at" = some (.ref a_ways_at)) (b_ways_at : Binds K d_ways_at ["mine", "x"] []) (n_sorted : mg "sorted" = none) (n_tuple : mg "tuple" = none) : FnG P w K mg base 2 f fd ["mine", "x"] F_near_places := by
  refine fnG_of fn sc_near_places fun cdv A outer s H hr hgd => ⟨M_near_places, ?_, den_does⟩
  have hu := hr.units
  have hud := L2.hu_of hr
  have hu80 := room80 hr
  have hu65 := Nat.lt_of_le_of_lt (Nat.add_le_add_left (show 65 ≤ 80 by decide) _) hu80
  exact (mss_one (ms_ret (me_callTy c_tuple (by rfl) n_tuple MS.boot_tuple (ma_cons (me_sortComp (own := [("w", 2)]) (e := (mCall F_far_end (mCons (mVar 0) (mCons (mVar 2) (mCons (mVar 1) mNil))))) (is := [2]) rfl sc_near_places.nd (by rfl) n_sorted (mi_items (me_call (g_ways_at.mono (by decide)) hr hgd (by rfl) m_ways_at f_ways_at.kp b_ways_at (fun _ _ _ => den_len) (ma_cons (mv 0) (ma_cons (mv 1) ma_nil)))) (blkOk_by (own := [("w", 2)]) (N := N_near_places) (sc := defScope s_near_places) (by decide +kernel)) (fun _ _ _ _ _ => (mgl_name (i := 2) sc_near_places.nd rfl (by first | exact Or.inl rfl | exact Or.inr rfl))) (fun _ _ _ _ _ => mts_nil) (fun _ _ _ _ _ => (me_call (g_far_end.mono (by decide)) hr hgd (by rfl) m_far_end f_far_end.kp b_far_end (fun _ _ _ => den_len) (ma_cons (mv 0) (ma_cons (mv 2) (ma_cons (mv 1) ma_nil))))) (by decide)) ma_nil))))
theorem ok_reached_from {f : Addr} {fd : FuncData} (fn : Fun K "reached_from" "reached_from" s_reached_from f fd) {a_near_places : Addr} {d_near_places : FuncData} (f_near_places : Fun K "near_places" "near_places" s_near_places a_near_places d_near_places) (g_near_places : FnG P w K mg base 2 a_near_places d_near_places ["mine", "x"] F_near_places) (m_near_places : mg "near_places" = some (.ref a_near_places)) (b_near_places : Binds K d_near_places ["mine", "x"] []) (n_len : mg "len" = none) (n_list : mg "list" = none) (n_sorted : mg "sorted" = none) (n_tuple : mg "tuple" = none) : FnG P w K mg base 3 f fd ["mine", "starts"] F_reached_from := by
  refine fnG_of fn sc_reached_from fun cdv A outer s H hr hgd => ⟨M_reached_from, ?_, den_does⟩
  have hu := hr.units
  have hud := L2.hu_of hr
  have hu80 := room80 hr
  have hu65 := Nat.lt_of_le_of_lt (Nat.add_le_add_left (show 65 ≤ 80 by decide) _) hu80
  exact (mss_cons (ms_set (i := 2) sc_reached_from.nd rfl (by first | exact Or.inl rfl | exact Or.inr rfl) (me_callTy c_list (by rfl) n_list MS.boot_list (ma_cons (mv 1) ma_nil)))
    (mss_cons (ms_set (i := 3) sc_reached_from.nd rfl (by first | exact Or.inl rfl | exact Or.inr rfl) me_int)
    (mss_cons (ms_while 100 PassesOwn.never (mt_cmp o_lt (mv 3) (me_callB c_len (by rfl) n_len MS.boot_len (ma_cons (mv 2) ma_nil)) (nomark _)) (mss_cons (ms_for PassesOwn.never rfl (mi_items (me_call (g_near_places.mono (by decide)) hr hgd (by rfl) m_near_places f_near_places.kp b_near_places (fun _ _ _ => den_len) (ma_cons (mv 0) (ma_cons (me_ix (mv 2) (mv 3) (fun _ _ => rfl)) ma_nil)))) (mg_name (i := 4) sc_reached_from.nd rfl (by first | exact Or.inl rfl | exact Or.inr rfl)) (mss_one (ms_if (mt_cmp o_notIn (mv 4) (mv 2) (by rfl)) (mss_one (ms_expr (me_app (mv 2) (ma_cons (mv 4) ma_nil)))) mss_nil)))
    (mss_one (ms_aug (i := 3) sc_reached_from.nd rfl (by first | exact Or.inl rfl | exact Or.inr rfl) me_int i_add))))
    (mss_one (ms_ret (me_callTy c_tuple (by rfl) n_tuple MS.boot_tuple (ma_cons (me_callB c_sorted (by rfl) n_sorted MS.boot_sorted (ma_cons (mv 2) ma_nil)) ma_nil)))))))
theorem ok_reached_places {f : Addr} {fd : FuncData} (fn : Fun K "reached_places" "reached_places" s_reached_places f fd) {a_reached_from : Addr} {d_reached_from : FuncData} (f_reached_from : Fun K "reached_from" "reached_from" s_reached_from a_reached_from d_reached_from) (g_reached_from : FnG P w K mg base 3 a_reached_from d_reached_from ["mine", "starts"] F_reached_from) (m_reached_from : mg "reached_from" = some (.ref a_reached_from)) (b_reached_from : Binds K d_reached_from ["mine", "starts"] []) : FnG P w K mg base 4 f fd ["mine"] F_reached_places := by
  refine fnG_of fn sc_reached_places fun cdv A outer s H hr hgd => ⟨M_reached_places, ?_, den_does⟩
  have hu := hr.units
  have hud := L2.hu_of hr
  have hu80 := room80 hr
  have hu65 := Nat.lt_of_le_of_lt (Nat.add_le_add_left (show 65 ≤ 80 by decide) _) hu80
  exact (mss_one (ms_ret (me_call (g_reached_from.mono (by decide)) hr hgd (by rfl) m_reached_from f_reached_from.kp b_reached_from (fun _ _ _ => den_len) (ma_cons (mv 0) (ma_cons (me_slice (mv 0) (mp_some me_int) (mp_some me_int)) ma_nil)))))
theorem ok_is_joined {f : Addr} {fd : FuncData} (fn : Fun K "is_joined" "is_joined" s_is_joined f fd) {a_reached_places : Addr} {d_reached_places : FuncData} (f_reached_places : Fun K "reached_places" "reached_places" s_reached_places a_reached_places d_reached_places) (g_reached_places : FnG P w K mg base 4 a_reached_places d_reached_places ["mine"] F_reached_places) (m_reached_places : mg "reached_places" = some (.ref a_reached_places)) (b_reached_places : Binds K d_reached_places ["mine"] []) (n_len : mg "len" = none) : FnG P w K mg base 5 f fd ["mine"] F_is_joined := by
  refine fnG_of fn sc_is_joined fun cdv A outer s H hr hgd => ⟨M_is_joined, ?_, den_does⟩
  have hu := hr.units
  have hud := L2.hu_of hr
  have hu80 := room80 hr
  have hu65 := Nat.lt_of_le_of_lt (Nat.add_le_add_left (show 65 ≤ 80 by decide) _) hu80
  exact (mss_one (ms_ret (me_cmp (o_eq hu) (me_callB c_len (by rfl) n_len MS.boot_len (ma_cons (me_call (g_reached_places.mono (by decide)) hr hgd (by rfl) m_reached_places f_reached_places.kp b_reached_places (fun _ _ _ => den_len) (ma_cons (mv 0) ma_nil)) ma_nil)) (me_ix (mv 0) me_int (fun _ _ => rfl)) (nomark _))))
theorem ok_law_pen {f : Addr} {fd : FuncData} (fn : Fun K "_law_pen" "_law_pen" s_law_pen f fd) (n_list : mg "list" = none) : FnG P w K mg base 1 f fd ["script"] F_law_pen := by
  refine fnG_of fn sc_law_pen fun cdv A outer s H hr hgd => ⟨M_law_pen, ?_, den_does⟩
  have hu := hr.units
  have hud := L2.hu_of hr
  have hu80 := room80 hr
  have hu65 := Nat.lt_of_le_of_lt (Nat.add_le_add_left (show 65 ≤ 80 by decide) _) hu80
  exact (mss_one (ms_ret (me_lst (ma_cons (me_callTy c_list (by rfl) n_list MS.boot_list (ma_cons (me_slice (mv 0) mp_none (mp_some me_int)) ma_nil)) (ma_cons me_int (ma_cons me_int ma_nil))))))
theorem ok_law_fresh {f : Addr} {fd : FuncData} (fn : Fun K "_law_fresh" "_law_fresh" s_law_fresh f fd) (n_int : mg "int" = none) (n_len : mg "len" = none) (n_range : mg "range" = none) : FnG P w K mg base 1 f fd ["pen"] F_law_fresh := by
  refine fnG_of fn sc_law_fresh fun cdv A outer s H hr hgd => ⟨M_law_fresh, ?_, den_does⟩
  have hu := hr.units
  have hud := L2.hu_of hr
  have hu80 := room80 hr
  have hu65 := Nat.lt_of_le_of_lt (Nat.add_le_add_left (show 65 ≤ 80 by decide) _) hu80
  exact (mss_cons (ms_par (i := 6) (j := 7) rfl sc_law_fresh.nd rfl rfl (by decide) rfl rfl (ma_cons (me_ix (mv 0) me_int (fun _ _ => rfl)) (ma_cons (me_ix (mv 0) me_int (fun _ _ => rfl)) ma_nil)))
    (mss_cons (ms_asg (me_op o_add (mv 6) me_int) (mg_sub (mv 0) me_int))
    (mss_cons (ms_set (i := 1) sc_law_fresh.nd rfl (by first | exact Or.inl rfl | exact Or.inr rfl) (me_ifExp (mt_cmp (o_ne hu) (mv 7) (me_lst ma_nil) (nomark _)) (me_ix (mv 7) (me_op o_mod (me_callTy c_int (by rfl) n_int MS.boot_int (ma_cons (mv 6) ma_nil)) (me_callB c_len (by rfl) n_len MS.boot_len (ma_cons (mv 7) ma_nil))) (fun _ _ => rfl)) me_int))
    (mss_cons (ms_if (MW.mt (mw_and (mt_cmp o_lt (mv 6) (me_callB c_len (by rfl) n_len MS.boot_len (ma_cons (mv 7) ma_nil)) (nomark _)) (mw_and1 (mt_cmp o_ge (mv 1) (me_op o_pow me_int me_int) (nomark _))))) (mss_one (ms_ret (me_op o_sub (mv 1) (me_op o_pow me_int me_int)))) mss_nil)
    (mss_cons (ms_set (i := 2) sc_law_fresh.nd rfl (by first | exact Or.inl rfl | exact Or.inr rfl) me_int)
    (mss_cons (ms_set (i := 3) sc_law_fresh.nd rfl (by first | exact Or.inl rfl | exact Or.inr rfl) (me_op o_mod (me_callTy c_int (by rfl) n_int MS.boot_int (ma_cons (me_op o_add (me_op o_add (me_op o_mul (mv 1) me_int) (me_op o_mul me_int (mv 6))) me_int) ma_nil)) (mv 2)))
    (mss_cons (ms_set (i := 4) sc_law_fresh.nd rfl (by first | exact Or.inl rfl | exact Or.inr rfl) (mv 3))
    (mss_cons (ms_for PassesOwn.never rfl (mi_range1 (by rfl) n_range (ma_cons me_int ma_nil)) (mg_name (i := 5) sc_law_fresh.nd rfl (by first | exact Or.inl rfl | exact Or.inr rfl)) (mss_cons (ms_set (i := 3) sc_law_fresh.nd rfl (by first | exact Or.inl rfl | exact Or.inr rfl) (me_op o_mod (me_callTy c_int (by rfl) n_int MS.boot_int (ma_cons (me_op o_add (me_op o_add (me_op o_mul (mv 3) (mv 3)) (me_op o_mul (me_op o_mul me_int (me_op o_add (mv 5) me_int)) (me_op o_add (mv 6) me_int))) (mv 1)) ma_nil)) (mv 2)))
    (mss_one (ms_set (i := 4) sc_law_fresh.nd rfl (by first | exact Or.inl rfl | exact Or.inr rfl) (me_op o_add (me_op o_mul (mv 4) (mv 2)) (mv 3))))))
    (mss_one (ms_ret (mv 4)))))))))))
theorem ok_law_draw {f : Addr} {fd : FuncData} (fn : Fun K "_law_draw" "_law_draw" s_law_draw f fd) {a_law_fresh : Addr} {d_law_fresh : FuncData} (f_law_fresh : Fun K "_law_fresh" "_law_fresh" s_law_fresh a_law_fresh d_law_fresh) (g_law_fresh : FnG P w K mg base 1 a_law_fresh d_law_fresh ["pen"] F_law_fresh) (m_law_fresh : mg "_law_fresh" = some (.ref a_law_fresh)) (b_law_fresh : Binds K d_law_fresh ["pen"] []) (n_int : mg "int" = none) : FnG P w K mg base 2 f fd ["pen", "bound"] F_law_draw := by
  refine fnG_of fn sc_law_draw fun cdv A outer s H hr hgd => ⟨M_law_draw, ?_, den_does⟩
  have hu := hr.units
  have hud := L2.hu_of hr
  have hu80 := room80 hr
  have hu65 := Nat.lt_of_le_of_lt (Nat.add_le_add_left (show 65 ≤ 80 by decide) _) hu80
  exact (mss_cons (ms_if (mt_cmp o_lt (me_ix (mv 0) me_int (fun _ _ => rfl)) (mv 1) (nomark _)) (mss_one (ms_asg (me_call (g_law_fresh.mono (by decide)) hr hgd (by rfl) m_law_fresh f_law_fresh.kp b_law_fresh (fun _ _ _ => den_len) (ma_cons (mv 0) ma_nil)) (mg_sub (mv 0) me_int))) mss_nil)
    (mss_cons (ms_set (i := 2) sc_law_draw.nd rfl (by first | exact Or.inl rfl | exact Or.inr rfl) (me_op o_mod (me_callTy c_int (by rfl) n_int MS.boot_int (ma_cons (me_ix (mv 0) me_int (fun _ _ => rfl)) ma_nil)) (mv 1)))
    (mss_cons (ms_asg (me_op o_div (me_callTy c_int (by rfl) n_int MS.boot_int (ma_cons (me_ix (mv 0) me_int (fun _ _ => rfl)) ma_nil)) (mv 1)) (mg_sub (mv 0) me_int))
    (mss_one (ms_ret (mv 2))))))
theorem ok_law_one_of {f : Addr} {fd : FuncData} (fn : Fun K "_law_one_of" "_law_one_of" s_law_one_of f fd) {a_law_draw : Addr} {d_law_draw : FuncData} (f_law_draw : Fun K "_law_draw" "_law_draw" s_law_draw a_law_draw d_law_draw) (g_law_draw : FnG P w K mg base 2 a_law_draw d_law_draw ["pen", "bound"] F_law_draw) (m_law_draw : mg "_law_draw" = some (.ref a_law_draw)) (b_law_draw : Binds K d_law_draw ["pen", "bound"] []) (n_len : mg "len" = none) : FnG P w K mg base 3 f fd ["pen", "some"] F_law_one_of := by
  refine fnG_of fn sc_law_one_of fun cdv A outer s H hr hgd => ⟨M_law_one_of, ?_, den_does⟩
  have hu := hr.units
  have hud := L2.hu_of hr
  have hu80 := room80 hr
  have hu65 := Nat.lt_of_le_of_lt (Nat.add_le_add_left (show 65 ≤ 80 by decide) _) hu80
  exact (mss_one (ms_ret (me_ix (mv 1) (me_call (g_law_draw.mono (by decide)) hr hgd (by rfl) m_law_draw f_law_draw.kp b_law_draw (fun _ _ _ => den_len) (ma_cons (mv 0) (ma_cons (me_callB c_len (by rfl) n_len MS.boot_len (ma_cons (mv 1) ma_nil)) ma_nil))) (fun _ _ => rfl))))
theorem ok_law_reached {f : Addr} {fd : FuncData} (fn : Fun K "_law_reached" "_law_reached" s_law_reached f fd) (n_range : mg "range" = none) : FnG P w K mg base 1 f fd ["ways", "x", "shut"] F_law_reached := by
  refine fnG_of fn sc_law_reached fun cdv A outer s H hr hgd => ⟨M_law_reached, ?_, den_does⟩
  have hu := hr.units
  have hud := L2.hu_of hr
  have hu80 := room80 hr
  have hu65 := Nat.lt_of_le_of_lt (Nat.add_le_add_left (show 65 ≤ 80 by decide) _) hu80
  exact (mss_cons (ms_set (i := 3) sc_law_reached.nd rfl (by first | exact Or.inl rfl | exact Or.inr rfl) (me_lst (ma_cons (mv 1) ma_nil)))
    (mss_cons (ms_for PassesOwn.never rfl (mi_range1 (by rfl) n_range (ma_cons me_int ma_nil)) (mg_name (i := 4) sc_law_reached.nd rfl (by first | exact Or.inl rfl | exact Or.inr rfl)) (mss_one (ms_for PassesOwn.never rfl (mi_items (mv 0)) (mg_tup rfl (mgs_cons (mg_name (i := 5) sc_law_reached.nd rfl (by first | exact Or.inl rfl | exact Or.inr rfl)) (mgs_cons (mg_name (i := 6) sc_law_reached.nd rfl (by first | exact Or.inl rfl | exact Or.inr rfl)) mgs_nil))) (mss_one (ms_for PassesOwn.never rfl (mi_items (me_tup (ma_cons (me_tup (ma_cons (mv 5) (ma_cons (mv 6) ma_nil))) (ma_cons (me_tup (ma_cons (mv 6) (ma_cons (mv 5) ma_nil))) ma_nil)))) (mg_tup rfl (mgs_cons (mg_name (i := 7) sc_law_reached.nd rfl (by first | exact Or.inl rfl | exact Or.inr rfl)) (mgs_cons (mg_name (i := 8) sc_law_reached.nd rfl (by first | exact Or.inl rfl | exact Or.inr rfl)) mgs_nil))) (mss_one (ms_if (MW.mt (mw_and (mt_cmp o_in (mv 7) (mv 3) (by rfl)) (mw_and (mt_cmp o_notIn (mv 8) (mv 3) (by rfl)) (mw_and1 (mt_cmp o_notIn (mv 8) (mv 2) (by rfl)))))) (mss_one (ms_expr (me_app (mv 3) (ma_cons (mv 8) ma_nil)))) mss_nil)))))))
    (mss_one (ms_ret (mv 3)))))
theorem ok_law_is_joined {f : Addr} {fd : FuncData} (fn : Fun K "_law_is_joined" "_law_is_joined" s_law_is_joined f fd) {a_law_reached : Addr} {d_law_reached : FuncData} (f_law_reached : Fun K "_law_reached" "_law_reached" s_law_reached a_law_reached d_law_reached) (g_law_reached : FnG P w K mg base 1 a_law_reached d_law_reached ["ways", "x", "shut"] F_law_reached) (m_law_reached : mg "_law_reached" = some (.ref a_law_reached)) (b_law_reached : Binds K d_law_reached ["ways", "x", "shut"] []) (n_len : mg "len" = none) : FnG P w K mg base 2 f fd ["mine"] F_law_is_joined := by
  refine fnG_of fn sc_law_is_joined fun cdv A outer s H hr hgd => ⟨M_law_is_joined, ?_, den_does⟩
  have hu := hr.units
  have hud := L2.hu_of hr
  have hu80 := room80 hr
  have hu65 := Nat.lt_of_le_of_lt (Nat.add_le_add_left (show 65 ≤ 80 by decide) _) hu80
  exact (mss_one (ms_ret (me_cmp (o_eq hu) (me_callB c_len (by rfl) n_len MS.boot_len (ma_cons (me_call (g_law_reached.mono (by decide)) hr hgd (by rfl) m_law_reached f_law_reached.kp b_law_reached (fun _ _ _ => den_len) (ma_cons (me_ix (mv 0) me_int (fun _ _ => rfl)) (ma_cons (me_ix (mv 0) me_int (fun _ _ => rfl)) (ma_cons (me_tup ma_nil) ma_nil)))) ma_nil)) (me_ix (mv 0) me_int (fun _ _ => rfl)) (nomark _))))
theorem ok_law_two_places {f : Addr} {fd : FuncData} (fn : Fun K "_law_two_places" "_law_two_places" s_law_two_places f fd) {a_law_draw : Addr} {d_law_draw : FuncData} (f_law_draw : Fun K "_law_draw" "_law_draw" s_law_draw a_law_draw d_law_draw) (g_law_draw : FnG P w K mg base 2 a_law_draw d_law_draw ["pen", "bound"] F_law_draw) (m_law_draw : mg "_law_draw" = some (.ref a_law_draw)) (b_law_draw : Binds K d_law_draw ["pen", "bound"] []) (n_int : mg "int" = none) : FnG P w K mg base 3 f fd ["pen", "places"] F_law_two_places := by
  refine fnG_of fn sc_law_two_places fun cdv A outer s H hr hgd => ⟨M_law_two_places, ?_, den_does⟩
  have hu := hr.units
  have hud := L2.hu_of hr
  have hu80 := room80 hr
  have hu65 := Nat.lt_of_le_of_lt (Nat.add_le_add_left (show 65 ≤ 80 by decide) _) hu80
  exact (mss_cons (ms_set (i := 2) sc_law_two_places.nd rfl (by first | exact Or.inl rfl | exact Or.inr rfl) (me_call (g_law_draw.mono (by decide)) hr hgd (by rfl) m_law_draw f_law_draw.kp b_law_draw (fun _ _ _ => den_len) (ma_cons (mv 0) (ma_cons (mv 1) ma_nil))))
    (mss_one (ms_ret (me_tup (ma_cons (mv 2) (ma_cons (me_op o_mod (me_callTy c_int (by rfl) n_int MS.boot_int (ma_cons (me_op o_add (me_op o_add (mv 2) me_int) (me_call (g_law_draw.mono (by decide)) hr hgd (by rfl) m_law_draw f_law_draw.kp b_law_draw (fun _ _ _ => den_len) (ma_cons (mv 0) (ma_cons (me_op o_sub (mv 1) me_int) ma_nil)))) ma_nil)) (mv 1)) ma_nil))))))
theorem ok_law_mine {f : Addr} {fd : FuncData} (fn : Fun K "_law_mine" "_law_mine" s_law_mine f fd) {a_law_draw : Addr} {d_law_draw : FuncData} (f_law_draw : Fun K "_law_draw" "_law_draw" s_law_draw a_law_draw d_law_draw) (g_law_draw : FnG P w K mg base 2 a_law_draw d_law_draw ["pen", "bound"] F_law_draw) (m_law_draw : mg "_law_draw" = some (.ref a_law_draw)) (b_law_draw : Binds K d_law_draw ["pen", "bound"] []) {a_law_one_of : Addr} {d_law_one_of : FuncData} (f_law_one_of : Fun K "_law_one_of" "_law_one_of" s_law_one_of a_law_one_of d_law_one_of) (g_law_one_of : FnG P w K mg base 3 a_law_one_of d_law_one_of ["pen", "some"] F_law_one_of) (m_law_one_of : mg "_law_one_of" = some (.ref a_law_one_of)) (b_law_one_of : Binds K d_law_one_of ["pen", "some"] []) {a_law_two_places : Addr} {d_law_two_places : FuncData} (f_law_two_places : Fun K "_law_two_places" "_law_two_places" s_law_two_places a_law_two_places d_law_two_places) (g_law_two_places : FnG P w K mg base 3 a_law_two_places d_law_two_places ["pen", "places"] F_law_two_places) (m_law_two_places : mg "_law_two_places" = some (.ref a_law_two_places)) (b_law_two_places : Binds K d_law_two_places ["pen", "places"] []) (n_len : mg "len" = none) (n_min : mg "min" = none) (n_range : mg "range" = none) (n_tuple : mg "tuple" = none) : FnG P w K mg base 4 f fd ["pen", "most", "many"] F_law_mine := by
  refine fnG_of fn sc_law_mine fun cdv A outer s H hr hgd => ⟨M_law_mine, ?_, den_does⟩
  have hu := hr.units
  have hud := L2.hu_of hr
  have hu80 := room80 hr
  have hu65 := Nat.lt_of_le_of_lt (Nat.add_le_add_left (show 65 ≤ 80 by decide) _) hu80
  exact (mss_cons (ms_set (i := 3) sc_law_mine.nd rfl (by first | exact Or.inl rfl | exact Or.inr rfl) (me_call (g_law_one_of.mono (by decide)) hr hgd (by rfl) m_law_one_of f_law_one_of.kp b_law_one_of (fun _ _ _ => den_len) (ma_cons (mv 0) (ma_cons (me_lst (ma_cons me_int (ma_cons me_int (ma_cons (mv 1) (ma_cons (mv 1) (ma_cons (me_op o_add me_int (me_call (g_law_draw.mono (by decide)) hr hgd (by rfl) m_law_draw f_law_draw.kp b_law_draw (fun _ _ _ => den_len) (ma_cons (mv 0) (ma_cons (me_op o_sub (mv 1) me_int) ma_nil)))) ma_nil)))))) ma_nil))))
    (mss_cons (ms_par (i := 3) (j := 6) rfl sc_law_mine.nd rfl rfl (by decide) rfl rfl (ma_cons (me_callB (c_min rfl) (by rfl) n_min MS.boot_min (ma_cons (mv 3) (ma_cons (me_op o_add (mv 2) me_int) ma_nil))) (ma_cons (me_lst ma_nil) ma_nil)))
    (mss_cons (ms_for PassesOwn.never rfl (mi_range2 (by rfl) n_range (ma_cons me_int (ma_cons (mv 3) ma_nil))) (mg_name (i := 4) sc_law_mine.nd rfl (by first | exact Or.inl rfl | exact Or.inr rfl)) (mss_cons (ms_set (i := 7) sc_law_mine.nd rfl (by first | exact Or.inl rfl | exact Or.inr rfl) (me_tup (ma_cons (mv 4) (ma_cons (me_call (g_law_draw.mono (by decide)) hr hgd (by rfl) m_law_draw f_law_draw.kp b_law_draw (fun _ _ _ => den_len) (ma_cons (mv 0) (ma_cons (mv 4) ma_nil))) ma_nil))))
    (mss_one (ms_expr (me_app (mv 6) (ma_cons (me_ifExp (mt_cmp (o_eq hu) (me_call (g_law_draw.mono (by decide)) hr hgd (by rfl) m_law_draw f_law_draw.kp b_law_draw (fun _ _ _ => den_len) (ma_cons (mv 0) (ma_cons me_int ma_nil))) me_int (nomark _)) (mv 7) (me_revT (mv 7))) ma_nil))))))
    (mss_cons (ms_for PassesOwn.never rfl (mi_range1 (by rfl) n_range (ma_cons (me_call (g_law_draw.mono (by decide)) hr hgd (by rfl) m_law_draw f_law_draw.kp b_law_draw (fun _ _ _ => den_len) (ma_cons (mv 0) (ma_cons (me_op o_add (me_op o_sub (mv 2) (me_callB c_len (by rfl) n_len MS.boot_len (ma_cons (mv 6) ma_nil))) me_int) ma_nil))) ma_nil)) (mg_name (i := 5) sc_law_mine.nd rfl (by first | exact Or.inl rfl | exact Or.inr rfl)) (mss_one (ms_expr (me_app (mv 6) (ma_cons (me_call (g_law_two_places.mono (by decide)) hr hgd (by rfl) m_law_two_places f_law_two_places.kp b_law_two_places (fun _ _ _ => den_len) (ma_cons (mv 0) (ma_cons (mv 3) ma_nil))) ma_nil)))))
    (mss_cons (ms_asg (me_call (g_law_two_places.mono (by decide)) hr hgd (by rfl) m_law_two_places f_law_two_places.kp b_law_two_places (fun _ _ _ => den_len) (ma_cons (mv 0) (ma_cons (mv 3) ma_nil))) (mg_tup rfl (mgs_cons (mg_name (i := 8) sc_law_mine.nd rfl (by first | exact Or.inl rfl | exact Or.inr rfl)) (mgs_cons (mg_name (i := 9) sc_law_mine.nd rfl (by first | exact Or.inl rfl | exact Or.inr rfl)) mgs_nil))))
    (mss_one (ms_ret (me_tup (ma_cons (mv 3) (ma_cons (me_callTy c_tuple (by rfl) n_tuple MS.boot_tuple (ma_cons (mv 6) ma_nil)) (ma_cons (mv 8) (ma_cons (mv 9) ma_nil))))))))))))
theorem ok_law {f : Addr} {fd : FuncData} (fn : Fun K "law" "law" s_law f fd) {a_law_draw : Addr} {d_law_draw : FuncData} (f_law_draw : Fun K "_law_draw" "_law_draw" s_law_draw a_law_draw d_law_draw) (g_law_draw : FnG P w K mg base 2 a_law_draw d_law_draw ["pen", "bound"] F_law_draw) (m_law_draw : mg "_law_draw" = some (.ref a_law_draw)) (b_law_draw : Binds K d_law_draw ["pen", "bound"] []) {a_law_is_joined : Addr} {d_law_is_joined : FuncData} (f_law_is_joined : Fun K "_law_is_joined" "_law_is_joined" s_law_is_joined a_law_is_joined d_law_is_joined) (g_law_is_joined : FnG P w K mg base 2 a_law_is_joined d_law_is_joined ["mine"] F_law_is_joined) (m_law_is_joined : mg "_law_is_joined" = some (.ref a_law_is_joined)) (b_law_is_joined : Binds K d_law_is_joined ["mine"] []) {a_law_mine : Addr} {d_law_mine : FuncData} (f_law_mine : Fun K "_law_mine" "_law_mine" s_law_mine a_law_mine d_law_mine) (g_law_mine : FnG P w K mg base 4 a_law_mine d_law_mine ["pen", "most", "many"] F_law_mine) (m_law_mine : mg "_law_mine" = some (.ref a_law_mine)) (b_law_mine : Binds K d_law_mine ["pen", "most", "many"] []) {a_law_pen : Addr} {d_law_pen : FuncData} (f_law_pen : Fun K "_law_pen" "_law_pen" s_law_pen a_law_pen d_law_pen) (g_law_pen : FnG P w K mg base 1 a_law_pen d_law_pen ["script"] F_law_pen) (m_law_pen : mg "_law_pen" = some (.ref a_law_pen)) (b_law_pen : Binds K d_law_pen ["script"] []) {a_law_two_places : Addr} {d_law_two_places : FuncData} (f_law_two_places : Fun K "_law_two_places" "_law_two_places" s_law_two_places a_law_two_places d_law_two_places) (g_law_two_places : FnG P w K mg base 3 a_law_two_places d_law_two_places ["pen", "places"] F_law_two_places) (m_law_two_places : mg "_law_two_places" = some (.ref a_law_two_places)) (b_law_two_places : Binds K d_law_two_places ["pen", "places"] []) {a_far_end : Addr} {d_far_end : FuncData} (f_far_end : Fun K "far_end" "far_end" s_far_end a_far_end d_far_end) (g_far_end : FnG P w K mg base 1 a_far_end d_far_end ["mine", "w", "x"] F_far_end) (m_far_end : mg "far_end" = some (.ref a_far_end)) (b_far_end : Binds K d_far_end ["mine", "w", "x"] []) {a_is_joined : Addr} {d_is_joined : FuncData} (f_is_joined : Fun K "is_joined" "is_joined" s_is_joined a_is_joined d_is_joined) (g_is_joined : FnG P w K mg base 5 a_is_joined d_is_joined ["mine"] F_is_joined) (m_is_joined : mg "is_joined" = some (.ref a_is_joined)) (b_is_joined : Binds K d_is_joined ["mine"] []) {a_ways_at : Addr} {d_ways_at : FuncData} (f_ways_at : Fun K "ways_at" "ways_at" s_ways_at a_ways_at d_ways_at) (g_ways_at : FnG P w K mg base 1 a_ways_at d_ways_at ["mine", "x"] F_ways_at) (m_ways_at : mg "ways_at" = some (.ref a_ways_at)) (b_ways_at : Binds K d_ways_at ["mine", "x"] []) (n_enumerate : mg "enumerate" = none) (n_len : mg "len" = none) (n_max : mg "max" = none) (n_min : mg "min" = none) (n_range : mg "range" = none) (n_repr : mg "repr" = none) (n_tuple : mg "tuple" = none) : FnG P w K mg base 6 f fd ["script"] F_law := by
  refine fnG_of fn sc_law fun cdv A outer s H hr hgd => ⟨M_law, ?_, den_does⟩
  have hu := hr.units
  have hud := L2.hu_of hr
  have hu80 := room80 hr
  have hu65 := Nat.lt_of_le_of_lt (Nat.add_le_add_left (show 65 ≤ 80 by decide) _) hu80
  exact (mss_cons (ms_set (i := 1) sc_law.nd rfl (by first | exact Or.inl rfl | exact Or.inr rfl) (me_call (g_law_pen.mono (by decide)) hr hgd (by rfl) m_law_pen f_law_pen.kp b_law_pen (fun _ _ _ => den_len) (ma_cons (mv 0) ma_nil)))
    (mss_cons (ms_for PassesOwn.never rfl (mi_range1 (by rfl) n_range (ma_cons (me_callB (c_max rfl) (by rfl) n_max MS.boot_max (ma_cons me_int (ma_cons (me_callB (c_min rfl) (by rfl) n_min MS.boot_min (ma_cons me_int (ma_cons (me_callB c_len (by rfl) n_len MS.boot_len (ma_cons (mv 0) ma_nil)) ma_nil))) ma_nil))) ma_nil)) (mg_name (i := 2) sc_law.nd rfl (by first | exact Or.inl rfl | exact Or.inr rfl)) (mss_cons (ms_set (i := 3) sc_law.nd rfl (by first | exact Or.inl rfl | exact Or.inr rfl) (me_call (g_law_mine.mono (by decide)) hr hgd (by rfl) m_law_mine f_law_mine.kp b_law_mine (fun _ _ _ => den_len) (ma_cons (mv 1) (ma_cons (me_op o_add me_int (me_call (g_law_draw.mono (by decide)) hr hgd (by rfl) m_law_draw f_law_draw.kp b_law_draw (fun _ _ _ => den_len) (ma_cons (mv 1) (ma_cons me_int ma_nil)))) (ma_cons me_int ma_nil)))))
    (mss_cons (ms_if (mt_cmp (o_eq hu) (me_call (g_law_draw.mono (by decide)) hr hgd (by rfl) m_law_draw f_law_draw.kp b_law_draw (fun _ _ _ => den_len) (ma_cons (mv 1) (ma_cons me_int ma_nil))) me_int (nomark _)) (mss_cons (ms_setLc (j := 6) (own := [("lap", 9)]) (e := (mCall F_law_two_places (mCons (mVar 1) (mCons (mBin fIx (mVar 3) (mC (.int 0))) mNil)))) (is := [9]) rfl sc_law.nd rfl rfl (sw_true rfl rfl rfl (by decide +kernel)) (mi_range1 (by rfl) n_range (ma_cons (me_op o_add me_int (me_call (g_law_draw.mono (by decide)) hr hgd (by rfl) m_law_draw f_law_draw.kp b_law_draw (fun _ _ _ => den_len) (ma_cons (mv 1) (ma_cons me_int ma_nil)))) ma_nil)) (blkOk_by (own := [("lap", 9)]) (N := N_law) (sc := defScope s_law) (by decide +kernel)) (fun _ _ _ _ _ => (mgl_name (i := 9) sc_law.nd rfl (by first | exact Or.inl rfl | exact Or.inr rfl))) (fun _ _ _ _ _ => mts_nil) (fun _ _ _ _ _ => (me_call (g_law_two_places.mono (by decide)) hr hgd (by rfl) m_law_two_places f_law_two_places.kp b_law_two_places (fun _ _ _ => den_len) (ma_cons (mv 1) (ma_cons (me_ix (mv 3) me_int (fun _ _ => rfl)) ma_nil)))) (by decide))
    (mss_one (ms_set (i := 3) sc_law.nd rfl (by first | exact Or.inl rfl | exact Or.inr rfl) (me_tup (ma_cons (me_ix (mv 3) me_int (fun _ _ => rfl)) (ma_cons (me_callTy c_tuple (by rfl) n_tuple MS.boot_tuple (ma_cons (mv 6) ma_nil)) (ma_cons (me_ix (mv 3) me_int (fun _ _ => rfl)) (ma_cons (me_ix (mv 3) me_int (fun _ _ => rfl)) ma_nil)))))))) mss_nil)
    (mss_cons (ms_set (i := 4) sc_law.nd rfl (by first | exact Or.inl rfl | exact Or.inr rfl) (me_callB (c_repr hgd hu80) (by rfl) n_repr MS.boot_repr (ma_cons (mv 3) ma_nil)))
    (mss_cons (ms_if (mt_cmp (o_ne hu) (me_callB (c_repr hgd hu80) (by rfl) n_repr MS.boot_repr (ma_cons (me_call (g_is_joined.mono (by decide)) hr hgd (by rfl) m_is_joined f_is_joined.kp b_is_joined (fun _ _ _ => den_len) (ma_cons (mv 3) ma_nil)) ma_nil)) (me_callB (c_repr hgd hu80) (by rfl) n_repr MS.boot_repr (ma_cons (me_call (g_law_is_joined.mono (by decide)) hr hgd (by rfl) m_law_is_joined f_law_is_joined.kp b_law_is_joined (fun _ _ _ => den_len) (ma_cons (mv 3) ma_nil)) ma_nil)) (nomark _)) (mss_one (ms_ret me_bl)) mss_nil)
    (mss_cons (ms_for PassesOwn.never rfl (mi_range1 (by rfl) n_range (ma_cons (me_ix (mv 3) me_int (fun _ _ => rfl)) ma_nil)) (mg_name (i := 5) sc_law.nd rfl (by first | exact Or.inl rfl | exact Or.inr rfl)) (mss_cons (ms_setLc (j := 7) (own := [("at", 12), ("way", 13)]) (e := (mVar 12)) (is := [12, 13]) rfl sc_law.nd rfl rfl (sw_true rfl rfl rfl (by decide +kernel)) (mi_enum (by rfl) n_enumerate (ma_cons (me_ix (mv 3) me_int (fun _ _ => rfl)) ma_nil)) (blkOk_by (own := [("at", 12), ("way", 13)]) (N := N_law) (sc := defScope s_law) (by decide +kernel)) (fun _ _ _ _ _ => (mgl_tup rfl (mgsl_cons (mgl_name (i := 12) sc_law.nd rfl (by first | exact Or.inl rfl | exact Or.inr rfl)) (mgsl_cons (mgl_name (i := 13) sc_law.nd rfl (by first | exact Or.inl rfl | exact Or.inr rfl)) mgsl_nil)))) (fun _ _ _ _ _ => (mts_one (mt_cmp o_in (mv 5) (mv 13) (by rfl)))) (fun _ _ _ _ _ => (mv 12)) (by decide))
    (mss_cons (ms_if (mt_cmp (o_ne hu) (me_callB (c_repr hgd hu80) (by rfl) n_repr MS.boot_repr (ma_cons (me_call (g_ways_at.mono (by decide)) hr hgd (by rfl) m_ways_at f_ways_at.kp b_ways_at (fun _ _ _ => den_len) (ma_cons (mv 3) (ma_cons (mv 5) ma_nil))) ma_nil)) (me_callB (c_repr hgd hu80) (by rfl) n_repr MS.boot_repr (ma_cons (me_callTy c_tuple (by rfl) n_tuple MS.boot_tuple (ma_cons (mv 7) ma_nil)) ma_nil)) (nomark _)) (mss_one (ms_ret me_bl)) mss_nil)
    (mss_one (ms_for PassesOwn.never rfl (mi_items (mv 7)) (mg_name (i := 8) sc_law.nd rfl (by first | exact Or.inl rfl | exact Or.inr rfl)) (mss_cons (ms_asg (me_ix (me_ix (mv 3) me_int (fun _ _ => rfl)) (mv 8) (fun _ _ => rfl)) (mg_tup rfl (mgs_cons (mg_name (i := 10) sc_law.nd rfl (by first | exact Or.inl rfl | exact Or.inr rfl)) (mgs_cons (mg_name (i := 11) sc_law.nd rfl (by first | exact Or.inl rfl | exact Or.inr rfl)) mgs_nil))))
    (mss_one (ms_if (mt_cmp (o_ne hu) (me_callB (c_repr hgd hu80) (by rfl) n_repr MS.boot_repr (ma_cons (me_call (g_far_end.mono (by decide)) hr hgd (by rfl) m_far_end f_far_end.kp b_far_end (fun _ _ _ => den_len) (ma_cons (mv 3) (ma_cons (mv 8) (ma_cons (mv 5) ma_nil)))) ma_nil)) (me_callB (c_repr hgd hu80) (by rfl) n_repr MS.boot_repr (ma_cons (me_ifExp (mt_cmp (o_eq hu) (mv 5) (mv 10) (nomark _)) (mv 11) (mv 10)) ma_nil)) (nomark _)) (mss_one (ms_ret me_bl)) mss_nil))))))))
    (mss_one (ms_if (mt_cmp (o_ne hu) (me_callB (c_repr hgd hu80) (by rfl) n_repr MS.boot_repr (ma_cons (mv 3) ma_nil)) (mv 4) (nomark _)) (mss_one (ms_ret me_bl)) mss_nil))))))))
    (mss_one (ms_ret me_bl))))
end
theorem all_mk {l : PySem.W.OpenLaw} {w : World} {K : PySem.W.Frag} {h : Heap} {mg : Str → Option Value} {fa : Addr} (X : K.In h) (G : h.Ns mainGlobals mg) (hfa : mg "law" = some (.ref fa))
    {e_far_end : Addr} {o_far_end q_far_end w_far_end x_far_end y_far_end z_far_end : Value} {i_far_end j_far_end : Option Addr} {v_far_end : Array (Option Value)} (a1_far_end : PySem.W.nsIn K mainGlobals "far_end" = some (some (.ref e_far_end))) (a2_far_end : K.lookup e_far_end = some ⟨o_far_end, i_far_end, .func (PySem.W.fnOf "far_end" "far_end" (defArgs s_far_end) (defBody s_far_end) (defScope s_far_end) .none q_far_end w_far_end x_far_end j_far_end y_far_end z_far_end), v_far_end⟩) (a3_far_end : PySem.W.codeIn K y_far_end "far_end" = true) (a4_far_end : PySem.W.keepIn K (.ref e_far_end) = true)
    {e_ways_at : Addr} {o_ways_at q_ways_at w_ways_at x_ways_at y_ways_at z_ways_at : Value} {i_ways_at j_ways_at : Option Addr} {v_ways_at : Array (Option Value)} (a1_ways_at : PySem.W.nsIn K mainGlobals "ways_at" = some (some (.ref e_ways_at))) (a2_ways_at : K.lookup e_ways_at = some ⟨o_ways_at, i_ways_at, .func (PySem.W.fnOf "ways_at" "ways_at" (defArgs s_ways_at) (defBody s_ways_at) (defScope s_ways_at) .none q_ways_at w_ways_at x_ways_at j_ways_at y_ways_at z_ways_at), v_ways_at⟩) (a3_ways_at : PySem.W.codeIn K y_ways_at "ways_at" = true) (a4_ways_at : PySem.W.keepIn K (.ref e_ways_at) = true)
    {e_near_places : Addr} {o_near_places q_near_places w_near_places x_near_places y_near_places z_near_places : Value} {i_near_places j_near_places : Option Addr} {v_near_places : Array (Option Value)} (a1_near_places : PySem.W.nsIn K mainGlobals "near_places" = some (some (.ref e_near_places))) (a2_near_places : K.lookup e_near_places = some ⟨o_near_places, i_near_places, .func (PySem.W.fnOf "near_places" "near_places" (defArgs s_near_places) (defBody s_near_places) (defScope s_near_places) .none q_near_places w_near_places x_near_places j_near_places y_near_places z_near_places), v_near_places⟩) (a3_near_places : PySem.W.codeIn K y_near_places "near_places" = true) (a4_near_places : PySem.W.keepIn K (.ref e_near_places) = true)
    {e_reached_from : Addr} {o_reached_from q_reached_from w_reached_from x_reached_from y_reached_from z_reached_from : Value} {i_reached_from j_reached_from : Option Addr} {v_reached_from : Array (Option Value)} (a1_reached_from : PySem.W.nsIn K mainGlobals "reached_from" = some (some (.ref e_reached_from))) (a2_reached_from : K.lookup e_reached_from = some ⟨o_reached_from, i_reached_from, .func (PySem.W.fnOf "reached_from" "reached_from" (defArgs s_reached_from) (defBody s_reached_from) (defScope s_reached_from) .none q_reached_from w_reached_from x_reached_from j_reached_from y_reached_from z_reached_from), v_reached_from⟩) (a3_reached_from : PySem.W.codeIn K y_reached_from "reached_from" = true) (a4_reached_from : PySem.W.keepIn K (.ref e_reached_from) = true)
    {e_reached_places : Addr} {o_reached_places q_reached_places w_reached_places x_reached_places y_reached_places z_reached_places : Value} {i_reached_places j_reached_places : Option Addr} {v_reached_places : Array (Option Value)} (a1_reached_places : PySem.W.nsIn K mainGlobals "reached_places" = some (some (.ref e_reached_places))) (a2_reached_places : K.lookup e_reached_places = some ⟨o_reached_places, i_reached_places, .func (PySem.W.fnOf "reached_places" "reached_places" (defArgs s_reached_places) (defBody s_reached_places) (defScope s_reached_places) .none q_reached_places w_reached_places x_reached_places j_reached_places y_reached_places z_reached_places), v_reached_places⟩) (a3_reached_places : PySem.W.codeIn K y_reached_places "reached_places" = true) (a4_reached_places : PySem.W.keepIn K (.ref e_reached_places) = true)
    {e_is_joined : Addr} {o_is_joined q_is_joined w_is_joined x_is_joined y_is_joined z_is_joined : Value} {i_is_joined j_is_joined : Option Addr} {v_is_joined : Array (Option Value)} (a1_is_joined : PySem.W.nsIn K mainGlobals "is_joined" = some (some (.ref e_is_joined))) (a2_is_joined : K.lookup e_is_joined = some ⟨o_is_joined, i_is_joined, .func (PySem.W.fnOf "is_joined" "is_joined" (defArgs s_is_joined) (defBody s_is_joined) (defScope s_is_joined) .none q_is_joined w_is_joined x_is_joined j_is_joined y_is_joined z_is_joined), v_is_joined⟩) (a3_is_joined : PySem.W.codeIn K y_is_joined "is_joined" = true) (a4_is_joined : PySem.W.keepIn K (.ref e_is_joined) = true)
    {e_law_pen : Addr} {o_law_pen q_law_pen w_law_pen x_law_pen y_law_pen z_law_pen : Value} {i_law_pen j_law_pen : Option Addr} {v_law_pen : Array (Option Value)} (a1_law_pen : PySem.W.nsIn K mainGlobals "_law_pen" = some (some (.ref e_law_pen))) (a2_law_pen : K.lookup e_law_pen = some ⟨o_law_pen, i_law_pen, .func (PySem.W.fnOf "_law_pen" "_law_pen" (defArgs s_law_pen) (defBody s_law_pen) (defScope s_law_pen) .none q_law_pen w_law_pen x_law_pen j_law_pen y_law_pen z_law_pen), v_law_pen⟩) (a3_law_pen : PySem.W.codeIn K y_law_pen "_law_pen" = true) (a4_law_pen : PySem.W.keepIn K (.ref e_law_pen) = true)
    {e_law_fresh : Addr} {o_law_fresh q_law_fresh w_law_fresh x_law_fresh y_law_fresh z_law_fresh : Value} {i_law_fresh j_law_fresh : Option Addr} {v_law_fresh : Array (Option Value)} (a1_law_fresh : PySem.W.nsIn K mainGlobals "_law_fresh" = some (some (.ref e_law_fresh))) (a2_law_fresh : K.lookup e_law_fresh = some ⟨o_law_fresh, i_law_fresh, .func (PySem.W.fnOf "_law_fresh" "_law_fresh" (defArgs s_law_fresh) (defBody s_law_fresh) (defScope s_law_fresh) .none q_law_fresh w_law_fresh x_law_fresh j_law_fresh y_law_fresh z_law_fresh), v_law_fresh⟩) (a3_law_fresh : PySem.W.codeIn K y_law_fresh "_law_fresh" = true) (a4_law_fresh : PySem.W.keepIn K (.ref e_law_fresh) = true)
    {e_law_draw : Addr} {o_law_draw q_law_draw w_law_draw x_law_draw y_law_draw z_law_draw : Value} {i_law_draw j_law_draw : Option Addr} {v_law_draw : Array (Option Value)} (a1_law_draw : PySem.W.nsIn K mainGlobals "_law_draw" = some (some (.ref e_law_draw))) (a2_law_draw : K.lookup e_law_draw = some ⟨o_law_draw, i_law_draw, .func (PySem.W.fnOf "_law_draw" "_law_draw" (defArgs s_law_draw) (defBody s_law_draw) (defScope s_law_draw) .none q_law_draw w_law_draw x_law_draw j_law_draw y_law_draw z_law_draw), v_law_draw⟩) (a3_law_draw : PySem.W.codeIn K y_law_draw "_law_draw" = true) (a4_law_draw : PySem.W.keepIn K (.ref e_law_draw) = true)
    {e_law_one_of : Addr} {o_law_one_of q_law_one_of w_law_one_of x_law_one_of y_law_one_of z_law_one_of : Value} {i_law_one_of j_law_one_of : Option Addr} {v_law_one_of : Array (Option Value)} (a1_law_one_of : PySem.W.nsIn K mainGlobals "_law_one_of" = some (some (.ref e_law_one_of))) (a2_law_one_of : K.lookup e_law_one_of = some ⟨o_law_one_of, i_law_one_of, .func (PySem.W.fnOf "_law_one_of" "_law_one_of" (defArgs s_law_one_of) (defBody s_law_one_of) (defScope s_law_one_of) .none q_law_one_of w_law_one_of x_law_one_of j_law_one_of y_law_one_of z_law_one_of), v_law_one_of⟩) (a3_law_one_of : PySem.W.codeIn K y_law_one_of "_law_one_of" = true) (a4_law_one_of : PySem.W.keepIn K (.ref e_law_one_of) = true)
    {e_law_reached : Addr} {o_law_reached q_law_reached w_law_reached x_law_reached y_law_reached z_law_reached : Value} {i_law_reached j_law_reached : Option Addr} {v_law_reached : Array (Option Value)} (a1_law_reached : PySem.W.nsIn K mainGlobals "_law_reached" = some (some (.ref e_law_reached))) (a2_law_reached : K.lookup e_law_reached = some ⟨o_law_reached, i_law_reached, .func (PySem.W.fnOf "_law_reached" "_law_reached" (defArgs s_law_reached) (defBody s_law_reached) (defScope s_law_reached) .none q_law_reached w_law_reached x_law_reached j_law_reached y_law_reached z_law_reached), v_law_reached⟩) (a3_law_reached : PySem.W.codeIn K y_law_reached "_law_reached" = true) (a4_law_reached : PySem.W.keepIn K (.ref e_law_reached) = true)
    {e_law_is_joined : Addr} {o_law_is_joined q_law_is_joined w_law_is_joined x_law_is_joined y_law_is_joined z_law_is_joined : Value} {i_law_is_joined j_law_is_joined : Option Addr} {v_law_is_joined : Array (Option Value)} (a1_law_is_joined : PySem.W.nsIn K mainGlobals "_law_is_joined" = some (some (.ref e_law_is_joined))) (a2_law_is_joined : K.lookup e_law_is_joined = some ⟨o_law_is_joined, i_law_is_joined, .func (PySem.W.fnOf "_law_is_joined" "_law_is_joined" (defArgs s_law_is_joined) (defBody s_law_is_joined) (defScope s_law_is_joined) .none q_law_is_joined w_law_is_joined x_law_is_joined j_law_is_joined y_law_is_joined z_law_is_joined), v_law_is_joined⟩) (a3_law_is_joined : PySem.W.codeIn K y_law_is_joined "_law_is_joined" = true) (a4_law_is_joined : PySem.W.keepIn K (.ref e_law_is_joined) = true)
    {e_law_two_places : Addr} {o_law_two_places q_law_two_places w_law_two_places x_law_two_places y_law_two_places z_law_two_places : Value} {i_law_two_places j_law_two_places : Option Addr} {v_law_two_places : Array (Option Value)} (a1_law_two_places : PySem.W.nsIn K mainGlobals "_law_two_places" = some (some (.ref e_law_two_places))) (a2_law_two_places : K.lookup e_law_two_places = some ⟨o_law_two_places, i_law_two_places, .func (PySem.W.fnOf "_law_two_places" "_law_two_places" (defArgs s_law_two_places) (defBody s_law_two_places) (defScope s_law_two_places) .none q_law_two_places w_law_two_places x_law_two_places j_law_two_places y_law_two_places z_law_two_places), v_law_two_places⟩) (a3_law_two_places : PySem.W.codeIn K y_law_two_places "_law_two_places" = true) (a4_law_two_places : PySem.W.keepIn K (.ref e_law_two_places) = true)
    {e_law_mine : Addr} {o_law_mine q_law_mine w_law_mine x_law_mine y_law_mine z_law_mine : Value} {i_law_mine j_law_mine : Option Addr} {v_law_mine : Array (Option Value)} (a1_law_mine : PySem.W.nsIn K mainGlobals "_law_mine" = some (some (.ref e_law_mine))) (a2_law_mine : K.lookup e_law_mine = some ⟨o_law_mine, i_law_mine, .func (PySem.W.fnOf "_law_mine" "_law_mine" (defArgs s_law_mine) (defBody s_law_mine) (defScope s_law_mine) .none q_law_mine w_law_mine x_law_mine j_law_mine y_law_mine z_law_mine), v_law_mine⟩) (a3_law_mine : PySem.W.codeIn K y_law_mine "_law_mine" = true) (a4_law_mine : PySem.W.keepIn K (.ref e_law_mine) = true)
    {e_law : Addr} {o_law q_law w_law x_law y_law z_law : Value} {i_law j_law : Option Addr} {v_law : Array (Option Value)} (a1_law : PySem.W.nsIn K mainGlobals "law" = some (some (.ref e_law))) (a2_law : K.lookup e_law = some ⟨o_law, i_law, .func (PySem.W.fnOf "law" "law" (defArgs s_law) (defBody s_law) (defScope s_law) .none q_law w_law x_law j_law y_law z_law), v_law⟩) (a3_law : PySem.W.codeIn K y_law "law" = true) (a4_law : PySem.W.keepIn K (.ref e_law) = true)
    (a5_enumerate : PySem.W.nsIn K mainGlobals "enumerate" = some none)
    (a5_int : PySem.W.nsIn K mainGlobals "int" = some none)
    (a5_len : PySem.W.nsIn K mainGlobals "len" = some none)
    (a5_list : PySem.W.nsIn K mainGlobals "list" = some none)
    (a5_max : PySem.W.nsIn K mainGlobals "max" = some none)
    (a5_min : PySem.W.nsIn K mainGlobals "min" = some none)
    (a5_range : PySem.W.nsIn K mainGlobals "range" = some none)
    (a5_repr : PySem.W.nsIn K mainGlobals "repr" = some none)
    (a5_sorted : PySem.W.nsIn K mainGlobals "sorted" = some none)
    (a5_tuple : PySem.W.nsIn K mainGlobals "tuple" = some none) :
    ∃ fd : FuncData, (∀ (s : Shared) (v : Value), BindsTo s fd ⟨[v], []⟩ [("script", v)]) ∧ ∀ base : Heap, K.In base → base.Ns mainGlobals mg → FnG l.prog w K mg base 6 fa fd ["script"] F_law := by
  have h0 := hfa.symm.trans (PySem.W.mg_of X G a1_law)
  cases h0
  have f_far_end := fun_mk (st := s_far_end) a2_far_end a3_far_end a4_far_end
  have b_far_end := f_far_end.binds (ps := ["mine", "w", "x"]) fun _ _ _ _ _ _ us hl => match us, hl with | [_, _, _], _ => rfl
  have m_far_end := PySem.W.mg_of X G a1_far_end
  have f_ways_at := fun_mk (st := s_ways_at) a2_ways_at a3_ways_at a4_ways_at
  have b_ways_at := f_ways_at.binds (ps := ["mine", "x"]) fun _ _ _ _ _ _ us hl => match us, hl with | [_, _], _ => rfl
  have m_ways_at := PySem.W.mg_of X G a1_ways_at
  have f_near_places := fun_mk (st := s_near_places) a2_near_places a3_near_places a4_near_places
  have b_near_places := f_near_places.binds (ps := ["mine", "x"]) fun _ _ _ _ _ _ us hl => match us, hl with | [_, _], _ => rfl
  have m_near_places := PySem.W.mg_of X G a1_near_places
  have f_reached_from := fun_mk (st := s_reached_from) a2_reached_from a3_reached_from a4_reached_from
  have b_reached_from := f_reached_from.binds (ps := ["mine", "starts"]) fun _ _ _ _ _ _ us hl => match us, hl with | [_, _], _ => rfl
  have m_reached_from := PySem.W.mg_of X G a1_reached_from
  have f_reached_places := fun_mk (st := s_reached_places) a2_reached_places a3_reached_places a4_reached_places
  have b_reached_places := f_reached_places.binds (ps := ["mine"]) fun _ _ _ _ _ _ us hl => match us, hl with | [_], _ => rfl
  have m_reached_places := PySem.W.mg_of X G a1_reached_places
  have f_is_joined := fun_mk (st := s_is_joined) a2_is_joined a3_is_joined a4_is_joined
  have b_is_joined := f_is_joined.binds (ps := ["mine"]) fun _ _ _ _ _ _ us hl => match us, hl with | [_], _ => rfl
  have m_is_joined := PySem.W.mg_of X G a1_is_joined
  have f_law_pen := fun_mk (st := s_law_pen) a2_law_pen a3_law_pen a4_law_pen
  have b_law_pen := f_law_pen.binds (ps := ["script"]) fun _ _ _ _ _ _ us hl => match us, hl with | [_], _ => rfl
  have m_law_pen := PySem.W.mg_of X G a1_law_pen
  have f_law_fresh := fun_mk (st := s_law_fresh) a2_law_fresh a3_law_fresh a4_law_fresh
  have b_law_fresh := f_law_fresh.binds (ps := ["pen"]) fun _ _ _ _ _ _ us hl => match us, hl with | [_], _ => rfl
  have m_law_fresh := PySem.W.mg_of X G a1_law_fresh
  have f_law_draw := fun_mk (st := s_law_draw) a2_law_draw a3_law_draw a4_law_draw
  have b_law_draw := f_law_draw.binds (ps := ["pen", "bound"]) fun _ _ _ _ _ _ us hl => match us, hl with | [_, _], _ => rfl
  have m_law_draw := PySem.W.mg_of X G a1_law_draw
  have f_law_one_of := fun_mk (st := s_law_one_of) a2_law_one_of a3_law_one_of a4_law_one_of
  have b_law_one_of := f_law_one_of.binds (ps := ["pen", "some"]) fun _ _ _ _ _ _ us hl => match us, hl with | [_, _], _ => rfl
  have m_law_one_of := PySem.W.mg_of X G a1_law_one_of
  have f_law_reached := fun_mk (st := s_law_reached) a2_law_reached a3_law_reached a4_law_reached
  have b_law_reached := f_law_reached.binds (ps := ["ways", "x", "shut"]) fun _ _ _ _ _ _ us hl => match us, hl with | [_, _, _], _ => rfl
  have m_law_reached := PySem.W.mg_of X G a1_law_reached
  have f_law_is_joined := fun_mk (st := s_law_is_joined) a2_law_is_joined a3_law_is_joined a4_law_is_joined
  have b_law_is_joined := f_law_is_joined.binds (ps := ["mine"]) fun _ _ _ _ _ _ us hl => match us, hl with | [_], _ => rfl
  have m_law_is_joined := PySem.W.mg_of X G a1_law_is_joined
  have f_law_two_places := fun_mk (st := s_law_two_places) a2_law_two_places a3_law_two_places a4_law_two_places
  have b_law_two_places := f_law_two_places.binds (ps := ["pen", "places"]) fun _ _ _ _ _ _ us hl => match us, hl with | [_, _], _ => rfl
  have m_law_two_places := PySem.W.mg_of X G a1_law_two_places
  have f_law_mine := fun_mk (st := s_law_mine) a2_law_mine a3_law_mine a4_law_mine
  have b_law_mine := f_law_mine.binds (ps := ["pen", "most", "many"]) fun _ _ _ _ _ _ us hl => match us, hl with | [_, _, _], _ => rfl
  have m_law_mine := PySem.W.mg_of X G a1_law_mine
  have f_law := fun_mk (st := s_law) a2_law a3_law a4_law
  have b_law := f_law.binds (ps := ["script"]) fun _ _ _ _ _ _ us hl => match us, hl with | [_], _ => rfl
  have n_enumerate := PySem.W.mg_none_of X G a5_enumerate
  have n_int := PySem.W.mg_none_of X G a5_int
  have n_len := PySem.W.mg_none_of X G a5_len
  have n_list := PySem.W.mg_none_of X G a5_list
  have n_max := PySem.W.mg_none_of X G a5_max
  have n_min := PySem.W.mg_none_of X G a5_min
  have n_range := PySem.W.mg_none_of X G a5_range
  have n_repr := PySem.W.mg_none_of X G a5_repr
  have n_sorted := PySem.W.mg_none_of X G a5_sorted
  have n_tuple := PySem.W.mg_none_of X G a5_tuple
  refine ⟨PySem.W.fnOf "law" "law" (defArgs s_law) (defBody s_law) (defScope s_law) .none q_law w_law x_law j_law y_law z_law, fun s v => .of_eq rfl, fun base _ _ => ?_⟩
  have g_far_end : FnG l.prog w K mg base 1 e_far_end _ ["mine", "w", "x"] F_far_end := ok_far_end f_far_end
  have g_ways_at : FnG l.prog w K mg base 1 e_ways_at _ ["mine", "x"] F_ways_at := ok_ways_at f_ways_at n_enumerate n_tuple
  have g_near_places : FnG l.prog w K mg base 2 e_near_places _ ["mine", "x"] F_near_places := ok_near_places f_near_places f_far_end g_far_end m_far_end b_far_end f_ways_at g_ways_at m_ways_at b_ways_at n_sorted n_tuple
  have g_reached_from : FnG l.prog w K mg base 3 e_reached_from _ ["mine", "starts"] F_reached_from := ok_reached_from f_reached_from f_near_places g_near_places m_near_places b_near_places n_len n_list n_sorted n_tuple
  have g_reached_places : FnG l.prog w K mg base 4 e_reached_places _ ["mine"] F_reached_places := ok_reached_places f_reached_places f_reached_from g_reached_from m_reached_from b_reached_from
  have g_is_joined : FnG l.prog w K mg base 5 e_is_joined _ ["mine"] F_is_joined := ok_is_joined f_is_joined f_reached_places g_reached_places m_reached_places b_reached_places n_len
  have g_law_pen : FnG l.prog w K mg base 1 e_law_pen _ ["script"] F_law_pen := ok_law_pen f_law_pen n_list
  have g_law_fresh : FnG l.prog w K mg base 1 e_law_fresh _ ["pen"] F_law_fresh := ok_law_fresh f_law_fresh n_int n_len n_range
  have g_law_draw : FnG l.prog w K mg base 2 e_law_draw _ ["pen", "bound"] F_law_draw := ok_law_draw f_law_draw f_law_fresh g_law_fresh m_law_fresh b_law_fresh n_int
  have g_law_one_of : FnG l.prog w K mg base 3 e_law_one_of _ ["pen", "some"] F_law_one_of := ok_law_one_of f_law_one_of f_law_draw g_law_draw m_law_draw b_law_draw n_len
  have g_law_reached : FnG l.prog w K mg base 1 e_law_reached _ ["ways", "x", "shut"] F_law_reached := ok_law_reached f_law_reached n_range
  have g_law_is_joined : FnG l.prog w K mg base 2 e_law_is_joined _ ["mine"] F_law_is_joined := ok_law_is_joined f_law_is_joined f_law_reached g_law_reached m_law_reached b_law_reached n_len
  have g_law_two_places : FnG l.prog w K mg base 3 e_law_two_places _ ["pen", "places"] F_law_two_places := ok_law_two_places f_law_two_places f_law_draw g_law_draw m_law_draw b_law_draw n_int
  have g_law_mine : FnG l.prog w K mg base 4 e_law_mine _ ["pen", "most", "many"] F_law_mine := ok_law_mine f_law_mine f_law_draw g_law_draw m_law_draw b_law_draw f_law_one_of g_law_one_of m_law_one_of b_law_one_of f_law_two_places g_law_two_places m_law_two_places b_law_two_places n_len n_min n_range n_tuple
  have g_law : FnG l.prog w K mg base 6 fa _ ["script"] F_law := ok_law f_law f_law_draw g_law_draw m_law_draw b_law_draw f_law_is_joined g_law_is_joined m_law_is_joined b_law_is_joined f_law_mine g_law_mine m_law_mine b_law_mine f_law_pen g_law_pen m_law_pen b_law_pen f_law_two_places g_law_two_places m_law_two_places b_law_two_places f_far_end g_far_end m_far_end b_far_end f_is_joined g_is_joined m_is_joined b_is_joined f_ways_at g_ways_at m_ways_at b_ways_at n_enumerate n_len n_max n_min n_range n_repr n_tuple
  exact g_law
end K02
open PySem PySem.W PyProof.Rows
set_option maxHeartbeats 0 in
theorem PySem.Challenge.cw_windways_k02_ways_and_places_joined_holds : PySem.Challenge.rw_windways_k02_ways_and_places_joined.Holds := by
  w_on; o_law; k_head; (case hw => w_witness2)
  k_fill
  refine MS.walkG (l := PySem.Challenge.rw_windways_k02_ways_and_places_joined) (n := 63) (k := 6) (x := "script") rfl (by decide) rfl ⟨rfl, by decide, by decide⟩ (fun w h Y => PySem.W.kIn_of Y) K02.law_ok ?F
  case F =>
    intro w mg fa h KX G hmg
    refine' K02.all_mk KX G hmg ?a1_far_end ?a2_far_end ?a3_far_end ?a4_far_end ?a1_ways_at ?a2_ways_at ?a3_ways_at ?a4_ways_at ?a1_near_places ?a2_near_places ?a3_near_places ?a4_near_places ?a1_reached_from ?a2_reached_from ?a3_reached_from ?a4_reached_from ?a1_reached_places ?a2_reached_places ?a3_reached_places ?a4_reached_places ?a1_is_joined ?a2_is_joined ?a3_is_joined ?a4_is_joined ?a1_law_pen ?a2_law_pen ?a3_law_pen ?a4_law_pen ?a1_law_fresh ?a2_law_fresh ?a3_law_fresh ?a4_law_fresh ?a1_law_draw ?a2_law_draw ?a3_law_draw ?a4_law_draw ?a1_law_one_of ?a2_law_one_of ?a3_law_one_of ?a4_law_one_of ?a1_law_reached ?a2_law_reached ?a3_law_reached ?a4_law_reached ?a1_law_is_joined ?a2_law_is_joined ?a3_law_is_joined ?a4_law_is_joined ?a1_law_two_places ?a2_law_two_places ?a3_law_two_places ?a4_law_two_places ?a1_law_mine ?a2_law_mine ?a3_law_mine ?a4_law_mine ?a1_law ?a2_law ?a3_law ?a4_law ?a5_enumerate ?a5_int ?a5_len ?a5_list ?a5_max ?a5_min ?a5_range ?a5_repr ?a5_sorted ?a5_tuple
    (case a1_far_end => k_is); (case a2_far_end => k_is); (case a3_far_end => k_is); (case a4_far_end => k_is); (case a1_ways_at => k_is); (case a2_ways_at => k_is); (case a3_ways_at => k_is); (case a4_ways_at => k_is); (case a1_near_places => k_is); (case a2_near_places => k_is); (case a3_near_places => k_is); (case a4_near_places => k_is); (case a1_reached_from => k_is); (case a2_reached_from => k_is); (case a3_reached_from => k_is); (case a4_reached_from => k_is); (case a1_reached_places => k_is); (case a2_reached_places => k_is); (case a3_reached_places => k_is); (case a4_reached_places => k_is); (case a1_is_joined => k_is); (case a2_is_joined => k_is); (case a3_is_joined => k_is); (case a4_is_joined => k_is); (case a1_law_pen => k_is); (case a2_law_pen => k_is); (case a3_law_pen => k_is); (case a4_law_pen => k_is); (case a1_law_fresh => k_is); (case a2_law_fresh => k_is); (case a3_law_fresh => k_is); (case a4_law_fresh => k_is); (case a1_law_draw => k_is); (case a2_law_draw => k_is); (case a3_law_draw => k_is); (case a4_law_draw => k_is); (case a1_law_one_of => k_is); (case a2_law_one_of => k_is); (case a3_law_one_of => k_is); (case a4_law_one_of => k_is); (case a1_law_reached => k_is); (case a2_law_reached => k_is); (case a3_law_reached => k_is); (case a4_law_reached => k_is); (case a1_law_is_joined => k_is); (case a2_law_is_joined => k_is); (case a3_law_is_joined => k_is); (case a4_law_is_joined => k_is); (case a1_law_two_places => k_is); (case a2_law_two_places => k_is); (case a3_law_two_places => k_is); (case a4_law_two_places => k_is); (case a1_law_mine => k_is); (case a2_law_mine => k_is); (case a3_law_mine => k_is); (case a4_law_mine => k_is); (case a1_law => k_is); (case a2_law => k_is); (case a3_law => k_is); (case a4_law => k_is); (case a5_enumerate => k_is); (case a5_int => k_is); (case a5_len => k_is); (case a5_list => k_is); (case a5_max => k_is); (case a5_min => k_is); (case a5_range => k_is); (case a5_repr => k_is); (case a5_sorted => k_is); (case a5_tuple => k_is)
