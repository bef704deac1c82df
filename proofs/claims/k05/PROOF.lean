import PyProof.Rows.All
import Wide.All
import OpenK.AllK
import Wide.FinOn
import HandS.ForMost
import HandS.TupAny
import HandS.Style
import HandS.Conv
import HandS.Gcd
import HandS.RaiseMore
import HandS.Walk
import KE.GoesEnum
import KE.GoesNew
import HandS.Zip
import HandS.TupMul
import HandS.Wide
import HandS.NoneIn
import HandS.IsInst
import HandS.Strs
import HandS.SetFor
import KE.KMathG
import PySem.Challenge.RW_windways_k05_balanced_levels_and_widths
set_option Elab.async false
set_option linter.all false
set_option maxRecDepth 100000
set_option maxHeartbeats 4000000
/-! A layer of pure data over the hand layer: what a def does is a Lean function of data and of a store of lists. -/
namespace MS
open PySem PySem.Spec PyProof.Rows L2

/-- a datum: lists stand in a store, tuples are plain data -/
inductive D where
  | non | bl (b : Bool) | int (i : Int) | str (x : Str) | tup (ds : List D) | lr (n : Nat)
/-- what stands in the store: a list, a list that nobody changes, a dict by ints and texts, a dict by tuples of these -/
inductive MO where
  | lst (ds : List D) | fz (ds : List D) | dk (kvs : List (Key × D)) | dt (kvs : List (List Key × D))
/-- it may change -/
def MO.mut : MO → Bool
  | .fz _ => false
  | _ => true
/-- a heap's thing that may change -/
inductive Mt : HO → Prop
  | lst (xs : List V) : Mt (.lst xs)
  | dk (kvs : List (Key × V)) : Mt (.dK kvs)
  | dt (kvs : List (List Key × V)) : Mt (.dT kvs)
abbrev Store := List MO
abbrev Ev := List (Option D)

section rep
variable (K : PySem.W.Frag) (H : Hp) (μ : List Addr)
/-- a tuple of the heap's own -/
def OwnT (_K : PySem.W.Frag) (H : Hp) (a : Addr) (xs : List V) : Prop := H a = some (.tup xs)
mutual
inductive Rp : V → D → Prop
  | non : Rp .non .non
  | bl (b : Bool) : Rp (.bl b) (.bl b)
  | int (i : Int) : Rp (.int i) (.int i)
  | str (x : Str) : Rp (.str x) (.str x)
  | tup {a : Addr} {xs : List V} {ds : List D} : OwnT K H a xs → RpA xs ds → Rp (.ref a) (.tup ds)
  | lr {a : Addr} {n : Nat} : μ[n]? = some a → Rp (.ref a) (.lr n)
inductive RpA : List V → List D → Prop
  | nil : RpA [] []
  | cons {v : V} {vs : List V} {d : D} {ds : List D} : Rp v d → RpA vs ds → RpA (v :: vs) (d :: ds)
end
theorem sq {a : Addr} {xs : List V} (h : H a = some (.tup xs)) : SqT K H a xs := .inl (.inl h)
/-- the heap grew: tuples and locked things stand -/
structure Grow (H H' : Hp) (μ μ' : List Addr) : Prop where
  tups : ∀ a xs, H a = some (.tup xs) → H' a = some (.tup xs)
  frzs : ∀ a o u, H a = some (.frz o u) → H' a = some (.frz o u)
  pre : μ <+: μ'
/-- a list that nobody changes: locked, or of the written part -/
def FzL (a : Addr) (xs : List V) : Prop :=
  (∃ o, H a = some (.frz o (.lst xs))) ∨ ∃ (o : Obj) (its : Array Value) (n : Nat), K.lookup a = some o ∧ o.cls = .type "list" ∧ o.dict = none ∧ o.data = .seq its n ∧ its.size ≤ sizeLine ∧ Vals xs its.toList
/-- entries: the same keys, the values likewise -/
def RpK {κ : Type} (kws : List (κ × V)) (kvs : List (κ × D)) : Prop := kws.map (·.1) = kvs.map (·.1) ∧ RpA K H μ (kws.map (·.2)) (kvs.map (·.2))
def MoR : MO → Addr → Prop
  | .lst ds, a => ∃ vs, H a = some (.lst vs) ∧ RpA K H μ vs ds
  | .fz ds, a => ∃ vs, FzL K H a vs ∧ RpA K H μ vs ds
  | .dk kvs, a => ∃ kws, H a = some (.dK kws) ∧ RpK K H μ kws kvs
  | .dt kvs, a => ∃ kws, H a = some (.dT kws) ∧ RpK K H μ kws kvs
/-- the store is in the heap -/
structure StR (S : Store) : Prop where
  len : μ.length = S.length
  nd : ∀ (n m : Nat) (a : Addr) (x y : MO), S[n]? = some x → S[m]? = some y → x.mut = true → y.mut = true → μ[n]? = some a → μ[m]? = some a → n = m
  at_ : ∀ (n : Nat) (mo : MO) (a : Addr), S[n]? = some mo → μ[n]? = some a → MoR K H μ mo a
/-- the slots are in the frame -/
structure Sim (σ : L2.St) (ρ : Ev) (S : Store) : Prop where
  st : StR K H μ S
  len : ρ.length = σ.length
  sl : ∀ (i : Nat) (d : D), ρ[i]? = some (some d) → ∃ v, σ[i]? = some (some v) ∧ Rp K H μ v d
end rep

section
variable {K : PySem.W.Frag} {H H' H'' : Hp} {μ μ' μ'' : List Addr}
theorem Grow.refl : Grow H H μ μ := ⟨fun _ _ h => h, fun _ _ _ h => h, List.prefix_refl _⟩
theorem Grow.trans (a : Grow H H' μ μ') (b : Grow H' H'' μ' μ'') : Grow H H'' μ μ'' :=
  ⟨fun _ _ h => b.tups _ _ (a.tups _ _ h), fun _ _ _ h => b.frzs _ _ _ (a.frzs _ _ _ h), a.pre.trans b.pre⟩
theorem Grow.sqT (g : Grow H H' μ μ') {a : Addr} {xs : List V} (h : SqT K H a xs) : SqT K H' a xs := by
  rcases h with (h | ⟨o, h⟩) | h
  · exact .inl (.inl (g.tups _ _ h))
  · exact .inl (.inr ⟨o, g.frzs _ _ _ h⟩)
  · exact .inr h
mutual
theorem Rp.grow (g : Grow H H' μ μ') : ∀ {d : D} {v : V}, Rp K H μ v d → Rp K H' μ' v d
  | .non, _, h => by cases h; exact .non
  | .bl _, _, h => by cases h; exact .bl _
  | .int _, _, h => by cases h; exact .int _
  | .str _, _, h => by cases h; exact .str _
  | .tup _, _, h => by
    cases h with
    | tup h1 h2 => exact .tup (g.tups _ _ h1) (RpA.grow g h2)
  | .lr _, _, h => by
    cases h with
    | lr h1 =>
      obtain ⟨t, e⟩ := g.pre
      exact .lr (by rw [← e, List.getElem?_append_left (List.getElem?_eq_some_iff.mp h1).1]; exact h1)
theorem RpA.grow (g : Grow H H' μ μ') : ∀ {ds : List D} {vs : List V}, RpA K H μ vs ds → RpA K H' μ' vs ds
  | [], _, h => by cases h; exact .nil
  | _ :: _, _, h => by
    cases h with
    | cons h1 h2 => exact .cons (Rp.grow g h1) (RpA.grow g h2)
end
theorem RpA.length : ∀ {vs : List V} {ds : List D}, RpA K H μ vs ds → vs.length = ds.length
  | _, [], h => by cases h; rfl
  | _, _ :: _, h => by
    cases h with
    | cons _ h2 => rw [List.length_cons, List.length_cons, RpA.length h2]
theorem RpA.get : ∀ {vs : List V} {ds : List D} {i : Nat} {d : D}, RpA K H μ vs ds → ds[i]? = some d → ∃ v, vs[i]? = some v ∧ Rp K H μ v d
  | _, [], i, d, h, e => by simp at e
  | _, _ :: _, 0, d, h, e => by
    cases h with
    | cons h1 _ => simp at e; subst e; exact ⟨_, rfl, h1⟩
  | _, _ :: _, i + 1, d, h, e => by
    cases h with
    | cons _ h2 =>
      obtain ⟨v, h3, h4⟩ := RpA.get (i := i) h2 (by simpa using e)
      exact ⟨v, by simpa using h3, h4⟩
theorem RpA.getV : ∀ {vs : List V} {ds : List D} {i : Nat} {v : V}, RpA K H μ vs ds → vs[i]? = some v → ∃ d, ds[i]? = some d ∧ Rp K H μ v d := fun {vs ds i v} h e => by
  have hl := h.length
  have hi := (List.getElem?_eq_some_iff.mp e).1
  have hd : ds[i]? = some ds[i] := List.getElem?_eq_getElem (by omega)
  obtain ⟨v', h1, h2⟩ := h.get hd
  rw [e] at h1; cases h1
  exact ⟨_, hd, h2⟩
theorem RpA.append : ∀ {xs ys : List V} {ds es : List D}, RpA K H μ xs ds → RpA K H μ ys es → RpA K H μ (xs ++ ys) (ds ++ es)
  | _, _, [], _, h, h' => by cases h; exact h'
  | _, _, _ :: _, _, h, h' => by
    cases h with
    | cons h1 h2 => exact .cons h1 (RpA.append h2 h')
theorem RpA.take : ∀ {xs : List V} {ds : List D} (n : Nat), RpA K H μ xs ds → RpA K H μ (xs.take n) (ds.take n)
  | _, _, 0, _ => .nil
  | _, [], _ + 1, h => by cases h; exact .nil
  | _, _ :: _, n + 1, h => by
    cases h with
    | cons h1 h2 => exact .cons h1 (RpA.take n h2)
theorem RpA.drop : ∀ {xs : List V} {ds : List D} (n : Nat), RpA K H μ xs ds → RpA K H μ (xs.drop n) (ds.drop n)
  | _, _, 0, h => h
  | _, [], _ + 1, h => by cases h; exact .nil
  | _, _ :: _, n + 1, h => by
    cases h with
    | cons _ h2 => exact RpA.drop n h2
theorem RpA.set {v : V} {d : D} (r : Rp K H μ v d) : ∀ {xs : List V} {ds : List D} (n : Nat), RpA K H μ xs ds → RpA K H μ (xs.set n v) (ds.set n d)
  | _, [], _, h => by cases h; exact .nil
  | _, _ :: _, 0, h => by
    cases h with
    | cons _ h2 => exact .cons r h2
  | _, _ :: _, n + 1, h => by
    cases h with
    | cons h1 h2 => exact .cons h1 (RpA.set r n h2)
theorem RpA.reverse : ∀ {xs : List V} {ds : List D}, RpA K H μ xs ds → RpA K H μ xs.reverse ds.reverse
  | _, [], h => by cases h; exact .nil
  | _, _ :: _, h => by
    cases h with
    | cons h1 h2 => rw [List.reverse_cons, List.reverse_cons]; exact (RpA.reverse h2).append (.cons h1 .nil)
theorem RpA.ints : ∀ {ns : List Int}, RpA K H μ (ns.map V.int) (ns.map D.int)
  | [] => .nil
  | _ :: _ => .cons (.int _) RpA.ints
theorem Grow.tup (g : Grow H H' μ μ') {a : Addr} {xs : List V} (h : H a = some (.tup xs)) : H' a = some (.tup xs) := g.tups _ _ h

/-- a new thing at p -/
theorem Grow.new {p : Addr} {o : HO} (h : H p = none) : Grow H (upd H p o) μ μ :=
  ⟨fun a xs e => by rw [upd_ne (ne_of_none e h)]; exact e, fun a ob u e => by rw [upd_ne (ne_of_none e h)]; exact e, List.prefix_refl _⟩
theorem Grow.newL {p : Addr} {o : HO} (h : H p = none) : Grow H (upd H p o) μ (μ ++ [p]) :=
  ⟨(Grow.new (μ := μ) h).tups, (Grow.new (μ := μ) h).frzs, List.prefix_append _ _⟩
/-- a list changed at a -/
theorem Grow.wr {a : Addr} {xs : List V} {o : HO} (h : H a = some (.lst xs)) : Grow H (upd H a o) μ μ :=
  ⟨fun b ys e => by rw [upd_ne (ne_of e h (by intro z; cases z))]; exact e, fun b ob u e => by rw [upd_ne (ne_of e h (by intro z; cases z))]; exact e, List.prefix_refl _⟩

theorem FzL.sqL {a : Addr} {xs : List V} (h : FzL K H a xs) : SqL K H a xs := by
  rcases h with ⟨o, h⟩ | h
  · exact .inl (.inr ⟨o, h⟩)
  · exact .inr h
theorem FzL.grow {a : Addr} {xs : List V} (g : Grow H H' μ μ') (h : FzL K H a xs) : FzL K H' a xs := by
  rcases h with ⟨o, h⟩ | h
  · exact .inl ⟨o, g.frzs _ _ _ h⟩
  · exact .inr h
theorem RpK.grow {κ : Type} {kws : List (κ × V)} {kvs : List (κ × D)} (g : Grow H H' μ μ') (h : RpK K H μ kws kvs) : RpK K H' μ' kws kvs := ⟨h.1, h.2.grow g⟩
theorem MoR.grow {mo : MO} {a : Addr} (g : Grow H H' μ μ') (h : MoR K H μ mo a) (k : ∀ o, Mt o → H a = some o → H' a = some o) : MoR K H' μ' mo a := by
  cases mo with
  | lst ds => obtain ⟨vs, h1, h2⟩ := h; exact ⟨vs, k _ (.lst _) h1, h2.grow g⟩
  | fz ds => obtain ⟨vs, h1, h2⟩ := h; exact ⟨vs, h1.grow g, h2.grow g⟩
  | dk kvs => obtain ⟨kws, h1, h2⟩ := h; exact ⟨kws, k _ (.dk _) h1, h2.grow g⟩
  | dt kvs => obtain ⟨kws, h1, h2⟩ := h; exact ⟨kws, k _ (.dt _) h1, h2.grow g⟩
/-- what may change stands in the heap as such -/
theorem MoR.mt {mo : MO} {a : Addr} (h : MoR K H μ mo a) (m : mo.mut = true) : ∃ o, Mt o ∧ H a = some o := by
  cases mo with
  | lst ds => obtain ⟨vs, h1, _⟩ := h; exact ⟨_, .lst _, h1⟩
  | fz ds => cases m
  | dk kvs => obtain ⟨kws, h1, _⟩ := h; exact ⟨_, .dk _, h1⟩
  | dt kvs => obtain ⟨kws, h1, _⟩ := h; exact ⟨_, .dt _, h1⟩
theorem StR.grow {S : Store} (s : StR K H μ S) (g : Grow H H' μ μ) (k : ∀ a o, Mt o → H a = some o → H' a = some o) : StR K H' μ S :=
  ⟨s.len, s.nd, fun n mo a e1 e2 => (s.at_ n mo a e1 e2).grow g fun o => k a o⟩
/-- a new thing that is no list of the store -/
theorem StR.new {S : Store} {p : Addr} {o : HO} (s : StR K H μ S) (h : H p = none) : StR K (upd H p o) μ S :=
  s.grow (.new h) fun a u _ e => by rw [upd_ne (ne_of_none e h)]; exact e
/-- a new thing of the store -/
theorem StR.newM {S : Store} {p : Addr} {o : HO} {y : MO} (s : StR K H μ S) (h : H p = none) (r : MoR K (upd H p o) (μ ++ [p]) y p) : StR K (upd H p o) (μ ++ [p]) (S ++ [y]) := by
  have g : Grow H (upd H p o) μ (μ ++ [p]) := .newL h
  have old : ∀ {n : Nat} {mo : MO} {a : Addr}, (S ++ [y])[n]? = some mo → (μ ++ [p])[n]? = some a → (n < S.length ∧ S[n]? = some mo ∧ μ[n]? = some a) ∨ (n = S.length ∧ mo = y ∧ a = p) := fun {n mo a} e1 e2 => by
    by_cases hn : n < S.length
    · rw [List.getElem?_append_left hn] at e1
      rw [List.getElem?_append_left (by rw [s.len]; exact hn)] at e2
      exact .inl ⟨hn, e1, e2⟩
    · have hl := (List.getElem?_eq_some_iff.mp e1).1
      rw [List.length_append, List.length_singleton] at hl
      have hn' : n = S.length := by omega
      subst hn'
      rw [List.getElem?_concat_length] at e1
      rw [← s.len, List.getElem?_concat_length] at e2
      cases e1; cases e2
      exact .inr ⟨rfl, rfl, rfl⟩
  have notp : ∀ {n : Nat} {x : MO}, S[n]? = some x → x.mut = true → μ[n]? = some p → False := fun {n x} e1 m e2 => by
    obtain ⟨u, _, q⟩ := (s.at_ n _ p e1 e2).mt m
    rw [h] at q; cases q
  refine ⟨by rw [List.length_append, List.length_append, s.len]; rfl, fun n m a x z e1 e2 m1 m2 e3 e4 => ?_, fun n mo a e1 e2 => ?_⟩
  · rcases old e1 e3 with ⟨h1, h2, h3⟩ | ⟨h1, h2, h3⟩
    · rcases old e2 e4 with ⟨h4, h5, h6⟩ | ⟨h4, h5, h6⟩
      · exact s.nd n m a _ _ h2 h5 m1 m2 h3 h6
      · subst h6; exact (notp h2 m1 h3).elim
    · rcases old e2 e4 with ⟨h4, h5, h6⟩ | ⟨h4, h5, h6⟩
      · subst h3; exact (notp h5 m2 h6).elim
      · rw [h1, h4]
  · rcases old e1 e2 with ⟨h1, h2, h3⟩ | ⟨h1, h2, h3⟩
    · exact (s.at_ n mo a h2 h3).grow g fun u _ e => by rw [upd_ne (ne_of_none e h)]; exact e
    · subst h2; subst h3
      exact r
/-- a new list -/
theorem StR.newL {S : Store} {p : Addr} {vs : List V} {ds : List D} (s : StR K H μ S) (h : H p = none) (r : RpA K H μ vs ds) : StR K (upd H p (.lst vs)) (μ ++ [p]) (S ++ [.lst ds]) :=
  s.newM h ⟨vs, upd_same, r.grow (.newL h)⟩
/-- a thing that may change, changed at a -/
theorem Grow.wrM {a : Addr} {o u : HO} (m : Mt o) (h : H a = some o) : Grow H (upd H a u) μ μ :=
  ⟨fun b ys e => by rw [upd_ne (ne_of e h (by intro z; subst z; cases m))]; exact e, fun b ob v e => by rw [upd_ne (ne_of e h (by intro z; subst z; cases m))]; exact e, List.prefix_refl _⟩
/-- a thing of the store changed -/
theorem StR.wrM {S : Store} {n : Nat} {a : Addr} {x y : MO} {u : HO} (s : StR K H μ S) (e1 : S[n]? = some x) (mx : x.mut = true) (e2 : μ[n]? = some a) (r : MoR K (upd H a u) μ y a) : StR K (upd H a u) μ (S.set n y) := by
  obtain ⟨o, mo0, h0⟩ := (s.at_ n _ a e1 e2).mt mx
  have g : Grow H (upd H a u) μ μ := .wrM mo0 h0
  have hn : n < S.length := (List.getElem?_eq_some_iff.mp e1).1
  have low : ∀ {m : Nat} {z : MO}, (S.set n y)[m]? = some z → z.mut = true → ∃ z', S[m]? = some z' ∧ z'.mut = true := fun {m z} e mz => by
    by_cases hm : n = m
    · subst hm; exact ⟨x, e1, mx⟩
    · rw [List.getElem?_set_ne hm] at e; exact ⟨z, e, mz⟩
  refine ⟨by rw [List.length_set]; exact s.len, fun k m b z t q1 q2 m1 m2 q3 q4 => ?_, fun m mo b q1 q2 => ?_⟩
  · obtain ⟨z', q1, m1⟩ := low q1 m1
    obtain ⟨t', q2, m2⟩ := low q2 m2
    exact s.nd k m b _ _ q1 q2 m1 m2 q3 q4
  · by_cases hm : n = m
    · subst hm
      rw [List.getElem?_set_self hn] at q1
      rw [e2] at q2
      cases q1; cases q2
      exact r
    · rw [List.getElem?_set_ne hm] at q1
      have q := s.at_ m mo b q1 q2
      by_cases mm : mo.mut = true
      · have hb : b ≠ a := fun z => by subst z; exact hm (s.nd n m b _ _ e1 q1 mx mm e2 q2)
        exact q.grow g fun o' _ e => by rw [upd_ne hb]; exact e
      · cases mo with
        | fz fs => obtain ⟨ws, h1, h2⟩ := q; exact ⟨ws, h1.grow g, h2.grow g⟩
        | _ => exact absurd rfl mm
/-- a list of the store changed -/
theorem StR.wr {S : Store} {n : Nat} {a : Addr} {ds es : List D} {vs : List V} (s : StR K H μ S) (e1 : S[n]? = some (.lst ds)) (e2 : μ[n]? = some a) (r : RpA K H μ vs es) : StR K (upd H a (.lst vs)) μ (S.set n (.lst es)) := by
  obtain ⟨vs0, h0, _⟩ := s.at_ n _ a e1 e2
  exact s.wrM e1 rfl e2 ⟨vs, upd_same, r.grow (.wr h0)⟩
/-- a handle read -/
theorem StR.get {S : Store} {n : Nat} {mo : MO} (s : StR K H μ S) (e : S[n]? = some mo) : ∃ a, μ[n]? = some a ∧ MoR K H μ mo a := by
  have hn : n < μ.length := by rw [s.len]; exact (List.getElem?_eq_some_iff.mp e).1
  exact ⟨μ[n], List.getElem?_eq_getElem hn, s.at_ n mo _ e (List.getElem?_eq_getElem hn)⟩
theorem Sim.grow {σ : L2.St} {ρ : Ev} {S S' : Store} (s : Sim K H μ σ ρ S) (g : Grow H H' μ μ') (t : StR K H' μ' S') : Sim K H' μ' σ ρ S' :=
  ⟨t, s.len, fun i d e => let ⟨v, h1, h2⟩ := s.sl i d e; ⟨v, h1, h2.grow g⟩⟩
theorem Sim.set {σ : L2.St} {ρ : Ev} {S : Store} {v : V} {d : D} (s : Sim K H μ σ ρ S) (i : Nat) (r : Rp K H μ v d) : Sim K H μ (σ.set i (some v)) (ρ.set i (some d)) S :=
  ⟨s.st, by rw [List.length_set, List.length_set]; exact s.len, fun j e q => by
    by_cases h : i = j
    · subst h
      have hl : i < ρ.length := by
        have := (List.getElem?_eq_some_iff.mp q).1
        rwa [List.length_set] at this
      rw [List.getElem?_set_self hl] at q
      cases q
      exact ⟨v, List.getElem?_set_self (by rw [← s.len]; exact hl), r⟩
    · rw [List.getElem?_set_ne h] at q ⊢
      exact s.sl j e q⟩
end

/-! ### readings that are functions -/
abbrev MExp := Ev → Store → Option (D × Store)
abbrev MTst := Ev → Store → Option (Bool × Store)
abbrev MArg := Ev → Store → Option (List D × Store)
inductive Fl where
  | nx | bk | ct | rt (d : D)
abbrev MStm := Ev → Store → Option (Fl × Ev × Store)
abbrev MTg := D → Ev → Store → Option (Ev × Store)
section
variable (K : PySem.W.Frag)
/-- what follows a value -/
def Aft (H : Hp) (μ : List Addr) (d : D) (S : Store) (Q : VK) : Prop := ∀ v H' μ', Grow H H' μ μ' → StR K H' μ' S → Rp K H' μ' v d → Q v H'
def tE (m : MExp) : TE := fun σ H Q => ∃ ρ S μ d S', Sim K H μ σ ρ S ∧ m ρ S = some (d, S') ∧ Aft K H μ d S' Q
def tT (m : MTst) : TT := fun σ H Q => ∃ ρ S μ b S', Sim K H μ σ ρ S ∧ m ρ S = some (b, S') ∧ ∀ H' μ', Grow H H' μ μ' → StR K H' μ' S' → Q b H'
def tA (m : MArg) : TA := fun σ H Q => ∃ ρ S μ ds S', Sim K H μ σ ρ S ∧ m ρ S = some (ds, S') ∧ ∀ vs H' μ', Grow H H' μ μ' → StR K H' μ' S' → RpA K H' μ' vs ds → Q vs H'
/-- what is wanted behind a statement that flows so -/
def EndOf (D_ : Ends) : Fl → L2.St → Hp → List Addr → Prop
  | .nx, σ, H, _ => D_.nx σ H
  | .bk, σ, H, _ => D_.bk σ H
  | .ct, σ, H, _ => D_.ct σ H
  | .rt d, _, H, μ => ∀ v, Rp K H μ v d → D_.rt v H
def tS (m : MStm) : TS := fun D_ σ H => ∃ ρ S μ f ρ' S', Sim K H μ σ ρ S ∧ m ρ S = some (f, ρ', S') ∧ ∀ σ' H' μ', Grow H H' μ μ' → Sim K H' μ' σ' ρ' S' → EndOf K D_ f σ' H' μ'
def tG (m : MTg) : TG := fun v σ H Q => ∃ d ρ S μ ρ' S', Sim K H μ σ ρ S ∧ Rp K H μ v d ∧ m d ρ S = some (ρ', S') ∧ ∀ σ' H' μ', Grow H H' μ μ' → Sim K H' μ' σ' ρ' S' → Q σ' H'
end
structure ME (X : Cx) (e : Expr) (m : MExp) : Prop where
  pe : PE X e (tE X.K m)
structure MT (X : Cx) (e : Expr) (m : MTst) : Prop where
  pt : PT X e (tT X.K m)
structure MW (X : Cx) (e : Expr) (m : MTst) : Prop where
  pw : PW X e (tT X.K m)
structure MA (X : Cx) (es : List Expr) (m : MArg) : Prop where
  pa : PA X es (tA X.K m)
structure MS_ (X : Cx) (st : Stmt) (m : MStm) : Prop where
  ps : PS X st (tS X.K m)
structure MSs (X : Cx) (st : List Stmt) (m : MStm) : Prop where
  pss : PSs X st (tS X.K m)
structure MG (X : Cx) (tg : Expr) (m : MTg) : Prop where
  pg : PG X tg (tG X.K m)
theorem PE.imp {X : Cx} {e : Expr} {t t' : TE} (h : PE X e t) (i : ∀ σ H Q, t' σ H Q → t σ H Q) : PE X e t' := ⟨fun pins s σ H Q I q => h.run pins s σ H Q I (i _ _ _ q)⟩
theorem PT.imp {X : Cx} {e : Expr} {t t' : TT} (h : PT X e t) (i : ∀ σ H Q, t' σ H Q → t σ H Q) : PT X e t' := ⟨fun pins s σ H Q I q => h.run pins s σ H Q I (i _ _ _ q)⟩
theorem PW.imp {X : Cx} {e : Expr} {t t' : TT} (h : PW X e t) (i : ∀ σ H Q, t' σ H Q → t σ H Q) : PW X e t' := ⟨fun w pins s σ H Q I q => h.run w pins s σ H Q I (i _ _ _ q)⟩
theorem PA.imp {X : Cx} {e : List Expr} {t t' : TA} (h : PA X e t) (i : ∀ σ H Q, t' σ H Q → t σ H Q) : PA X e t' := ⟨fun p pins s σ H Q I q => h.run p pins s σ H Q I (i _ _ _ q)⟩
theorem PS.imp {X : Cx} {e : Stmt} {t t' : TS} (h : PS X e t) (i : ∀ D σ H, t' D σ H → t D σ H) : PS X e t' := ⟨fun pins s σ H D I q => h.run pins s σ H D I (i _ _ _ q)⟩
theorem PSs.imp {X : Cx} {e : List Stmt} {t t' : TS} (h : PSs X e t) (i : ∀ D σ H, t' D σ H → t D σ H) : PSs X e t' := ⟨fun pins s σ H D I q => h.run pins s σ H D I (i _ _ _ q)⟩
theorem PG.imp {X : Cx} {e : Expr} {t t' : TG} (h : PG X e t) (i : ∀ v σ H Q, t' v σ H Q → t v σ H Q) : PG X e t' := ⟨fun pins s σ H v u Q I r q => h.run pins s σ H v u Q I r (i _ _ _ _ q)⟩

/-! ### names, constants, arguments -/
def mVar (i : Nat) : MExp := fun ρ S => match ρ[i]? with
  | some (some d) => some (d, S)
  | _ => none
def mC (d : D) : MExp := fun _ S => some (d, S)
def mNil : MArg := fun _ S => some ([], S)
def mCons (m : MExp) (r : MArg) : MArg := fun ρ S => (m ρ S).bind fun p => (r ρ p.2).bind fun q => some (p.1 :: q.1, q.2)
section
variable {X : Cx}
theorem me_var {i : Nat} {x : Str} {pos : Pos} (hN : X.N[i]? = some x) (hv : Vis X.env.scope x) (hd : (x == ("__debug__" : Str)) = false := by decide) (hcd : (x == ("__classdict__" : Str)) = false := by decide) : ME X (.Name x pos) (mVar i) :=
  ⟨PE.imp (pe_var hN hv hd hcd) fun σ H Q ⟨ρ, S, μ, d, S', s, e, q⟩ => by
    unfold mVar at e
    split at e
    · rename_i d' h
      cases e
      obtain ⟨v, h1, h2⟩ := s.sl i _ h
      exact ⟨v, h1, q v H μ .refl s.st h2⟩
    · cases e⟩
theorem mv (i : Nat) {x : Str} {pos : Pos} (hN : X.N[i]? = some x := by rfl) (hv : Vis X.env.scope x := by first | exact Or.inl rfl | exact Or.inr (Or.inl rfl) | exact Or.inr (Or.inr rfl)) (hd : (x == ("__debug__" : Str)) = false := by decide)
    (hcd : (x == ("__classdict__" : Str)) = false := by decide) : ME X (.Name x pos) (mVar i) := me_var hN hv hd hcd
theorem me_c {e : Expr} {v : V} {d : D} (h : PE X e (tC v)) (r : ∀ K H μ, Rp K H μ v d) : ME X e (mC d) :=
  ⟨PE.imp h fun σ H Q ⟨ρ, S, μ, d', S', s, e, q⟩ => by cases e; exact q v H μ .refl s.st (r _ _ _)⟩
theorem me_int {i j pos} : ME X (.Constant (.int i) j pos) (mC (.int i)) := me_c pe_int fun _ _ _ => .int _
theorem me_bl {b j pos} : ME X (.Constant (.bool b) j pos) (mC (.bl b)) := me_c pe_bl fun _ _ _ => .bl _
theorem me_non {j pos} : ME X (.Constant .none j pos) (mC .non) := me_c pe_non fun _ _ _ => .non
theorem me_str {x j pos} : ME X (.Constant (.str x) j pos) (mC (.str x)) := me_c pe_str fun _ _ _ => .str _
/-- a module's constant -/
theorem me_globI {x : Str} {i : Int} {t : Tok} {pos : Pos} (hg : Gl X x) (hm : X.mg x = some (.int i t)) (hd : (x == ("__debug__" : Str)) = false := by decide) : ME X (.Name x pos) (mC (.int i)) := me_c (v := .int i) (pe_glob hg hm ⟨t, rfl⟩ hd) fun _ _ _ => .int _
theorem ma_nil : MA X [] mNil := ⟨PA.imp pa_nil fun σ H Q ⟨ρ, S, μ, d, S', s, e, q⟩ => by cases e; exact q [] H μ .refl s.st .nil⟩
theorem ma_cons {e : Expr} {es : List Expr} {m : MExp} {r : MArg} (h : ME X e m) (hr : MA X es r) (hs : starEach (e :: es) X.env = (false, eval e X.env) :: starEach es X.env := by rfl) : MA X (e :: es) (mCons m r) :=
  ⟨PA.imp (pa_cons h.pe hr.pa hs) fun σ H Q ⟨ρ, S, μ, ds, S', s, e, q⟩ => by
    unfold mCons at e
    obtain ⟨⟨d, S1⟩, e1, e⟩ := Option.bind_eq_some_iff.mp e
    obtain ⟨⟨ds', S2⟩, e2, e⟩ := Option.bind_eq_some_iff.mp e
    cases e
    refine ⟨ρ, S, μ, d, S1, s, e1, fun v H1 μ1 g1 s1 r1 => ?_⟩
    refine ⟨ρ, S1, μ1, ds', _, s.grow g1 s1, e2, fun vs H2 μ2 g2 s2 r2 => ?_⟩
    exact q (v :: vs) H2 μ2 (g1.trans g2) s2 (.cons (r1.grow g2) r2)⟩
end
end MS

set_option Elab.async false
set_option linter.all false
set_option maxRecDepth 100000
set_option maxHeartbeats 4000000
namespace MS
open PySem PySem.Spec PyProof.Rows L2

/-! ### two-place operations -/
/-- f of two data, by the store -/
abbrev DOp2 := D → D → Store → Option (D × Store)
abbrev DCall := List D → Store → Option (D × Store)
def rM (K : PySem.W.Frag) (f : DOp2) : R2 := fun x y H Q => ∃ S μ dx dy d S', StR K H μ S ∧ Rp K H μ x dx ∧ Rp K H μ y dy ∧ f dx dy S = some (d, S') ∧ Aft K H μ d S' Q
def rCM (K : PySem.W.Frag) (f : DCall) : List V → Hp → VK → Prop := fun vs H Q => ∃ S μ ds d S', StR K H μ S ∧ RpA K H μ vs ds ∧ f ds S = some (d, S') ∧ Aft K H μ d S' Q
def mBin (f : DOp2) (ma mb : MExp) : MExp := fun ρ S => (ma ρ S).bind fun p => (mb ρ p.2).bind fun q => f p.1 q.1 q.2
def mCall (f : DCall) (m : MArg) : MExp := fun ρ S => (m ρ S).bind fun p => f p.1 p.2
theorem tE_bin {K : PySem.W.Frag} {f : DOp2} {ma mb : MExp} {σ : L2.St} {H : Hp} {Q : VK} (h : tE K (mBin f ma mb) σ H Q) : tOp (rM K f) (tE K ma) (tE K mb) σ H Q := by
  obtain ⟨ρ, S, μ, d, S', s, e, q⟩ := h
  unfold mBin at e
  obtain ⟨⟨d1, S1⟩, e1, e⟩ := Option.bind_eq_some_iff.mp e
  obtain ⟨⟨d2, S2⟩, e2, e⟩ := Option.bind_eq_some_iff.mp e
  refine ⟨ρ, S, μ, d1, S1, s, e1, fun v H1 μ1 g1 s1 r1 => ?_⟩
  refine ⟨ρ, S1, μ1, d2, S2, s.grow g1 s1, e2, fun u H2 μ2 g2 s2 r2 => ?_⟩
  exact ⟨S2, μ2, d1, d2, d, S', s2, r1.grow g2, r2, e, fun v H' μ' g3 => q v H' μ' ((g1.trans g2).trans g3)⟩
theorem tE_call {K : PySem.W.Frag} {f : DCall} {m : MArg} {σ : L2.St} {H : Hp} {Q : VK} (h : tE K (mCall f m) σ H Q) : tA K m σ H fun vs H1 => rCM K f vs H1 Q := by
  obtain ⟨ρ, S, μ, d, S', s, e, q⟩ := h
  unfold mCall at e
  obtain ⟨⟨ds, S1⟩, e1, e⟩ := Option.bind_eq_some_iff.mp e
  exact ⟨ρ, S, μ, ds, S1, s, e1, fun vs H1 μ1 g1 s1 r1 => ⟨S1, μ1, ds, d, S', s1, r1, e, fun v H' μ' g3 => q v H' μ' (g1.trans g3)⟩⟩
section
variable {X : Cx} {a b : Expr} {ma mb : MExp} {f : DOp2} {pos : Pos}
theorem me_op {op : Operator} (ho : OpR X (binaryOp op) (rM X.K f)) (ha : ME X a ma) (hb : ME X b mb) : ME X (.BinOp a op b pos) (mBin f ma mb) :=
  ⟨PE.imp (pe_op ho ha.pe hb.pe) fun _ _ _ h => tE_bin h⟩
theorem me_cmp {op : CmpOp} (ho : OpR X (compareOp op) (rM X.K f)) (ha : ME X a ma) (hb : ME X b mb) (hm : behindInMarks op b = false) : ME X (.Compare a [op] [b] pos) (mBin f ma mb) :=
  ⟨PE.imp (pe_cmpR ho ha.pe hb.pe hm) fun _ _ _ h => tE_bin h⟩
end
theorem OpR.imp {X : Cx} {f : Value → Value → Sem Value} {r r' : R2} (h : OpR X f r) (i : ∀ x y H Q, r' x y H Q → r x y H Q) : OpR X f r' := fun pins s σ H x y v u Q I rx ry q => h pins s σ H x y v u Q I rx ry (i _ _ _ _ q)
theorem CallR.imp {X : Cx} {f : Value} {r r' : List V → Hp → VK → Prop} (h : CallR X f r) (i : ∀ x H Q, r' x H Q → r x H Q) : CallR X f r' := fun pins s σ H xs us Q I rx q => h pins s σ H xs us Q I rx (i _ _ _ q)

/-! ### ends of readings -/
section
variable {K : PySem.W.Frag} {H : Hp} {μ : List Addr} {S : Store} {Q : VK}
theorem Aft.id {v : V} {d : D} (q : Aft K H μ d S Q) (s : StR K H μ S) (r : Rp K H μ v d) : Q v H := q v H μ .refl s r
theorem Aft.tup {p : Addr} {vs : List V} {ds : List D} (q : Aft K H μ (.tup ds) S Q) (s : StR K H μ S) (r : RpA K H μ vs ds) (hp : H p = none) : Q (.ref p) (upd H p (.tup vs)) :=
  q (.ref p) _ μ (.new hp) (s.new hp) (.tup upd_same (r.grow (.new hp)))
theorem Aft.lst {p : Addr} {vs : List V} {ds : List D} (q : Aft K H μ (.lr S.length) (S ++ [.lst ds]) Q) (s : StR K H μ S) (r : RpA K H μ vs ds) (hp : H p = none) : Q (.ref p) (upd H p (.lst vs)) :=
  q (.ref p) _ (μ ++ [p]) (.newL hp) (s.newL hp r) (.lr (by rw [← s.len, List.getElem?_concat_length]))
end

/-! ### lists by handle -/
def lat (S : Store) (n : Nat) : Option (List D) := match S[n]? with
  | some (.lst ds) => some ds
  | some (.fz ds) => some ds
  | _ => none
theorem StR.lat {K : PySem.W.Frag} {H : Hp} {μ : List Addr} {S : Store} {n : Nat} {ds : List D} {v : V} (s : StR K H μ S) (e : lat S n = some ds) (r : Rp K H μ v (.lr n)) : ∃ a vs, v = .ref a ∧ SqL K H a vs ∧ RpA K H μ vs ds := by
  cases r with
  | lr h1 =>
    unfold MS.lat at e
    split at e
    · rename_i es h2
      cases e
      obtain ⟨a, q1, q2⟩ := s.get h2
      rw [h1] at q1; cases q1
      obtain ⟨vs, h3, h4⟩ := q2
      exact ⟨_, vs, rfl, .inl (.inl h3), h4⟩
    · rename_i es h2
      cases e
      obtain ⟨a, q1, q2⟩ := s.get h2
      rw [h1] at q1; cases q1
      obtain ⟨vs, h3, h4⟩ := q2
      exact ⟨_, vs, rfl, h3.sqL, h4⟩
    · cases e
theorem StR.lst {K : PySem.W.Frag} {H : Hp} {μ : List Addr} {S : Store} {n : Nat} {ds : List D} {v : V} (s : StR K H μ S) (e : S[n]? = some (.lst ds)) (r : Rp K H μ v (.lr n)) : ∃ a vs, v = .ref a ∧ μ[n]? = some a ∧ H a = some (.lst vs) ∧ RpA K H μ vs ds := by
  cases r with
  | lr h1 =>
    obtain ⟨a, q1, q2⟩ := s.get e
    rw [h1] at q1; cases q1
    obtain ⟨vs, h3, h4⟩ := q2
    exact ⟨_, vs, rfl, h1, h3, h4⟩
/-- a list that may change -/
def mat (S : Store) (n : Nat) : Option (List D) := match S[n]? with
  | some (.lst ds) => some ds
  | _ => none
theorem mat_eq {S : Store} {n : Nat} {ds : List D} (h : mat S n = some ds) : S[n]? = some (.lst ds) := by
  unfold mat at h
  split at h
  · rename_i e; cases h; exact e
  · cases h
theorem StR.mat {K : PySem.W.Frag} {H : Hp} {μ : List Addr} {S : Store} {n : Nat} {ds : List D} {v : V} (s : StR K H μ S) (e : mat S n = some ds) (r : Rp K H μ v (.lr n)) : ∃ a vs, v = .ref a ∧ μ[n]? = some a ∧ H a = some (.lst vs) ∧ RpA K H μ vs ds := s.lst (mat_eq e) r
/-- the items of a list or a tuple -/
def items (S : Store) : D → Option (List D)
  | .tup ds => some ds
  | .lr n => lat S n
  | _ => none
theorem StR.items {K : PySem.W.Frag} {H : Hp} {μ : List Addr} {S : Store} {d : D} {ds : List D} {v : V} (s : StR K H μ S) (e : items S d = some ds) (r : Rp K H μ v d) : ∃ a vs, v = .ref a ∧ (SqL K H a vs ∨ SqT K H a vs) ∧ RpA K H μ vs ds := by
  cases d with
  | tup es =>
    cases e
    cases r with
    | tup h1 h2 => exact ⟨_, _, rfl, .inr (sq _ _ h1), h2⟩
  | lr n => obtain ⟨a, vs, h1, h2, h3⟩ := s.lat e r; exact ⟨a, vs, h1, .inl h2, h3⟩
  | _ => cases e

theorem StR.itemsO {K : PySem.W.Frag} {H : Hp} {μ : List Addr} {S : Store} {d : D} {ds : List D} {v : V} (s : StR K H μ S) (e : MS.items S d = some ds) (r : Rp K H μ v d) : ∃ a vs, v = .ref a ∧ (SqL K H a vs ∨ (OwnT K H a vs ∧ d = .tup ds)) ∧ RpA K H μ vs ds := by
  cases d with
  | tup es =>
    cases e
    cases r with
    | tup h1 h2 => exact ⟨_, _, rfl, .inr ⟨h1, rfl⟩, h2⟩
  | lr n => obtain ⟨a, vs, h1, h2, h3⟩ := s.lat e r; exact ⟨a, vs, h1, .inl h2, h3⟩
  | _ => cases e

/-! ### arithmetic -/
def szl : Nat := 16777216
theorem szl_le {n : Nat} (h : n ≤ szl) : n ≤ sizeLine := by rw [sizeLine_eq]; exact h
theorem szl_lt {n : Nat} (h : n < szl) : n < sizeLine := by rw [sizeLine_eq]; exact h
def fAdd : DOp2
  | .int i, .int j, S => some (.int (i + j), S)
  | .tup a, .tup b, S => if a.length + b.length ≤ szl then some (.tup (a ++ b), S) else none
  | .lr n, .lr m, S => (mat S n).bind fun a => (mat S m).bind fun b => if a.length + b.length ≤ szl then some (.lr S.length, S ++ [.lst (a ++ b)]) else none
  | _, _, _ => none
def fI (g : Int → Int → Int) : DOp2
  | .int i, .int j, S => some (.int (g i j), S)
  | _, _, _ => none
def fIc (c : Int → Int → Bool) (g : Int → Int → Int) : DOp2
  | .int i, .int j, S => if c i j then some (.int (g i j), S) else none
  | _, _, _ => none
def fCmp (g : Int → Int → Bool) : DOp2
  | .int i, .int j, S => some (.bl (g i j), S)
  | _, _, _ => none
def i64 (i : Int) : Bool := decide (-(2 ^ 64) < i) && decide (i < 2 ^ 64)
def fSub := fI fun i j => i - j
def fMulI := fIc (fun i j => i64 i || i64 j) fun i j => i * j
def fMod := fIc (fun _ j => decide (0 < j)) fun i j => i % j
def fDiv := fIc (fun _ j => decide (0 < j) && decide (j < 1073741824)) fun i j => i / j
def fPow := fIc (fun i j => decide (0 ≤ j) && decide (j ≤ 1000) && i64 i) fun i j => i ^ j.toNat
def fLt := fCmp fun i j => decide (i < j)
def fLe := fCmp fun i j => decide (i ≤ j)
def fGt := fCmp fun i j => decide (j < i)
def fGe := fCmp fun i j => decide (j ≤ i)
/-- a list or tuple times a number -/
def repD (ds : List D) (k : Int) : List D := (List.replicate k.toNat ds).flatten
def fMul : DOp2
  | .int i, .int j, S => if i64 i || i64 j then some (.int (i * j), S) else none
  | .lr n, .int k, S => (mat S n).bind fun a => if -(2 ^ 63) ≤ k ∧ k < 2 ^ 63 ∧ a.length * k.toNat ≤ szl then some (.lr S.length, S ++ [.lst (repD a k)]) else none
  | _, _, _ => none
section
variable {X : Cx}
theorem op_fI {op : Value → Value → Sem Value} {g : Int → Int → Int} (h : OpR X op (rI0 fun i j => .int (g i j))) : OpR X op (rM X.K (fI g)) :=
  OpR.imp h fun x y H Q ⟨S, μ, dx, dy, d, S', s, rx, ry, e, q⟩ => by
    unfold fI at e
    split at e
    · cases e; cases rx; cases ry
      exact ⟨_, _, rfl, rfl, q.id s (.int _)⟩
    · cases e
theorem op_fIc {op : Value → Value → Sem Value} {c : Int → Int → Bool} {C : Int → Int → Prop} {g : Int → Int → Int} (h : OpR X op (rI C fun i j => .int (g i j))) (hc : ∀ i j, c i j = true → C i j) : OpR X op (rM X.K (fIc c g)) :=
  OpR.imp h fun x y H Q ⟨S, μ, dx, dy, d, S', s, rx, ry, e, q⟩ => by
    unfold fIc at e
    split at e
    · cases rx; cases ry
      split at e
      · rename_i h; cases e; exact ⟨_, _, rfl, rfl, hc _ _ h, q.id s (.int _)⟩
      · cases e
    · cases e
theorem op_fCmp {op : Value → Value → Sem Value} {g : Int → Int → Bool} (h : OpR X op (rI0 fun i j => .bl (g i j))) : OpR X op (rM X.K (fCmp g)) :=
  OpR.imp h fun x y H Q ⟨S, μ, dx, dy, d, S', s, rx, ry, e, q⟩ => by
    unfold fCmp at e
    split at e
    · cases e; cases rx; cases ry
      exact ⟨_, _, rfl, rfl, q.id s (.bl _)⟩
    · cases e
theorem i64_iff {i : Int} (h : i64 i = true) : -(2 ^ 64) < i ∧ i < 2 ^ 64 := by
  unfold i64 at h
  rw [Bool.and_eq_true, decide_eq_true_eq, decide_eq_true_eq] at h
  exact h
theorem cmul_of {i j : Int} (h : (i64 i || i64 j) = true) : CMul i j := by
  rw [Bool.or_eq_true] at h
  rcases h with h | h
  · exact .inl (i64_iff h)
  · exact .inr (i64_iff h)
theorem o_sub : OpR X (binaryOp .Sub) (rM X.K fSub) := op_fI op_sub
theorem o_mod : OpR X (binaryOp .Mod) (rM X.K fMod) := op_fIc op_mod fun _ _ h => of_decide_eq_true h
theorem o_div : OpR X (binaryOp .FloorDiv) (rM X.K fDiv) := op_fIc op_fdiv fun _ _ h => by
  rw [Bool.and_eq_true, decide_eq_true_eq, decide_eq_true_eq] at h; exact h
theorem o_pow : OpR X (binaryOp .Pow) (rM X.K fPow) := op_fIc op_pow fun i j h => by
  rw [Bool.and_eq_true, Bool.and_eq_true, decide_eq_true_eq, decide_eq_true_eq] at h
  have h2 := i64_iff h.2
  exact ⟨h.1.1, by omega, by omega⟩
theorem o_lt : OpR X (compareOp .Lt) (rM X.K fLt) := op_fCmp op_lt
theorem o_le : OpR X (compareOp .LtE) (rM X.K fLe) := op_fCmp op_le
theorem o_gt : OpR X (compareOp .Gt) (rM X.K fGt) := op_fCmp op_gt
theorem o_ge : OpR X (compareOp .GtE) (rM X.K fGe) := op_fCmp op_ge
theorem RpA.nil_of {K : PySem.W.Frag} {H : Hp} {μ : List Addr} {vs : List V} {ds : List D} (r : RpA K H μ vs ds) : vs = [] ↔ ds = [] := by
  cases r <;> simp
theorem o_add : OpR X (binaryOp .Add) (rM X.K fAdd) := by
  intro pins s σ H x y v u Q I rx ry ⟨S, μ, dx, dy, d, S', st, px, py, e, q⟩
  unfold fAdd at e
  split at e
  · cases e; cases px; cases py
    exact op_add pins s σ H _ _ v u Q I rx ry ⟨_, _, rfl, rfl, q.id st (.int _)⟩
  · split at e
    · rename_i hz
      cases e
      cases px with
      | tup h1 h2 =>
      cases py with
      | tup h3 h4 =>
      refine op_catA pins s σ H _ _ v u Q I rx ry ⟨_, _, _, _, rfl, rfl, sq _ _ h1, sq _ _ h3, ?_, fun z => ?_, fun z1 z2 => ?_, fun _ _ p hp => q.tup st (h2.append h4) hp⟩
      · rw [h2.length, h4.length]; exact szl_le hz
      · have := h2.nil_of.mp z
        subst this
        exact q.id st (.tup h3 h4)
      · have := h4.nil_of.mp z2
        subst this
        exact q.id st (by rw [List.append_nil]; exact .tup h1 h2)
    · cases e
  · obtain ⟨a, e1, e⟩ := Option.bind_eq_some_iff.mp e
    obtain ⟨b, e2, e⟩ := Option.bind_eq_some_iff.mp e
    split at e
    · rename_i hz
      cases e
      obtain ⟨p1, vs, rfl, _, h1, h2⟩ := st.mat e1 px
      obtain ⟨p2, ws, rfl, _, h3, h4⟩ := st.mat e2 py
      refine op_cat pins s σ H _ _ v u Q I rx ry ⟨_, _, _, _, rfl, rfl, h1, h3, ?_, fun p hp => q.lst st (h2.append h4) hp⟩
      rw [h2.length, h4.length]; exact szl_le hz
    · cases e
  · cases e
theorem RpA.rep {K : PySem.W.Frag} {H : Hp} {μ : List Addr} {vs : List V} {ds : List D} (r : RpA K H μ vs ds) : ∀ k : Nat, RpA K H μ (List.replicate k vs).flatten (List.replicate k ds).flatten
  | 0 => .nil
  | k + 1 => by
    rw [List.replicate_succ, List.replicate_succ, List.flatten_cons, List.flatten_cons]
    exact r.append (RpA.rep r k)
theorem o_mul : OpR X (binaryOp .Mult) (rM X.K fMul) := by
  intro pins s σ H x y v u Q I rx ry ⟨S, μ, dx, dy, d, S', st, px, py, e, q⟩
  unfold fMul at e
  split at e
  · split at e
    · rename_i h
      cases e; cases px; cases py
      exact op_mul pins s σ H _ _ v u Q I rx ry ⟨_, _, rfl, rfl, cmul_of h, q.id st (.int _)⟩
    · cases e
  · obtain ⟨a, e1, e⟩ := Option.bind_eq_some_iff.mp e
    split at e
    · rename_i h
      cases e
      obtain ⟨p1, vs, rfl, _, h1, h2⟩ := st.mat e1 px
      cases py
      refine op_rep pins s σ H _ _ v u Q I rx ry ⟨_, _, _, rfl, rfl, h1, h.1, h.2.1, ?_, fun p hp => q.lst st (h2.rep _) hp⟩
      rw [h2.length]; exact szl_le h.2.2
    · cases e
  · cases e
end

/-! ### plain data of a datum; == -/
def toPy (S : Store) : Nat → D → Option PyData
  | 0, _ => none
  | _ + 1, .non => some .none
  | _ + 1, .bl b => some (.bool b)
  | _ + 1, .int i => some (.int i)
  | _ + 1, .str x => some (.str x)
  | n + 1, .tup ds => (ds.mapM (toPy S n)).map .tuple
  | n + 1, .lr k => (lat S k).bind fun ds => (ds.mapM (toPy S n)).map .list
section
variable {K : PySem.W.Frag} {H : Hp} {μ : List Addr} {S : Store}
theorem dpAll_of {n : Nat} (ih : ∀ (d : D) (v : V) (p : PyData), toPy S n d = some p → Rp K H μ v d → Dp K H v p) : ∀ (ds : List D) (vs : List V) (ps : List PyData), ds.mapM (toPy S n) = some ps → RpA K H μ vs ds → DpAll K H vs ps
  | [], _, _, e, r => by
    cases r
    rw [List.mapM_nil] at e
    cases e
    exact .nil
  | d :: ds, _, _, e, r => by
    cases r with
    | cons r1 r2 =>
      rw [List.mapM_cons] at e
      obtain ⟨p, e1, e⟩ := Option.bind_eq_some_iff.mp e
      obtain ⟨ps, e2, e⟩ := Option.bind_eq_some_iff.mp e
      cases e
      exact .cons (ih _ _ _ e1 r1) (dpAll_of ih ds _ _ e2 r2)
theorem dp_of (s : StR K H μ S) : ∀ (n : Nat) (d : D) (v : V) (p : PyData), toPy S n d = some p → Rp K H μ v d → Dp K H v p := by
  intro n
  induction n with
  | zero => intro d v p e; cases e
  | succ n ih =>
    intro d v p e r
    cases d with
    | non => cases e; cases r; exact .non
    | bl b => cases e; cases r; exact .bl _
    | int b => cases e; cases r; exact .int _
    | str b => cases e; cases r; exact .str _
    | tup ds =>
      obtain ⟨ps, e1, e2⟩ := Option.map_eq_some_iff.mp (show (ds.mapM (toPy S n)).map PyData.tuple = some p from e)
      subst e2
      cases r with
      | tup h1 h2 => exact .tup (sq _ _ h1) (dpAll_of ih _ _ _ e1 h2)
    | lr k =>
      obtain ⟨ds, e0, e⟩ := Option.bind_eq_some_iff.mp (show ((lat S k).bind fun ds => (ds.mapM (toPy S n)).map PyData.list) = some p from e)
      obtain ⟨ps, e1, e2⟩ := Option.map_eq_some_iff.mp e
      subst e2
      obtain ⟨a, vs, rfl, h1, h2⟩ := s.lat e0 r
      exact .lst h1 (dpAll_of ih _ _ _ e1 h2)
end
theorem dec_int (i j : Int) : decide (V.int i = V.int j) = decide (i = j) := by simp only [V.int.injEq]
theorem dec_str (i j : Str) : decide (V.str i = V.str j) = decide (i = j) := by simp only [V.str.injEq]
def fEqG (g : Bool → Bool) : DOp2 := fun x y S => (toPy S 64 x).bind fun p => (toPy S 64 y).bind fun q => if SeqAt.shaped p && SeqAt.shaped q then some (.bl (g (PyData.eqv p q)), S) else none
def fEq : DOp2 := fun x y S => match x, y with
  | .int i, .int j => some (.bl (decide (i = j)), S)
  | .str i, .str j => some (.bl (decide (i = j)), S)
  | x, y => fEqG id x y S
def fNe : DOp2 := fun x y S => match x, y with
  | .int i, .int j => some (.bl (!decide (i = j)), S)
  | .str i, .str j => some (.bl (!decide (i = j)), S)
  | x, y => fEqG not x y S
section
variable {X : Cx}
theorem o_eqG (hu : X.A.units + 64 < cLine) : OpR X (compareOp .Eq) (rM X.K (fEqG id)) :=
  OpR.imp (op_eqD hu) fun x y H Q ⟨S, μ, dx, dy, d, S', s, rx, ry, e, q⟩ => by
    unfold fEqG at e
    obtain ⟨p, e1, e⟩ := Option.bind_eq_some_iff.mp e
    obtain ⟨p', e2, e⟩ := Option.bind_eq_some_iff.mp e
    split at e
    · rename_i h
      rw [Bool.and_eq_true] at h
      cases e
      exact ⟨p, p', dp_of s _ _ _ _ e1 rx, dp_of s _ _ _ _ e2 ry, h.1, h.2, q.id s (.bl _)⟩
    · cases e
theorem o_neG (hu : X.A.units + 64 < cLine) : OpR X (compareOp .NotEq) (rM X.K (fEqG not)) :=
  OpR.imp (op_neD hu) fun x y H Q ⟨S, μ, dx, dy, d, S', s, rx, ry, e, q⟩ => by
    unfold fEqG at e
    obtain ⟨p, e1, e⟩ := Option.bind_eq_some_iff.mp e
    obtain ⟨p', e2, e⟩ := Option.bind_eq_some_iff.mp e
    split at e
    · rename_i h
      rw [Bool.and_eq_true] at h
      cases e
      exact ⟨p, p', dp_of s _ _ _ _ e1 rx, dp_of s _ _ _ _ e2 ry, h.1, h.2, q.id s (.bl _)⟩
    · cases e
theorem o_eq (hu : X.A.units + 64 < cLine) : OpR X (compareOp .Eq) (rM X.K fEq) := by
  intro pins s σ H x y v u Q I rx ry ⟨S, μ, dx, dy, d, S', st, px, py, e, q⟩
  unfold fEq at e
  split at e
  · cases e; cases px; cases py
    exact op_eq pins s σ H _ _ v u Q I rx ry ⟨rfl, by rw [dec_int]; exact q.id st (.bl _)⟩
  · cases e; cases px; cases py
    exact op_eq pins s σ H _ _ v u Q I rx ry ⟨rfl, by rw [dec_str]; exact q.id st (.bl _)⟩
  · exact o_eqG hu pins s σ H x y v u Q I rx ry ⟨S, μ, _, _, d, S', st, px, py, e, q⟩
theorem o_ne (hu : X.A.units + 64 < cLine) : OpR X (compareOp .NotEq) (rM X.K fNe) := by
  intro pins s σ H x y v u Q I rx ry ⟨S, μ, dx, dy, d, S', st, px, py, e, q⟩
  unfold fNe at e
  split at e
  · cases e; cases px; cases py
    exact op_ne pins s σ H _ _ v u Q I rx ry ⟨rfl, by rw [dec_int]; exact q.id st (.bl _)⟩
  · cases e; cases px; cases py
    exact op_ne pins s σ H _ _ v u Q I rx ry ⟨rfl, by rw [dec_str]; exact q.id st (.bl _)⟩
  · exact o_neG hu pins s σ H x y v u Q I rx ry ⟨S, μ, _, _, d, S', st, px, py, e, q⟩
end

/-! ### in, not in: flat items -/
def flatD : D → Bool
  | .non => true
  | .bl _ => true
  | .int _ => true
  | .str _ => true
  | _ => false
def toV : D → V
  | .bl b => .bl b
  | .int i => .int i
  | .str x => .str x
  | _ => .non
theorem Rp.flat {K : PySem.W.Frag} {H : Hp} {μ : List Addr} {v : V} {d : D} (r : Rp K H μ v d) (f : flatD d = true) : v = toV d ∧ flatV v = true := by
  cases d with
  | non => cases r; exact ⟨rfl, rfl⟩
  | bl b => cases r; exact ⟨rfl, rfl⟩
  | int b => cases r; exact ⟨rfl, rfl⟩
  | str b => cases r; exact ⟨rfl, rfl⟩
  | _ => cases f
theorem RpA.flat {K : PySem.W.Frag} {H : Hp} {μ : List Addr} : ∀ {ds : List D} {vs : List V}, RpA K H μ vs ds → ds.all flatD = true → vs = ds.map toV ∧ vs.all flatV = true
  | [], _, r, _ => by cases r; exact ⟨rfl, rfl⟩
  | d :: ds, _, r, f => by
    cases r with
    | cons r1 r2 =>
      rw [List.all_cons, Bool.and_eq_true] at f
      obtain ⟨h1, h2⟩ := r1.flat f.1
      obtain ⟨h3, h4⟩ := RpA.flat r2 f.2
      exact ⟨by rw [h1, h3]; rfl, by rw [List.all_cons, h2, h4]; rfl⟩
def inD (x : D) (ds : List D) : Bool := inV (toV x) (ds.map toV)
def fIn (neg : Bool) : DOp2 := fun x y S => (items S y).bind fun ds => if flatD x && ds.all flatD then some (.bl (if neg then !inD x ds else inD x ds), S) else none
section
variable {X : Cx}
theorem fIn_r {neg : Bool} {x y : V} {H : Hp} {Q : VK} (h : rM X.K (fIn neg) x y H Q) : rIn X.K neg x y H Q := by
  obtain ⟨S, μ, dx, dy, d, S', s, rx, ry, e, q⟩ := h
  unfold fIn at e
  obtain ⟨ds, e1, e⟩ := Option.bind_eq_some_iff.mp e
  split at e
  · rename_i h
    rw [Bool.and_eq_true] at h
    cases e
    obtain ⟨a, vs, rfl, h1, h2⟩ := s.items e1 ry
    obtain ⟨h3, h4⟩ := rx.flat h.1
    obtain ⟨h5, h6⟩ := h2.flat h.2
    refine ⟨a, vs, rfl, h1, h4, h6, ?_⟩
    have := q.id s (.bl _)
    unfold inD at this
    rw [h3, h5]
    exact this
  · cases e
theorem o_in : OpR X (compareOp .In) (rM X.K (fIn false)) := OpR.imp op_in_seq fun _ _ _ _ h => fIn_r h
theorem o_notIn : OpR X (compareOp .NotIn) (rM X.K (fIn true)) := OpR.imp op_notIn_seq fun _ _ _ _ h => fIn_r h
theorem o_is : OpR X (compareOp .Is) (rM X.K fun x y S => match y with | .non => some (.bl (match x with | .non => true | _ => false), S) | _ => none) := by
  refine OpR.imp op_isN fun x y H Q ⟨S, μ, dx, dy, d, S', s, rx, ry, e, q⟩ => ?_
  cases dy with
  | non =>
    cases e; cases ry
    refine ⟨rfl, ?_⟩
    have := q.id s (.bl _)
    cases rx <;> exact this
  | _ => cases e
theorem o_isNot : OpR X (compareOp .IsNot) (rM X.K fun x y S => match y with | .non => some (.bl (match x with | .non => false | _ => true), S) | _ => none) := by
  refine OpR.imp op_notN fun x y H Q ⟨S, μ, dx, dy, d, S', s, rx, ry, e, q⟩ => ?_
  cases dy with
  | non =>
    cases e; cases ry
    refine ⟨rfl, ?_⟩
    have := q.id s (.bl _)
    cases rx <;> exact this
  | _ => cases e

/-! ### subscripts, slices -/
def fIx : DOp2
  | .lr n, .int i, S => (lat S n).bind fun ds => (atI ds i).map fun d => (d, S)
  | .tup ds, .int i, S => (atI ds i).map fun d => (d, S)
  | _, _, _ => none
theorem RpA.atI {K : PySem.W.Frag} {H : Hp} {μ : List Addr} {vs : List V} {ds : List D} {i : Int} {d : D} (r : RpA K H μ vs ds) (e : L2.atI ds i = some d) : ∃ v, L2.atI vs i = some v ∧ Rp K H μ v d := by
  unfold L2.atI at e ⊢
  rw [r.length]
  cases h : ixN ds.length i with
  | none => rw [h] at e; cases e
  | some j => rw [h] at e; exact r.get e
theorem me_ix {a b : Expr} {ma mb : MExp} {pos : Pos} (ha : ME X a ma) (hb : ME X b mb) (hs : PlainIx b) : ME X (.Subscript a b pos) (mBin fIx ma mb) := by
  refine ⟨PE.imp (pe_ix (r := rM X.K fIx) ?_ ha.pe hb.pe hs) fun _ _ _ h => tE_bin h⟩
  intro value slice pins s σ H x y v u Q I rx ry ⟨S, μ, dx, dy, d, S', st, px, py, e, q⟩ hs
  refine ix_seq value slice pins s σ H x y v u Q I rx ry ?_ hs
  unfold fIx at e
  split at e
  · obtain ⟨ds, e1, e⟩ := Option.bind_eq_some_iff.mp e
    obtain ⟨d', e2, e⟩ := Option.map_eq_some_iff.mp e
    cases e; cases py
    obtain ⟨p, vs, rfl, h1, h2⟩ := st.lat e1 px
    obtain ⟨w, h3, h4⟩ := h2.atI e2
    exact .inl ⟨p, vs, _, w, rfl, rfl, h1, h3, q.id st h4⟩
  · obtain ⟨d', e2, e⟩ := Option.map_eq_some_iff.mp e
    cases e; cases py
    cases px with
    | tup h1 h2 =>
    obtain ⟨w, h3, h4⟩ := h2.atI e2
    exact .inr (.inl ⟨_, _, _, w, rfl, rfl, sq _ _ h1, h3, q.id st h4⟩)
  · cases e
/-- a slice's part -/
abbrev MPart := Ev → Store → Option (Option Int × Store)
def tP (K : PySem.W.Frag) (m : MPart) : TO := fun σ H Q => ∃ ρ S μ o S', Sim K H μ σ ρ S ∧ m ρ S = some (o, S') ∧ ∀ H' μ', Grow H H' μ μ' → StR K H' μ' S' → Q o H'
structure MP (X : Cx) (e : Option Expr) (m : MPart) : Prop where
  po : PO X e (tP X.K m)
def mNoPart : MPart := fun _ S => some (none, S)
def mPart (m : MExp) : MPart := fun ρ S => (m ρ S).bind fun p => match p.1 with
  | .int i => some (some i, p.2)
  | _ => none
theorem mp_none : MP X none mNoPart := ⟨⟨fun pins s σ H Q I ⟨ρ, S, μ, o, S', st, e, q⟩ => po_none.run pins s σ H Q I (by cases e; exact q H μ .refl st.st)⟩⟩
theorem mp_some {e : Expr} {m : MExp} (h : ME X e m) : MP X (some e) (mPart m) := ⟨⟨fun pins s σ H Q I ⟨ρ, S, μ, o, S', st, e, q⟩ => (po_some h.pe).run pins s σ H Q I (by
  unfold mPart at e
  obtain ⟨⟨d, S1⟩, e1, e⟩ := Option.bind_eq_some_iff.mp e
  refine ⟨ρ, S, μ, d, S1, st, e1, fun v H1 μ1 g1 s1 r1 => ?_⟩
  cases d with
  | int i => cases e; cases r1; exact ⟨i, rfl, q H1 μ1 g1 s1⟩
  | _ => cases e)⟩⟩
def cutD (xs : List D) (lo hi : Option Int) : List D := (xs.drop (HT.sIx xs.length 0 lo)).take (HT.sIx xs.length xs.length hi - HT.sIx xs.length 0 lo)
theorem RpA.cut {K : PySem.W.Frag} {H : Hp} {μ : List Addr} {vs : List V} {ds : List D} (r : RpA K H μ vs ds) (lo hi : Option Int) : RpA K H μ (cutV vs lo hi) (cutD ds lo hi) := by
  unfold cutV cutD
  rw [r.length]
  exact (r.drop _).take _
def fSl (x : D) (lo hi : Option Int) (S : Store) : Option (D × Store) := match x with
  | .lr n => (lat S n).bind fun ds => some (.lr S.length, S ++ [.lst (cutD ds lo hi)])
  | .tup ds => some (.tup (cutD ds lo hi), S)
  | _ => none
def mSl (m : MExp) (lo hi : MPart) : MExp := fun ρ S => (m ρ S).bind fun p => (lo ρ p.2).bind fun q => (hi ρ q.2).bind fun r => fSl p.1 q.1 r.1 r.2
theorem cutD_whole {ds : List D} {lo hi : Option Int} (h : HT.sIx ds.length 0 lo = 0 ∧ HT.sIx ds.length ds.length hi = ds.length) : cutD ds lo hi = ds := by
  unfold cutD
  rw [h.1, h.2]
  simp
theorem me_slice {e : Expr} {m : MExp} {lo hi : Option Expr} {ml mh : MPart} {pos p2 : Pos} (h : ME X e m) (hl : MP X lo ml) (hh : MP X hi mh) : ME X (.Subscript e (.Slice lo hi none p2) pos) (mSl m ml mh) := by
  refine ⟨PE.imp (pe_slice (sl_list.or sl_tupA) h.pe hl.po hh.po) fun σ H Q ⟨ρ, S, μ, d, S', st, e, q⟩ => ?_⟩
  unfold mSl at e
  obtain ⟨⟨d1, S1⟩, e1, e⟩ := Option.bind_eq_some_iff.mp e
  obtain ⟨⟨o1, S2⟩, e2, e⟩ := Option.bind_eq_some_iff.mp e
  obtain ⟨⟨o2, S3⟩, e3, e⟩ := Option.bind_eq_some_iff.mp e
  refine ⟨ρ, S, μ, d1, S1, st, e1, fun v H1 μ1 g1 s1 r1 => ?_⟩
  refine ⟨ρ, S1, μ1, o1, S2, st.grow g1 s1, e2, fun H2 μ2 g2 s2 => ?_⟩
  refine ⟨ρ, S2, μ2, o2, S3, st.grow (g1.trans g2) s2, e3, fun H3 μ3 g3 s3 => ?_⟩
  have r3 := r1.grow (g2.trans g3)
  have q3 : Aft X.K H3 μ3 d S' Q := fun v H' μ' g4 => q v H' μ' (((g1.trans g2).trans g3).trans g4)
  cases d1 with
  | lr n =>
    obtain ⟨ds, e4, e⟩ := Option.bind_eq_some_iff.mp (show ((lat S3 n).bind fun ds => some (D.lr S3.length, S3 ++ [.lst (cutD ds o1 o2)])) = some (d, S') from e)
    cases e
    obtain ⟨a, vs, rfl, h1, h2⟩ := s3.lat e4 r3
    exact .inl ⟨a, vs, rfl, h1, fun p hp => q3.lst s3 (h2.cut _ _) hp⟩
  | tup ds =>
    cases (show some (D.tup (cutD ds o1 o2), S3) = some (d, S') from e)
    cases r3 with
    | tup h1 h2 =>
    refine .inr ⟨_, _, rfl, sq _ _ h1, fun hw => ?_, fun hw p hp => q3.tup s3 (h2.cut _ _) hp⟩
    rw [h2.length] at hw
    exact q3.id s3 (by rw [cutD_whole hw]; exact .tup h1 h2)
  | _ => cases e
end
end MS

set_option Elab.async false
set_option linter.all false
set_option maxRecDepth 100000
set_option maxHeartbeats 4000000
namespace MS
open PySem PySem.Spec PyProof.Rows L2

/-! ### displays -/
def mTup (m : MArg) : MExp := fun ρ S => (m ρ S).bind fun p => if p.1.length ≤ szl then some (.tup p.1, p.2) else none
def mLst (m : MArg) : MExp := fun ρ S => (m ρ S).bind fun p => if p.1.length ≤ szl then some (.lr p.2.length, p.2 ++ [.lst p.1]) else none
section
variable {X : Cx} {es : List Expr} {m : MArg} {pos : Pos}
theorem me_tup {x1} (h : MA X es m) : ME X (.Tuple es x1 pos) (mTup m) :=
  ⟨PE.imp (pe_tup h.pa) fun σ H Q ⟨ρ, S, μ, d, S', st, e, q⟩ => by
    unfold mTup at e
    obtain ⟨⟨ds, S1⟩, e1, e⟩ := Option.bind_eq_some_iff.mp e
    split at e
    · rename_i hz
      cases e
      exact ⟨ρ, S, μ, ds, _, st, e1, fun vs H1 μ1 g1 s1 r1 => ⟨by rw [r1.length]; exact szl_le hz, fun p hp => Aft.tup (fun v H' μ' g2 => q v H' μ' (g1.trans g2)) s1 r1 hp⟩⟩
    · cases e⟩
theorem me_lst (h : MA X es m) : ME X (.List es pos) (mLst m) :=
  ⟨PE.imp (pe_lst h.pa) fun σ H Q ⟨ρ, S, μ, d, S', st, e, q⟩ => by
    unfold mLst at e
    obtain ⟨⟨ds, S1⟩, e1, e⟩ := Option.bind_eq_some_iff.mp e
    split at e
    · rename_i hz
      cases e
      exact ⟨ρ, S, μ, ds, _, st, e1, fun vs H1 μ1 g1 s1 r1 => ⟨by rw [r1.length]; exact szl_le hz, fun p hp => Aft.lst (fun v H' μ' g2 => q v H' μ' (g1.trans g2)) s1 r1 hp⟩⟩
    · cases e⟩
end

/-! ### tests -/
def mB (m : MExp) : MTst := fun ρ S => (m ρ S).bind fun p => match p.1 with
  | .bl b => some (b, p.2)
  | _ => none
def mAnd (a b : MTst) : MTst := fun ρ S => (a ρ S).bind fun p => if p.1 then b ρ p.2 else some (false, p.2)
def mOr (a b : MTst) : MTst := fun ρ S => (a ρ S).bind fun p => if p.1 then some (true, p.2) else b ρ p.2
def mNot (a : MTst) : MTst := fun ρ S => (a ρ S).bind fun p => some (!p.1, p.2)
def mIf (t : MTst) (a b : MExp) : MExp := fun ρ S => (t ρ S).bind fun p => if p.1 then a ρ p.2 else b ρ p.2
def mBV (t : MTst) : MExp := fun ρ S => (t ρ S).bind fun p => some (.bl p.1, p.2)
section
variable {X : Cx} {a b c e : Expr} {rest : List Expr} {m : MExp} {ta tb : MTst} {ma mb : MExp} {pos : Pos}
theorem tT_val {σ : L2.St} {H : Hp} {Q : Bool → Hp → Prop} (h : tT X.K (mB m) σ H Q) : tE X.K m σ H fun x H1 => ∃ k, x = .bl k ∧ Q k H1 := by
  obtain ⟨ρ, S, μ, k, S', st, e, q⟩ := h
  unfold mB at e
  obtain ⟨⟨d, S1⟩, e1, e⟩ := Option.bind_eq_some_iff.mp e
  refine ⟨ρ, S, μ, d, S1, st, e1, fun v H1 μ1 g1 s1 r1 => ?_⟩
  cases d with
  | bl b => cases e; cases r1; exact ⟨_, rfl, q H1 μ1 g1 s1⟩
  | _ => cases e
theorem mt_val (h : ME X e m) (he : ∀ whole, isTrue e X.env whole = (do let v ← whole; standAt e.pos; holding [v] (truthy v)) := by intro _; rfl) : MT X e (mB m) := ⟨PT.imp (pt_val h.pe he) fun _ _ _ h => tT_val h⟩
theorem mt_cmp {f : DOp2} {op : CmpOp} (ho : OpR X (compareOp op) (rM X.K f)) (ha : ME X a ma) (hb : ME X b mb) (hm : behindInMarks op b = false) : MT X (.Compare a [op] [b] pos) (mB (mBin f ma mb)) :=
  ⟨PT.imp (pt_cmpR ho ha.pe hb.pe hm) fun σ H Q h => by
    obtain ⟨ρ, S, μ, d, S', st, e, q⟩ := tT_val h
    exact tE_bin ⟨ρ, S, μ, d, S', st, e, q⟩⟩
theorem tT_and {σ : L2.St} {H : Hp} {Q : Bool → Hp → Prop} (h : tT X.K (mAnd ta tb) σ H Q) : tAnd (tT X.K ta) (tT X.K tb) σ H Q := by
  obtain ⟨ρ, S, μ, k, S', st, e, q⟩ := h
  unfold mAnd at e
  obtain ⟨⟨k1, S1⟩, e1, e⟩ := Option.bind_eq_some_iff.mp e
  refine ⟨ρ, S, μ, k1, S1, st, e1, fun H1 μ1 g1 s1 => ?_⟩
  cases k1 with
  | true => exact iteT ⟨ρ, S1, μ1, k, S', st.grow g1 s1, e, fun H2 μ2 g2 s2 => q H2 μ2 (g1.trans g2) s2⟩
  | false => cases e; exact iteF (q H1 μ1 g1 s1)
theorem tT_or {σ : L2.St} {H : Hp} {Q : Bool → Hp → Prop} (h : tT X.K (mOr ta tb) σ H Q) : tOr (tT X.K ta) (tT X.K tb) σ H Q := by
  obtain ⟨ρ, S, μ, k, S', st, e, q⟩ := h
  unfold mOr at e
  obtain ⟨⟨k1, S1⟩, e1, e⟩ := Option.bind_eq_some_iff.mp e
  refine ⟨ρ, S, μ, k1, S1, st, e1, fun H1 μ1 g1 s1 => ?_⟩
  cases k1 with
  | false => exact iteF ⟨ρ, S1, μ1, k, S', st.grow g1 s1, e, fun H2 μ2 g2 s2 => q H2 μ2 (g1.trans g2) s2⟩
  | true => cases e; exact iteT (q H1 μ1 g1 s1)
theorem mw_and1 (h : MT X a ta) : MW X (.BoolOp .And [a] pos) ta := ⟨pw_and1 h.pt⟩
theorem mw_or1 (h : MT X a ta) : MW X (.BoolOp .Or [a] pos) ta := ⟨pw_or1 h.pt⟩
theorem mw_and (h : MT X a ta) (k : MW X (.BoolOp .And (b :: rest) pos) tb) : MW X (.BoolOp .And (a :: b :: rest) pos) (mAnd ta tb) := ⟨PW.imp (pw_and h.pt k.pw) fun _ _ _ h => tT_and h⟩
theorem mw_or (h : MT X a ta) (k : MW X (.BoolOp .Or (b :: rest) pos) tb) : MW X (.BoolOp .Or (a :: b :: rest) pos) (mOr ta tb) := ⟨PW.imp (pw_or h.pt k.pw) fun _ _ _ h => tT_or h⟩
theorem MW.mt (h : MW X e ta) : MT X e ta := ⟨h.pw.pt⟩
theorem mt_not (h : MT X a ta) : MT X (.UnaryOp .Not a pos) (mNot ta) := ⟨PT.imp (pt_not h.pt) fun σ H Q ⟨ρ, S, μ, k, S', st, e, q⟩ => by
  unfold mNot at e
  obtain ⟨⟨k1, S1⟩, e1, e⟩ := Option.bind_eq_some_iff.mp e
  cases e
  exact ⟨ρ, S, μ, k1, _, st, e1, fun H1 μ1 g1 s1 => q H1 μ1 g1 s1⟩⟩
theorem me_ifExp (hc : MT X c ta) (ha : ME X a ma) (hb : ME X b mb) : ME X (.IfExp c a b pos) (mIf ta ma mb) := ⟨PE.imp (pe_ifExp hc.pt ha.pe hb.pe) fun σ H Q ⟨ρ, S, μ, d, S', st, e, q⟩ => by
  unfold mIf at e
  obtain ⟨⟨k1, S1⟩, e1, e⟩ := Option.bind_eq_some_iff.mp e
  refine ⟨ρ, S, μ, k1, S1, st, e1, fun H1 μ1 g1 s1 => ?_⟩
  have q' : Aft X.K H1 μ1 d S' Q := fun v H2 μ2 g2 => q v H2 μ2 (g1.trans g2)
  cases k1 with
  | true => exact iteT ⟨ρ, S1, μ1, d, S', st.grow g1 s1, e, q'⟩
  | false => exact iteF ⟨ρ, S1, μ1, d, S', st.grow g1 s1, e, q'⟩⟩
/-- and, or, not as values (bools) -/
def mAndV (a b : MExp) : MExp := fun ρ S => (a ρ S).bind fun p => match p.1 with
  | .bl true => b ρ p.2
  | .bl false => some (.bl false, p.2)
  | _ => none
def mOrV (a b : MExp) : MExp := fun ρ S => (a ρ S).bind fun p => match p.1 with
  | .bl false => b ρ p.2
  | .bl true => some (.bl true, p.2)
  | _ => none
def mNotV (a : MExp) : MExp := fun ρ S => (a ρ S).bind fun p => match p.1 with
  | .bl b => some (.bl (!b), p.2)
  | _ => none
theorem me_one {op} (h : ME X a m) : ME X (.BoolOp op [a] pos) m := ⟨pe_one h.pe⟩
theorem me_and (ha : ME X a ma) (hb : ME X (.BoolOp .And (b :: rest) pos) mb) : ME X (.BoolOp .And (a :: b :: rest) pos) (mAndV ma mb) := ⟨PE.imp (pe_and ha.pe hb.pe) fun σ H Q ⟨ρ, S, μ, d, S', st, e, q⟩ => by
  obtain ⟨⟨d1, S1⟩, e1, e⟩ := Option.bind_eq_some_iff.mp e
  refine ⟨ρ, S, μ, d1, S1, st, e1, fun v H1 μ1 g1 s1 r1 => ?_⟩
  cases d1 with
  | bl k =>
    cases r1
    cases k with
    | true => exact ⟨_, rfl, iteT ⟨ρ, S1, μ1, d, S', st.grow g1 s1, e, fun v H2 μ2 g2 => q v H2 μ2 (g1.trans g2)⟩⟩
    | false => cases e; exact ⟨_, rfl, iteF (q _ H1 μ1 g1 s1 (.bl _))⟩
  | _ => cases e⟩
theorem me_or (ha : ME X a ma) (hb : ME X (.BoolOp .Or (b :: rest) pos) mb) : ME X (.BoolOp .Or (a :: b :: rest) pos) (mOrV ma mb) := ⟨PE.imp (pe_or ha.pe hb.pe) fun σ H Q ⟨ρ, S, μ, d, S', st, e, q⟩ => by
  obtain ⟨⟨d1, S1⟩, e1, e⟩ := Option.bind_eq_some_iff.mp e
  refine ⟨ρ, S, μ, d1, S1, st, e1, fun v H1 μ1 g1 s1 r1 => ?_⟩
  cases d1 with
  | bl k =>
    cases r1
    cases k with
    | false => exact ⟨_, rfl, iteF ⟨ρ, S1, μ1, d, S', st.grow g1 s1, e, fun v H2 μ2 g2 => q v H2 μ2 (g1.trans g2)⟩⟩
    | true => cases e; exact ⟨_, rfl, iteT (q _ H1 μ1 g1 s1 (.bl _))⟩
  | _ => cases e⟩
theorem me_not (ha : ME X a ma) : ME X (.UnaryOp .Not a pos) (mNotV ma) := ⟨PE.imp (pe_not ha.pe) fun σ H Q ⟨ρ, S, μ, d, S', st, e, q⟩ => by
  obtain ⟨⟨d1, S1⟩, e1, e⟩ := Option.bind_eq_some_iff.mp e
  refine ⟨ρ, S, μ, d1, S1, st, e1, fun v H1 μ1 g1 s1 r1 => ?_⟩
  cases d1 with
  | bl k => cases r1; cases e; exact ⟨_, rfl, q _ H1 μ1 g1 s1 (.bl _)⟩
  | _ => cases e⟩
/-- -a -/
def mNeg (a : MExp) : MExp := fun ρ S => (a ρ S).bind fun p => match p.1 with
  | .int i => some (.int (-i), p.2)
  | _ => none
theorem me_neg (ha : ME X a ma) : ME X (.UnaryOp .USub a pos) (mNeg ma) := ⟨PE.imp (pe_un un_neg ha.pe) fun σ H Q ⟨ρ, S, μ, d, S', st, e, q⟩ => by
  obtain ⟨⟨d1, S1⟩, e1, e⟩ := Option.bind_eq_some_iff.mp e
  refine ⟨ρ, S, μ, d1, S1, st, e1, fun v H1 μ1 g1 s1 r1 => ?_⟩
  cases d1 with
  | int k => cases r1; cases e; exact ⟨_, rfl, q _ H1 μ1 g1 s1 (.int _)⟩
  | _ => cases e⟩
/-- a op1 b op2 c -/
def mChain (f g : DOp2) (ma mb mc : MExp) : MExp := fun ρ S => (ma ρ S).bind fun p => (mb ρ p.2).bind fun q => (f p.1 q.1 q.2).bind fun r => match r.1 with
  | .bl true => (mc ρ r.2).bind fun t => g q.1 t.1 t.2
  | .bl false => some (.bl false, r.2)
  | _ => none
theorem tE_chain {f g : DOp2} {mc : MExp} {σ : L2.St} {H : Hp} {Q : VK} (h : tE X.K (mChain f g ma mb mc) σ H Q) : tChain (rM X.K f) (rM X.K g) (tE X.K ma) (tE X.K mb) (tE X.K mc) σ H Q := by
  obtain ⟨ρ, S, μ, d, S', st, e, q⟩ := h
  obtain ⟨⟨d1, S1⟩, e1, e⟩ := Option.bind_eq_some_iff.mp e
  obtain ⟨⟨d2, S2⟩, e2, e⟩ := Option.bind_eq_some_iff.mp e
  obtain ⟨⟨d3, S3⟩, e3, e⟩ := Option.bind_eq_some_iff.mp e
  refine ⟨ρ, S, μ, d1, S1, st, e1, fun v H1 μ1 g1 s1 r1 => ?_⟩
  refine ⟨ρ, S1, μ1, d2, S2, st.grow g1 s1, e2, fun u H2 μ2 g2 s2 r2 => ?_⟩
  refine ⟨S2, μ2, d1, d2, d3, S3, s2, r1.grow g2, r2, e3, fun z H3 μ3 g3 s3 r3 => ?_⟩
  have g13 := (g1.trans g2).trans g3
  cases d3 with
  | bl k =>
    cases r3
    cases k with
    | false => cases e; exact ⟨_, rfl, iteF (q _ H3 μ3 g13 s3 (.bl _))⟩
    | true =>
      refine ⟨_, rfl, iteT ?_⟩
      obtain ⟨⟨d4, S4⟩, e4, e⟩ := Option.bind_eq_some_iff.mp e
      refine ⟨ρ, S3, μ3, d4, S4, st.grow g13 s3, e4, fun w' H4 μ4 g4 s4 r4 => ?_⟩
      exact ⟨S4, μ4, d2, d4, d, S', s4, r2.grow (g3.trans g4), r4, e, fun v' H5 μ5 g5 => q v' H5 μ5 ((g13.trans g4).trans g5)⟩
  | _ => cases e
theorem me_chain {f g : DOp2} {op op' : CmpOp} {mc : MExp} (ho : OpR X (compareOp op) (rM X.K f)) (ho' : OpR X (compareOp op') (rM X.K g)) (ha : ME X a ma) (hb : ME X b mb) (hc : ME X c mc)
    (hm : lastMarks [op, op'] [b, c] = false := by with_unfolding_all rfl) : ME X (.Compare a [op, op'] [b, c] pos) (mChain f g ma mb mc) := ⟨PE.imp (pe_chain ho ho' ha.pe hb.pe hc.pe hm) fun _ _ _ h => tE_chain h⟩
theorem mt_chain {f g : DOp2} {op op' : CmpOp} {mc : MExp} (ho : OpR X (compareOp op) (rM X.K f)) (ho' : OpR X (compareOp op') (rM X.K g)) (ha : ME X a ma) (hb : ME X b mb) (hc : ME X c mc)
    (hm : lastMarks [op, op'] [b, c] = false := by with_unfolding_all rfl) : MT X (.Compare a [op, op'] [b, c] pos) (mB (mChain f g ma mb mc)) := ⟨PT.imp (pt_chain ho ho' ha.pe hb.pe hc.pe hm) fun σ H Q h => tE_chain (tT_val h)⟩
end

/-! ### statements -/
def mNx : MStm := fun ρ S => some (.nx, ρ, S)
def mBk : MStm := fun ρ S => some (.bk, ρ, S)
def mCt : MStm := fun ρ S => some (.ct, ρ, S)
def mSeq (a b : MStm) : MStm := fun ρ S => (a ρ S).bind fun p => match p.1 with
  | .nx => b p.2.1 p.2.2
  | f => some (f, p.2.1, p.2.2)
def mRet (m : MExp) : MStm := fun ρ S => (m ρ S).bind fun p => some (.rt p.1, ρ, p.2)
def mRetN : MStm := fun ρ S => some (.rt .non, ρ, S)
def mDrop (m : MExp) : MStm := fun ρ S => (m ρ S).bind fun p => some (.nx, ρ, p.2)
def mIfS (t : MTst) (a b : MStm) : MStm := fun ρ S => (t ρ S).bind fun p => if p.1 then a ρ p.2 else b ρ p.2
def mAsg (m : MExp) (g : MTg) : MStm := fun ρ S => (m ρ S).bind fun p => (g p.1 ρ p.2).bind fun q => some (.nx, q.1, q.2)
theorem EndOf.mono {K : PySem.W.Frag} {D1 D2 : Ends} {f : Fl} {σ : L2.St} {H : Hp} {μ : List Addr} (h : EndOf K D1 f σ H μ) (hn : ∀ σ H, D1.nx σ H → D2.nx σ H) (hr : ∀ v H, D1.rt v H → D2.rt v H) (hb : ∀ σ H, D1.bk σ H → D2.bk σ H) (hc : ∀ σ H, D1.ct σ H → D2.ct σ H) : EndOf K D2 f σ H μ := by
  cases f with
  | nx => exact hn _ _ h
  | bk => exact hb _ _ h
  | ct => exact hc _ _ h
  | rt d => exact fun v r => hr _ _ (h v r)
section
variable {X : Cx} {st : Stmt} {rest : List Stmt} {m m' : MStm} {e : Expr} {me : MExp} {pos : Pos}
theorem mss_nil : MSs X [] mNx := ⟨PSs.imp pss_nil fun D σ H ⟨ρ, S, μ, f, ρ', S', s, e, q⟩ => by cases e; exact q σ H μ .refl s⟩
theorem mss_cons (h : MS_ X st m) (k : MSs X rest m') : MSs X (st :: rest) (mSeq m m') := ⟨PSs.imp (pss_cons h.ps k.pss) fun D σ H ⟨ρ, S, μ, f, ρ', S', s, e, q⟩ => by
  obtain ⟨⟨f1, ρ1, S1⟩, e1, e⟩ := Option.bind_eq_some_iff.mp e
  refine ⟨ρ, S, μ, f1, ρ1, S1, s, e1, fun σ1 H1 μ1 g1 s1 => ?_⟩
  cases f1 with
  | nx => exact ⟨ρ1, S1, μ1, f, ρ', S', s1, e, fun σ2 H2 μ2 g2 s2 => q σ2 H2 μ2 (g1.trans g2) s2⟩
  | bk => cases e; exact q σ1 H1 μ1 g1 s1
  | ct => cases e; exact q σ1 H1 μ1 g1 s1
  | rt d => cases e; exact q σ1 H1 μ1 g1 s1⟩
theorem mss_one (h : MS_ X st m) : MSs X [st] m := ⟨pss_one h.ps⟩
theorem ms_pass : MS_ X (.Pass pos) mNx := ⟨PS.imp ps_pass fun D σ H ⟨ρ, S, μ, f, ρ', S', s, e, q⟩ => by cases e; exact q σ H μ .refl s⟩
theorem ms_break : MS_ X (.Break pos) mBk := ⟨PS.imp ps_break fun D σ H ⟨ρ, S, μ, f, ρ', S', s, e, q⟩ => by cases e; exact q σ H μ .refl s⟩
theorem ms_continue : MS_ X (.Continue pos) mCt := ⟨PS.imp ps_continue fun D σ H ⟨ρ, S, μ, f, ρ', S', s, e, q⟩ => by cases e; exact q σ H μ .refl s⟩
theorem ms_ret (h : ME X e me) : MS_ X (.Return (some e) pos) (mRet me) := ⟨PS.imp (ps_ret h.pe) fun D σ H ⟨ρ, S, μ, f, ρ', S', s, e, q⟩ => by
  obtain ⟨⟨d, S1⟩, e1, e⟩ := Option.bind_eq_some_iff.mp e
  cases e
  exact ⟨ρ, S, μ, d, S1, s, e1, fun v H1 μ1 g1 s1 r1 => q σ H1 μ1 g1 (s.grow g1 s1) v r1⟩⟩
theorem ms_retN : MS_ X (.Return none pos) mRetN := ⟨PS.imp ps_retN fun D σ H ⟨ρ, S, μ, f, ρ', S', s, e, q⟩ => by cases e; exact q σ H μ .refl s _ .non⟩
theorem ms_expr (h : ME X e me) (hs : swapsWith e none pos.line X.env = pure false := by rfl) : MS_ X (.Expr e pos) (mDrop me) := ⟨PS.imp (ps_expr h.pe hs) fun D σ H ⟨ρ, S, μ, f, ρ', S', s, e, q⟩ => by
  obtain ⟨⟨d, S1⟩, e1, e⟩ := Option.bind_eq_some_iff.mp e
  cases e
  exact ⟨ρ, S, μ, d, S1, s, e1, fun v H1 μ1 g1 s1 r1 => q σ H1 μ1 g1 (s.grow g1 s1)⟩⟩
theorem ms_if {c : Expr} {a b : List Stmt} {t : MTst} (hc : MT X c t) (ha : MSs X a m) (hb : MSs X b m') : MS_ X (.If c a b pos) (mIfS t m m') := ⟨PS.imp (ps_if hc.pt ha.pss hb.pss) fun D σ H ⟨ρ, S, μ, f, ρ', S', s, e, q⟩ => by
  obtain ⟨⟨k, S1⟩, e1, e⟩ := Option.bind_eq_some_iff.mp e
  refine ⟨ρ, S, μ, k, S1, s, e1, fun H1 μ1 g1 s1 => ?_⟩
  have q' : ∀ σ' H' μ', Grow H1 H' μ1 μ' → Sim X.K H' μ' σ' ρ' S' → EndOf X.K D f σ' H' μ' := fun σ2 H2 μ2 g2 s2 => q σ2 H2 μ2 (g1.trans g2) s2
  cases k with
  | true => exact iteT ⟨ρ, S1, μ1, f, ρ', S', s.grow g1 s1, e, q'⟩
  | false => exact iteF ⟨ρ, S1, μ1, f, ρ', S', s.grow g1 s1, e, q'⟩⟩
/-! ### targets -/
def mName (i : Nat) : MTg := fun d ρ S => some (ρ.set i (some d), S)
abbrev MTgs := List D → Ev → Store → Option (Ev × Store)
def tGs (K : PySem.W.Frag) (m : MTgs) : TGs := fun vs σ H Q => ∃ ds ρ S μ ρ' S', Sim K H μ σ ρ S ∧ RpA K H μ vs ds ∧ m ds ρ S = some (ρ', S') ∧ ∀ σ' H' μ', Grow H H' μ μ' → Sim K H' μ' σ' ρ' S' → Q σ' H'
structure MGs (X : Cx) (ts : List Expr) (m : MTgs) : Prop where
  pgs : PGs X ts (tGs X.K m)
theorem PGs.imp {ts : List Expr} {t t' : TGs} (h : PGs X ts t) (i : ∀ vs σ H Q, t' vs σ H Q → t vs σ H Q) : PGs X ts t' := ⟨fun pins s σ H vs us Q I r q => h.run pins s σ H vs us Q I r (i _ _ _ _ q)⟩
def mgNil : MTgs := fun ds ρ S => match ds with
  | [] => some (ρ, S)
  | _ => none
def mgCons (g : MTg) (r : MTgs) : MTgs := fun ds ρ S => match ds with
  | d :: ds => (g d ρ S).bind fun p => r ds p.1 p.2
  | [] => none
def mgTup (r : MTgs) (n : Nat) : MTg := fun d ρ S => match d with
  | .tup ds => if ds.length = n then r ds ρ S else none
  | _ => none
def mgSub (mo mi : MExp) : MTg := fun d ρ S => (mo ρ S).bind fun p => (mi ρ p.2).bind fun q => match p.1, q.1 with
  | .lr n, .int k => (mat q.2 n).bind fun ds => (ixN ds.length k).bind fun j => some (ρ, q.2.set n (.lst (ds.set j d)))
  | _, _ => none
theorem mg_name {i : Nat} {x : Str} (hN : X.N.Nodup) (hi : X.N[i]? = some x) (hx : Loc X.env.scope x) (hf : X.fn x = true ∨ X.env.scope.names.lookup x = some .local := by first | exact .inl rfl | exact .inr rfl | assumption) : MG X (.Name x pos) (mName i) :=
  ⟨PG.imp (pg_name hN hi hx hf) fun v σ H Q ⟨d, ρ, S, μ, ρ', S', s, r, e, q⟩ => by cases e; exact q _ H μ .refl (s.set i r)⟩
theorem mgs_nil : MGs X [] mgNil := ⟨PGs.imp pgs_nil fun vs σ H Q ⟨ds, ρ, S, μ, ρ', S', s, r, e, q⟩ => by
  cases ds with
  | nil => cases e; cases r; exact ⟨rfl, q σ H μ .refl s⟩
  | cons _ _ => cases e⟩
theorem mgs_cons {e : Expr} {es : List Expr} {g : MTg} {r : MTgs} (h1 : MG X e g) (h2 : MGs X es r) (hs : (assignEach (e :: es) X.env).map (·.2) = assign e X.env :: (assignEach es X.env).map (·.2) := by rfl) : MGs X (e :: es) (mgCons g r) :=
  ⟨PGs.imp (pgs_cons h1.pg h2.pgs hs) fun vs σ H Q ⟨ds, ρ, S, μ, ρ', S', s, rr, e, q⟩ => by
    cases ds with
    | nil => cases e
    | cons d ds =>
      cases rr with
      | cons r1 r2 =>
      obtain ⟨⟨ρ1, S1⟩, e1, e⟩ := Option.bind_eq_some_iff.mp (show ((g d ρ S).bind fun p => r ds p.1 p.2) = some (ρ', S') from e)
      exact ⟨_, _, rfl, d, ρ, S, μ, ρ1, S1, s, r1, e1, fun σ1 H1 μ1 g1 s1 => ⟨ds, ρ1, S1, μ1, ρ', S', s1, r2.grow g1, e, fun σ2 H2 μ2 g2 s2 => q σ2 H2 μ2 (g1.trans g2) s2⟩⟩⟩
theorem mg_tup {es : List Expr} {k : Nat} {r : MTgs} {n : Nat} (hc : X.calm = true) (h : MGs X es r) (hn : (assignEach es X.env).length = n := by rfl) (hst : (assignEach es X.env).findIdx? (·.1) = none := by rfl) : MG X (.Tuple es k pos) (mgTup r n) :=
  ⟨PG.imp (pg_tup hc h.pgs hn hst) fun v σ H Q ⟨d, ρ, S, μ, ρ', S', s, rr, e, q⟩ => by
    cases d with
    | tup ds =>
      cases rr with
      | tup h1 h2 =>
      have e : (if ds.length = n then r ds ρ S else none) = some (ρ', S') := e
      split at e
      · rename_i hl
        exact ⟨_, _, rfl, sq _ _ h1, by rw [h2.length]; exact hl, ds, ρ, S, μ, ρ', S', s, h2, e, q⟩
      · cases e
    | _ => cases e⟩
theorem RpA.ixN {K : PySem.W.Frag} {H : Hp} {μ : List Addr} {vs : List V} {ds : List D} {i : Int} (r : RpA K H μ vs ds) : L2.ixN vs.length i = L2.ixN ds.length i := by rw [r.length]
theorem mg_sub {o i : Expr} {mo mi : MExp} (ho : ME X o mo) (hi : ME X i mi)
    (ha : ∀ v, assign (.Subscript o i pos) X.env v = (do
      let ov ← holding [v] (eval o X.env)
      let iv ← holding [v, ov] (eval i X.env)
      standAt pos
      holding [v, ov, iv] (setItem ov iv v)
      release [v, ov, iv] []) := by intro _; rfl) : MG X (.Subscript o i pos) (mgSub mo mi) :=
  ⟨PG.imp (pg_sub ho.pe hi.pe set_list ha) fun v σ H Q ⟨d, ρ, S, μ, ρ', S', s, rr, e, q⟩ => by
    obtain ⟨⟨d1, S1⟩, e1, e⟩ := Option.bind_eq_some_iff.mp e
    obtain ⟨⟨d2, S2⟩, e2, e⟩ := Option.bind_eq_some_iff.mp e
    refine ⟨ρ, S, μ, d1, S1, s, e1, fun v1 H1 μ1 g1 s1 r1 => ⟨ρ, S1, μ1, d2, S2, s.grow g1 s1, e2, fun v2 H2 μ2 g2 s2 r2 => ?_⟩⟩
    cases d1 with
    | lr n =>
      cases d2 with
      | int k =>
        obtain ⟨ds, e3, e⟩ := Option.bind_eq_some_iff.mp (show ((mat S2 n).bind fun ds => (L2.ixN ds.length k).bind fun j => some (ρ, S2.set n (.lst (ds.set j d)))) = some (ρ', S') from e)
        obtain ⟨j, e4, e⟩ := Option.bind_eq_some_iff.mp e
        cases e
        cases r2
        obtain ⟨a, vs, rfl, h1, h2, h3⟩ := s2.mat e3 (r1.grow g2)
        refine ⟨a, vs, k, j, rfl, rfl, h2, by rw [h3.ixN]; exact e4, ?_⟩
        have g12 := g1.trans g2
        refine q σ _ μ2 (g12.trans (.wr h2)) ?_
        exact (s.grow g12 s2).grow (.wr h2) (s2.wr (mat_eq e3) h1 (h3.set (rr.grow g12) j))
      | _ => cases e
    | _ => cases e⟩
/-! ### assignments -/
theorem tS_asg {g : MTg} {D_ : Ends} {σ : L2.St} {H : Hp} (h : tS X.K (mAsg me g) D_ σ H) : tAsg (tE X.K me) (tG X.K g) D_ σ H := by
  obtain ⟨ρ, S, μ, f, ρ', S', s, e, q⟩ := h
  obtain ⟨⟨d, S1⟩, e1, e⟩ := Option.bind_eq_some_iff.mp e
  obtain ⟨⟨ρ2, S2⟩, e2, e⟩ := Option.bind_eq_some_iff.mp e
  cases e
  exact ⟨ρ, S, μ, d, S1, s, e1, fun v H1 μ1 g1 s1 r1 => ⟨d, ρ, S1, μ1, _, _, s.grow g1 s1, r1, e2, fun σ2 H2 μ2 g2 s2 => q σ2 H2 μ2 (g1.trans g2) s2⟩⟩
theorem ms_asg {tg : Expr} {g : MTg} (he : ME X e me) (hg : MG X tg g) (hs : swapsWithSole [tg] e pos.line X.env = pure false := by rfl) (hw : swappedStores [tg] e X.env = pure none := by rfl)
    (h1 : (assignEach [tg] X.env).map (·.2) = [assign tg X.env] := by rfl) : MS_ X (.Assign [tg] e pos) (mAsg me g) := ⟨PS.imp (ps_asg he.pe hg.pg hs hw h1) fun _ _ _ h => tS_asg h⟩
theorem ms_set {i : Nat} {x : Str} {pos' : Pos} (hN : X.N.Nodup) (hi : X.N[i]? = some x) (hx : Loc X.env.scope x) (he : ME X e me) (hs : swapsWith e (some (.Name x pos')) pos.line X.env = pure false := by rfl)
    (hf : X.fn x = true ∨ X.env.scope.names.lookup x = some .local := by first | exact .inl rfl | exact .inr rfl | assumption) : MS_ X (.Assign [.Name x pos'] e pos) (mAsg me (mName i)) :=
  ⟨PS.imp (ps_set hN hi hx he.pe hs hf) fun D_ σ H h => by
    obtain ⟨ρ, S, μ, f, ρ', S', s, e, q⟩ := h
    obtain ⟨⟨d, S1⟩, e1, e⟩ := Option.bind_eq_some_iff.mp e
    cases e
    exact ⟨ρ, S, μ, d, _, s, e1, fun v H1 μ1 g1 s1 r1 => q _ H1 μ1 g1 ((s.grow g1 s1).set i r1)⟩⟩
/-- a, b = x, y -/
def mPar (i j : Nat) (m : MArg) : MStm := fun ρ S => (m ρ S).bind fun p => match p.1 with
  | [a, b] => some (.nx, (ρ.set i (some a)).set j (some b), p.2)
  | _ => none
theorem ms_par {i j : Nat} {x y : Str} {a b : Expr} {m : MArg} {px py pt : Pos} {kt k2 pt2} (hc : X.calm = true) (hN : X.N.Nodup) (hi : X.N[i]? = some x) (hj : X.N[j]? = some y) (hij : i ≠ j)
    (hx : X.env.scope.names.lookup x = some .local) (hy : X.env.scope.names.lookup y = some .local) (ha : MA X [a, b] m)
    (hw : swappedStores [.Tuple [.Name x px, .Name y py] kt pt] (.Tuple [a, b] k2 pt2) X.env = pure (some [x, y]) := by rfl)
    (hs : swapsWithSole [.Tuple [.Name x px, .Name y py] kt pt] (.Tuple [a, b] k2 pt2) pos.line X.env = pure false := by rfl) :
    MS_ X (.Assign [.Tuple [.Name x px, .Name y py] kt pt] (.Tuple [a, b] k2 pt2) pos) (mPar i j m) :=
  ⟨PS.imp (ps_par hc hN hi hj hij hx hy ha.pa hw hs) fun D_ σ H ⟨ρ, S, μ, f, ρ', S', s, e, q⟩ => by
    obtain ⟨⟨ds, S1⟩, e1, e⟩ := Option.bind_eq_some_iff.mp e
    refine ⟨ρ, S, μ, ds, S1, s, e1, fun vs H1 μ1 g1 s1 r1 => ?_⟩
    match ds, r1, e with
    | [a, b], .cons ra (.cons rb .nil), e =>
      cases e
      exact ⟨_, _, rfl, q _ H1 μ1 g1 (((s.grow g1 s1).set i ra).set j rb)⟩
    | [], _, e => cases e
    | [_], _, e => cases e
    | _ :: _ :: _ :: _, _, e => cases e⟩
/-- x op= e -/
def mAug (i : Nat) (f : DOp2) (m : MExp) : MStm := fun ρ S => match ρ[i]? with
  | some (some d) => (m ρ S).bind fun p => (f d p.1 p.2).bind fun q => some (.nx, ρ.set i (some q.1), q.2)
  | _ => none
theorem ms_aug {i : Nat} {x : Str} {op : Operator} {f : DOp2} {pos' : Pos} (hN : X.N.Nodup) (hi : X.N[i]? = some x) (hx : Loc X.env.scope x) (he : ME X e me) (ho : PIp X op (rM X.K f))
    (hf : X.fn x = true ∨ X.env.scope.names.lookup x = some .local := by first | exact .inl rfl | exact .inr rfl | assumption) : MS_ X (.AugAssign (.Name x pos') op e pos) (mAug i f me) :=
  ⟨PS.imp (ps_aug hN hi hx he.pe ho hf) fun D_ σ H ⟨ρ, S, μ, f', ρ', S', s, e, q⟩ => by
    unfold mAug at e
    split at e
    · rename_i d hd
      obtain ⟨⟨d1, S1⟩, e1, e⟩ := Option.bind_eq_some_iff.mp e
      obtain ⟨⟨d2, S2⟩, e2, e⟩ := Option.bind_eq_some_iff.mp e
      cases e
      obtain ⟨v0, h1, h2⟩ := s.sl i d hd
      refine ⟨v0, h1, ρ, S, μ, d1, S1, s, e1, fun v H1 μ1 g1 s1 r1 => ?_⟩
      refine ⟨S1, μ1, d, d1, d2, _, s1, h2.grow g1, r1, e2, fun v2 H2 μ2 g2 s2 r2 => ?_⟩
      exact q _ H2 μ2 (g1.trans g2) ((s.grow (g1.trans g2) s2).set i r2)
    · cases e⟩
theorem i_add : PIp X .Add (rM X.K (fI fun i j => i + j)) := by
  intro pins s σ H x y v u Q I r1 r2 ⟨S, μ, dx, dy, d, S', st, px, py, e, q⟩
  unfold fI at e
  split at e
  · cases e; cases px; cases py
    exact ip_add pins s σ H _ _ v u Q I r1 r2 ⟨_, _, rfl, rfl, q.id st (.int _)⟩
  · cases e
theorem i_sub : PIp X .Sub (rM X.K (fI fun i j => i - j)) := by
  intro pins s σ H x y v u Q I r1 r2 ⟨S, μ, dx, dy, d, S', st, px, py, e, q⟩
  unfold fI at e
  split at e
  · cases e; cases px; cases py
    exact ip_sub pins s σ H _ _ v u Q I r1 r2 ⟨_, _, rfl, rfl, q.id st (.int _)⟩
  · cases e
end
end MS

set_option Elab.async false
set_option linter.all false
set_option maxRecDepth 100000
set_option maxHeartbeats 4000000
namespace MS
open PySem PySem.Spec PyProof.Rows L2

mutual
def D.same : D → D → Bool
  | .non, .non => true
  | .bl a, .bl b => a == b
  | .int a, .int b => decide (a = b)
  | .str a, .str b => decide (a = b)
  | .tup a, .tup b => D.sameA a b
  | .lr a, .lr b => decide (a = b)
  | _, _ => false
def D.sameA : List D → List D → Bool
  | [], [] => true
  | a :: as, b :: bs => D.same a b && D.sameA as bs
  | _, _ => false
end
mutual
theorem D.same_eq : ∀ a b : D, D.same a b = true → a = b
  | .non, b, h => by cases b <;> first | rfl | cases h
  | .bl a, b, h => by
    cases b with
    | bl b => rw [show a = b from eq_of_beq h]
    | _ => cases h
  | .int a, b, h => by
    cases b with
    | int b => rw [show a = b from of_decide_eq_true h]
    | _ => cases h
  | .str a, b, h => by
    cases b with
    | str b => rw [show a = b from of_decide_eq_true h]
    | _ => cases h
  | .lr a, b, h => by
    cases b with
    | lr b => rw [show a = b from of_decide_eq_true h]
    | _ => cases h
  | .tup a, b, h => by
    cases b with
    | tup b => rw [show a = b from D.sameA_eq a b h]
    | _ => cases h
theorem D.sameA_eq : ∀ a b : List D, D.sameA a b = true → a = b
  | [], b, h => by cases b <;> first | rfl | cases h
  | a :: as, b, h => by
    cases b with
    | nil => cases h
    | cons b bs =>
      have h : (D.same a b && D.sameA as bs) = true := h
      rw [Bool.and_eq_true] at h
      rw [D.same_eq a b h.1, D.sameA_eq as bs h.2]
end
mutual
theorem D.same_refl : ∀ a : D, D.same a a = true
  | .non => rfl
  | .bl a => beq_self_eq_true a
  | .int a => decide_eq_true rfl
  | .str a => decide_eq_true rfl
  | .lr a => decide_eq_true rfl
  | .tup a => D.sameA_refl a
theorem D.sameA_refl : ∀ a : List D, D.sameA a a = true
  | [] => rfl
  | a :: as => by
    show (D.same a a && D.sameA as as) = true
    rw [D.same_refl a, D.sameA_refl as]
    rfl
end
/-- the list at a handle is this one still -/
def still (n : Nat) (ds : List D) : Store → Bool := fun S => match lat S n with
  | some es => D.sameA es ds
  | none => false
theorem still_eq {n : Nat} {ds : List D} {S : Store} (h : still n ds S = true) : lat S n = some ds := by
  unfold still at h
  split at h
  · rename_i es e
    rw [e, D.sameA_eq es ds h]
  · cases h
theorem still_of {n : Nat} {ds : List D} {S : Store} (h : lat S n = some ds) : still n ds S = true := by
  unfold still
  rw [h]
  exact D.sameA_refl ds
def always : Store → Bool := fun _ => true

/-! ### what a loop walks -/
/-- from (H0, μ0) on J walks ds while ok holds of the store -/
structure IsIt (K : PySem.W.Frag) (J : It) (H0 : Hp) (μ0 : List Addr) (ds : List D) (ok : Store → Bool) : Prop where
  go : ∀ i H μ S, Grow H0 H μ0 μ → StR K H μ S → ok S = true → i < ds.length → J.go i H
  stop : ∀ H μ S, Grow H0 H μ0 μ → StR K H μ S → ok S = true → J.stop ds.length H
  yld : ∀ i H μ S x H', Grow H0 H μ0 μ → StR K H μ S → ok S = true → J.yld i H x H' → ∀ d, ds[i]? = some d → Grow H H' μ μ ∧ StR K H' μ S ∧ Rp K H' μ x d
abbrev MItr := Ev → Store → Option ((List D × (Store → Bool)) × Store)
def tI (K : PySem.W.Frag) (m : MItr) : TI := fun σ H R => ∃ ρ S μ p S', Sim K H μ σ ρ S ∧ m ρ S = some (p, S') ∧ ∀ J H' μ', Grow H H' μ μ' → StR K H' μ' S' → IsIt K J H' μ' p.1 p.2 → R J H'
structure MI (X : Cx) (tg iter : Expr) (m : MItr) : Prop where
  pi : PI X tg iter (tI X.K m)
theorem PI.imp {X : Cx} {tg iter : Expr} {t t' : TI} (h : PI X tg iter t) (i : ∀ σ H R, t' σ H R → t σ H R) : PI X tg iter t' := ⟨fun pins s σ H R I q => h.run pins s σ H R I (i _ _ _ q)⟩
theorem PI.or {X : Cx} {tg iter : Expr} {e : Expr} {t t' : TI} (h : ∀ pins s σ H R, Inv X pins σ H s → (t σ H R ∨ t' σ H R) → wpAny (model X.prog X.w) X.A (eval iter X.env) (fun v s1 => wpAny (model X.prog X.w) X.A (pyIter v) (PIE X pins σ tg R) X.xe s1) X.xe s) :
    PI X tg iter (fun σ H R => t σ H R ∨ t' σ H R) := ⟨h⟩
def mItems (m : MExp) : MItr := fun ρ S => (m ρ S).bind fun p => match p.1 with
  | .tup ds => some ((ds, always), p.2)
  | .lr n => (lat p.2 n).bind fun ds => some ((ds, still n ds), p.2)
  | _ => none
section
variable {X : Cx} {tg e : Expr} {m : MExp}
theorem isIt_list {K : PySem.W.Frag} {H0 : Hp} {μ0 : List Addr} {n : Nat} {a : Addr} {ds : List D} (r : Rp K H0 μ0 (.ref a) (.lr n)) : IsIt K (Itl K a) H0 μ0 ds (still n ds) where
  go := fun i H μ S g s h hi => by
    obtain ⟨a', vs, e1, h1, h2⟩ := s.lat (still_eq h) (r.grow g)
    cases e1
    have hi' : i < vs.length := by rw [h2.length]; exact hi
    exact ⟨vs, vs[i], h1, List.getElem?_eq_getElem hi'⟩
  stop := fun H μ S g s h => by
    obtain ⟨a', vs, e1, h1, h2⟩ := s.lat (still_eq h) (r.grow g)
    cases e1
    exact ⟨vs, h1, by rw [h2.length]; exact Nat.le_refl _⟩
  yld := fun i H μ S x H' g s h y d hd => by
    obtain ⟨rfl, y⟩ := y
    obtain ⟨a', vs, e1, h1, h2⟩ := s.lat (still_eq h) (r.grow g)
    cases e1
    obtain ⟨w, h3, h4⟩ := h2.get hd
    rw [y vs h1] at h3
    cases h3
    exact ⟨.refl, s, h4⟩
theorem isIt_tup {K : PySem.W.Frag} {H0 : Hp} {μ0 : List Addr} {a : Addr} {vs : List V} {ds : List D} (h1 : SqT K H0 a vs) (h2 : RpA K H0 μ0 vs ds) : IsIt K (Itt K a) H0 μ0 ds always where
  go := fun i H μ S g s h hi => by
    have hi' : i < vs.length := by rw [h2.length]; exact hi
    exact ⟨vs, vs[i], g.sqT h1, List.getElem?_eq_getElem hi'⟩
  stop := fun H μ S g s h => ⟨vs, g.sqT h1, by rw [h2.length]; exact Nat.le_refl _⟩
  yld := fun i H μ S x H' g s h y d hd => by
    obtain ⟨rfl, y⟩ := y
    obtain ⟨w, h3, h4⟩ := (h2.grow g).get hd
    rw [y vs (g.sqT h1)] at h3
    cases h3
    exact ⟨.refl, s, h4⟩
theorem mi_items (h : ME X e m) : MI X tg e (mItems m) := by
  refine ⟨⟨fun pins s σ H R I ⟨ρ, S, μ, p, S', st, e1, q⟩ => ?_⟩⟩
  obtain ⟨⟨d, S1⟩, e2, e1⟩ := Option.bind_eq_some_iff.mp e1
  cases d with
  | tup ds =>
    cases e1
    refine (pi_tup h.pe).run pins s σ H R I ⟨ρ, S, μ, _, _, st, e2, fun v H1 μ1 g1 s1 r1 => ?_⟩
    cases r1 with
    | tup h1 h2 => exact ⟨_, rfl, ⟨_, sq _ _ h1⟩, q _ H1 μ1 g1 s1 (isIt_tup (sq _ _ h1) h2)⟩
  | lr n =>
    obtain ⟨ds, e3, e1⟩ := Option.bind_eq_some_iff.mp (show ((lat S1 n).bind fun ds => some ((ds, still n ds), S1)) = some (p, S') from e1)
    cases e1
    refine (pi_list h.pe).run pins s σ H R I ⟨ρ, S, μ, _, _, st, e2, fun v H1 μ1 g1 s1 r1 => ?_⟩
    obtain ⟨a, vs, rfl, h1, h2⟩ := s1.lat e3 r1
    exact ⟨a, rfl, ⟨vs, h1⟩, q _ H1 μ1 g1 s1 (isIt_list r1)⟩
  | _ => cases e1
def rangeD (lo : Int) (n : Nat) : List D := (List.range n).map fun (i : Nat) => D.int (lo + (i : Int))
theorem rangeD_length {lo : Int} {n : Nat} : (rangeD lo n).length = n := by unfold rangeD; rw [List.length_map, List.length_range]
theorem isIt_range {K : PySem.W.Frag} {H0 : Hp} {μ0 : List Addr} {lo : Int} {n : Nat} : IsIt K (Itr lo n) H0 μ0 (rangeD lo n) always where
  go := fun i H μ S g s h hi => by rw [rangeD_length] at hi; exact hi
  stop := fun H μ S g s h => by rw [rangeD_length]; exact Nat.le_refl _
  yld := fun i H μ S x H' g s h y d hd => by
    obtain ⟨rfl, rfl⟩ := y
    unfold rangeD at hd
    rw [List.getElem?_map] at hd
    obtain ⟨j, h1, h2⟩ := Option.map_eq_some_iff.mp hd
    subst h2
    obtain ⟨h3, h4⟩ := List.getElem?_eq_some_iff.mp h1
    rw [List.getElem_range] at h4
    subst h4
    exact ⟨.refl, s, .int _⟩
def r62 (i : Int) : Bool := decide (-(2 ^ 62) ≤ i) && decide (i < 2 ^ 62)
theorem r62_iff {i : Int} (h : r62 i = true) : -(2 ^ 62) ≤ i ∧ i < 2 ^ 62 := by
  unfold r62 at h
  rw [Bool.and_eq_true, decide_eq_true_eq, decide_eq_true_eq] at h
  exact h
def mRange1 (m : MArg) : MItr := fun ρ S => (m ρ S).bind fun p => match p.1 with
  | [.int j] => if r62 j then some ((rangeD 0 j.toNat, always), p.2) else none
  | _ => none
def mRange2 (m : MArg) : MItr := fun ρ S => (m ρ S).bind fun p => match p.1 with
  | [.int i, .int j] => if r62 i && r62 j then some ((rangeD i (j - i).toNat, always), p.2) else none
  | _ => none
theorem mi_range1 {a : Expr} {ma : MArg} {p pos : Pos} (hg : Gl X "range") (hm : X.mg "range" = none) (ha : MA X [a] ma) (hs : starEach [a] X.env = [(false, eval a X.env)] := by rfl) : MI X tg (.Call (.Name "range" p) [a] [] pos) (mRange1 ma) :=
  ⟨PI.imp (pi_range1 hg hm ha.pa hs) fun σ H R ⟨ρ, S, μ, p, S', st, e1, q⟩ => by
    obtain ⟨⟨ds, S1⟩, e2, e1⟩ := Option.bind_eq_some_iff.mp e1
    refine ⟨ρ, S, μ, ds, S1, st, e2, fun vs H1 μ1 g1 s1 r1 => ?_⟩
    dsimp only at e1
    split at e1
    · split at e1
      · rename_i h
        cases e1
        obtain ⟨h1, h2⟩ := r62_iff h
        match vs, r1 with
        | _, .cons (.int j) .nil => exact ⟨_, rfl, h1, h2, q _ H1 μ1 g1 s1 isIt_range⟩
      · cases e1
    · cases e1⟩
theorem mi_range2 {a b : Expr} {ma : MArg} {p pos : Pos} (hg : Gl X "range") (hm : X.mg "range" = none) (ha : MA X [a, b] ma) (hs : starEach [a, b] X.env = [(false, eval a X.env), (false, eval b X.env)] := by rfl) (hs2 : starEach [b] X.env = [(false, eval b X.env)] := by rfl) :
    MI X tg (.Call (.Name "range" p) [a, b] [] pos) (mRange2 ma) :=
  ⟨PI.imp (pi_range2 hg hm ha.pa hs hs2) fun σ H R ⟨ρ, S, μ, p, S', st, e1, q⟩ => by
    obtain ⟨⟨ds, S1⟩, e2, e1⟩ := Option.bind_eq_some_iff.mp e1
    refine ⟨ρ, S, μ, ds, S1, st, e2, fun vs H1 μ1 g1 s1 r1 => ?_⟩
    dsimp only at e1
    split at e1
    · split at e1
      · rename_i h
        cases e1
        rw [Bool.and_eq_true] at h
        obtain ⟨h1, h2⟩ := r62_iff h.1
        obtain ⟨h3, h4⟩ := r62_iff h.2
        match vs, r1 with
        | _, .cons (.int i) (.cons (.int j) .nil) => exact ⟨_, _, rfl, ⟨h1, h2, h3, h4⟩, q _ H1 μ1 g1 s1 isIt_range⟩
      · cases e1
    · cases e1⟩
end

/-! ### for, while -/
def forL (ok : Store → Bool) (g : MTg) (b : MStm) : List D → MStm
  | [], ρ, S => if ok S then some (.nx, ρ, S) else none
  | x :: r, ρ, S => if ok S then (g x ρ S).bind fun p => (b p.1 p.2).bind fun q => match q.1 with
    | .nx => forL ok g b r q.2.1 q.2.2
    | .ct => forL ok g b r q.2.1 q.2.2
    | .bk => some (.nx, q.2.1, q.2.2)
    | .rt d => some (.rt d, q.2.1, q.2.2) else none
def mFor (i : MItr) (g : MTg) (b : MStm) : MStm := fun ρ S => (i ρ S).bind fun p => forL p.1.2 g b p.1.1 ρ p.2
def whileN (t : MTst) (b : MStm) : Nat → MStm
  | 0, _, _ => none
  | n + 1, ρ, S => (t ρ S).bind fun p => if p.1 then (b ρ p.2).bind fun q => match q.1 with
    | .nx => whileN t b n q.2.1 q.2.2
    | .ct => whileN t b n q.2.1 q.2.2
    | .bk => some (.nx, q.2.1, q.2.2)
    | .rt d => some (.rt d, q.2.1, q.2.2) else some (.nx, ρ, p.2)
section
variable {X : Cx} {tg iter c : Expr} {body : List Stmt} {i : MItr} {g : MTg} {b : MStm} {t : MTst} {pos : Pos}
theorem tS_for {K : PySem.W.Frag} {D_ : Ends} {σ : L2.St} {H : Hp} (h : tS K (mFor i g b) D_ σ H) : tFor (tI K i) (tG K g) (tS K b) D_ σ H := by
  obtain ⟨ρ, S, μ, f, ρ', S', st, e, q⟩ := h
  obtain ⟨⟨⟨ds, ok⟩, S1⟩, e1, e⟩ := Option.bind_eq_some_iff.mp e
  refine ⟨ρ, S, μ, (ds, ok), S1, st, e1, fun J H0 μ0 g0 s0 hJ => ?_⟩
  refine ⟨fun i m σ H => m = ds.length - i ∧ i ≤ ds.length ∧ ∃ ρ S μ, Sim K H μ σ ρ S ∧ Grow H0 H μ0 μ ∧ forL ok g b (ds.drop i) ρ S = some (f, ρ', S'), ⟨ds.length, by omega, by omega, ρ, S1, μ0, st.grow g0 s0, .refl, e⟩, ?_⟩
  rintro i m σ1 H1 ⟨rfl, hi, ρ1, S2, μ1, st1, g1, e2⟩
  by_cases hlt : i < ds.length
  · rw [List.drop_eq_getElem_cons hlt] at e2
    unfold forL at e2
    split at e2
    · rename_i hok
      obtain ⟨⟨ρ3, S3⟩, e3, e2⟩ := Option.bind_eq_some_iff.mp e2
      obtain ⟨⟨f4, ρ4, S4⟩, e4, e2⟩ := Option.bind_eq_some_iff.mp e2
      refine .inr ⟨hJ.go i H1 μ1 S2 g1 st1.st hok hlt, fun σ' H' => ∃ ρ S μ, Sim K H' μ σ' ρ S ∧ Grow H0 H' μ0 μ ∧ forL ok g b (ds.drop (i + 1)) ρ S = some (f, ρ', S'), fun σ' H' hN => ?_, fun x H' y => ?_⟩
      · exact ⟨ds.length - (i + 1), by omega, rfl, hlt, hN⟩
      · obtain ⟨g2, s2, r2⟩ := hJ.yld i H1 μ1 S2 x H' g1 st1.st hok y ds[i] (List.getElem?_eq_getElem hlt)
        refine ⟨ds[i], ρ1, S2, μ1, ρ3, S3, st1.grow g2 s2, r2, e3, fun σ3 H3 μ3 g3 st3 => ?_⟩
        refine ⟨ρ3, S3, μ3, f4, ρ4, S4, st3, e4, fun σ4 H4 μ4 g4 st4 => ?_⟩
        have gg : Grow H0 H4 μ0 μ4 := ((g1.trans g2).trans g3).trans g4
        cases f4 with
        | nx => exact ⟨ρ4, S4, μ4, st4, gg, e2⟩
        | ct => exact ⟨ρ4, S4, μ4, st4, gg, e2⟩
        | bk => cases e2; exact q σ4 H4 μ4 (g0.trans gg) st4
        | rt d => cases e2; exact q σ4 H4 μ4 (g0.trans gg) st4
    · cases e2
  · have ei : i = ds.length := by omega
    subst ei
    rw [List.drop_length] at e2
    unfold forL at e2
    split at e2
    · rename_i hok
      cases e2
      exact .inl ⟨hJ.stop H1 μ1 _ g1 st1.st hok, q σ1 H1 μ1 (g0.trans g1) st1⟩
    · cases e2
theorem ms_for (hp : PassesOwn (model X.prog X.w) X.A X.env X.xe) (hc : X.calm = true) (hi : MI X tg iter i) (hg : MG X tg g) (hb : MSs X body b) (hs : ∀ x, foldedSetIterable iter X.env x = pure x := by intro _; rfl) : MS_ X (.For tg iter body [] pos) (mFor i g b) :=
  ⟨PS.imp (ps_for hp hc hi.pi hg.pg hb.pss hs) fun _ _ _ h => tS_for h⟩
theorem tS_while {K : PySem.W.Frag} {n : Nat} {D_ : Ends} {σ : L2.St} {H : Hp} (h : tS K (whileN t b n) D_ σ H) : tWhile (tT K t) (tS K b) D_ σ H := by
  obtain ⟨ρ, S, μ, f, ρ', S', st, e, q⟩ := h
  refine ⟨fun m σ1 H1 => ∃ ρ1 S1 μ1, Sim K H1 μ1 σ1 ρ1 S1 ∧ Grow H H1 μ μ1 ∧ whileN t b m ρ1 S1 = some (f, ρ', S'), ⟨n, ρ, S, μ, st, .refl, e⟩, ?_⟩
  rintro m σ1 H1 ⟨ρ1, S1, μ1, st1, g1, e1⟩
  cases m with
  | zero => cases e1
  | succ m =>
    obtain ⟨⟨k, S2⟩, e2, e1⟩ := Option.bind_eq_some_iff.mp (show ((t ρ1 S1).bind fun p => if p.1 then (b ρ1 p.2).bind fun q => (match q.1 with
      | .nx => whileN t b m q.2.1 q.2.2
      | .ct => whileN t b m q.2.1 q.2.2
      | .bk => some (.nx, q.2.1, q.2.2)
      | .rt d => some (.rt d, q.2.1, q.2.2)) else some (.nx, ρ1, p.2)) = some (f, ρ', S') from e1)
    refine ⟨ρ1, S1, μ1, k, S2, st1, e2, fun H2 μ2 g2 s2 => ?_⟩
    have st2 := st1.grow g2 s2
    cases k with
    | false =>
      cases e1
      exact iteF (q σ1 H2 μ2 (g1.trans g2) st2)
    | true =>
      obtain ⟨⟨f3, ρ3, S3⟩, e3, e1⟩ := Option.bind_eq_some_iff.mp (show ((b ρ1 S2).bind fun q => (match q.1 with
        | .nx => whileN t b m q.2.1 q.2.2
        | .ct => whileN t b m q.2.1 q.2.2
        | .bk => some (.nx, q.2.1, q.2.2)
        | .rt d => some (.rt d, q.2.1, q.2.2))) = some (f, ρ', S') from e1)
      refine iteT ⟨fun σ3 H3 => ∃ ρ3 S3 μ3, Sim K H3 μ3 σ3 ρ3 S3 ∧ Grow H H3 μ μ3 ∧ whileN t b m ρ3 S3 = some (f, ρ', S'), fun σ3 H3 h3 => ⟨m, by omega, h3⟩, ?_⟩
      refine ⟨ρ1, S2, μ2, f3, ρ3, S3, st2, e3, fun σ4 H4 μ4 g4 st4 => ?_⟩
      have gg := (g1.trans g2).trans g4
      cases f3 with
      | nx => exact ⟨ρ3, S3, μ4, st4, gg, e1⟩
      | ct => exact ⟨ρ3, S3, μ4, st4, gg, e1⟩
      | bk => cases e1; exact q σ4 H4 μ4 gg st4
      | rt d => cases e1; exact q σ4 H4 μ4 gg st4
theorem ms_while (n : Nat) (hp : PassesOwn (model X.prog X.w) X.A X.env X.xe) (hc : MT X c t) (hb : MSs X body b) : MS_ X (.While c body [] pos) (whileN t b n) :=
  ⟨PS.imp (ps_while hp hc.pt hb.pss) fun _ _ _ h => tS_while h⟩
end

/-! ### targets that are names: which slots they touch -/
def tGl (K : PySem.W.Frag) (is : List Nat) (m : MTg) : TG := fun v σ H Q => ∃ d ρ S μ ρ' S', Sim K H μ σ ρ S ∧ Rp K H μ v d ∧ m d ρ S = some (ρ', S') ∧ ∀ σ' H' μ', Grow H H' μ μ' → Sim K H' μ' σ' ρ' S' → σ'.length = σ.length → (∀ j, j ∉ is → σ'[j]? = σ[j]?) → Q σ' H'
def tGsl (K : PySem.W.Frag) (is : List Nat) (m : MTgs) : TGs := fun vs σ H Q => ∃ ds ρ S μ ρ' S', Sim K H μ σ ρ S ∧ RpA K H μ vs ds ∧ m ds ρ S = some (ρ', S') ∧ ∀ σ' H' μ', Grow H H' μ μ' → Sim K H' μ' σ' ρ' S' → σ'.length = σ.length → (∀ j, j ∉ is → σ'[j]? = σ[j]?) → Q σ' H'
structure MGl (X : Cx) (is : List Nat) (tg : Expr) (m : MTg) : Prop where
  pg : PG X tg (tGl X.K is m)
structure MGsl (X : Cx) (is : List Nat) (ts : List Expr) (m : MTgs) : Prop where
  pgs : PGs X ts (tGsl X.K is m)
section
variable {X : Cx} {pos : Pos}
theorem MGl.mg {is : List Nat} {tg : Expr} {m : MTg} (h : MGl X is tg m) : MG X tg m := ⟨PG.imp h.pg fun v σ H Q ⟨d, ρ, S, μ, ρ', S', s, r, e, q⟩ => ⟨d, ρ, S, μ, ρ', S', s, r, e, fun σ' H' μ' g st _ _ => q σ' H' μ' g st⟩⟩
theorem mgl_name {i : Nat} {x : Str} (hN : X.N.Nodup) (hi : X.N[i]? = some x) (hx : Loc X.env.scope x) (hf : X.fn x = true ∨ X.env.scope.names.lookup x = some .local := by first | exact .inl rfl | exact .inr rfl | assumption) : MGl X [i] (.Name x pos) (mName i) :=
  ⟨PG.imp (pg_name hN hi hx hf) fun v σ H Q ⟨d, ρ, S, μ, ρ', S', s, r, e, q⟩ => by
    cases e
    exact q _ H μ .refl (s.set i r) (by rw [List.length_set]) fun j hj => by rw [List.getElem?_set_ne (fun z => hj (by simp [z]))]⟩
theorem mgsl_nil : MGsl X [] [] mgNil := ⟨PGs.imp pgs_nil fun vs σ H Q ⟨ds, ρ, S, μ, ρ', S', s, r, e, q⟩ => by
  cases ds with
  | nil => cases e; cases r; exact ⟨rfl, q σ H μ .refl s rfl fun _ _ => rfl⟩
  | cons _ _ => cases e⟩
theorem mgsl_cons {e : Expr} {es : List Expr} {g : MTg} {r : MTgs} {is js : List Nat} (h1 : MGl X is e g) (h2 : MGsl X js es r) (hs : (assignEach (e :: es) X.env).map (·.2) = assign e X.env :: (assignEach es X.env).map (·.2) := by rfl) : MGsl X (is ++ js) (e :: es) (mgCons g r) :=
  ⟨PGs.imp (pgs_cons h1.pg h2.pgs hs) fun vs σ H Q ⟨ds, ρ, S, μ, ρ', S', s, rr, e, q⟩ => by
    cases ds with
    | nil => cases e
    | cons d ds =>
      cases rr with
      | cons r1 r2 =>
      obtain ⟨⟨ρ1, S1⟩, e1, e⟩ := Option.bind_eq_some_iff.mp (show ((g d ρ S).bind fun p => r ds p.1 p.2) = some (ρ', S') from e)
      exact ⟨_, _, rfl, d, ρ, S, μ, ρ1, S1, s, r1, e1, fun σ1 H1 μ1 g1 s1 l1 k1 => ⟨ds, ρ1, S1, μ1, ρ', S', s1, r2.grow g1, e, fun σ2 H2 μ2 g2 s2 l2 k2 => q σ2 H2 μ2 (g1.trans g2) s2 (l2.trans l1) fun j hj =>
        (k2 j fun z => hj (List.mem_append_right _ z)).trans (k1 j fun z => hj (List.mem_append_left _ z))⟩⟩⟩
theorem mgl_tup {es : List Expr} {k : Nat} {r : MTgs} {n : Nat} {is : List Nat} (hc : X.calm = true) (h : MGsl X is es r) (hn : (assignEach es X.env).length = n := by rfl) (hst : (assignEach es X.env).findIdx? (·.1) = none := by rfl) : MGl X is (.Tuple es k pos) (mgTup r n) :=
  ⟨PG.imp (pg_tup hc h.pgs hn hst) fun v σ H Q ⟨d, ρ, S, μ, ρ', S', s, rr, e, q⟩ => by
    cases d with
    | tup ds =>
      cases rr with
      | tup h1 h2 =>
      have e : (if ds.length = n then r ds ρ S else none) = some (ρ', S') := e
      split at e
      · rename_i hl
        exact ⟨_, _, rfl, sq _ _ h1, by rw [h2.length]; exact hl, ds, ρ, S, μ, ρ', S', s, h2, e, q⟩
      · cases e
    | _ => cases e⟩
end

/-! ### comprehensions -/
def wipeD (ρ : Ev) : List Nat → Ev
  | [] => ρ
  | v :: vs => (wipeD ρ vs).set v none
theorem wipeD_length (ρ : Ev) : ∀ vs, (wipeD ρ vs).length = ρ.length
  | [] => rfl
  | v :: vs => by unfold wipeD; rw [List.length_set, wipeD_length ρ vs]
theorem wipeD_some {ρ : Ev} {i : Nat} {d : D} : ∀ {vs : List Nat}, (wipeD ρ vs)[i]? = some (some d) → ρ[i]? = some (some d) ∧ i ∉ vs
  | [], h => ⟨h, by simp⟩
  | v :: vs, h => by
    unfold wipeD at h
    by_cases hi : v = i
    · subst hi
      by_cases hv : v < (wipeD ρ vs).length
      · rw [List.getElem?_set_self hv] at h; cases h
      · rw [List.getElem?_eq_none (by simpa using hv)] at h; cases h
    · rw [List.getElem?_set_ne hi] at h
      obtain ⟨h1, h2⟩ := wipeD_some h
      exact ⟨h1, by simp only [List.mem_cons, not_or]; exact ⟨fun z => hi z.symm, h2⟩⟩
theorem wipe_at {σ : L2.St} {i : Nat} : ∀ {vs : List Nat}, i ∉ vs → (wipe σ vs)[i]? = σ[i]?
  | [], _ => rfl
  | v :: vs, h => by
    simp only [List.mem_cons, not_or] at h
    unfold wipe
    rw [List.getElem?_set_ne (fun z => h.1 z.symm)]
    exact wipe_at h.2
theorem wipe_in {σ : L2.St} {i : Nat} : ∀ {vs : List Nat}, i ∈ vs → i < σ.length → (wipe σ vs)[i]? = some none
  | [], h, _ => by cases h
  | v :: vs, h, hl => by
    unfold wipe
    by_cases hi : v = i
    · subst hi
      rw [List.getElem?_set_self (by rw [wipe_length]; exact hl)]
    · rw [List.getElem?_set_ne hi]
      rcases List.mem_cons.mp h with z | z
      · exact absurd z.symm hi
      · exact wipe_in z hl
theorem wipe_same {σ σ' : L2.St} {vs : List Nat} (hl : σ'.length = σ.length) (h : ∀ j, j ∉ vs → σ'[j]? = σ[j]?) : wipe σ' vs = wipe σ vs := by
  refine List.ext_getElem? fun i => ?_
  by_cases hi : i ∈ vs
  · by_cases hz : i < σ.length
    · rw [wipe_in hi hz, wipe_in hi (by rw [hl]; exact hz)]
    · rw [List.getElem?_eq_none (by rw [wipe_length, hl]; omega), List.getElem?_eq_none (by rw [wipe_length]; omega)]
  · rw [wipe_at hi, wipe_at hi, h i hi]
theorem wipe_wipe {σ : L2.St} {vs : List Nat} : wipe (wipe σ vs) vs = wipe σ vs := wipe_same (wipe_length _ _) fun j hj => wipe_at hj
theorem Sim.wipe {K : PySem.W.Frag} {H : Hp} {μ : List Addr} {σ : L2.St} {ρ : Ev} {S : Store} (s : Sim K H μ σ ρ S) (vs : List Nat) : Sim K H μ (L2.wipe σ vs) (wipeD ρ vs) S :=
  ⟨s.st, by rw [wipeD_length, wipe_length]; exact s.len, fun i d e => by
    obtain ⟨h1, h2⟩ := wipeD_some e
    obtain ⟨v, h3, h4⟩ := s.sl i d h1
    exact ⟨v, by rw [wipe_at h2]; exact h3, h4⟩⟩
def mYes : MTst := fun _ S => some (true, S)
structure MTs (X : Cx) (ifs : List Expr) (t : MTst) : Prop where
  pts : PTs X ifs (tT X.K t)
theorem mts_nil {X : Cx} : MTs X [] mYes := ⟨⟨fun pins s σ H Q I ⟨ρ, S, μ, b, S', st, e, q⟩ => pts_nil.run pins s σ H Q I (by cases e; exact q H μ .refl st.st)⟩⟩
theorem mts_one {X : Cx} {c : Expr} {t : MTst} (h : MT X c t) : MTs X [c] t := ⟨pts_one h.pt⟩
/-- the new list grows at its handle -/
def lcL (ok : Store → Bool) (g : MTg) (t : MTst) (e : MExp) (ρw : Ev) (n : Nat) : List D → Store → Option Store
  | [], S => if ok S then some S else none
  | x :: r, S => if ok S then (g x ρw S).bind fun p => (t p.1 p.2).bind fun k => if k.1 then (e p.1 k.2).bind fun y => (mat y.2 n).bind fun acc =>
      if acc.length < szl then lcL ok g t e ρw n r (y.2.set n (.lst (acc ++ [y.1]))) else none
    else lcL ok g t e ρw n r k.2 else none
def mLc (i : MItr) (g : MTg) (t : MTst) (e : MExp) (vs : List Nat) : MExp := fun ρ S => (i ρ S).bind fun p =>
  (lcL p.1.2 g t e (wipeD ρ vs) p.2.length p.1.1 (p.2 ++ [.lst []])).bind fun S2 => some (.lr p.2.length, S2)
theorem tE_lc {K : PySem.W.Frag} {i : MItr} {g : MTg} {t : MTst} {e : MExp} {vs is : List Nat} {σ : L2.St} {H : Hp} {Q : VK} (hv : ∀ j ∈ is, j ∈ vs) (h : tE K (mLc i g t e vs) σ H Q) : tLc (tI K i) (tGl K is g) (tT K t) (tE K e) vs σ H Q := by
  obtain ⟨ρ, S, μ, d, S', st, e0, q⟩ := h
  obtain ⟨⟨⟨ds, ok⟩, S1⟩, e1, e0⟩ := Option.bind_eq_some_iff.mp e0
  obtain ⟨S9, e9, e0⟩ := Option.bind_eq_some_iff.mp e0
  cases e0
  refine ⟨ρ, S, μ, (ds, ok), S1, st, e1, fun J H1 μ1 g1 s1 hJ A hA => ?_⟩
  have st1 : Sim K H1 μ1 σ ρ S1 := st.grow g1 s1
  have gA : Grow H1 (upd H1 A (.lst [])) μ1 (μ1 ++ [A]) := .newL hA
  have sA : StR K (upd H1 A (.lst [])) (μ1 ++ [A]) (S1 ++ [.lst []]) := s1.newL hA .nil
  have hnA : (μ1 ++ [A])[S1.length]? = some A := by rw [← s1.len, List.getElem?_concat_length]
  refine ⟨fun i m H => m = ds.length - i ∧ i ≤ ds.length ∧ ∃ S μ, StR K H μ S ∧ Grow (upd H1 A (.lst [])) H (μ1 ++ [A]) μ ∧ lcL ok g t e (wipeD ρ vs) S1.length (ds.drop i) S = some S',
    ⟨ds.length, by omega, by omega, _, _, sA, .refl, e9⟩, ?_⟩
  rintro i m H2 ⟨rfl, hi, S2, μ2, s2, g2, e2⟩
  have g12 := gA.trans g2
  have w2 : Sim K H2 μ2 (wipe σ vs) (wipeD ρ vs) S2 := (st1.wipe vs).grow g12 s2
  have hn2 : μ2[S1.length]? = some A := by
    obtain ⟨t, et⟩ := g2.pre
    rw [← et, List.getElem?_append_left (List.getElem?_eq_some_iff.mp hnA).1]
    exact hnA
  by_cases hlt : i < ds.length
  · rw [List.drop_eq_getElem_cons hlt] at e2
    unfold lcL at e2
    split at e2
    · rename_i hok
      obtain ⟨⟨ρ3, S3⟩, e3, e2⟩ := Option.bind_eq_some_iff.mp e2
      obtain ⟨⟨k4, S4⟩, e4, e2⟩ := Option.bind_eq_some_iff.mp e2
      refine .inr ⟨hJ.go i H2 μ2 S2 g12 s2 hok hlt, fun H' => ∃ S μ, StR K H' μ S ∧ Grow (upd H1 A (.lst [])) H' (μ1 ++ [A]) μ ∧ lcL ok g t e (wipeD ρ vs) S1.length (ds.drop (i + 1)) S = some S',
        fun H' hN => ⟨ds.length - (i + 1), by omega, rfl, hlt, hN⟩, fun x H' y => ?_⟩
      obtain ⟨g3, s3, r3⟩ := hJ.yld i H2 μ2 S2 x H' g12 s2 hok y ds[i] (List.getElem?_eq_getElem hlt)
      refine ⟨ds[i], wipeD ρ vs, S2, μ2, ρ3, S3, w2.grow g3 s3, r3, e3, fun σ4 H4 μ4 g4 st4 l4 k4' => ?_⟩
      refine ⟨?_, ρ3, S3, μ4, k4, S4, st4, e4, fun H5 μ5 g5 s5 => ?_⟩
      · rw [wipe_same l4 fun j hj => k4' j fun z => hj (hv j z), wipe_wipe]
      · have gg := ((g2.trans g3).trans g4).trans g5
        cases k4 with
        | false => exact iteF ⟨S4, μ5, s5, gg, e2⟩
        | true =>
          obtain ⟨⟨y6, S6⟩, e6, e2⟩ := Option.bind_eq_some_iff.mp (show ((e ρ3 S4).bind fun y => (mat y.2 S1.length).bind fun acc =>
            if acc.length < szl then lcL ok g t e (wipeD ρ vs) S1.length (ds.drop (i + 1)) (y.2.set S1.length (.lst (acc ++ [y.1]))) else none) = some S' from e2)
          obtain ⟨acc, e7, e2⟩ := Option.bind_eq_some_iff.mp e2
          split at e2
          · rename_i hz
            refine iteT ⟨ρ3, S4, μ5, y6, S6, st4.grow g5 s5, e6, fun v H6 μ6 g6 s6 r6 => ?_⟩
            have gg6 := gg.trans g6
            have hn6 : μ6[S1.length]? = some A := by
              obtain ⟨t, et⟩ := gg6.pre
              rw [← et, List.getElem?_append_left (List.getElem?_eq_some_iff.mp hnA).1]
              exact hnA
            obtain ⟨a', vs', h1, h2, h3, h4⟩ := s6.mat e7 (Rp.lr hn6)
            cases h1
            refine ⟨vs', h3, by rw [h4.length]; exact szl_lt hz, _, μ6, s6.wr (mat_eq e7) hn6 (h4.append (.cons r6 .nil)), gg6.trans (.wr h3), e2⟩
          · cases e2
    · cases e2
  · have ei : i = ds.length := by omega
    subst ei
    rw [List.drop_length] at e2
    unfold lcL at e2
    split at e2
    · rename_i hok
      cases e2
      exact .inl ⟨hJ.stop H2 μ2 _ g12 s2 hok, q _ H2 μ2 (g1.trans g12) s2 (.lr hn2)⟩
    · cases e2
theorem PG.sub {X : Cx} {tg : Expr} {t t' : TG} (h : PG X tg t) (i : ∀ v σ H Q, t' v σ H Q → t v σ H Q) : PG X tg t' := PG.imp h i
section
variable {X : Cx} {elt tg iter : Expr} {ifs : List Expr} {scope : Scope} {own : List (Str × Nat)} {pos : Pos} {i : MItr} {g : MTg} {t : MTst} {e : MExp} {is : List Nat}
theorem me_lc (hc : X.calm = true) (hN : X.N.Nodup) (hi : MI X tg iter i) (ok : BlkOk X.N X.env.scope scope own)
    (hg : ∀ (s : Shared) (H : Hp) (C : Addr) (cl : List (Str × Addr)) (fp : List Addr), MGl (X.blk s H scope (compEnvC scope cl C X.env) fp) is tg g) (ht : ∀ (s : Shared) (H : Hp) (C : Addr) (cl : List (Str × Addr)) (fp : List Addr), MTs (X.blk s H scope (compEnvC scope cl C X.env) fp) ifs t)
    (he : ∀ (s : Shared) (H : Hp) (C : Addr) (cl : List (Str × Addr)) (fp : List Addr), ME (X.blk s H scope (compEnvC scope cl C X.env) fp) elt e) (hv : ∀ j ∈ is, j ∈ own.map (·.2)) (hs : ∀ x, foldedSetIterable iter X.env x = pure x := by intro _; rfl) :
    ME X (.ListComp elt [⟨tg, iter, ifs, 0⟩] scope pos) (mLc i g t e (own.map (·.2))) :=
  ⟨PE.imp (pe_lc hc hN hi.pi ok (fun s H C cl fp => (hg s H C cl fp).pg) (fun s H C cl fp => (ht s H C cl fp).pts) (fun s H C cl fp => (he s H C cl fp).pe) hs) fun _ _ _ h => tE_lc hv h⟩
theorem ms_setLc {j : Nat} {y : Str} {py spos : Pos} (hc : X.calm = true) (hN : X.N.Nodup) (hy : X.N[j]? = some y) (hyl : X.env.scope.names.lookup y = some .local)
    (hsw : swapsWith (.ListComp elt [⟨tg, iter, ifs, 0⟩] scope pos) (some (.Name y py)) spos.line X.env = pure true) (hi : MI X tg iter i) (ok : BlkOk X.N X.env.scope scope own)
    (hg : ∀ (s : Shared) (H : Hp) (C : Addr) (cl : List (Str × Addr)) (fp : List Addr), MGl (X.blk s H scope (compEnvC scope cl C X.env) fp) is tg g) (ht : ∀ (s : Shared) (H : Hp) (C : Addr) (cl : List (Str × Addr)) (fp : List Addr), MTs (X.blk s H scope (compEnvC scope cl C X.env) fp) ifs t)
    (he : ∀ (s : Shared) (H : Hp) (C : Addr) (cl : List (Str × Addr)) (fp : List Addr), ME (X.blk s H scope (compEnvC scope cl C X.env) fp) elt e) (hv : ∀ j ∈ is, j ∈ own.map (·.2)) (hs : ∀ x, foldedSetIterable iter X.env x = pure x := by intro _; rfl) :
    MS_ X (.Assign [.Name y py] (.ListComp elt [⟨tg, iter, ifs, 0⟩] scope pos) spos) (mAsg (mLc i g t e (own.map (·.2))) (mName j)) :=
  ⟨PS.imp (ps_setLc hc hN hy hyl hsw hi.pi ok (fun s H C cl fp => (hg s H C cl fp).pg) (fun s H C cl fp => (ht s H C cl fp).pts) (fun s H C cl fp => (he s H C cl fp).pe) hs) fun D_ σ H h => by
    obtain ⟨ρ, S, μ, f, ρ', S', s, e, q⟩ := h
    obtain ⟨⟨d, S1⟩, e1, e⟩ := Option.bind_eq_some_iff.mp e
    cases e
    exact tE_lc hv ⟨ρ, S, μ, d, _, s, e1, fun v H1 μ1 g1 s1 r1 => q _ H1 μ1 g1 ((s.grow g1 s1).set j r1)⟩⟩
end
end MS

set_option Elab.async false
set_option linter.all false
set_option maxRecDepth 100000
set_option maxHeartbeats 4000000
namespace MS
open PySem PySem.Spec PyProof.Rows L2

/-! ### enumerate(tuple) -/
theorem meets_enumT {v : Value} {o : Obj} {Hb : Heap → Prop} (B : Begins v o Hb) :
    Meets (Builtin.«enumerate.__new__» ⟨[.type "enumerate", v], []⟩) (fun _ R s => Hb s.heap ∧
      R (.ok (.ret (.ref (s.heap.push o).objs.size))) { s with heap := (s.heap.push o).push { cls := .type "enumerate", data := .fields #[.none, .bool false, .ref s.heap.objs.size, rawInt 0, .none, .none] } }) :=
  .of_wp fun prog w A R s h => by
    obtain ⟨hp, gs, dr, tk, os⟩ := s
    obtain ⟨hb, h⟩ := h
    have hsub := sub_enumerate
    have road : ∀ {A' : Around} {E : Value → Shared → Prop} {Q : Value → Shared → Prop}, Q (.ref hp.objs.size) ⟨hp.push o, gs, dr, tk, os⟩ → wpAny (model prog w) A' (pyIter v) Q E ⟨hp, gs, dr, tk, os⟩ :=
      fun q => B.iter prog w _ _ ⟨hp, gs, dr, tk, os⟩ _ hb q
    wp_walk using road
    refine wpAny_stack_any fun _ => wpAny_pure ?_
    split
    · rename_i c _ _ _ _ _
      cases (c == Value.type "enumerate") <;> (wp_walk using road; exact ⟨_, rfl, h⟩)
    · wp_walk using road
      exact ⟨_, rfl, h⟩
section
variable {prog : Program} {w : World} {A : Around} {E : Value → Shared → Prop} {s : Shared}
theorem call_enumT {t : Addr} {its : Array Value} {Q : Value → Shared → Prop} (ht : s.heap.IsTuple t its)
    (h : ∀ h', IsEnum h' (s.heap.objs.size + 1) s.heap.objs.size 0 .none → h'.IsTupleIter s.heap.objs.size t 0 → (∀ b o, s.heap.get? b = some o → h'.get? b = some o) → Q (.ref (s.heap.objs.size + 1)) { s with heap := h' }) :
    wpAny (model prog w) A (call (.type "enumerate") [.ref t]) Q E s := by
  refine callType_new F.called_enumerate (by decide) (F.typeCall_enumerate_1 _) (F.newCall_enumerate_1 _) (fun obj => F.args_object_init_2 obj _) F.entry_enumerate_new (meets_enumT (begins_tuple t its)) ⟨ht, ?_⟩
  have hz : (s.heap.push { cls := .type "tuple_iterator", data := .fields #[.ref t, .int 0 0] }).objs.size = s.heap.objs.size + 1 := Heap.size_push ..
  show _ ∧ _
  rw [hz]
  have he := Heap.get?_push_size (s.heap.push { cls := .type "tuple_iterator", data := .fields #[.ref t, .int 0 0] }) (o := { cls := .type "enumerate", data := .fields #[.none, .bool false, .ref s.heap.objs.size, rawInt 0, .none, .none] }) rfl
  rw [hz] at he
  exact ⟨⟨_, he, rfl⟩, h _ he ⟨_, Heap.get?_push_of_some _ (Heap.get?_push_size _ rfl), rfl, rfl⟩ fun b o x => Heap.get?_push_of_some _ (Heap.get?_push_of_some _ x)⟩
end
/-- a tuple's items in new pairs -/
def IteT (K : PySem.W.Frag) (a : Addr) : It :=
  ⟨fun i H => ∃ (xs : List V) (x : V), SqT K H a xs ∧ xs[i]? = some x, fun i H v H' => ∃ T x, v = .ref T ∧ H T = none ∧ H' = upd H T (.tup [.int (i : Nat), x]) ∧ ∀ xs, SqT K H a xs → xs[i]? = some x, fun i H => ∃ xs : List V, SqT K H a xs ∧ xs.length ≤ i⟩
theorem turn_enumT {P : Program} {w : World} {K : PySem.W.Frag} {elts : List Expr} {kk : Nat} {tpos : Pos} (a e it : Addr) :
    Turn P w K (.Tuple elts kk tpos) (IteT K a) [e, it] e (fun i h => (∃ old, IsEnum h e it ((i : Nat) : Int) old) ∧ h.IsTupleIter it a i ∧ e ≠ it) where
  mem := List.mem_cons_self ..
  obj := fun i h st b hb => by
    obtain ⟨⟨old, he⟩, ⟨o, ho, hc, hd⟩, _⟩ := st
    rcases (by simpa using hb : b = e ∨ b = it) with z | z
    · rw [z]; exact ⟨_, he, fun v q => nomatch q⟩
    · rw [z]; exact ⟨o, ho, fun v q => by rw [hd] at q; cases q⟩
  keep := fun i h h' ⟨⟨old, he⟩, hi, hne⟩ k => ⟨⟨old, k e (by simp) _ he⟩, hi.at fun o q => k it (by simp) o q, hne⟩
  item := by
    intro X hP hw hK hc i pins s σ H E I hf st hg
    subst hP hw hK
    obtain ⟨⟨old, he⟩, hit, hne⟩ := st
    obtain ⟨xs, x, hq, hx⟩ := hg
    obtain ⟨its, rv, p, hz⟩ := I.tuple hq
    obtain ⟨u, hu, ru⟩ := rv.get hx
    have hai : a ≠ it := fun z => by
      obtain ⟨o, ho, hcl, _⟩ := p
      obtain ⟨o', ho', hcl', _⟩ := hit
      rw [z, ho'] at ho; cases ho; rw [hcl] at hcl'
      injection hcl' with hcl'
      exact absurd hcl' (by decide)
    have hae : e ≠ a := fun z => by
      obtain ⟨o, ho, hcl, _⟩ := p
      have he' : s.heap.get? e = some _ := he
      rw [z, ho] at he'; cases he'
      injection hcl with hcl
      exact absurd hcl (by decide)
    have W := GoesN.ofWalksT (elts := elts) (k := kk) (pos := tpos) (WalksT.enumerateD (prog := X.prog) (w := X.w) (A := X.A) (Draws.tuple (A := X.A.in1) (I.ok.hd hc) it a hai its.toArray) e hne (by simp [hne, hae]) (by simp))
    have hlt : i < its.toArray.size := by rw [List.size_toArray]; exact (List.getElem?_eq_some_iff.mp hu).1
    refine W.goes i s _ E hlt ⟨⟨old, he⟩, hit, p⟩ fun v h' tk hY st' hk htk => ?_
    obtain ⟨T, vals, rfl, hT, ⟨t, x', hx', rfl⟩, hTup⟩ := hY
    have ex' : x' = u := by
      rw [List.getElem?_toArray, hu] at hx'
      exact (Option.some.inj hx').symm
    subst ex'
    have new : ObjOk X.prog X.w (upd H T (.tup [.int (i : Nat), x])) h' T (.tup [.int (i : Nat), x]) := ⟨by show 2 ≤ sizeLine; decide, [.int i t, x'], .cons ⟨_, rfl⟩ (.cons ru .nil), hTup⟩
    have I1 := I.turnedNew (t' := tk) (ch := [e, it]) hk hf hT new
    obtain ⟨⟨old', he'⟩, hit', _⟩ := st'
    refine ⟨.ref T, _, I1, rfl, ⟨T, x, rfl, I.hok.fresh hT, rfl, fun ys hy => by rw [I.tuple_inj hy hq]; exact hx⟩, ⟨⟨old', he'⟩, hit', hne⟩, fun b hb => ?_⟩
    have hbs : b < s.heap.objs.size := by
      rcases (by simpa using hb : b = e ∨ b = it) with z | z
      · rw [z]; exact Heap.lt_size he
      · rw [z]; obtain ⟨_, q, _⟩ := hit; exact Heap.lt_size q
    rw [upd_ne (Nat.ne_of_lt (Nat.lt_of_lt_of_le hbs hT))]
    exact (hf b hb).1
  done := by
    intro X hP hw hK hc i pins s σ H E I hf st hg
    subst hP hw hK
    obtain ⟨⟨old, he⟩, hit, hne⟩ := st
    obtain ⟨xs, hq, hx⟩ := hg
    obtain ⟨its, rv, p, hz⟩ := I.tuple hq
    have hl := rv.length
    refine wpAny_pyNext_enum_endD (n := i) (St := fun j h => j = i ∧ h.IsTupleIter it a i ∧ h.IsTuple a its.toArray) (fp := [it, a]) (P := fun _ _ => True)
      ⟨fun _ _ st => let ⟨o, ho, _⟩ := st.2.1; ⟨o, ho⟩, fun _ _ _ st hk => ⟨st.1, st.2.1.at fun o e => hk it (by simp) o e, st.2.2.at fun o e => hk a (by simp) o e⟩, fun j s Q E hj st => absurd st.1 (Nat.ne_of_lt hj),
        fun s Q E st hE => wpAny_nextOf_tuple_end (show X.A.in1.handled = none from I.ok.hd hc) st.2.1 st.2.2 (by rw [List.getElem?_toArray]; exact List.getElem?_eq_none (by omega)) hE⟩ he ⟨rfl, hit, p⟩ fun h' hx' => ⟨rfl, ?_⟩
    obtain ⟨f0, f1, f2, f3, f4, f5⟩ := hf it (by simp)
    exact I.turned (t' := s.toks) (fun b o hb q => hx' b o hb q) f0 f1 f3 f4 f5
  self := fun A i s Q E st h => let ⟨⟨_, he⟩, _⟩ := st; wpAny_pyIter_enum he h
def iEnumT (K : PySem.W.Frag) (ta : TA) : TI := fun σ H R => ta σ H fun vs H1 => ∃ a xs, vs = [.ref a] ∧ SqT K H1 a xs ∧ R (IteT K a) H1
section
variable {X : Cx} {e : Expr} {p pos tpos : Pos} {elts : List Expr} {kk : Nat}
theorem pi_enumT {ta : TA} (hg : Gl X "enumerate") (hm : X.mg "enumerate" = none) (ha : PA X [e] ta) (hs : starEach [e] X.env = [(false, eval e X.env)] := by rfl) :
    PI X (.Tuple elts kk tpos) (.Call (.Name "enumerate" p) [e] [] pos) (iEnumT X.K ta) := by
  refine ⟨fun pins s σ H R I h => ?_⟩
  refine Call_ (ld_blt I hg hm boot_enumerate (PyProof.Rows.callWith_type1 (thn (ha.run pos pins s σ H _ I h) fun us s1 h1 => ?_) hs rfl))
  obtain ⟨vs, H1, I1, r1, a, xs, ex, hq, q⟩ := h1
  subst ex
  cases r1 with
  | cons r rr =>
    cases rr
    cases r
    obtain ⟨its, rv, pt, hz⟩ := I1.tuple hq
    refine call_enumT pt fun h' he hit hk => wpAny_pyIter_enum he ?_
    refine ⟨s1.heap.objs.size + 1, [s1.heap.objs.size + 1, s1.heap.objs.size], _, _, H1, rfl, I1.kept (t' := s1.toks) hk, turn_enumT a (s1.heap.objs.size + 1) s1.heap.objs.size, ⟨⟨.none, he⟩, hit, Nat.succ_ne_self _⟩, fun b hb => ?_, q⟩
    have hle : s1.heap.objs.size ≤ b := by
      rcases (by simpa using hb : b = s1.heap.objs.size + 1 ∨ b = s1.heap.objs.size) with z | z
      · rw [z]; exact Nat.le_add_right _ _
      · rw [z]; exact Nat.le_refl _
    exact I1.fpOk hle (I1.hok.fresh hle)
/-- pairs of numbers and items -/
def enumD (ds : List D) : List D := ds.mapIdx fun i d => .tup [.int (i : Int), d]
theorem enumD_length {ds : List D} : (enumD ds).length = ds.length := List.length_mapIdx
theorem enumD_get {ds : List D} {i : Nat} {d : D} (h : (enumD ds)[i]? = some d) : ∃ x, ds[i]? = some x ∧ d = .tup [.int (i : Int), x] := by
  unfold enumD at h
  rw [List.getElem?_mapIdx] at h
  obtain ⟨x, h1, h2⟩ := Option.map_eq_some_iff.mp h
  exact ⟨x, h1, h2.symm⟩
def mEnum (m : MArg) : MItr := fun ρ S => (m ρ S).bind fun p => match p.1 with
  | [.tup ds] => some ((enumD ds, always), p.2)
  | [.lr n] => (lat p.2 n).bind fun ds => some ((enumD ds, still n ds), p.2)
  | _ => none
theorem pairNew {K : PySem.W.Frag} {H : Hp} {μ : List Addr} {S : Store} {T : Addr} {x y : V} {d e : D} (s : StR K H μ S) (hT : H T = none) (r1 : Rp K H μ x d) (r2 : Rp K H μ y e) :
    Grow H (upd H T (.tup [x, y])) μ μ ∧ StR K (upd H T (.tup [x, y])) μ S ∧ Rp K (upd H T (.tup [x, y])) μ (.ref T) (.tup [d, e]) :=
  ⟨.new hT, s.new hT, .tup upd_same (.cons (r1.grow (.new hT)) (.cons (r2.grow (.new hT)) .nil))⟩
theorem isIt_enumT {K : PySem.W.Frag} {H0 : Hp} {μ0 : List Addr} {a : Addr} {vs : List V} {ds : List D} (h1 : SqT K H0 a vs) (h2 : RpA K H0 μ0 vs ds) : IsIt K (IteT K a) H0 μ0 (enumD ds) always where
  go := fun i H μ S g s h hi => by
    rw [enumD_length] at hi
    have hi' : i < vs.length := by rw [h2.length]; exact hi
    exact ⟨vs, vs[i], g.sqT h1, List.getElem?_eq_getElem hi'⟩
  stop := fun H μ S g s h => ⟨vs, g.sqT h1, by rw [enumD_length, h2.length]; exact Nat.le_refl _⟩
  yld := fun i H μ S x H' g s h y d hd => by
    obtain ⟨T, z, rfl, hT, rfl, y⟩ := y
    obtain ⟨d', e1, rfl⟩ := enumD_get hd
    obtain ⟨w, h3, h4⟩ := (h2.grow g).get e1
    rw [y vs (g.sqT h1)] at h3
    cases h3
    exact pairNew s hT (.int _) h4
theorem isIt_enumL {K : PySem.W.Frag} {H0 : Hp} {μ0 : List Addr} {n : Nat} {a : Addr} {ds : List D} (r : Rp K H0 μ0 (.ref a) (.lr n)) : IsIt K (Ite K a) H0 μ0 (enumD ds) (still n ds) where
  go := fun i H μ S g s h hi => by
    rw [enumD_length] at hi
    obtain ⟨a', vs, e1, h1, h2⟩ := s.lat (still_eq h) (r.grow g)
    cases e1
    have hi' : i < vs.length := by rw [h2.length]; exact hi
    exact ⟨vs, vs[i], h1, List.getElem?_eq_getElem hi'⟩
  stop := fun H μ S g s h => by
    obtain ⟨a', vs, e1, h1, h2⟩ := s.lat (still_eq h) (r.grow g)
    cases e1
    exact ⟨vs, h1, by rw [enumD_length, h2.length]; exact Nat.le_refl _⟩
  yld := fun i H μ S x H' g s h y d hd => by
    obtain ⟨T, z, rfl, hT, rfl, y⟩ := y
    obtain ⟨d', e1, rfl⟩ := enumD_get hd
    obtain ⟨a', vs, e2, h1, h2⟩ := s.lat (still_eq h) (r.grow g)
    cases e2
    obtain ⟨w, h3, h4⟩ := h2.get e1
    rw [y vs h1] at h3
    cases h3
    exact pairNew s hT (.int _) h4
theorem mi_enum {m : MArg} (hg : Gl X "enumerate") (hm : X.mg "enumerate" = none) (ha : MA X [e] m) (hs : starEach [e] X.env = [(false, eval e X.env)] := by rfl) : MI X (.Tuple elts kk tpos) (.Call (.Name "enumerate" p) [e] [] pos) (mEnum m) := by
  refine ⟨⟨fun pins s σ H R I h => ?_⟩⟩
  obtain ⟨ρ, S, μ, p, S', st, e1, q⟩ := h
  obtain ⟨⟨ds, S1⟩, e2, e1⟩ := Option.bind_eq_some_iff.mp e1
  dsimp only at e1
  split at e1
  · cases e1
    refine (pi_enumT hg hm ha.pa hs).run pins s σ H R I ⟨ρ, S, μ, _, _, st, e2, fun vs H1 μ1 g1 s1 r1 => ?_⟩
    match vs, r1 with
    | _, .cons (.tup h1 h2) .nil => exact ⟨_, _, rfl, sq _ _ h1, q _ H1 μ1 g1 s1 (isIt_enumT (sq _ _ h1) h2)⟩
  · obtain ⟨ds', e3, e1⟩ := Option.bind_eq_some_iff.mp e1
    cases e1
    refine (pi_enum hg hm ha.pa hs).run pins s σ H R I ⟨ρ, S, μ, _, _, st, e2, fun vs H1 μ1 g1 s1 r1 => ?_⟩
    match vs, r1 with
    | _, .cons r1 .nil =>
      obtain ⟨a, ws, rfl, h1, h2⟩ := s1.lat e3 r1
      exact ⟨a, ws, rfl, h1, q _ H1 μ1 g1 s1 (isIt_enumL r1)⟩
  · cases e1
end

/-! ### built-in functions -/
section
variable {X : Cx} {x : Str} {p pos : Pos} {e : Expr} {es : List Expr} {m : MArg} {f : DCall} {id T : String}
theorem me_callB (hc : CallR X (.builtin id) (rCM X.K f)) (hg : Gl X x) (hm : X.mg x = none) (hv : bootBuiltins x = some (.builtin id)) (ha : MA X (e :: es) m) (hn : x ≠ "__name__" := by decide) (hdb : (x == ("__debug__" : Str)) = false := by decide)
    (he : starEach (e :: es) X.env = (false, eval e X.env) :: starEach es X.env := by rfl) (hpl : (backTo pos (starEach es X.env)).any (·.1) = false := by rfl) : ME X (.Call (.Name x p) (e :: es) [] pos) (mCall f m) :=
  ⟨PE.imp (pe_callB hc hg hm hv ha.pa hn hdb he hpl) fun _ _ _ h => tE_call h⟩
theorem me_callTy (hc : CallR X (.type T) (rCM X.K f)) (hg : Gl X x) (hm : X.mg x = none) (hv : bootBuiltins x = some (.type T)) (ha : MA X (e :: es) m) (hn : x ≠ "__name__" := by decide) (hdb : (x == ("__debug__" : Str)) = false := by decide)
    (he : starEach (e :: es) X.env = (false, eval e X.env) :: starEach es X.env := by rfl) (hpl : (backTo pos (starEach es X.env)).any (·.1) = false := by rfl) : ME X (.Call (.Name x p) (e :: es) [] pos) (mCall f m) :=
  ⟨PE.imp (pe_callTy hc hg hm hv ha.pa hn hdb he hpl) fun _ _ _ h => tE_call h⟩
def cLen : DCall := fun ds S => match ds with
  | [d] => (items S d).bind fun xs => some (.int (xs.length : Int), S)
  | _ => none
theorem c_len : CallR X (.builtin "len") (rCM X.K cLen) := CallR.imp call_len_seq fun vs H Q ⟨S, μ, ds, d, S', s, r, e, q⟩ => by
  match ds, r, e with
  | [d0], .cons r1 .nil, e =>
    obtain ⟨xs, e1, e⟩ := Option.bind_eq_some_iff.mp (show ((items S d0).bind fun xs => some (D.int (xs.length : Int), S)) = some (d, S') from e)
    cases e
    obtain ⟨a, ws, rfl, h1, h2⟩ := s.items e1 r1
    exact ⟨a, ws, rfl, h1, by rw [h2.length]; exact q.id s (.int _)⟩
  | [], _, e => cases e
  | _ :: _ :: _, _, e => cases e
def cList : DCall := fun ds S => match ds with
  | [d] => (items S d).bind fun xs => some (.lr S.length, S ++ [.lst xs])
  | _ => none
theorem c_list : CallR X (.type "list") (rCM X.K cList) := CallR.imp call_list_of fun vs H Q ⟨S, μ, ds, d, S', s, r, e, q⟩ => by
  match ds, r, e with
  | [d0], .cons r1 .nil, e =>
    obtain ⟨xs, e1, e⟩ := Option.bind_eq_some_iff.mp (show ((items S d0).bind fun xs => some (D.lr S.length, S ++ [.lst xs])) = some (d, S') from e)
    cases e
    obtain ⟨a, ws, rfl, h1, h2⟩ := s.items e1 r1
    exact ⟨a, ws, rfl, h1, fun l hl => q.lst s h2 hl⟩
  | [], _, e => cases e
  | _ :: _ :: _, _, e => cases e
def cTuple : DCall := fun ds S => match ds with
  | [d] => (items S d).bind fun xs => some (.tup xs, S)
  | _ => none
theorem c_tuple : CallR X (.type "tuple") (rCM X.K cTuple) := CallR.imp call_tuple_of fun vs H Q ⟨S, μ, ds, d, S', s, r, e, q⟩ => by
  match ds, r, e with
  | [d0], .cons r1 .nil, e =>
    obtain ⟨xs, e1, e⟩ := Option.bind_eq_some_iff.mp (show ((items S d0).bind fun xs => some (D.tup xs, S)) = some (d, S') from e)
    cases e
    obtain ⟨a, ws, rfl, h1, h2⟩ := s.itemsO e1 r1
    refine ⟨a, ws, rfl, ?_⟩
    rcases h1 with h1 | ⟨h1, _⟩
    · exact .inl ⟨h1, fun l hl => q.tup s h2 hl⟩
    · exact .inr ⟨sq _ _ h1, q.id s (.tup h1 h2)⟩
  | [], _, e => cases e
  | _ :: _ :: _, _, e => cases e
def cInt : DCall := fun ds S => match ds with
  | [.int i] => some (.int i, S)
  | [.bl b] => some (.int (if b then 1 else 0), S)
  | _ => none
theorem c_int : CallR X (.type "int") (rCM X.K cInt) := CallR.imp call_int1 fun vs H Q ⟨S, μ, ds, d, S', s, r, e, q⟩ => by
  unfold cInt at e
  split at e
  · cases e
    match vs, r with
    | _, .cons (.int i) .nil => exact .inl ⟨_, rfl, q.id s (.int _)⟩
  · cases e
    match vs, r with
    | _, .cons (.bl i) .nil => exact .inr ⟨_, rfl, q.id s (.int _)⟩
  · cases e
def cAbs : DCall := fun ds S => match ds with
  | [.int i] => some (.int (if i < 0 then -i else i), S)
  | _ => none
theorem c_abs : CallR X (.builtin "abs") (rCM X.K cAbs) := CallR.imp call_abs fun vs H Q ⟨S, μ, ds, d, S', s, r, e, q⟩ => by
  unfold cAbs at e
  split at e
  · cases e
    match vs, r with
    | _, .cons (.int i) .nil => exact ⟨_, rfl, q.id s (.int _)⟩
  · cases e
def cMax : DCall := fun ds S => match ds with
  | [.int i, .int j] => some (.int (if j > i then j else i), S)
  | _ => none
theorem c_max (hc : X.calm = true) : CallR X (.builtin "max") (rCM X.K cMax) := CallR.imp (call_max2 hc) fun vs H Q ⟨S, μ, ds, d, S', s, r, e, q⟩ => by
  unfold cMax at e
  split at e
  · cases e
    match vs, r with
    | _, .cons (.int i) (.cons (.int j) .nil) => exact ⟨_, _, rfl, q.id s (.int _)⟩
  · cases e
def cMin : DCall := fun ds S => match ds with
  | [.int i, .int j] => some (.int (if j < i then j else i), S)
  | _ => none
theorem c_min (hc : X.calm = true) : CallR X (.builtin "min") (rCM X.K cMin) := CallR.imp (call_min2 hc) fun vs H Q ⟨S, μ, ds, d, S', s, r, e, q⟩ => by
  unfold cMin at e
  split at e
  · cases e
    match vs, r with
    | _, .cons (.int i) (.cons (.int j) .nil) => exact ⟨_, _, rfl, q.id s (.int _)⟩
  · cases e
/-- xs.append(e) -/
def mApp (m : MExp) (a : MArg) : MExp := fun ρ S => (m ρ S).bind fun p => match p.1 with
  | .lr n => (mat p.2 n).bind fun _ => (a ρ p.2).bind fun q => match q.1 with
    | [d] => (mat q.2 n).bind fun ds => if ds.length < szl then some (.non, q.2.set n (.lst (ds ++ [d]))) else none
    | _ => none
  | _ => none
theorem me_app {o : Expr} {mo : MExp} {apos cpos : Pos} (ho : ME X o mo) (ha : MA X (e :: es) m)
    (hbase : attributeBase o "append" X.env (eval o X.env) = eval o X.env := by rfl)
    (hfew : ((backTo cpos (starEach (e :: es) X.env)).all (fun x => !x.1) && (backToKw cpos (keywordEach [] X.env)).all (fun x => x.1.isSome)
      && decide ((e :: es).length + ([] : List Keyword).length + (if ([] : List Keyword).isEmpty then 0 else 1) < 30)) = true := by rfl)
    (hline : (apos.endLine == cpos.line) = true := by rfl) (hs : starEach (e :: es) X.env = (false, eval e X.env) :: starEach es X.env := by rfl) (hplain : (backTo cpos (starEach es X.env)).any (·.1) = false := by rfl) :
    ME X (.Call (.Attribute o "append" apos) (e :: es) [] cpos) (mApp mo m) :=
  ⟨PE.imp (pe_bm PySem.F.plainAttrs_list PySem.F.slot_list_append PySem.F.type_list_append mt_append ho.pe ha.pa hbase hfew hline hs hplain) fun σ H Q ⟨ρ, S, μ, d, S', st, e, q⟩ => by
    obtain ⟨⟨d1, S1⟩, e1, e⟩ := Option.bind_eq_some_iff.mp e
    refine ⟨ρ, S, μ, d1, S1, st, e1, fun v H1 μ1 g1 s1 r1 => ?_⟩
    cases d1 with
    | lr n =>
      obtain ⟨ds0, e2, e⟩ := Option.bind_eq_some_iff.mp (show ((mat S1 n).bind fun _ => (m ρ S1).bind fun q => (match q.1 with
        | [d] => (mat q.2 n).bind fun ds => if ds.length < szl then some (D.non, q.2.set n (.lst (ds ++ [d]))) else none
        | _ => none)) = some (d, S') from e)
      obtain ⟨⟨as, S2⟩, e3, e⟩ := Option.bind_eq_some_iff.mp e
      obtain ⟨a, vs, rfl, h1, h2, h3⟩ := s1.mat e2 r1
      refine ⟨.inl ⟨rfl, vs, .inl (.inl h2)⟩, ρ, S1, μ1, as, S2, st.grow g1 s1, e3, fun ws H2 μ2 g2 s2 r2 => ?_⟩
      match as, r2, e with
      | [d0], .cons r3 .nil, e =>
        obtain ⟨ds, e4, e⟩ := Option.bind_eq_some_iff.mp (show ((mat S2 n).bind fun ds => if ds.length < szl then some (D.non, S2.set n (.lst (ds ++ [d0]))) else none) = some (d, S') from e)
        split at e
        · rename_i hz
          cases e
          obtain ⟨a', vs', h4, h5, h6, h7⟩ := s2.mat e4 (r1.grow g2)
          cases h4
          refine ⟨a, vs', _, rfl, rfl, h6, by rw [h7.length]; exact szl_lt hz, ?_⟩
          exact q _ _ μ2 ((g1.trans g2).trans (.wr h6)) (s2.wr (mat_eq e4) h5 (h7.append (.cons r3 .nil))) .non
        · cases e
      | [], _, e => cases e
      | _ :: _ :: _, _, e => cases e
    | _ => cases e⟩
end
end MS

set_option Elab.async false
set_option linter.all false
set_option maxRecDepth 100000
set_option maxHeartbeats 4000000
namespace MS
open PySem PySem.Spec PyProof.Rows L2

/-! ### repr -/
def okShow (p : PyData) : Bool := p.showable && !p.hasDict && decide (p.depth ≤ 64) && decide (p.shown.length ≤ szl)
def cRepr : DCall := fun ds S => match ds with
  | [d] => (toPy S 64 d).bind fun p => if okShow p then some (.str p.shown, S) else none
  | _ => none
section
variable {X : Cx}
theorem c_repr (hg : X.A.guards = some []) (hu : X.A.units + 80 < cLine) : CallR X (.builtin "repr") (rCM X.K cRepr) := by
  intro pins s σ H xs us Q I r ⟨S, μ, ds, d, S', st, rr, e, q⟩
  unfold cRepr at e
  split at e
  · rename_i d0
    obtain ⟨p, e1, e⟩ := Option.bind_eq_some_iff.mp e
    split at e
    · rename_i hok
      cases e
      unfold okShow at hok
      simp only [Bool.and_eq_true, decide_eq_true_eq, Bool.not_eq_true'] at hok
      obtain ⟨⟨⟨h1, h2⟩, h3⟩, h4⟩ := hok
      have h4 : p.shown.length ≤ sizeLine := szl_le h4
      match xs, rr, us, r with
      | [v], .cons r1 .nil, [u], .cons ru .nil =>
        have dp := dp_of st 64 d0 v p e1 r1
        obtain ⟨as, rd⟩ := Dp.reads I p v u dp ru
        have fin : ∀ (t : Tok) (h' : Heap) (tk : Nat), (∀ b o, s.heap.get? b = some o → h'.get? b = some o) → EP X pins σ Q (.str p.shown t) { s with heap := h', toks := tk } := fun t h' tk hk => ⟨.str p.shown, H, I.kept (t' := tk) hk, ⟨t, rfl⟩, q.id st (.str _)⟩
        cases rd with
        | none => exact PySem.P.repr_of_none (fin _ _ _ fun _ _ z => z)
        | bool b => exact PySem.P.repr_of_bool (fin _ _ _ fun _ _ z => z)
        | int i t => exact PySem.P.repr_of_int (of_decide_eq_true h1) (fin _ _ _ fun _ _ z => z)
        | str x t => exact PySem.P.repr_of_str (fin _ _ _ fun _ _ z => z) h4
        | list a1 a2 a3 a4 => exact repr_of_reads' (.list a1 a2 a3 a4) h1 (fun z => by rw [h2] at z; cases z) hg (by omega) (fun _ _ z => z) (fun h' t tk hk => fin t h' tk hk) h4
        | tuple a1 a2 a3 a4 => exact repr_of_reads' (.tuple a1 a2 a3 a4) h1 (fun z => by rw [h2] at z; cases z) hg (by omega) (fun _ _ z => z) (fun h' t tk hk => fin t h' tk hk) h4
        | dict a1 a2 a3 a4 a5 => cases dp
    · cases e
  · cases e
end

/-! ### t[::-1] -/
section
variable {prog : Program} {w : World} {A : Around} {E : Value → Shared → Prop} {s : Shared}
theorem sliceApplied_back {sl : Addr} {vl vu vs : Value} {n : Nat} {Q : Int × Int × Nat → Shared → Prop} (hs : s.heap.IsSliceOf sl vl vu vs) (pl : IsPart vl none) (pu : IsPart vu none) (ps : IsPart vs (some (-1)))
    (h : Q ((n : Int) - 1, -1, n) s) : wpAny (model prog w) A (Builtin.Slice.sliceApplied (.ref sl) (pure (n : Int))) Q E s := by
  obtain ⟨os, hos, hcs, hds⟩ := id hs
  unfold Builtin.Slice.sliceApplied Builtin.Slice.sliceFields
  refine wpAny_bind (wpAny_bind (wpAny_field hos hds (x := vl) rfl (wpAny_bind (wpAny_field hos hds (x := vu) rfl (wpAny_bind (wpAny_field hos hds (x := vs) rfl (wpAny_pure ?_)))))))
  refine wpAny_bind (HT.slicePart_ ps ?_)
  show wpAny _ _ (if ((-1 : Int) == 0) = true then _ else _) _ _ s
  rw [if_neg (by decide)]
  refine wpAny_bind (HT.slicePart_ pl (wpAny_bind (HT.slicePart_ pu (wpAny_bind (wpAny_pure ?_)))))
  have e : Builtin.Slice.slicePlaces ((n : Int) - 1) (-1) (-1) = n := by
    unfold Builtin.Slice.slicePlaces
    simp only [show ¬ ((-1 : Int) > 0) by decide, if_false]
    split
    · rw [show (- -1 : Int) = 1 by decide, Int.ediv_one]; omega
    · omega
  show wpAny _ _ (pure ((n : Int) - 1, (-1 : Int), Builtin.Slice.slicePlaces ((n : Int) - 1) (-1) (-1))) _ _ s
  rw [e]
  exact wpAny_pure h
theorem fm_congr {α β : Type} {f g : α → Option β} : ∀ {l : List α}, (∀ x ∈ l, f x = g x) → l.filterMap f = l.filterMap g
  | [], _ => rfl
  | a :: l, h => by
    rw [List.filterMap_cons, List.filterMap_cons, h a (List.mem_cons_self ..), fm_congr fun x hx => h x (List.mem_cons_of_mem _ hx)]
theorem pick_back (xs : Array Value) : ((List.range xs.size).filterMap fun (m : Nat) => xs[((xs.size : Int) - 1 + (m : Int) * -1).toNat]?).toArray = xs.toList.reverse.toArray := by
  congr 1
  rw [← PySem.W.krv_all xs, ← List.filterMap_reverse, ← PySem.W.krv_range, List.filterMap_map]
  refine fm_congr fun m hm => ?_
  have := List.mem_range.mp hm
  show xs[((xs.size : Int) - 1 + (m : Int) * -1).toNat]? = xs[xs.size - 1 - m]?
  congr 1
  omega
theorem getItem_tuple_back {t sl : Addr} {its : Array Value} {vl vu vs : Value} {Q : Value → Shared → Prop} (ht : IsTup s.heap t its) (hs : s.heap.IsSliceOf sl vl vu vs) (pl : IsPart vl none) (pu : IsPart vu none) (ps : IsPart vs (some (-1)))
    (h : Q (.ref s.heap.objs.size) { s with heap := s.heap.push { cls := .type "tuple", data := .seq its.toList.reverse.toArray } }) (hsz : its.size ≤ sizeLine) : wpAny (model prog w) A (getItem (.ref t) (.ref sl)) Q E s := by
  have hlen : sizeOk (.seq its.toList.reverse.toArray) := by
    show its.toList.reverse.toArray.size ≤ sizeLine
    rw [List.size_toArray, List.length_reverse, Array.length_toList]
    exact hsz
  obtain ⟨os, hos, hcs, hds⟩ := id hs
  have hTs : s.TypeIs (.ref sl) "slice" := ⟨os, hos, hcs⟩
  unfold getItem
  try with_reducible refine wpAny_holding ?_
  first | refine wpAny_bind (wpAny_pure ?_) | skip
  refine wpAny_bind (wpAny_sequenceKey ht.typeIs (by decide) ?_)
  refine wpAny_bind (wpAny_callSpecial?_slot (name := Str.ofString "__getitem__") ht.typeIs PyProof.Rows.slot_tuple_getitem (wpAny_call_entry PyProof.Rows.slot_tuple_getitem ht.typeIs entry_tuple_getitem ?_ (args_tuple_getitem _ _)))
  show wpAny _ _ (Builtin.Tuple.tupleItemsOf (.ref t) >>= _) _ _ s
  refine wpAny_bind (tupleItemsOf_ ht (wpAny_bind (wpAny_typeOf hTs ?_)))
  rw [if_pos (by decide)]
  refine wpAny_bind (sliceApplied_back hs pl pu ps ?_)
  show wpAny _ _ (if (((its.size : Int) - 1 == 0) && ((-1 : Int) == 1) && (its.size == its.size)) = true then _ else _) _ _ s
  rw [if_neg (by simp), pick_back]
  first
    | exact wpAny_bind (m := Builtin.Tuple.tupleExact _) (wpAny_newObj_type (wpAny_pure ⟨_, rfl, wpAny_pure h⟩) hlen)
    | exact wpAny_bind (m := Builtin.Tuple.tupleExact _) (wpAny_newObj_type (wpAny_bind (wpAny_pure (wpAny_pure ⟨_, rfl, wpAny_pure h⟩))) hlen)
    | exact wpAny_bind (wpAny_bind (m := Builtin.Tuple.tupleExact _) (wpAny_newObj_type (wpAny_pure (wpAny_pure ⟨_, rfl, wpAny_pure h⟩)) hlen))
    | exact wpAny_bind (wpAny_bind (m := Builtin.Tuple.tupleExact _) (wpAny_newObj_type (wpAny_pure ⟨_, rfl, wpAny_pure h⟩) hlen))
end
def mRevT (m : MExp) : MExp := fun ρ S => (m ρ S).bind fun p => match p.1 with
  | .tup ds => some (.tup ds.reverse, p.2)
  | _ => none
theorem me_revT {X : Cx} {e : Expr} {m : MExp} {k : Nat} {p1 p2 p3 pos : Pos} (he : ME X e m) : ME X (.Subscript e (.Slice none none (some (.UnaryOp .USub (.Constant (.int 1) k p1) p2)) p3) pos) (mRevT m) := by
  refine ⟨⟨fun pins s σ H Q I ⟨ρ, S, μ, d, S', st, e, q⟩ => ?_⟩⟩
  obtain ⟨⟨d1, S1⟩, e1, e⟩ := Option.bind_eq_some_iff.mp e
  refine Subscript_ (thn (he.pe.run pins s σ H (fun v H1 => ∃ μ1, Grow H H1 μ μ1 ∧ StR X.K H1 μ1 S1 ∧ Rp X.K H1 μ1 v d1) I ⟨ρ, S, μ, d1, S1, st, e1, fun v H' μ' g1 s1 r1 => ⟨μ', g1, s1, r1⟩⟩) fun v s1 h1 => ?_)
  obtain ⟨x, H1, I1, r1, μ1, g1, st1, rp⟩ := h1
  cases d1 with
  | tup ds =>
    cases e
    cases rp with
    | tup hT hA =>
    cases r1
    have hst : PO X (some (.UnaryOp .USub (.Constant (.int 1) k p1) p2)) (tPart (tUn (rU fun i => .int (-i)) (tC (.int 1)))) := po_some (pe_un un_neg pe_int)
    refine wpAny_Slice (thn (po_none.run pins s1 σ H1 (fun o H2 => o = none ∧ H2 = H1) I1 ⟨rfl, rfl⟩) fun vl s2 h2 => ?_)
    obtain ⟨l, H2, I2, pl, rfl, rfl⟩ := h2
    refine thn (po_none.run pins s2 σ H2 (fun o H3 => o = none ∧ H3 = H2) I2 ⟨rfl, rfl⟩) fun vu s3 h3 => ?_
    obtain ⟨u, H3, I3, pu, rfl, rfl⟩ := h3
    refine thn (hst.run pins s3 σ H3 (fun o H4 => o = some (-1) ∧ H4 = H3) I3 ⟨1, rfl, -1, rfl, rfl, rfl⟩) fun vs s4 h4 => ?_
    obtain ⟨o, H4, I4, ps, rfl, rfl⟩ := h4
    have I5 : Inv X pins σ H4 { s4 with heap := s4.heap.push { cls := .type "slice", data := .fields #[vl, vu, vs] } } := I4.kept (t' := s4.toks) fun b ob q => Heap.get?_push_of_some _ q
    obtain ⟨its, r, ht, hz⟩ := I5.tuple (sq _ _ hT)
    have hlen := r.length
    rename_i a xs
    refine tail_any (ops := [.ref a, .ref s4.heap.objs.size]) ht.typeIs PyProof.Rows.slot_tuple_getitem.lookup ?_ (by with_unfolding_all rfl)
    refine getItem_tuple_back ht (Heap.IsSliceOf.new _ vl vu vs) pl pu ps ?_ (by rw [List.size_toArray]; omega)
    refine ⟨.ref _, _, I5.laid (t' := s4.toks) (o := .tup xs.reverse) (fun b ob q => Heap.get?_push_of_some _ q) (Nat.le_refl _) ?_, rfl, Aft.tup (fun v H' μ' g2 => q v H' μ' (g1.trans g2)) st1 hA.reverse (I5.hok.fresh (Nat.le_refl _))⟩
    exact ⟨by rw [List.length_reverse]; exact hz, _, by simpa using r.reverse, ⟨_, Heap.get?_push_size _ rfl, rfl, _, rfl⟩⟩
  | _ => cases e
end MS

set_option Elab.async false
set_option linter.all false
set_option maxRecDepth 100000
set_option maxHeartbeats 4000000
namespace MS
open PySem PySem.Spec PyProof.Rows L2

/-! ### what a def does, as a function of data -/
section
variable {P : Program} {w : World} {K : PySem.W.Frag} {mg : Str → Option Value} {base : Heap}
/-- called at level k the def does what F says wherever F says something, and raises nothing -/
structure FnG (P : Program) (w : World) (K : PySem.W.Frag) (mg : Str → Option Value) (base : Heap) (k : Nat) (f : Addr) (fd : FuncData) (ps : List Str) (F : DCall) : Prop where
  run : ∀ (A : Around) (outer : List Env) (s : Shared) (H : Hp) (args : Args) (us : List Value) (vs : List V) (Q : VK) (S : Store) (μ : List Addr) (ds : List D) (d : D) (S' : Store), Room k A → A.guards = some [] → Env0 P w K mg base A outer s H →
    BindsTo s fd args (ps.zip us) → Vals vs us → vs.length = ps.length → StR K H μ S → RpA K H μ vs ds → F ds S = some (d, S') → Aft K H μ d S' Q → codeAny (model P w) A (.call (.ref f) args) (CR CX0 outer P w H s Q E0) s
theorem FnG.mono {j k : Nat} {f : Addr} {fd : FuncData} {ps : List Str} {F : DCall} (h : FnG P w K mg base j f fd ps F) (l : j ≤ k) : FnG P w K mg base k f fd ps F :=
  ⟨fun A outer s H args us vs Q S μ ds d S' hr => h.run A outer s H args us vs Q S μ ds d S' (hr.mono l)⟩
theorem FnG.imp {k : Nat} {f : Addr} {fd : FuncData} {ps : List Str} {F F' : DCall} (h : FnG P w K mg base k f fd ps F) (i : ∀ ds S r, F' ds S = some r → F ds S = some r) : FnG P w K mg base k f fd ps F' :=
  ⟨fun A outer s H args us vs Q S μ ds d S' hr hg he hb hv hl st ra e q => h.run A outer s H args us vs Q S μ ds d S' hr hg he hb hv hl st ra (i _ _ _ e) q⟩
def startD (n : Nat) (ds : List D) : Ev := ds.map some ++ List.replicate (n - ds.length) none
theorem sim_start {H : Hp} {μ : List Addr} {S : Store} {N : List Str} {vs : List V} {ds : List D} (st : StR K H μ S) (r : RpA K H μ vs ds) : Sim K H μ (L2.start N vs) (startD N.length ds) S := by
  refine ⟨st, ?_, fun i d e => ?_⟩
  · unfold startD L2.start
    rw [List.length_append, List.length_append, List.length_map, List.length_map, List.length_replicate, List.length_replicate, r.length]
  · unfold startD at e
    by_cases hi : i < ds.length
    · rw [List.getElem?_append_left (by rw [List.length_map]; exact hi), List.getElem?_map] at e
      obtain ⟨d', h1, h2⟩ := Option.map_eq_some_iff.mp e
      cases h2
      obtain ⟨v, h3, h4⟩ := r.get h1
      refine ⟨v, ?_, h4⟩
      unfold L2.start
      rw [List.getElem?_append_left (by rw [List.length_map, r.length]; exact hi), List.getElem?_map, h3]
      rfl
    · rw [List.getElem?_append_right (by rw [List.length_map]; omega), List.getElem?_replicate] at e
      split at e <;> cases e
/-- what the body's reading must give -/
def Does (n : Nat) (m : MStm) (F : DCall) : Prop := ∀ ds S d S', F ds S = some (d, S') → ∃ f ρ', m (startD n ds) S = some (f, ρ', S') ∧ (f = .rt d ∨ (f = .nx ∧ d = .non))
/-- a def's context -/
abbrev bodyX (P : Program) (w : World) (K : PySem.W.Frag) (mg : Str → Option Value) (base : Heap) (N : List Str) (qual : Str) (st : Stmt) (f : Addr) (cdv : Value) (A : Around) (outer : List Env) (s : Shared) (H : Hp) : Cx := (cxOf CX0 P w K mg base N qual (defScope st) f cdv A outer s H E0).nox
theorem fnG_of {x qual : Str} {st : Stmt} {f : Addr} {fd : FuncData} {N ps : List Str} {k : Nat} {F : DCall} (fn : Fun K x qual st f fd) (sc : FnScope N ps (defScope st))
    (hbody : ∀ (cdv : Value) (A : Around) (outer : List Env) (s : Shared) (H : Hp), let X := bodyX P w K mg base N qual st f cdv A outer s H; Room k X.A → X.A.guards = some [] → ∃ m, MSs X (defBody st) m ∧ Does N.length m F) : FnG P w K mg base (k + 1) f fd ps F := by
  obtain ⟨oc, od, kV, doc, pm, an, cdv, ct, osl, rfl, lk, hcd⟩ := fn.ex
  refine ⟨fun A outer s H args us vs Q S μ ds d S' hr hg he hb hv hl st' ra e q => ?_⟩
  have KX : K.In s.heap := he.mod.kin.keeps fun b o z => (he.bs b o z).1
  have kinds : ∀ y ∈ ps.zip us, (defScope st).names.lookup y.1 = some .local ∨ ((defScope st).names.lookup y.1 = some .cell ∧ ((cellsFrom (s.heap.objs.size + 1) (defScope st).names []).lookup y.1).isSome = true) := by
    rintro ⟨y, z⟩ hy
    rcases sc.par y (List.of_mem_zip hy).1 with c | c
    · exact .inl c
    · exact .inr ⟨c, PySem.W.cellsFrom_some _ _ _ (.inl c)⟩
  refine codeAny_call_function hr.depth (KX _ _ lk) rfl sc.co sc.gen rfl (PySem.W.codeRec_of KX hcd) (hb _ _ _ _ (wpAny_newFunctionEnv_cells sc.kind kinds fun env he' s1 ic => ?_))
  subst he'
  refine ⟨(he.mod.nolimit.keeps fun b o z => (he.bs b o z).1).keeps ic.toInCall.keep, codeAny_func ?_⟩
  obtain ⟨m, hm, hd⟩ := hbody cdv A outer s H (hr.deeper _) (by show (A.deeper _).guards = some []; exact hg)
  obtain ⟨f', ρ', h1, h2⟩ := hd ds S d S' e
  have I0 : Inv (cxOf CX0 P w K mg base N qual (defScope st) f cdv A outer s H E0) [] (L2.start N vs) H s1 := inv_start sc hr.hd he hl hv ic
  have rd : tS K m { nx := fun _ H' => Q .non H', rt := Q } (L2.start N vs) H := by
    refine ⟨_, S, μ, f', ρ', S', sim_start st' ra, h1, fun σ' H' μ' g sm => ?_⟩
    rcases h2 with rfl | ⟨rfl, rfl⟩
    · exact fun v r => q v H' μ' g sm.st r
    · exact q .non H' μ' g sm.st .non
  refine wpAny_mono (hm.pss.nox.run [] s1 (L2.start N vs) H _ I0 rd) (fun fl s' hs => ?_) fun e s' hs => hs
  have done : ∀ {σ' : L2.St} {H' : Hp} {v : V} {u : Value}, Inv (cxOf CX0 P w K mg base N qual (defScope st) f cdv A outer s H E0) [] σ' H' s' → RelV v u → Q v H' → CE outer P w H s Q u s' :=
    fun J rv z => ⟨_, _, J.os, J.bare, J.base, J.hok, rv, z⟩
  cases fl with
  | ret u => obtain ⟨v, σ', H', J, rv, z⟩ := hs; exact done J rv z
  | next => obtain ⟨σ', H', J, z⟩ := hs; exact done (v := .non) (u := .none) J rfl z
  | brk => obtain ⟨_, _, _, z⟩ := hs; exact z.elim
  | cont => obtain ⟨_, _, _, z⟩ := hs; exact z.elim
end
section
variable {X : Cx} {k : Nat} {f : Addr} {fd : FuncData} {ps : List Str} {F : DCall} {x : Str} {p pos : Pos} {e : Expr} {es : List Expr} {m : MArg}
theorem run_fnG {pins : List (Addr × Obj)} {σ : L2.St} {H : Hp} {s : Shared} {Q : VK} {us : List Value} {vs : List V} (G : FnG X.prog X.w X.K X.mg X.base k f fd ps F) (hr : Room k X.A) (hgd : X.A.guards = some []) (hb : Binds X.K fd ps [])
    (hlen : ∀ ds S r, F ds S = some r → ds.length = ps.length) (I : Inv X pins σ H s) (r : Vals vs us) (h : rCM X.K F vs H Q) : wpAny (model X.prog X.w) X.A (call (.ref f) us) (EP X pins σ Q) X.xe s := by
  obtain ⟨S, μ, ds, d, S', st, ra, e, q⟩ := h
  have hl : vs.length = ps.length := by rw [ra.length]; exact hlen _ _ _ e
  have hb' : BindsTo s fd ⟨us, []⟩ (ps.zip us) := by
    have := hb s us I.kIn (by rw [List.append_nil, ← r.length]; exact hl)
    rwa [List.append_nil] at this
  refine wpAny_call (codeAny_mono (G.run X.A X.stack s H ⟨us, []⟩ us vs Q S μ ds d S' hr hgd I.env0 hb' r hl st ra e q) fun res s' hq => ?_)
  cases res with
  | error e => exact False.elim hq
  | ok fl =>
    cases fl with
    | ret u => exact I.after hq
    | next => exact False.elim hq
    | brk => exact False.elim hq
    | cont => exact False.elim hq
theorem me_call (G : FnG X.prog X.w X.K X.mg X.base k f fd ps F) (hr : Room k X.A) (hgd : X.A.guards = some []) (hg : Gl X x) (hm : X.mg x = some (.ref f)) (hk : PySem.W.keepIn X.K (.ref f) = true) (hb : Binds X.K fd ps [])
    (hlen : ∀ ds S r, F ds S = some r → ds.length = ps.length) (ha : MA X (e :: es) m) (hdb : (x == ("__debug__" : Str)) = false := by decide) (he : starEach (e :: es) X.env = (false, eval e X.env) :: starEach es X.env := by rfl)
    (hpl : (backTo pos (starEach es X.env)).any (·.1) = false := by rfl) : ME X (.Call (.Name x p) (e :: es) [] pos) (mCall F m) := by
  refine ⟨⟨fun pins s σ H Q I h => ?_⟩⟩
  refine wpAny_Call_Name_kw (ld_glob I hg hm (PySem.W.callWith_K (h₀ := X.base) I.ok.mod.kin hk (thn (ha.pa.run pos pins s σ H _ I (tE_call h)) fun us s1 h1 => ?_) he hpl) hdb)
  obtain ⟨vs, H1, I1, r, q⟩ := h1
  exact ⟨I1.kIn, run_fnG G hr hgd hb hlen I1 r q⟩
theorem me_call0 (G : FnG X.prog X.w X.K X.mg X.base k f fd ps F) (hr : Room k X.A) (hgd : X.A.guards = some []) (hg : Gl X x) (hm : X.mg x = some (.ref f)) (hk : PySem.W.keepIn X.K (.ref f) = true) (hb : Binds X.K fd ps [])
    (hlen : ∀ ds S r, F ds S = some r → ds.length = ps.length) (hdb : (x == ("__debug__" : Str)) = false := by decide) : ME X (.Call (.Name x p) [] [] pos) (mCall F mNil) := by
  refine ⟨⟨fun pins s σ H Q I h => ?_⟩⟩
  refine wpAny_Call_Name_kw (ld_glob I hg hm ?_ hdb)
  obtain ⟨ρ, S, μ, d, S', st, e, q⟩ := h
  exact PySem.W.callWith_K0 I.kIn hk (run_fnG (us := []) G hr hgd hb hlen I .nil ⟨S, μ, [], d, S', st.st, .nil, e, q⟩)
end

/-! ### the law's end -/
/-- a law's def gives True at every script of at most n ints -/
def LawOk (n : Nat) (F : DCall) : Prop := ∀ ns : List Int, ns.length ≤ n → ∃ S', F [.lr 0] [.fz (ns.map D.int)] = some (.bl true, S')
theorem law_callG {P : Program} {w : World} {K : PySem.W.Frag} {mg mb : Str → Option Value} {k n : Nat} {fa a : Addr} {fd : FuncData} {x : Str} {F : DCall} {s₁ : Shared} {vs : List Value} {ns : List Int}
    (KX : K.In s₁.heap) (hns : s₁.heap.Ns mainGlobals mg) (hb : s₁.heap.Ns builtinsNs mb) (hbb : ∀ x : Str, x ≠ "__name__" → mb x = bootBuiltins x) (hlim : s₁.heap.NoLimit) (hg : s₁.gens = #[])
    (ha : s₁.heap.get? a = some { cls := .type "list", data := .seq vs.toArray }) (hi : IntsAre vs ns) (hl : ns.length ≤ n) (hn : n ≤ sizeLine) (hr : Room k callerA)
    (hF : ∀ base : Heap, K.In base → base.Ns mainGlobals mg → FnG P w K mg base k fa fd [x] F) (hbind : ∀ (s : Shared) (u : Value), BindsTo s fd ⟨[u], []⟩ [(x, u)]) (ok : LawOk n F) :
    codeAny (model P w) callerA (.call (.ref fa) ⟨[.ref a], []⟩) (fun r s' => r = .ok (.ret (.bool true)) ∧ OldK s₁.heap s'.heap ∧ s'.os = s₁.os ∧ AllBare s'.gens) s₁ := by
  have rv := vals_ints hi
  obtain ⟨S', hS'⟩ := ok ns hl
  have go : ∀ H : Hp, Only H → FzL K H a (ns.map V.int) → HOk P w H s₁.heap → (∀ b, H b ≠ none → b = a) → (H a ≠ none → K.lookup a = none) →
      codeAny (model P w) callerA (.call (.ref fa) ⟨[.ref a], []⟩) (fun r s' => r = .ok (.ret (.bool true)) ∧ OldK s₁.heap s'.heap ∧ s'.os = s₁.os ∧ AllBare s'.gens) s₁ := by
    intro H hO hS hok hA hK
    have isA : ∀ {b : Addr} {u : HO}, H b = some u → b = a := fun z => hA _ (by rw [z]; simp)
    have noDict : ∀ {b : Addr} {o : Obj} {es : Array DictEntry} {ep : Nat}, s₁.heap.get? b = some o → o.data = .dict es ep → H b = none := by
      intro b o es ep e d
      cases q : H b with
      | none => rfl
      | some u =>
        have z := isA q
        subst z
        rw [ha] at e
        cases e
        exact nomatch d
    have keepNs : ∀ {b : Addr} {m : Str → Option Value}, s₁.heap.Ns b m → (hidT s₁.heap H).Ns b m := fun ⟨o, es, ep, e, d, r⟩ => ⟨o, es, ep, hidT_get e (noDict e d), d, r⟩
    have hKb : K.In (hidT s₁.heap H) := fun b o e => hidT_get (KX b o e) (by
      cases q : H b with
      | none => rfl
      | some u =>
        have z := isA q
        subst z
        rw [hK (by rw [q]; simp)] at e
        cases e)
    have hM : Mod K mg (hidT s₁.heap H) := ⟨hKb, keepNs hns, ⟨mb, keepNs hb, hbb⟩, let ⟨mc, h1, h2⟩ := hlim; ⟨mc, keepNs h1, h2⟩⟩
    have e0 : Env0 P w K mg (hidT s₁.heap H) callerA [] s₁ H := ⟨rfl, hM, fun b o e => of_hidT e, Nat.le_of_eq (hidT_size _ _), trivial, fun b hb => absurd hb (List.not_mem_nil), hok, .of_eq hg⟩
    have st : StR K H [a] [.fz (ns.map D.int)] := by
      refine ⟨rfl, fun i j b y z e1 e2 m1 m2 e3 e4 => ?_, fun i mo b e1 e2 => ?_⟩
      · cases i with
        | zero => cases e1; cases m1
        | succ i => simp at e1
      · cases i with
        | zero => cases e1; cases e2; exact ⟨_, hS, RpA.ints⟩
        | succ i => simp at e1
    refine codeAny_mono ((hF _ hKb (keepNs hns)).run callerA [] s₁ H ⟨[.ref a], []⟩ [.ref a] [.ref a] (fun v _ => v = .bl true) _ _ _ _ _ hr rfl e0 (hbind s₁ (.ref a)) (.cons rfl .nil) rfl st (.cons (.lr rfl) .nil) hS' (fun v H' μ' _ _ r => by cases r; rfl)) fun r s' h => ?_
    cases r with
    | error e => exact False.elim h
    | ok fl =>
      cases fl with
      | next => exact False.elim h
      | brk => exact False.elim h
      | cont => exact False.elim h
      | ret u =>
        obtain ⟨v, H', os, bare, un, hok', r', rfl⟩ := h
        obtain rfl : u = Value.bool true := r'
        refine ⟨rfl, OldK.of_keep fun b o e => ?_, os, bare⟩
        cases q : H b with
        | none => exact un.keep b o e q (List.not_mem_nil) (List.not_mem_nil)
        | some u =>
          rcases hO b with z | ⟨ob, xs, z⟩
          · rw [q] at z; cases z
          · obtain ⟨e1, _⟩ := hok b _ z
            obtain ⟨e2, _⟩ := hok' b _ (un.frzs b ob _ z)
            rw [e] at e1; cases e1
            exact e2
  cases hk : K.lookup a with
  | some o =>
    have e := KX a o hk
    rw [ha] at e
    cases e
    refine go (fun _ => none) (fun _ => .inl rfl) (.inr ⟨_, vs.toArray, _, hk, rfl, rfl, rfl, ?_, by simpa using rv⟩) (fun b u z => nomatch z) (fun b z => absurd rfl z) fun z => absurd rfl z
    rw [List.size_toArray, hi.length]; omega
  | none =>
    obtain ⟨H, h1, h2⟩ : ∃ H : Hp, H a = some (.frz { cls := .type "list", data := .seq vs.toArray } (.lst (ns.map V.int))) ∧ ∀ b, b ≠ a → H b = none :=
      ⟨fun b => if b = a then some (.frz { cls := .type "list", data := .seq vs.toArray } (.lst (ns.map V.int))) else none, if_pos rfl, fun b hb => if_neg hb⟩
    refine go H (fun b => ?_) (.inl ⟨_, h1⟩) (fun b u z => ?_) (fun b z => ?_) fun _ => hk
    · by_cases hb : b = a
      · rw [hb]; exact .inr ⟨_, _, h1⟩
      · exact .inl (h2 b hb)
    · by_cases hb : b = a
      · subst hb
        rw [h1] at z
        cases z
        exact ⟨ha, by rw [List.length_map]; omega, vs, _, rv, ha⟩
      · rw [h2 b hb] at z; cases z
    · by_cases hb : b = a
      · exact hb
      · exact absurd (h2 b hb) z
theorem walkG {l : PySem.W.OpenLaw} {n k : Nat} {q : Program} {loose : List Str} {XP : (Str → Option Value) → Heap → Prop} {YP : World → Heap → Prop} {d : DefRec} {K : Params → PySem.W.Frag} {F : DCall} {x : Str}
    (hn : l.most = some n) (hn2 : n ≤ sizeLine) (hdf : d.params.defaults = []) (hr : Room k callerA) (hY : ∀ (w : World) (h : Heap), YP w h → (K w.params).In h) (ok : LawOk n F)
    (hF : ∀ (w : World) (mg : Str → Option Value) (fa : Addr) (h : Heap), (K w.params).In h → h.Ns mainGlobals mg → mg d.name = some (.ref fa) →
      ∃ fd : FuncData, (∀ (s : Shared) (u : Value), BindsTo s fd ⟨[u], []⟩ [(x, u)]) ∧ ∀ base : Heap, (K w.params).In base → base.Ns mainGlobals mg → FnG l.prog w (K w.params) mg base k fa fd [x] F) :
    PySem.W.WalkO q loose XP YP l.row.toRowW d [] (fun f vs => PySem.call f vs) := by
  refine Att.attach_call hn hdf fun w s₀ s₁ mg mb fa o pm cd doc a vs ns G Y ho hd hcd hmg hobj hints hlen hg => ?_
  obtain ⟨fd, hb, hf⟩ := hF w mg fa _ (hY w _ Y) G.T.g hmg
  exact law_callG (hY w _ Y) G.T.g G.T.b G.T.builtins G.T.nolimit hg hobj hints hlen hn2 hr hf hb ok
end MS
namespace MS
open PySem PySem.Spec PyProof.Rows L2
/-! ### a def as its reading says -/
def den (np n : Nat) (m : MStm) : DCall := fun ds S => if ds.length = np then (match m (startD n ds) S with
  | some (.rt d, _, S') => some (d, S')
  | some (.nx, _, S') => some (.non, S')
  | _ => none) else none
theorem den_does {np n : Nat} {m : MStm} : Does n m (den np n m) := fun ds S d S' e => by
  unfold den at e
  split at e
  · split at e
    · rename_i h; cases e; exact ⟨_, _, h, .inl rfl⟩
    · rename_i h; cases e; exact ⟨_, _, h, .inr ⟨rfl, rfl⟩⟩
    · cases e
  · cases e
theorem den_len {np n : Nat} {m : MStm} {ds : List D} {S : Store} {r : D × Store} (e : den np n m ds S = some r) : ds.length = np := by
  unfold den at e
  split at e
  · assumption
  · cases e
/-! ### the built-in names -/
theorem boot_repr : bootBuiltins "repr" = some (.builtin "repr") := by decide +kernel
theorem boot_len : bootBuiltins "len" = some (.builtin "len") := by decide +kernel
theorem boot_abs : bootBuiltins "abs" = some (.builtin "abs") := by decide +kernel
theorem boot_min : bootBuiltins "min" = some (.builtin "min") := by decide +kernel
theorem boot_max : bootBuiltins "max" = some (.builtin "max") := by decide +kernel
theorem boot_int : bootBuiltins "int" = some (.type "int") := by decide +kernel
theorem boot_list : bootBuiltins "list" = some (.type "list") := by decide +kernel
theorem boot_tuple : bootBuiltins "tuple" = some (.type "tuple") := by decide +kernel
end MS
theorem MS.room80 {k : Nat} {A : PySem.Around} (r : L2.Room k A) : A.units + 80 < PySem.cLine := by have := r.un; omega

set_option Elab.async false
set_option linter.all false
set_option maxRecDepth 100000
set_option maxHeartbeats 4000000
namespace MS
open PySem PySem.Spec PyProof.Rows L2

/-! ### what is shown is short -/
mutual
def sml : PyData → Bool
  | .none => true
  | .bool _ => true
  | .int i => decide (i.natAbs < 10 ^ 40)
  | .list xs => smlAll xs
  | .tuple xs => smlAll xs
  | _ => false
def smlAll : List PyData → Bool
  | [] => true
  | x :: xs => sml x && smlAll xs
end
mutual
def wt : PyData → Nat
  | .list xs => wtAll xs + 3
  | .tuple xs => wtAll xs + 3
  | _ => 42
def wtAll : List PyData → Nat
  | [] => 0
  | x :: xs => wt x + 2 + wtAll xs
end
theorem log2_small {n : Nat} (h : n < 10 ^ 40) : n.log2 < 1920 := by
  by_cases h0 : n = 0
  · subst h0; decide
  · rw [Nat.log2_lt h0]
    exact Nat.lt_of_lt_of_le h (Nat.le_trans (by decide : 10 ^ 40 ≤ 2 ^ 200) (Nat.pow_le_pow_right (by decide) (by decide)))
theorem listText_le (ts : List Str) : (listText ts).length ≤ piled ts + 2 := by
  cases ts with
  | nil => decide
  | cons t r =>
    have h := textFrom_length_pos r 1 (("[" : Str) ++ (if (0 : Nat) > 0 then ", " else "" : String) ++ t) (Nat.succ_pos 0)
    show (textFrom 1 (("[" : Str) ++ (if (0 : Nat) > 0 then ", " else "" : String) ++ t) r ++ ("]" : String)).length ≤ _
    rw [strLen_append, h, strLen_append, strLen_append, piled_cons]
    have e1 : ((("[" : String) : Str)).length = 1 := rfl
    have e2 : ((("]" : String) : Str)).length = 1 := rfl
    have e3 : ((((if (0 : Nat) > 0 then ", " else "" : String)) : Str)).length = 0 := rfl
    rw [e1, e2, e3]
    omega
theorem tupleText_le (ts : List Str) : (tupleText ts).length ≤ piled ts + 3 := by
  unfold tupleText
  rw [strLen_append, strLen_append]
  have e1 : ((("(" : String) : Str)).length = 1 := rfl
  have e3 : (((if ts.length == 1 then ",)" else ")" : String) : Str)).length ≤ 2 := by split <;> decide
  rw [e1]
  cases ts with
  | nil =>
    have e2 : (Str.join ", " ([] : List Str)).length = 0 := rfl
    rw [e2, piled_nil]
    omega
  | cons t r =>
    have e2 := join_length_add (t :: r) (List.cons_ne_nil _ _)
    omega
mutual
theorem sml_shown : ∀ p : PyData, sml p = true → p.showable = true ∧ p.hasDict = false ∧ p.shown.length ≤ wt p
  | .none, _ => ⟨rfl, rfl, by decide⟩
  | .bool b, _ => ⟨rfl, rfl, by cases b <;> decide⟩
  | .int i, h => by
    have h' : i.natAbs < 10 ^ 40 := of_decide_eq_true h
    refine ⟨decide_eq_true (log2_small h'), rfl, ?_⟩
    have := int_text_length_le10 (a := i) (k := 40) (by decide) h'
    show ((toString i : String) : Str).length ≤ 42
    rw [PySem.ofString_length]
    omega
  | .list xs, h => by
    obtain ⟨h1, h2, h3⟩ := smlAll_shown xs h
    refine ⟨h1, h2, ?_⟩
    have := listText_le (PyData.shownAll xs)
    show (listText (PyData.shownAll xs)).length ≤ wtAll xs + 3
    omega
  | .tuple xs, h => by
    obtain ⟨h1, h2, h3⟩ := smlAll_shown xs h
    refine ⟨h1, h2, ?_⟩
    have := tupleText_le (PyData.shownAll xs)
    show (tupleText (PyData.shownAll xs)).length ≤ wtAll xs + 3
    omega
  | .str _, h => by cases h
  | .dict _, h => by cases h
theorem smlAll_shown : ∀ xs : List PyData, smlAll xs = true → PyData.showableAll xs = true ∧ PyData.hasDictAll xs = false ∧ piled (PyData.shownAll xs) ≤ wtAll xs
  | [], _ => ⟨rfl, rfl, Nat.le_refl _⟩
  | x :: xs, h => by
    have h : (sml x && smlAll xs) = true := h
    rw [Bool.and_eq_true] at h
    obtain ⟨h1, h2, h3⟩ := sml_shown x h.1
    obtain ⟨h4, h5, h6⟩ := smlAll_shown xs h.2
    refine ⟨?_, ?_, ?_⟩
    · show (x.showable && PyData.showableAll xs) = true
      rw [h1, h4]; rfl
    · show (x.hasDict || PyData.hasDictAll xs) = false
      rw [h2, h5]; rfl
    · show piled (x.shown :: PyData.shownAll xs) ≤ wt x + 2 + wtAll xs
      rw [piled_cons]
      omega
end
theorem okShow_of {p : PyData} (h : sml p = true) (hd : p.depth ≤ 64) (hw : wt p ≤ szl) : okShow p = true := by
  obtain ⟨h1, h2, h3⟩ := sml_shown p h
  unfold okShow
  rw [h1, h2]
  simp only [Bool.not_false, Bool.and_true, Bool.true_and, Bool.and_eq_true, decide_eq_true_eq]
  exact ⟨hd, Nat.le_trans h3 hw⟩

/-! ### loops by invariants -/
theorem forL_inv {ok : Store → Bool} {g : MTg} {b : MStm} (Pv : Nat → Ev → Store → Prop) : ∀ (ds : List D) (n : Nat) (ρ : Ev) (S : Store), Pv n ρ S →
    (∀ i x ρ S, ds[i]? = some x → Pv (n + i) ρ S → ok S = true ∧ ∃ ρ1 S1, g x ρ S = some (ρ1, S1) ∧ ∃ f ρ2 S2, b ρ1 S1 = some (f, ρ2, S2) ∧ (f = .nx ∨ f = .ct) ∧ Pv (n + i + 1) ρ2 S2) →
    (∀ ρ S, Pv (n + ds.length) ρ S → ok S = true) → ∃ ρ' S', forL ok g b ds ρ S = some (.nx, ρ', S') ∧ Pv (n + ds.length) ρ' S'
  | [], n, ρ, S, h0, _, he => ⟨ρ, S, by unfold forL; rw [if_pos (he ρ S h0)], h0⟩
  | x :: r, n, ρ, S, h0, hs, he => by
    obtain ⟨hok, ρ1, S1, e1, f, ρ2, S2, e2, hf, h2⟩ := hs 0 x ρ S rfl h0
    have hlen : n + (x :: r).length = (n + 1) + r.length := by rw [List.length_cons]; omega
    obtain ⟨ρ', S', e3, h3⟩ := forL_inv (ok := ok) (g := g) (b := b) Pv r (n + 1) ρ2 S2 h2 (fun i y ρ S hi hp => by
      have := hs (i + 1) y ρ S (by simpa using hi) (by rw [show n + (i + 1) = n + 1 + i by omega]; exact hp)
      rw [show n + (i + 1) = n + 1 + i by omega] at this
      exact this) (fun ρ S hp => he ρ S (by rw [hlen]; exact hp))
    refine ⟨ρ', S', ?_, by rw [hlen]; exact h3⟩
    unfold forL
    rw [if_pos hok, e1]
    show ((b ρ1 S1).bind fun q => match q.1 with
      | .nx => forL ok g b r q.2.1 q.2.2
      | .ct => forL ok g b r q.2.1 q.2.2
      | .bk => some (.nx, q.2.1, q.2.2)
      | .rt d => some (.rt d, q.2.1, q.2.2)) = _
    rw [e2]
    rcases hf with rfl | rfl <;> exact e3
/-- from 0 -/
theorem forL_by {ok : Store → Bool} {g : MTg} {b : MStm} (Pv : Nat → Ev → Store → Prop) {ds : List D} {ρ : Ev} {S : Store} (h0 : Pv 0 ρ S)
    (hs : ∀ i x ρ S, ds[i]? = some x → Pv i ρ S → ok S = true ∧ ∃ ρ1 S1, g x ρ S = some (ρ1, S1) ∧ ∃ f ρ2 S2, b ρ1 S1 = some (f, ρ2, S2) ∧ (f = .nx ∨ f = .ct) ∧ Pv (i + 1) ρ2 S2)
    (he : ∀ ρ S, Pv ds.length ρ S → ok S = true) : ∃ ρ' S', forL ok g b ds ρ S = some (.nx, ρ', S') ∧ Pv ds.length ρ' S' := by
  have := forL_inv (ok := ok) (g := g) (b := b) Pv ds 0 ρ S h0 (fun i x ρ S hi hp => by
    have := hs i x ρ S hi (by simpa using hp)
    simpa using this) (fun ρ S hp => he ρ S (by simpa using hp))
  simpa using this
/-- a comprehension -/
theorem lcL_by {ok : Store → Bool} {g : MTg} {t : MTst} {e : MExp} {ρw : Ev} {n : Nat} (Pv : Nat → Store → Prop) : ∀ (ds : List D) (k : Nat) (S : Store), Pv k S →
    (∀ i x S, ds[i]? = some x → Pv (k + i) S → ok S = true ∧ ∃ ρ1 S1, g x ρw S = some (ρ1, S1) ∧ ∃ c S2, t ρ1 S1 = some (c, S2) ∧
      if c = true then ∃ y S3 acc, e ρ1 S2 = some (y, S3) ∧ mat S3 n = some acc ∧ acc.length < szl ∧ Pv (k + i + 1) (S3.set n (.lst (acc ++ [y]))) else Pv (k + i + 1) S2) →
    (∀ S, Pv (k + ds.length) S → ok S = true) → ∃ S', lcL ok g t e ρw n ds S = some S' ∧ Pv (k + ds.length) S'
  | [], k, S, h0, _, he => ⟨S, by unfold lcL; rw [if_pos (he S h0)], h0⟩
  | x :: r, k, S, h0, hs, he => by
    obtain ⟨hok, ρ1, S1, e1, c, S2, e2, h2⟩ := hs 0 x S rfl h0
    have hlen : k + (x :: r).length = (k + 1) + r.length := by rw [List.length_cons]; omega
    have again : ∀ S, Pv (k + 1) S → ∃ S', lcL ok g t e ρw n r S = some S' ∧ Pv (k + 1 + r.length) S' := fun S hp => lcL_by Pv r (k + 1) S hp (fun i y S hi hp => by
      have := hs (i + 1) y S (by simpa using hi) (by rw [show k + (i + 1) = k + 1 + i by omega]; exact hp)
      rw [show k + (i + 1) = k + 1 + i by omega] at this
      exact this) (fun S hp => he S (by rw [hlen]; exact hp))
    cases c with
    | true =>
      obtain ⟨y, S3, acc, e3, e4, hz, hp⟩ := h2
      obtain ⟨S', e5, h5⟩ := again _ hp
      refine ⟨S', ?_, by rw [hlen]; exact h5⟩
      unfold lcL
      rw [if_pos hok, e1]
      show ((t ρ1 S1).bind fun k => if k.1 then (e ρ1 k.2).bind fun y => (mat y.2 n).bind fun acc => if acc.length < szl then lcL ok g t e ρw n r (y.2.set n (.lst (acc ++ [y.1]))) else none
        else lcL ok g t e ρw n r k.2) = _
      rw [e2]
      show ((e ρ1 S2).bind fun y => (mat y.2 n).bind fun acc => if acc.length < szl then lcL ok g t e ρw n r (y.2.set n (.lst (acc ++ [y.1]))) else none) = _
      rw [e3]
      show ((mat S3 n).bind fun acc => if acc.length < szl then lcL ok g t e ρw n r (S3.set n (.lst (acc ++ [y]))) else none) = _
      rw [e4]
      show (if acc.length < szl then lcL ok g t e ρw n r (S3.set n (.lst (acc ++ [y]))) else none) = _
      rw [if_pos hz]
      exact e5
    | false =>
      obtain ⟨S', e5, h5⟩ := again _ h2
      refine ⟨S', ?_, by rw [hlen]; exact h5⟩
      unfold lcL
      rw [if_pos hok, e1]
      show ((t ρ1 S1).bind fun k => if k.1 then (e ρ1 k.2).bind fun y => (mat y.2 n).bind fun acc => if acc.length < szl then lcL ok g t e ρw n r (y.2.set n (.lst (acc ++ [y.1]))) else none
        else lcL ok g t e ρw n r k.2) = _
      rw [e2]
      exact e5

/-! ### the store by handles -/
/-- what stood stands, but for the list at p -/
structure Keeps (p : Nat) (S S' : Store) : Prop where
  len : S.length ≤ S'.length
  at_ : ∀ n x, n ≠ p → S[n]? = some x → S'[n]? = some x
theorem Keeps.refl {p : Nat} {S : Store} : Keeps p S S := ⟨Nat.le_refl _, fun _ _ _ h => h⟩
theorem Keeps.trans {p : Nat} {S S' S'' : Store} (a : Keeps p S S') (b : Keeps p S' S'') : Keeps p S S'' := ⟨Nat.le_trans a.len b.len, fun n x h e => b.at_ n x h (a.at_ n x h e)⟩
theorem Keeps.set {p : Nat} {S : Store} {x : MO} : Keeps p S (S.set p x) := ⟨by rw [List.length_set]; exact Nat.le_refl _, fun n y h e => by rw [List.getElem?_set_ne h.symm]; exact e⟩
theorem Keeps.app {p : Nat} {S l : Store} : Keeps p S (S ++ l) := ⟨by rw [List.length_append]; omega, fun n y h e => by rw [List.getElem?_append_left (List.getElem?_eq_some_iff.mp e).1]; exact e⟩
theorem lat_lst {S : Store} {n : Nat} {ds : List D} (h : S[n]? = some (.lst ds)) : lat S n = some ds := by unfold lat; rw [h]
theorem lat_fz {S : Store} {n : Nat} {ds : List D} (h : S[n]? = some (.fz ds)) : lat S n = some ds := by unfold lat; rw [h]
theorem mat_lst {S : Store} {n : Nat} {ds : List D} (h : S[n]? = some (.lst ds)) : mat S n = some ds := by unfold mat; rw [h]
theorem get_app {S : Store} {l : Store} {n : Nat} {x : MO} (h : S[n]? = some x) : (S ++ l)[n]? = some x := by rw [List.getElem?_append_left (List.getElem?_eq_some_iff.mp h).1]; exact h
theorem get_new {S : Store} {x : MO} : (S ++ [x])[S.length]? = some x := List.getElem?_concat_length
theorem get_set {S : Store} {n : Nat} {x y : MO} (h : S[n]? = some x) : (S.set n y)[n]? = some y := List.getElem?_set_self (List.getElem?_eq_some_iff.mp h).1
theorem get_ne {S : Store} {n m : Nat} {y : MO} (h : n ≠ m) : (S.set n y)[m]? = S[m]? := List.getElem?_set_ne h
end MS
/-! ### one step of a reading -/
local macro_rules | `(tactic| walk_at "ms") => `(tactic| skip)

set_option Elab.async false
set_option linter.all false
set_option maxRecDepth 100000
set_option maxHeartbeats 4000000
namespace MS
open PySem PySem.Spec PyProof.Rows L2

/-! ### going through a reading forwards -/
def GE {α : Type} (o : Option (α × Store)) (Q : α → Store → Prop) : Prop := ∃ a S', o = some (a, S') ∧ Q a S'
def GS (o : Option (Fl × Ev × Store)) (Q : Fl → Ev → Store → Prop) : Prop := ∃ f ρ' S', o = some (f, ρ', S') ∧ Q f ρ' S'
section
variable {α : Type} {ρ : Ev} {S : Store} {Q : D → Store → Prop} {QB : Bool → Store → Prop} {QA : List D → Store → Prop} {QS : Fl → Ev → Store → Prop} {QE : Ev → Store → Prop} {QI : (List D × (Store → Bool)) → Store → Prop}
  {m m' : MExp} {a : MArg} {t u : MTst} {f : DOp2} {fc : DCall} {d : D} {s s' : MStm} {g : MTg} {gs : MTgs}
theorem GE.mono {o : Option (α × Store)} {P P' : α → Store → Prop} (h : GE o P) (i : ∀ a S, P a S → P' a S) : GE o P' := let ⟨a, S', e, p⟩ := h; ⟨a, S', e, i _ _ p⟩
theorem GS.mono {o : Option (Fl × Ev × Store)} {P P' : Fl → Ev → Store → Prop} (h : GS o P) (i : ∀ f ρ S, P f ρ S → P' f ρ S) : GS o P' := let ⟨f, ρ', S', e, p⟩ := h; ⟨f, ρ', S', e, i _ _ _ p⟩
theorem ge_bind {β : Type} {o : Option (α × Store)} {k : α × Store → Option (β × Store)} {P : β → Store → Prop} (h : GE o fun a S' => GE (k (a, S')) P) : GE (o.bind k) P := by
  obtain ⟨a, S', e, b, S2, e2, p⟩ := h
  exact ⟨b, S2, by rw [e]; exact e2, p⟩
theorem gs_bind {o : Option (α × Store)} {k : α × Store → Option (Fl × Ev × Store)} {P : Fl → Ev → Store → Prop} (h : GE o fun a S' => GS (k (a, S')) P) : GS (o.bind k) P := by
  obtain ⟨a, S', e, f, r, S2, e2, p⟩ := h
  exact ⟨f, r, S2, by rw [e]; exact e2, p⟩
theorem gss_bind {o : Option (Fl × Ev × Store)} {k : Fl × Ev × Store → Option (Fl × Ev × Store)} {P : Fl → Ev → Store → Prop} (h : GS o fun f r S' => GS (k (f, r, S')) P) : GS (o.bind k) P := by
  obtain ⟨f, r, S', e, f2, r2, S2, e2, p⟩ := h
  exact ⟨f2, r2, S2, by rw [e]; exact e2, p⟩
theorem ge_of {x : α} {P : α → Store → Prop} (h : P x S) : GE (some (x, S)) P := ⟨_, _, rfl, h⟩
theorem gs_of {x : Fl} {P : Fl → Ev → Store → Prop} (h : P x ρ S) : GS (some (x, ρ, S)) P := ⟨_, _, _, rfl, h⟩
theorem ge_eq {o : Option (α × Store)} {x : α} {S' : Store} {P : α → Store → Prop} (e : o = some (x, S')) (h : P x S') : GE o P := ⟨_, _, e, h⟩
/-! expressions -/
theorem ge_var {i : Nat} (e : ρ[i]? = some (some d)) (q : Q d S) : GE (mVar i ρ S) Q := ⟨d, S, by unfold mVar; rw [e], q⟩
theorem ge_c (q : Q d S) : GE (mC d ρ S) Q := ⟨d, S, rfl, q⟩
theorem ge_nil (q : QA [] S) : GE (mNil ρ S) QA := ⟨_, _, rfl, q⟩
theorem ge_cons (h : GE (m ρ S) fun x S1 => GE (a ρ S1) fun xs S2 => QA (x :: xs) S2) : GE (mCons m a ρ S) QA := ge_bind (h.mono fun _ _ h => ge_bind (h.mono fun _ _ h => ge_of h))
theorem ge_bin (h : GE (m ρ S) fun x S1 => GE (m' ρ S1) fun y S2 => GE (f x y S2) Q) : GE (mBin f m m' ρ S) Q := ge_bind (h.mono fun _ _ h => ge_bind h)
theorem ge_call (h : GE (a ρ S) fun xs S1 => GE (fc xs S1) Q) : GE (mCall fc a ρ S) Q := ge_bind h
theorem ge_tup (h : GE (a ρ S) fun xs S1 => xs.length ≤ szl ∧ Q (.tup xs) S1) : GE (mTup a ρ S) Q := ge_bind (h.mono fun xs S1 ⟨h1, h2⟩ => ⟨_, _, if_pos h1, h2⟩)
theorem ge_lst (h : GE (a ρ S) fun xs S1 => xs.length ≤ szl ∧ Q (.lr S1.length) (S1 ++ [.lst xs])) : GE (mLst a ρ S) Q := ge_bind (h.mono fun xs S1 ⟨h1, h2⟩ => ⟨_, _, if_pos h1, h2⟩)
theorem ge_B (h : GE (m ρ S) fun x S1 => ∃ b, x = .bl b ∧ QB b S1) : GE (mB m ρ S) QB := ge_bind (h.mono fun x S1 ⟨b, e, h⟩ => by subst e; exact ge_of h)
theorem ge_and (h : GE (t ρ S) fun b S1 => (b = true → GE (u ρ S1) QB) ∧ (b = false → QB false S1)) : GE (mAnd t u ρ S) QB := ge_bind (h.mono fun b S1 ⟨h1, h2⟩ => by
  cases b with
  | true => exact h1 rfl
  | false => exact ge_of (h2 rfl))
theorem ge_or (h : GE (t ρ S) fun b S1 => (b = true → QB true S1) ∧ (b = false → GE (u ρ S1) QB)) : GE (mOr t u ρ S) QB := ge_bind (h.mono fun b S1 ⟨h1, h2⟩ => by
  cases b with
  | true => exact ge_of (h1 rfl)
  | false => exact h2 rfl)
theorem ge_not (h : GE (t ρ S) fun b S1 => QB (!b) S1) : GE (mNot t ρ S) QB := ge_bind (h.mono fun _ _ h => ge_of h)
theorem ge_if (h : GE (t ρ S) fun b S1 => (b = true → GE (m ρ S1) Q) ∧ (b = false → GE (m' ρ S1) Q)) : GE (mIf t m m' ρ S) Q := ge_bind (h.mono fun b S1 ⟨h1, h2⟩ => by
  cases b with
  | true => exact h1 rfl
  | false => exact h2 rfl)
theorem ge_andV (h : GE (m ρ S) fun x S1 => ∃ b, x = .bl b ∧ (b = true → GE (m' ρ S1) Q) ∧ (b = false → Q (.bl false) S1)) : GE (mAndV m m' ρ S) Q := ge_bind (h.mono fun x S1 ⟨b, e, h1, h2⟩ => by
  subst e
  cases b with
  | true => exact h1 rfl
  | false => exact ge_of (h2 rfl))
theorem ge_orV (h : GE (m ρ S) fun x S1 => ∃ b, x = .bl b ∧ (b = true → Q (.bl true) S1) ∧ (b = false → GE (m' ρ S1) Q)) : GE (mOrV m m' ρ S) Q := ge_bind (h.mono fun x S1 ⟨b, e, h1, h2⟩ => by
  subst e
  cases b with
  | true => exact ge_of (h1 rfl)
  | false => exact h2 rfl)
theorem ge_notV (h : GE (m ρ S) fun x S1 => ∃ b, x = .bl b ∧ Q (.bl (!b)) S1) : GE (mNotV m ρ S) Q := ge_bind (h.mono fun x S1 ⟨b, e, h⟩ => by subst e; exact ge_of h)
theorem ge_neg (h : GE (m ρ S) fun x S1 => ∃ i, x = .int i ∧ Q (.int (-i)) S1) : GE (mNeg m ρ S) Q := ge_bind (h.mono fun x S1 ⟨b, e, h⟩ => by subst e; exact ge_of h)
theorem ge_noPart {P : Option Int → Store → Prop} (h : P none S) : GE (mNoPart ρ S) P := ge_of h
theorem ge_part {P : Option Int → Store → Prop} (h : GE (m ρ S) fun x S1 => ∃ i, x = .int i ∧ P (some i) S1) : GE (mPart m ρ S) P := ge_bind (h.mono fun x S1 ⟨b, e, h⟩ => by subst e; exact ge_of h)
theorem ge_sl {lo hi : MPart} (h : GE (m ρ S) fun x S1 => GE (lo ρ S1) fun l S2 => GE (hi ρ S2) fun r S3 => GE (fSl x l r S3) Q) : GE (mSl m lo hi ρ S) Q := ge_bind (h.mono fun _ _ h => ge_bind (h.mono fun _ _ h => ge_bind h))
theorem ge_revT (h : GE (m ρ S) fun x S1 => ∃ ds, x = .tup ds ∧ Q (.tup ds.reverse) S1) : GE (mRevT m ρ S) Q := ge_bind (h.mono fun x S1 ⟨b, e, h⟩ => by subst e; exact ge_of h)
theorem ge_app (h : GE (m ρ S) fun x S1 => ∃ n, x = .lr n ∧ (∃ z, mat S1 n = some z) ∧ GE (a ρ S1) fun xs S2 => ∃ y ds, xs = [y] ∧ mat S2 n = some ds ∧ ds.length < szl ∧ Q .non (S2.set n (.lst (ds ++ [y])))) : GE (mApp m a ρ S) Q :=
  ge_bind (h.mono fun x S1 ⟨n, e, ⟨z, hz⟩, h⟩ => by
    subst e
    show GE ((mat S1 n).bind fun _ => _) Q
    rw [hz]
    refine ge_bind (h.mono fun xs S2 ⟨y, ds, e, h1, h2, h3⟩ => ?_)
    subst e
    show GE ((mat S2 n).bind fun ds => if ds.length < szl then some (D.non, S2.set n (.lst (ds ++ [y]))) else none) Q
    rw [h1]
    exact ⟨_, _, if_pos h2, h3⟩)
theorem ge_lc {i : MItr} {e : MExp} {vs : List Nat} (h : GE (i ρ S) fun p S1 => ∃ S2, lcL p.2 g t e (wipeD ρ vs) S1.length p.1 (S1 ++ [.lst []]) = some S2 ∧ Q (.lr S1.length) S2) : GE (mLc i g t e vs ρ S) Q :=
  ge_bind (h.mono fun p S1 ⟨S2, e1, h⟩ => ⟨_, _, by show (lcL p.2 g t e (wipeD ρ vs) S1.length p.1 (S1 ++ [.lst []])).bind _ = _; rw [e1]; rfl, h⟩)
theorem ge_chain {f' : DOp2} {mc : MExp} (h : GE (m ρ S) fun x S1 => GE (m' ρ S1) fun y S2 => GE (f x y S2) fun z S3 => ∃ b, z = .bl b ∧ (b = true → GE (mc ρ S3) fun w S4 => GE (f' y w S4) Q) ∧ (b = false → Q (.bl false) S3)) : GE (mChain f f' m m' mc ρ S) Q :=
  ge_bind (h.mono fun x S1 h => ge_bind (h.mono fun y S2 h => ge_bind (h.mono fun z S3 ⟨b, e, h1, h2⟩ => by
    subst e
    cases b with
    | true => exact ge_bind (h1 rfl)
    | false => exact ge_of (h2 rfl))))
/-! what is walked -/
theorem gi_items (h : GE (m ρ S) fun x S1 => (∃ ds, x = .tup ds ∧ QI (ds, always) S1) ∨ ∃ n ds, x = .lr n ∧ lat S1 n = some ds ∧ QI (ds, still n ds) S1) : GE (mItems m ρ S) QI := ge_bind (h.mono fun x S1 h => by
  rcases h with ⟨b, e, h⟩ | ⟨n, ds, e, h1, h⟩
  · subst e; exact ge_of h
  · subst e
    show GE ((lat S1 n).bind fun ds => some ((ds, still n ds), S1)) QI
    rw [h1]
    exact ge_of h)
theorem gi_range1 (h : GE (a ρ S) fun xs S1 => ∃ j, xs = [.int j] ∧ r62 j = true ∧ QI (rangeD 0 j.toNat, always) S1) : GE (mRange1 a ρ S) QI := ge_bind (h.mono fun x S1 ⟨j, e, h1, h⟩ => by subst e; exact ⟨_, _, if_pos h1, h⟩)
theorem gi_range2 (h : GE (a ρ S) fun xs S1 => ∃ i j, xs = [.int i, .int j] ∧ (r62 i && r62 j) = true ∧ QI (rangeD i (j - i).toNat, always) S1) : GE (mRange2 a ρ S) QI := ge_bind (h.mono fun x S1 ⟨i, j, e, h1, h⟩ => by subst e; exact ⟨_, _, if_pos h1, h⟩)
theorem gi_enum (h : GE (a ρ S) fun xs S1 => (∃ ds, xs = [.tup ds] ∧ QI (enumD ds, always) S1) ∨ ∃ n ds, xs = [.lr n] ∧ lat S1 n = some ds ∧ QI (enumD ds, still n ds) S1) : GE (mEnum a ρ S) QI := ge_bind (h.mono fun x S1 h => by
  rcases h with ⟨b, e, h⟩ | ⟨n, ds, e, h1, h⟩
  · subst e; exact ge_of h
  · subst e
    show GE ((lat S1 n).bind fun ds => some ((enumD ds, still n ds), S1)) QI
    rw [h1]
    exact ge_of h)
/-! statements -/
theorem gs_nx (h : QS .nx ρ S) : GS (mNx ρ S) QS := gs_of h
theorem gs_bk (h : QS .bk ρ S) : GS (mBk ρ S) QS := gs_of h
theorem gs_ct (h : QS .ct ρ S) : GS (mCt ρ S) QS := gs_of h
/-- what follows a statement in a block -/
def Then (s' : MStm) (QS : Fl → Ev → Store → Prop) : Fl → Ev → Store → Prop := fun f r S1 => match f with
  | .nx => GS (s' r S1) QS
  | f => QS f r S1
theorem then_nx (h : GS (s' ρ S) QS) : Then s' QS .nx ρ S := h
theorem then_rt (h : QS (.rt d) ρ S) : Then s' QS (.rt d) ρ S := h
theorem then_ct (h : QS .ct ρ S) : Then s' QS .ct ρ S := h
theorem then_bk (h : QS .bk ρ S) : Then s' QS .bk ρ S := h
theorem gs_seq (h : GS (s ρ S) (Then s' QS)) : GS (mSeq s s' ρ S) QS := gss_bind (h.mono fun f r S1 h => by
  cases f with
  | nx => exact h
  | _ => exact gs_of h)
theorem gs_ret (h : GE (m ρ S) fun x S1 => QS (.rt x) ρ S1) : GS (mRet m ρ S) QS := gs_bind (h.mono fun _ _ h => gs_of h)
theorem gs_retN (h : QS (.rt .non) ρ S) : GS (mRetN ρ S) QS := gs_of h
theorem gs_drop (h : GE (m ρ S) fun x S1 => QS .nx ρ S1) : GS (mDrop m ρ S) QS := gs_bind (h.mono fun _ _ h => gs_of h)
theorem gs_if (h : GE (t ρ S) fun b S1 => (b = true → GS (s ρ S1) QS) ∧ (b = false → GS (s' ρ S1) QS)) : GS (mIfS t s s' ρ S) QS := gs_bind (h.mono fun b S1 ⟨h1, h2⟩ => by
  cases b with
  | true => exact h1 rfl
  | false => exact h2 rfl)
theorem gs_asg (h : GE (m ρ S) fun x S1 => GE (g x ρ S1) fun r S2 => QS .nx r S2) : GS (mAsg m g ρ S) QS := gs_bind (h.mono fun x S1 h => gs_bind (h.mono fun _ _ h => gs_of h))
theorem gs_par {i j : Nat} (h : GE (a ρ S) fun xs S1 => ∃ x y, xs = [x, y] ∧ QS .nx ((ρ.set i (some x)).set j (some y)) S1) : GS (mPar i j a ρ S) QS := gs_bind (h.mono fun xs S1 ⟨x, y, e, h⟩ => by subst e; exact gs_of h)
theorem gs_aug {i : Nat} (e : ρ[i]? = some (some d)) (h : GE (m ρ S) fun x S1 => GE (f d x S1) fun z S2 => QS .nx (ρ.set i (some z)) S2) : GS (mAug i f m ρ S) QS := by
  unfold mAug
  rw [e]
  exact gs_bind (h.mono fun x S1 h => gs_bind (h.mono fun _ _ h => gs_of h))
theorem gs_for {i : MItr} (h : GE (i ρ S) fun p S1 => GS (forL p.2 g s p.1 ρ S1) QS) : GS (mFor i g s ρ S) QS := gs_bind h
/-! targets -/
theorem gt_name {i : Nat} (h : QE (ρ.set i (some d)) S) : GE (mName i d ρ S) QE := ge_of h
theorem gt_nil (h : QE ρ S) : GE (mgNil [] ρ S) QE := ge_of h
theorem gt_cons {ds : List D} (h : GE (g d ρ S) fun r S1 => GE (gs ds r S1) QE) : GE (mgCons g gs (d :: ds) ρ S) QE := ge_bind h
theorem gt_tup {ds : List D} {n : Nat} (e : ds.length = n) (h : GE (gs ds ρ S) QE) : GE (mgTup gs n (.tup ds) ρ S) QE := by
  show GE (if ds.length = n then gs ds ρ S else none) QE
  rw [if_pos e]
  exact h
theorem gt_sub {mi : MExp} (h : GE (m ρ S) fun x S1 => GE (mi ρ S1) fun i S2 => ∃ n k ds j, x = .lr n ∧ i = .int k ∧ mat S2 n = some ds ∧ L2.ixN ds.length k = some j ∧ QE ρ (S2.set n (.lst (ds.set j d)))) : GE (mgSub m mi d ρ S) QE :=
  ge_bind (h.mono fun x S1 h => ge_bind (h.mono fun i S2 ⟨n, k, ds, j, e1, e2, h1, h2, h3⟩ => by
    subst e1 e2
    show GE ((mat S2 n).bind fun ds => (L2.ixN ds.length k).bind fun j => some (ρ, S2.set n (.lst (ds.set j d)))) QE
    rw [h1]
    show GE ((L2.ixN ds.length k).bind fun j => some (ρ, S2.set n (.lst (ds.set j d)))) QE
    rw [h2]
    exact ge_of h3))
/-! operations -/
theorem ge_fI {k : Int → Int → Int} {i j : Int} (h : Q (.int (k i j)) S) : GE (fI k (.int i) (.int j) S) Q := ge_of h
theorem ge_sub {i j : Int} (h : Q (.int (i - j)) S) : GE (fSub (.int i) (.int j) S) Q := ge_of h
theorem ge_add {i j : Int} (h : Q (.int (i + j)) S) : GE (fAdd (.int i) (.int j) S) Q := ge_of h
theorem ge_addT {x y : List D} (hz : x.length + y.length ≤ szl) (h : Q (.tup (x ++ y)) S) : GE (fAdd (.tup x) (.tup y) S) Q := ⟨_, _, if_pos hz, h⟩
theorem ge_addL {n k : Nat} {x y : List D} (h1 : mat S n = some x) (h2 : mat S k = some y) (hz : x.length + y.length ≤ szl) (h : Q (.lr S.length) (S ++ [.lst (x ++ y)])) : GE (fAdd (.lr n) (.lr k) S) Q := by
  show GE ((mat S n).bind fun a => (mat S k).bind fun b => if a.length + b.length ≤ szl then some (D.lr S.length, S ++ [.lst (a ++ b)]) else none) Q
  rw [h1, h2]
  exact ⟨_, _, if_pos hz, h⟩
theorem ge_mul {i j : Int} (hc : (i64 i || i64 j) = true) (h : Q (.int (i * j)) S) : GE (fMul (.int i) (.int j) S) Q := ⟨_, _, if_pos hc, h⟩
theorem ge_mod {i j : Int} (hc : 0 < j) (h : Q (.int (i % j)) S) : GE (fMod (.int i) (.int j) S) Q := ⟨_, _, if_pos (decide_eq_true hc), h⟩
theorem ge_div {i j : Int} (hc : 0 < j) (hd : j < 1073741824) (h : Q (.int (i / j)) S) : GE (fDiv (.int i) (.int j) S) Q := ⟨_, _, if_pos (by simp [hc, hd]), h⟩
theorem ge_pow {i j : Int} (hc : (decide (0 ≤ j) && decide (j ≤ 1000) && i64 i) = true) (h : Q (.int (i ^ j.toNat)) S) : GE (fPow (.int i) (.int j) S) Q := ⟨_, _, if_pos hc, h⟩
theorem ge_lt {i j : Int} (h : Q (.bl (decide (i < j))) S) : GE (fLt (.int i) (.int j) S) Q := ge_of h
theorem ge_le {i j : Int} (h : Q (.bl (decide (i ≤ j))) S) : GE (fLe (.int i) (.int j) S) Q := ge_of h
theorem ge_gt {i j : Int} (h : Q (.bl (decide (j < i))) S) : GE (fGt (.int i) (.int j) S) Q := ge_of h
theorem ge_ge {i j : Int} (h : Q (.bl (decide (j ≤ i))) S) : GE (fGe (.int i) (.int j) S) Q := ge_of h
theorem ge_eqI {i j : Int} (h : Q (.bl (decide (i = j))) S) : GE (fEq (.int i) (.int j) S) Q := ge_of h
theorem ge_neI {i j : Int} (h : Q (.bl (!decide (i = j))) S) : GE (fNe (.int i) (.int j) S) Q := ge_of h
theorem ge_eqS {i j : Str} (h : Q (.bl (decide (i = j))) S) : GE (fEq (.str i) (.str j) S) Q := ge_of h
theorem ge_neS {i j : Str} (h : Q (.bl (!decide (i = j))) S) : GE (fNe (.str i) (.str j) S) Q := ge_of h
theorem ge_ixT {ds : List D} {i : Int} (e : L2.atI ds i = some d) (h : Q d S) : GE (fIx (.tup ds) (.int i) S) Q := by
  show GE ((L2.atI ds i).map fun d => (d, S)) Q
  rw [e]
  exact ge_of h
theorem ge_ixL {n : Nat} {ds : List D} {i : Int} (hl : lat S n = some ds) (e : L2.atI ds i = some d) (h : Q d S) : GE (fIx (.lr n) (.int i) S) Q := by
  show GE ((lat S n).bind fun ds => (L2.atI ds i).map fun d => (d, S)) Q
  rw [hl]
  show GE ((L2.atI ds i).map fun d => (d, S)) Q
  rw [e]
  exact ge_of h
theorem ge_in {b : Bool} {x y : D} {ds : List D} (hi : items S y = some ds) (hf : (flatD x && ds.all flatD) = true) (h : Q (.bl (if b then !inD x ds else inD x ds)) S) : GE (fIn b x y S) Q := by
  show GE ((items S y).bind fun ds => if flatD x && ds.all flatD then some (D.bl (if b then !inD x ds else inD x ds), S) else none) Q
  rw [hi]
  exact ⟨_, _, if_pos hf, h⟩
theorem ge_len {x : D} {ds : List D} (hi : items S x = some ds) (h : Q (.int (ds.length : Int)) S) : GE (cLen [x] S) Q := by
  show GE ((items S x).bind fun xs => some (D.int (xs.length : Int), S)) Q
  rw [hi]
  exact ge_of h
theorem ge_list {x : D} {ds : List D} (hi : items S x = some ds) (h : Q (.lr S.length) (S ++ [.lst ds])) : GE (cList [x] S) Q := by
  show GE ((items S x).bind fun xs => some (D.lr S.length, S ++ [.lst xs])) Q
  rw [hi]
  exact ge_of h
theorem ge_tuple {x : D} {ds : List D} (hi : items S x = some ds) (h : Q (.tup ds) S) : GE (cTuple [x] S) Q := by
  show GE ((items S x).bind fun xs => some (D.tup xs, S)) Q
  rw [hi]
  exact ge_of h
theorem ge_int {i : Int} (h : Q (.int i) S) : GE (cInt [.int i] S) Q := ge_of h
theorem ge_intB {i : Bool} (h : Q (.int (if i then 1 else 0)) S) : GE (cInt [.bl i] S) Q := ge_of h
theorem ge_min {i j : Int} (h : Q (.int (if j < i then j else i)) S) : GE (cMin [.int i, .int j] S) Q := ge_of h
theorem ge_max {i j : Int} (h : Q (.int (if j > i then j else i)) S) : GE (cMax [.int i, .int j] S) Q := ge_of h
theorem ge_abs {i : Int} (h : Q (.int (if i < 0 then -i else i)) S) : GE (cAbs [.int i] S) Q := ge_of h
theorem ge_repr {x : D} {p : PyData} (e : toPy S 64 x = some p) (ho : okShow p = true) (h : Q (.str p.shown) S) : GE (cRepr [x] S) Q := by
  show GE ((toPy S 64 x).bind fun p => if okShow p then some (D.str p.shown, S) else none) Q
  rw [e]
  exact ⟨_, _, if_pos ho, h⟩
theorem ge_slL {n : Nat} {ds : List D} {lo hi : Option Int} (e : lat S n = some ds) (h : Q (.lr S.length) (S ++ [.lst (cutD ds lo hi)])) : GE (fSl (.lr n) lo hi S) Q := by
  show GE ((lat S n).bind fun ds => some (D.lr S.length, S ++ [.lst (cutD ds lo hi)])) Q
  rw [e]
  exact ge_of h
theorem ge_slT {ds : List D} {lo hi : Option Int} (h : Q (.tup (cutD ds lo hi)) S) : GE (fSl (.tup ds) lo hi S) Q := ge_of h
theorem ge_den {np n : Nat} {ds : List D} (hl : ds.length = np) (h : GS (s (startD n ds) S) fun f _ S' => match f with
  | .rt d => Q d S'
  | .nx => Q .non S'
  | _ => False) : GE (den np n s ds S) Q := by
  obtain ⟨f, r, S', e, q⟩ := h
  unfold den
  rw [if_pos hl, e]
  cases f with
  | rt d => exact ge_of q
  | nx => exact ge_of q
  | bk => exact q.elim
  | ct => exact q.elim
end
/-- a loop that nothing leaves -/
theorem gs_forL {ok : Store → Bool} {g : MTg} {b : MStm} {QS : Fl → Ev → Store → Prop} (Pv : Nat → Ev → Store → Prop) {ds : List D} {ρ : Ev} {S : Store} (h0 : Pv 0 ρ S)
    (hs : ∀ i x ρ S, ds[i]? = some x → Pv i ρ S → ok S = true ∧ GE (g x ρ S) fun ρ1 S1 => GS (b ρ1 S1) fun f ρ2 S2 => (f = .nx ∨ f = .ct) ∧ Pv (i + 1) ρ2 S2)
    (he : ∀ ρ S, Pv ds.length ρ S → ok S = true ∧ QS .nx ρ S) : GS (forL ok g b ds ρ S) QS := by
  obtain ⟨ρ', S', e, h⟩ := forL_by (ok := ok) (g := g) (b := b) Pv h0 (fun i x ρ S hi hp => by
    obtain ⟨h1, ρ1, S1, e1, f, ρ2, S2, e2, h2⟩ := hs i x ρ S hi hp
    exact ⟨h1, ρ1, S1, e1, f, ρ2, S2, e2, h2⟩) fun ρ S hp => (he ρ S hp).1
  exact ⟨_, _, _, e, (he ρ' S' h).2⟩
/-- a comprehension's list -/
theorem lc_by {ok : Store → Bool} {g : MTg} {t : MTst} {e : MExp} {ρw : Ev} {n : Nat} {P : Store → Prop} (Pv : Nat → Store → Prop) {ds : List D} {S : Store} (h0 : Pv 0 S)
    (hs : ∀ i x S, ds[i]? = some x → Pv i S → ok S = true ∧ GE (g x ρw S) fun ρ1 S1 => GE (t ρ1 S1) fun c S2 =>
      (c = true → GE (e ρ1 S2) fun y S3 => ∃ acc, mat S3 n = some acc ∧ acc.length < szl ∧ Pv (i + 1) (S3.set n (.lst (acc ++ [y])))) ∧ (c = false → Pv (i + 1) S2))
    (he : ∀ S, Pv ds.length S → ok S = true ∧ P S) : ∃ S', lcL ok g t e ρw n ds S = some S' ∧ P S' := by
  obtain ⟨S', e1, h⟩ := lcL_by (ok := ok) (g := g) (t := t) (e := e) (ρw := ρw) (n := n) Pv ds 0 S h0 (fun i x S hi hp => by
    rw [Nat.zero_add] at hp ⊢
    obtain ⟨h1, ρ1, S1, e1, c, S2, e2, h2, h3⟩ := hs i x S hi hp
    refine ⟨h1, ρ1, S1, e1, c, S2, e2, ?_⟩
    cases c with
    | true =>
      obtain ⟨y, S3, e3, acc, h4⟩ := h2 rfl
      exact ⟨y, S3, acc, e3, h4⟩
    | false => exact h3 rfl) fun S hp => (he S (by simpa using hp)).1
  exact ⟨S', e1, (he S' (by simpa using h)).2⟩
end MS
namespace MS
open PySem PySem.Spec PyProof.Rows L2
/-- a while by what holds at each turn and a number that falls -/
theorem gs_while {t : MTst} {b : MStm} {QS : Fl → Ev → Store → Prop} (Pv : Nat → Ev → Store → Prop)
    (hs : ∀ m ρ S, Pv m ρ S → GE (t ρ S) fun c S1 => (c = true → GS (b ρ S1) fun f ρ2 S2 => (f = .nx ∨ f = .ct) ∧ ∃ m', m' < m ∧ Pv m' ρ2 S2) ∧ (c = false → QS .nx ρ S1)) :
    ∀ (n m : Nat) (ρ : Ev) (S : Store), m < n → Pv m ρ S → GS (whileN t b n ρ S) QS
  | 0, m, _, _, h, _ => absurd h (Nat.not_lt_zero _)
  | n + 1, m, ρ, S, h, hp => by
    obtain ⟨c, S1, e1, h1, h2⟩ := hs m ρ S hp
    unfold whileN
    rw [e1]
    cases c with
    | false => exact gs_of (h2 rfl)
    | true =>
      obtain ⟨f, ρ2, S2, e2, hf, m', hm, hp'⟩ := h1 rfl
      show GS ((b ρ S1).bind _) QS
      rw [e2]
      have ih := gs_while Pv hs n m' ρ2 S2 (by omega) hp'
      rcases hf with rfl | rfl <;> exact ih
end MS

set_option Elab.async false
set_option linter.all false
set_option maxRecDepth 100000
set_option maxHeartbeats 4000000
namespace MS
open PySem PySem.Spec PyProof.Rows L2

/-! ### zip(tuple, list) -/
/-- a tuple's and a list's items in new pairs -/
def ItzM (K : PySem.W.Frag) (a b : Addr) : It where
  go := fun i H => ∃ (xs ys : List V) (x y : V), SqT K H a xs ∧ SqL K H b ys ∧ xs[i]? = some x ∧ ys[i]? = some y
  yld := fun i H v H' => ∃ T x y, v = .ref T ∧ H T = none ∧ H' = upd H T (.tup [x, y]) ∧ (∀ xs, SqT K H a xs → xs[i]? = some x) ∧ ∀ ys, SqL K H b ys → ys[i]? = some y
  stop := fun i H => ∃ xs ys : List V, SqT K H a xs ∧ SqL K H b ys ∧ i = min xs.length ys.length
theorem plain_list {h : Heap} {b : Addr} {its : Array Value} (p : PlainL h b its) : h.IsList b its := let ⟨o, n, h1, h2, _, h4⟩ := p; ⟨o, h1, h2, n, h4⟩
theorem mem_zip {c z TI TO i1 i2 : Addr} (h : c ∈ [z, TO, i1, i2]) : c ∈ [z, TI, TO, i1, i2] := by
  simp only [List.mem_cons, List.not_mem_nil, or_false] at h ⊢
  rcases h with h | h | h | h
  · exact .inl h
  · exact .inr (.inr (.inl h))
  · exact .inr (.inr (.inr (.inl h)))
  · exact .inr (.inr (.inr (.inr h)))
theorem turn_zipM {P : Program} {w : World} {K : PySem.W.Frag} {elts : List Expr} {kk : Nat} {tpos : Pos} {N a b : Addr} (ha : a < N) (hb : b < N) :
    Turn P w K (.Tuple elts kk tpos) (ItzM K a b) [N + 4, N + 2, N + 3, N, N + 1] (N + 4) (fun i h => IsZip h (N + 4) (N + 2) (N + 3) .none ∧ IsTupOf2 h (N + 2) (.ref N) (.ref (N + 1)) ∧ (∃ x y, IsTupOf2 h (N + 3) x y) ∧ h.IsTupleIter N a i ∧ h.IsListIter (N + 1) b i) where
  mem := List.mem_cons_self ..
  obj := fun i h st c hc => by
    obtain ⟨h1, h2, ⟨x, y, h3⟩, ⟨o, ho, _, hd⟩, ⟨o', ho', _, hd'⟩⟩ := st
    rcases (by simpa using hc : c = N + 4 ∨ c = N + 2 ∨ c = N + 3 ∨ c = N ∨ c = N + 1) with z | z | z | z | z
    · rw [z]; exact ⟨_, h1, fun v q => nomatch q⟩
    · rw [z]; exact ⟨_, h2, fun v q => nomatch q⟩
    · rw [z]; exact ⟨_, h3, fun v q => nomatch q⟩
    · rw [z]; exact ⟨o, ho, fun v q => by rw [hd] at q; cases q⟩
    · rw [z]; exact ⟨o', ho', fun v q => by rw [hd'] at q; cases q⟩
  keep := fun i h h' ⟨h1, h2, ⟨x, y, h3⟩, h4, h5⟩ k => ⟨k _ (by simp) _ h1, k _ (by simp) _ h2, ⟨x, y, k _ (by simp) _ h3⟩, h4.at fun o q => k N (by simp) o q, h5.at fun o q => k (N + 1) (by simp) o q⟩
  item := by
    intro X hP hw hK hc i pins s σ H E I hf st hg
    subst hP hw hK
    obtain ⟨h1, h2, h3, h4, h5⟩ := st
    obtain ⟨xs, ys, x, y, hq, hr, hx, hy⟩ := hg
    obtain ⟨its, rv, p, hz⟩ := I.tuple hq
    obtain ⟨its', rv', p', hz'⟩ := I.list hr
    obtain ⟨u, hu, ru⟩ := rv.get hx
    obtain ⟨u', hu', ru'⟩ := rv'.get hy
    have W := GoesN.zip2 (elts := elts) (x1 := kk) (pos := tpos) (prog := X.prog) (w := X.w) (A := X.A) (zip_sep2 (N := N) (fp1 := [a]) (fp2 := [b]) (by simpa using ha) (by simpa using hb))
      (Draws.tuple (A := X.A.in1) (I.ok.hd hc) N a (Nat.ne_of_lt ha) its.toArray) (Draws.list (A := X.A.in1) (I.ok.hd hc) (N + 1) b (Nat.ne_of_lt (Nat.lt_succ_of_lt hb)) its'.toArray)
    have hlt : i < min its.toArray.size its'.toArray.size := by
      rw [List.size_toArray, List.size_toArray]
      exact Nat.lt_min.mpr ⟨(List.getElem?_eq_some_iff.mp hu).1, (List.getElem?_eq_some_iff.mp hu').1⟩
    refine W.goes i s _ E hlt ⟨h1, h2, h3, ⟨h4, p⟩, h5, (plain_list p')⟩ fun v h' tk hY st' hk htk => ?_
    obtain ⟨T, t1, t2, rfl, hT, e1, e2, hTup⟩ := hY
    have e1' : t1 = u := by
      rw [List.getElem?_toArray, hu] at e1
      exact (Option.some.inj e1).symm
    have e2' : t2 = u' := by
      rw [List.getElem?_toArray, hu'] at e2
      exact (Option.some.inj e2).symm
    subst e1' e2'
    have new : ObjOk X.prog X.w (upd H T (.tup [x, y])) h' T (.tup [x, y]) := ⟨by show 2 ≤ sizeLine; decide, [t1, t2], .cons ru (.cons ru' .nil), hTup⟩
    have hk' : ∀ (c : Addr) (o : Obj), ¬c ∈ [N + 4, N + 2, N + 3, N, N + 1] → s.heap.get? c = some o → h'.get? c = some o := fun c o hc q => hk c o (fun z => hc (mem_zip z)) q
    have I1 := I.turnedNew (t' := tk) (ch := [N + 4, N + 2, N + 3, N, N + 1]) hk' hf hT new
    obtain ⟨g1, g2, g3, ⟨g4, _⟩, g5, _⟩ := st'
    refine ⟨.ref T, _, I1, rfl, ⟨T, x, y, rfl, I.hok.fresh hT, rfl, fun zs hz => by rw [I.tuple_inj hz hq]; exact hx, fun zs hz => by rw [I.list_inj hz hr]; exact hy⟩, ⟨g1, g2, g3, g4, g5⟩, fun c hc => ?_⟩
    have hcs : c < s.heap.objs.size := by
      obtain ⟨x3, y3, h3⟩ := h3
      obtain ⟨_, q4, _⟩ := h4
      obtain ⟨_, q5, _⟩ := h5
      rcases (by simpa using hc : c = N + 4 ∨ c = N + 2 ∨ c = N + 3 ∨ c = N ∨ c = N + 1) with z | z | z | z | z
      · rw [z]; exact Heap.lt_size h1
      · rw [z]; exact Heap.lt_size h2
      · rw [z]; exact Heap.lt_size h3
      · rw [z]; exact Heap.lt_size q4
      · rw [z]; exact Heap.lt_size q5
    rw [upd_ne (Nat.ne_of_lt (Nat.lt_of_lt_of_le hcs hT))]
    exact (hf c hc).1
  done := by
    intro X hP hw hK hc i pins s σ H E I hf st hg
    subst hP hw hK
    obtain ⟨h1, h2, h3, h4, h5⟩ := st
    obtain ⟨xs, ys, hq, hr, hi⟩ := hg
    obtain ⟨its, rv, p, hz⟩ := I.tuple hq
    obtain ⟨its', rv', p', hz'⟩ := I.list hr
    have W := GoesN.zip2 (elts := elts) (x1 := kk) (pos := tpos) (prog := X.prog) (w := X.w) (A := X.A) (zip_sep2 (N := N) (fp1 := [a]) (fp2 := [b]) (by simpa using ha) (by simpa using hb))
      (Draws.tuple (A := X.A.in1) (I.ok.hd hc) N a (Nat.ne_of_lt ha) its.toArray) (Draws.list (A := X.A.in1) (I.ok.hd hc) (N + 1) b (Nat.ne_of_lt (Nat.lt_succ_of_lt hb)) its'.toArray)
    have en : i = min its.toArray.size its'.toArray.size := by
      rw [List.size_toArray, List.size_toArray, ← rv.length, ← rv'.length]; exact hi
    refine W.stops s _ E (by rw [← en]; exact ⟨h1, h2, h3, ⟨h4, p⟩, h5, (plain_list p')⟩) fun h' tk hk htk => ?_
    exact I.turnedL (ch := [N + 4, N + 2, N + 3, N, N + 1]) (fun c o hc q => hk c o (fun z => hc (mem_zip z)) q) hf
  self := fun A i s Q E st h => wpAny_pyIter_zip st.1 h
def iZipM (K : PySem.W.Frag) (ta : TA) : TI := fun σ H R => ta σ H fun vs H1 => ∃ a b xs ys, vs = [.ref a, .ref b] ∧ SqT K H1 a xs ∧ SqL K H1 b ys ∧ R (ItzM K a b) H1
section
variable {X : Cx} {e e2 : Expr} {p pos tpos : Pos} {elts : List Expr} {kk : Nat}
theorem pi_zipM {ta : TA} (hg : Gl X "zip") (hm : X.mg "zip" = none) (ha : PA X [e, e2] ta) (hs : starEach [e, e2] X.env = (false, eval e X.env) :: starEach [e2] X.env := by rfl) (hpl : (backTo pos (starEach [e2] X.env)).any (·.1) = false := by rfl) :
    PI X (.Tuple elts kk tpos) (.Call (.Name "zip" p) [e, e2] [] pos) (iZipM X.K ta) := by
  refine ⟨fun pins s σ H R I h => ?_⟩
  refine Call_ (ld_blt I hg hm boot_zip (PyProof.Rows.callWith_type1 (thn (ha.run pos pins s σ H _ I h) fun us s1 h1 => ?_) hs hpl))
  obtain ⟨vs, H1, I1, r1, a, b, xs, ys, ex, hq, hr, q⟩ := h1
  subst ex
  cases r1 with
  | cons r rr =>
    cases rr with
    | cons r2 rr =>
    cases rr
    cases r
    cases r2
    obtain ⟨its, rv, pt, hz⟩ := I1.tuple hq
    obtain ⟨its', rv', pt', hz'⟩ := I1.list hr
    have ha' : a < s1.heap.objs.size := let ⟨_, ho, _⟩ := pt; Heap.lt_size ho
    have hb' : b < s1.heap.objs.size := let ⟨_, ho, _⟩ := (plain_list pt'); Heap.lt_size ho
    refine zip_begins2 (begins_tuple a its.toArray) (begins_list b its'.toArray) pt (plain_list pt') fun h' h1 h2 h3 h4 h5 hsz hk => wpAny_pyIter_zip h1 ?_
    refine ⟨s1.heap.objs.size + 4, _, _, _, H1, rfl, I1.kept (t' := s1.toks) hk, turn_zipM ha' hb', ⟨h1, h2, ⟨_, _, h3⟩, ⟨_, h4, rfl, rfl⟩, ⟨_, h5, rfl, rfl⟩⟩, fun c hc => ?_, q⟩
    have hle : s1.heap.objs.size ≤ c := by
      rcases (by simpa using hc : c = s1.heap.objs.size + 4 ∨ c = s1.heap.objs.size + 2 ∨ c = s1.heap.objs.size + 3 ∨ c = s1.heap.objs.size ∨ c = s1.heap.objs.size + 1) with z | z | z | z | z <;> rw [z] <;> first | exact Nat.le_add_right _ _ | exact Nat.le_refl _
    exact I1.fpOk hle (I1.hok.fresh hle)
/-- the pairs that zip tells -/
def zipD (ds es : List D) : List D := List.zipWith (fun a b => .tup [a, b]) ds es
theorem zipD_get {ds es : List D} {i : Nat} {d : D} (h : (zipD ds es)[i]? = some d) : ∃ x y, ds[i]? = some x ∧ es[i]? = some y ∧ d = .tup [x, y] := by
  unfold zipD at h
  rw [List.getElem?_zipWith] at h
  cases h1 : ds[i]? <;> cases h2 : es[i]? <;> rw [h1, h2] at h <;> first | (cases h; done) | (cases h; exact ⟨_, _, rfl, rfl, rfl⟩)
theorem zipD_lt {ds es : List D} {i : Nat} (h : i < (zipD ds es).length) : i < ds.length ∧ i < es.length := by
  unfold zipD at h
  rw [List.length_zipWith] at h
  omega
def mZip (m : MArg) : MItr := fun ρ S => (m ρ S).bind fun p => match p.1 with
  | [.tup ds, .lr k] => (lat p.2 k).bind fun es => some ((zipD ds es, still k es), p.2)
  | [.lr n, .lr k] => (lat p.2 n).bind fun ds => (lat p.2 k).bind fun es => some ((zipD ds es, fun S => still n ds S && still k es S), p.2)
  | _ => none
theorem isIt_zipM {K : PySem.W.Frag} {H0 : Hp} {μ0 : List Addr} {k : Nat} {a b : Addr} {vs : List V} {ds es : List D} (h1 : SqT K H0 a vs) (h2 : RpA K H0 μ0 vs ds) (r : Rp K H0 μ0 (.ref b) (.lr k)) : IsIt K (ItzM K a b) H0 μ0 (zipD ds es) (still k es) where
  go := fun i H μ S g s h hi => by
    obtain ⟨a', ws, e1, h3, h4⟩ := s.lat (still_eq h) (r.grow g)
    cases e1
    obtain ⟨l1, l2⟩ := zipD_lt hi
    exact ⟨vs, ws, vs[i]'(by rw [h2.length]; exact l1), ws[i]'(by rw [h4.length]; exact l2), g.sqT h1, h3, List.getElem?_eq_getElem _, List.getElem?_eq_getElem _⟩
  stop := fun H μ S g s h => by
    obtain ⟨a', ws, e1, h3, h4⟩ := s.lat (still_eq h) (r.grow g)
    cases e1
    exact ⟨vs, ws, g.sqT h1, h3, by unfold zipD; rw [List.length_zipWith, h2.length, h4.length]⟩
  yld := fun i H μ S x H' g s h y d hd => by
    obtain ⟨T, z, t, rfl, hT, rfl, y1, y2⟩ := y
    obtain ⟨d1, d2, e1, e2, rfl⟩ := zipD_get hd
    obtain ⟨a', ws, e3, h3, h4⟩ := s.lat (still_eq h) (r.grow g)
    cases e3
    obtain ⟨w, h5, h6⟩ := (h2.grow g).get e1
    obtain ⟨w', h5', h6'⟩ := h4.get e2
    rw [y1 vs (g.sqT h1)] at h5
    rw [y2 ws h3] at h5'
    cases h5; cases h5'
    exact pairNew s hT h6 h6'
theorem isIt_zipL {K : PySem.W.Frag} {H0 : Hp} {μ0 : List Addr} {n k : Nat} {a b : Addr} {ds es : List D} (r0 : Rp K H0 μ0 (.ref a) (.lr n)) (r : Rp K H0 μ0 (.ref b) (.lr k)) : IsIt K (Itz K a b) H0 μ0 (zipD ds es) (fun S => still n ds S && still k es S) where
  go := fun i H μ S g s h hi => by
    obtain ⟨ha, hb⟩ := (Bool.and_eq_true ..).mp h
    obtain ⟨a', vs, e1, h1, h2⟩ := s.lat (still_eq ha) (r0.grow g)
    obtain ⟨b', ws, e2, h3, h4⟩ := s.lat (still_eq hb) (r.grow g)
    cases e1; cases e2
    obtain ⟨l1, l2⟩ := zipD_lt hi
    exact ⟨vs, ws, vs[i]'(by rw [h2.length]; exact l1), ws[i]'(by rw [h4.length]; exact l2), h1, h3, List.getElem?_eq_getElem _, List.getElem?_eq_getElem _⟩
  stop := fun H μ S g s h => by
    obtain ⟨ha, hb⟩ := (Bool.and_eq_true ..).mp h
    obtain ⟨a', vs, e1, h1, h2⟩ := s.lat (still_eq ha) (r0.grow g)
    obtain ⟨b', ws, e2, h3, h4⟩ := s.lat (still_eq hb) (r.grow g)
    cases e1; cases e2
    refine ⟨vs, ws, h1, h3, ?_⟩
    unfold zipD; rw [List.length_zipWith, h2.length, h4.length]; omega
  yld := fun i H μ S x H' g s h y d hd => by
    obtain ⟨T, z, t, rfl, hT, rfl, y1, y2⟩ := y
    obtain ⟨d1, d2, e1, e2, rfl⟩ := zipD_get hd
    obtain ⟨ha, hb⟩ := (Bool.and_eq_true ..).mp h
    obtain ⟨a', vs, e3, h1, h2⟩ := s.lat (still_eq ha) (r0.grow g)
    obtain ⟨b', ws, e4, h3, h4⟩ := s.lat (still_eq hb) (r.grow g)
    cases e3; cases e4
    obtain ⟨w, h5, h6⟩ := h2.get e1
    obtain ⟨w', h5', h6'⟩ := h4.get e2
    rw [y1 vs h1] at h5
    rw [y2 ws h3] at h5'
    cases h5; cases h5'
    exact pairNew s hT h6 h6'
theorem mi_zip {m : MArg} (hg : Gl X "zip") (hm : X.mg "zip" = none) (ha : MA X [e, e2] m) (hs : starEach [e, e2] X.env = (false, eval e X.env) :: starEach [e2] X.env := by rfl) (hpl : (backTo pos (starEach [e2] X.env)).any (·.1) = false := by rfl) :
    MI X (.Tuple elts kk tpos) (.Call (.Name "zip" p) [e, e2] [] pos) (mZip m) := by
  refine ⟨⟨fun pins s σ H R I h => ?_⟩⟩
  obtain ⟨ρ, S, μ, q0, S', st, e1, q⟩ := h
  obtain ⟨⟨ds, S1⟩, e2', e1⟩ := Option.bind_eq_some_iff.mp e1
  dsimp only at e1
  split at e1
  · obtain ⟨es, e3, e1⟩ := Option.bind_eq_some_iff.mp e1
    cases e1
    refine (pi_zipM hg hm ha.pa hs hpl).run pins s σ H R I ⟨ρ, S, μ, _, _, st, e2', fun vs H1 μ1 g1 s1 r1 => ?_⟩
    match vs, r1 with
    | _, .cons (.tup h1 h2) (.cons r2 .nil) =>
      obtain ⟨b, ws, rfl, h3, h4⟩ := s1.lat e3 r2
      exact ⟨_, _, _, _, rfl, sq _ _ h1, h3, q _ H1 μ1 g1 s1 (isIt_zipM (sq _ _ h1) h2 r2)⟩
  · obtain ⟨es0, e3, e1⟩ := Option.bind_eq_some_iff.mp e1
    obtain ⟨es, e4, e1⟩ := Option.bind_eq_some_iff.mp e1
    cases e1
    refine (pi_zip hg hm ha.pa hs hpl).run pins s σ H R I ⟨ρ, S, μ, _, _, st, e2', fun vs H1 μ1 g1 s1 r1 => ?_⟩
    match vs, r1 with
    | _, .cons r1 (.cons r2 .nil) =>
      obtain ⟨a, vs, rfl, h1, h2⟩ := s1.lat e3 r1
      obtain ⟨b, ws, rfl, h3, h4⟩ := s1.lat e4 r2
      exact ⟨a, b, _, _, rfl, h1, h3, q _ H1 μ1 g1 s1 (isIt_zipL r1 r2)⟩
  · cases e1
end

/-! ### gcd, sum, wide numbers, a tuple many times -/
section
variable {X : Cx} {x : Str} {p pos : Pos} {e : Expr} {es : List Expr} {m : MArg} {f : DCall} {id T : String}
theorem me_callI (hc : CallR X (.builtin id) (rCM X.K f)) (hg : Gl X x) (hm : X.mg x = some (.builtin id)) (ha : MA X (e :: es) m) (hdb : (x == ("__debug__" : Str)) = false := by decide)
    (he : starEach (e :: es) X.env = (false, eval e X.env) :: starEach es X.env := by rfl) (hpl : (backTo pos (starEach es X.env)).any (·.1) = false := by rfl) : ME X (.Call (.Name x p) (e :: es) [] pos) (mCall f m) :=
  ⟨PE.imp (pe_callBfun hc hg hm ha.pa hdb he hpl) fun _ _ _ h => tE_call h⟩
def cGcd : DCall := fun ds S => match ds with
  | [.int a, .int b] => some (.int ((Nat.gcd a.natAbs b.natAbs : Nat) : Int), S)
  | _ => none
theorem c_gcd : CallR X (.builtin "math.gcd") (rCM X.K cGcd) := CallR.imp cr_gcd fun vs H Q ⟨S, μ, ds, d, S', s, r, e, q⟩ => by
  unfold cGcd at e
  split at e
  · cases e
    match vs, r with
    | _, .cons (.int _) (.cons (.int _) .nil) => exact ⟨_, _, rfl, q.id s (.int _)⟩
  · cases e
def intsOf : List D → Option (List Int)
  | [] => some []
  | .int i :: ds => (intsOf ds).map (i :: ·)
  | _ :: _ => none
theorem intsOf_map : ∀ {ns : List Int}, intsOf (ns.map D.int) = some ns
  | [] => rfl
  | n :: ns => by
    rw [List.map_cons]; unfold intsOf; rw [intsOf_map]; rfl
theorem intsOf_rp {K : PySem.W.Frag} {H : Hp} {μ : List Addr} : ∀ {ds : List D} {vs : List V} {ns : List Int}, intsOf ds = some ns → RpA K H μ vs ds → vs = ns.map V.int
  | [], _, _, e, .nil => by cases e; rfl
  | .int i :: ds, _, _, e, .cons (.int _) r => by
    unfold intsOf at e
    obtain ⟨ns', e', rfl⟩ := Option.map_eq_some_iff.mp e
    rw [intsOf_rp e' r]; rfl
def cSum : DCall := fun ds S => match ds with
  | [.lr n] => (lat S n).bind fun es => (intsOf es).map fun ns => (.int ns.sum, S)
  | _ => none
theorem c_sum (hc : X.calm = true) : CallR X (.builtin "sum") (rCM X.K cSum) := CallR.imp (cr_sum hc) fun vs H Q ⟨S, μ, ds, d, S', s, r, e, q⟩ => by
  unfold cSum at e
  split at e
  · obtain ⟨es, e1, e⟩ := Option.bind_eq_some_iff.mp e
    obtain ⟨ns, e2, e⟩ := Option.map_eq_some_iff.mp e
    cases e
    match vs, r with
    | _, .cons r1 .nil =>
      obtain ⟨a, ws, rfl, h1, h2⟩ := s.lat e1 r1
      rw [intsOf_rp e2 h2] at h1
      exact ⟨a, ns, rfl, h1, q.id s (.int _)⟩
  · cases e
def narrow (i j : Int) : Bool := decide (i.natAbs.log2 + j.natAbs.log2 < 1000000)
theorem narrow_of {i j : Int} (h : narrow i j = true) : CMulW i j := by
  unfold narrow at h
  unfold CMulW
  exact of_decide_eq_true h
theorem tuple_mul1 (l : Addr) (items : Array Value) (n : Nat) (dd : Option Addr) (sl : Array (Option Value)) (x : Int) (u : Tok) (c0 : (decide (x < -(2 ^ 63)) || decide (x ≥ 2 ^ 63)) = false) (c1 : (items.isEmpty || x == 1) = true) :
    Meets (Builtin.«tuple.__mul__» ⟨[.ref l, .int x u], []⟩) (fun _ R s => s.heap.get? l = some { cls := .type "tuple", dict := dd, data := .seq items n, slots := sl } ∧
      R (.ok (.ret (Value.ref l))) s) :=
  .of_wp fun prog w A R s h => by
    obtain ⟨hp, g, d, tk, os⟩ := s
    obtain ⟨hl, h⟩ := h
    have f1 := AutoSeq1.idx_int
    wp_walk using wpAny_loadPart' hl
    refine wpAny_ite_false (decide_eq_false (by rw [c0]; exact Bool.false_ne_true)) ?_; wp_walk using wpAny_loadPart' hl
    all_goals (first | exact ⟨_, rfl, h⟩ | (exfalso; simp_all; done))
/-- a tuple times 1 is itself -/
def rRepT1 (K : PySem.W.Frag) : R2 := fun x y H Q => ∃ l xs, x = .ref l ∧ y = .int 1 ∧ SqT K H l xs ∧ Q (.ref l) H
theorem op_repT1 {X : Cx} : OpR X (binaryOp .Mult) (rRepT1 X.K) := by
  intro pins s σ H x y v u Q I rx ry h
  obtain ⟨l, xs, rfl, rfl, hT, q⟩ := h
  cases rx
  obtain ⟨t, rfl⟩ := ry
  obtain ⟨its, r, ⟨⟨cls, dd, data, sl⟩, ho, hc, n, hd⟩, hs⟩ := I.tuple hT
  simp only at hc hd
  subst hc hd
  refine wpAny_binaryOp_repeat_ref (T := "tuple") (U := "int") (by decide) ⟨_, ho, rfl⟩ (fun s' => typeIs_int s' 1 t) noFill_tuple_mul F.fills_int_mul F.slot_int_rmul repeat_tuple F.slot_int_index.lookup
    (call_meets F.slot_int_rmul (typeIs_int s 1 t) F.entry_int_rmul (F.args_int_rmul_2 _ _) (int_rmul_tuple 1 t l its.toArray n dd sl)
      ⟨ho, rfl, ⟨_, ho, rfl⟩, call_meets F.slot_tuple_mul ⟨_, ho, rfl⟩ F.entry_tuple_mul (F.args_tuple_mul_2 _ _) (tuple_mul1 l its.toArray n dd sl 1 t (by decide) (by simp)) ⟨ho, ?_⟩⟩)
  exact ⟨.ref l, _, I, rfl, q⟩
def fMulW : DOp2
  | .int i, .int j, S => if narrow i j then some (.int (i * j), S) else none
  | .lr n, .int k, S => fMul (.lr n) (.int k) S
  | .tup ds, .int k, S => if ds ≠ [] ∧ 1 ≤ k ∧ k ≤ 1000 ∧ ds.length ≤ 1000 then some (.tup (repD ds k), S) else none
  | _, _, _ => none
theorem repD_one {ds : List D} : repD ds 1 = ds := by
  unfold repD
  simp
theorem o_mulW {X : Cx} : OpR X (binaryOp .Mult) (rM X.K fMulW) := by
  intro pins s σ H x y v u Q I rx ry ⟨S, μ, dx, dy, d, S', st, px, py, e, q⟩
  unfold fMulW at e
  split at e
  · split at e
    · rename_i h
      cases e; cases px; cases py
      exact op_mulW pins s σ H _ _ v u Q I rx ry ⟨_, _, rfl, rfl, narrow_of h, q.id st (.int _)⟩
    · cases e
  · exact o_mul pins s σ H x y v u Q I rx ry ⟨S, μ, _, _, d, S', st, px, py, e, q⟩
  · split at e
    · rename_i h
      rcases (show ∀ {k : Int}, 1 ≤ k → 2 ≤ k ∨ k = 1 from fun h => by omega) h.2.1 with h1k | hk
      · cases e; cases py
        cases px with
        | tup h1 h2 =>
          refine op_repT pins s σ H _ _ v u Q I rx ry ⟨_, _, _, rfl, rfl, sq _ _ h1, ?_, h1k, h.2.2.1, ?_, fun p hp => q.tup st (h2.rep _) hp⟩
          · intro z
            rw [z] at h2
            cases h2
            exact h.1 rfl
          · rw [h2.length]; exact h.2.2.2
      · cases e; cases py
        subst hk
        cases px with
        | tup h1 h2 =>
          refine op_repT1 pins s σ H _ _ v u Q I rx ry ⟨_, _, rfl, rfl, sq _ _ h1, ?_⟩
          rw [repD_one] at q
          exact q.id st (.tup h1 h2)
    · cases e
  · cases e
theorem boot_sum : bootBuiltins "sum" = some (.builtin "sum") := by decide +kernel
/-- a list's items into names -/
def mgTupL (r : MTgs) (n : Nat) : MTg := fun d ρ S => match d with
  | .lr k => (lat S k).bind fun ds => if ds.length = n then r ds ρ S else none
  | _ => none
theorem mg_tupL {ts : List Expr} {k : Nat} {r : MTgs} {n : Nat} (hc : X.calm = true) (h : MGs X ts r) (hn : (assignEach ts X.env).length = n := by rfl) (hst : (assignEach ts X.env).findIdx? (·.1) = none := by rfl) : MG X (.Tuple ts k pos) (mgTupL r n) :=
  ⟨PG.imp (pg_unl hc h.pgs hn hst) fun v σ H Q ⟨d, ρ, S, μ, ρ', S', s, rr, e, q⟩ => by
    cases d with
    | lr m =>
      obtain ⟨ds, e1, e⟩ := Option.bind_eq_some_iff.mp (show ((lat S m).bind fun ds => if ds.length = n then r ds ρ S else none) = some (ρ', S') from e)
      obtain ⟨a, ws, rfl, h1, h2⟩ := s.st.lat e1 rr
      split at e
      · rename_i hl
        exact ⟨_, _, rfl, h1, by rw [h2.length]; exact hl, ds, ρ, S, μ, ρ', S', s, h2, e, q⟩
      · cases e
    | _ => cases e⟩
def fDivW := fIc (fun _ j => decide (0 < j) && decide (j.natAbs.log2 < 9000)) fun i j => i / j
theorem o_divW : OpR X (binaryOp .FloorDiv) (rM X.K fDivW) := op_fIc op_fdivW fun _ _ h => by
  obtain ⟨a, b⟩ := (Bool.and_eq_true ..).mp h
  exact ⟨of_decide_eq_true a, of_decide_eq_true b⟩
theorem log2_lt {i : Int} {k : Nat} (h : i.natAbs < 2 ^ k) (hk : 0 < k) : i.natAbs.log2 < k := by
  by_cases z : i.natAbs = 0
  · rw [z]; simpa using hk
  · exact (Nat.log2_lt z).mpr h
/-- a number of at most 2000 bits -/
def wd (i : Int) : Prop := i.natAbs < 2 ^ 2000
theorem wd.narrow {i j : Int} (a : wd i) (b : wd j) : narrow i j = true := by
  have h1 := log2_lt a (by decide)
  have h2 := log2_lt b (by decide)
  exact decide_eq_true (by omega)
theorem wd.div {j : Int} (a : wd j) (h : 0 < j) : (decide (0 < j) && decide (j.natAbs.log2 < 9000)) = true := by
  have h1 := log2_lt a (by decide)
  exact (Bool.and_eq_true ..).mpr ⟨decide_eq_true h, decide_eq_true (by omega)⟩
theorem ge_mulL {S : Store} {Q : D → Store → Prop} {n : Nat} {ds : List D} {k : Int} (h1 : mat S n = some ds) (hk0 : -(2 ^ 63) ≤ k) (hk1 : k < 2 ^ 63) (hz : ds.length * k.toNat ≤ szl) (h : Q (.lr S.length) (S ++ [.lst (repD ds k)])) : GE (fMulW (.lr n) (.int k) S) Q := by
  show GE ((mat S n).bind fun a => if -(2 ^ 63) ≤ k ∧ k < 2 ^ 63 ∧ a.length * k.toNat ≤ szl then some (D.lr S.length, S ++ [.lst (repD a k)]) else none) Q
  rw [h1]
  exact ⟨_, _, if_pos ⟨hk0, hk1, hz⟩, h⟩
theorem ge_mulW {S : Store} {Q : D → Store → Prop} {i j : Int} (hc : narrow i j = true) (h : Q (.int (i * j)) S) : GE (fMulW (.int i) (.int j) S) Q := ⟨_, _, if_pos hc, h⟩
theorem ge_mulT {S : Store} {Q : D → Store → Prop} {ds : List D} {k : Int} (hc : ds ≠ [] ∧ 1 ≤ k ∧ k ≤ 1000 ∧ ds.length ≤ 1000) (h : Q (.tup (repD ds k)) S) : GE (fMulW (.tup ds) (.int k) S) Q := ⟨_, _, if_pos hc, h⟩
theorem ge_divW {S : Store} {Q : D → Store → Prop} {i j : Int} (h0 : 0 < j) (hw : wd j) (h : Q (.int (i / j)) S) : GE (fDivW (.int i) (.int j) S) Q := ⟨_, _, if_pos (hw.div h0), h⟩
theorem ge_gcd {S : Store} {Q : D → Store → Prop} {i j : Int} (h : Q (.int ((Nat.gcd i.natAbs j.natAbs : Nat) : Int)) S) : GE (cGcd [.int i, .int j] S) Q := ⟨_, _, rfl, h⟩
theorem ge_sum {S : Store} {Q : D → Store → Prop} {n : Nat} {ns : List Int} (h1 : lat S n = some (ns.map D.int)) (h : Q (.int ns.sum) S) : GE (cSum [.lr n] S) Q := by
  show GE ((lat S n).bind fun es => (intsOf es).map fun ns => (D.int ns.sum, S)) Q
  rw [h1]
  show GE ((intsOf (ns.map D.int)).map fun ns => (D.int ns.sum, S)) Q
  rw [intsOf_map]
  exact ⟨_, _, rfl, h⟩
theorem gi_zipM {ρ : Ev} {S : Store} {a : MArg} {QI : (List D × (Store → Bool)) → Store → Prop} (h : GE (a ρ S) fun xs S1 => ∃ ds k es, xs = [.tup ds, .lr k] ∧ lat S1 k = some es ∧ QI (zipD ds es, still k es) S1) : GE (mZip a ρ S) QI := ge_bind (h.mono fun x S1 ⟨ds, k, es, e, h1, h⟩ => by
  subst e
  show GE ((lat S1 k).bind fun es => some ((zipD ds es, still k es), S1)) QI
  rw [h1]
  exact ge_of h)
theorem gi_zipL {ρ : Ev} {S : Store} {a : MArg} {QI : (List D × (Store → Bool)) → Store → Prop} (h : GE (a ρ S) fun xs S1 => ∃ n ds k es, xs = [.lr n, .lr k] ∧ lat S1 n = some ds ∧ lat S1 k = some es ∧ QI (zipD ds es, fun S => still n ds S && still k es S) S1) : GE (mZip a ρ S) QI := ge_bind (h.mono fun x S1 ⟨n, ds, k, es, e, h1, h2, h⟩ => by
  subst e
  show GE ((lat S1 n).bind fun ds => (lat S1 k).bind fun es => some ((zipD ds es, fun S => still n ds S && still k es S), S1)) QI
  rw [h1, h2]
  exact ge_of h)
theorem gt_tupL {ds : List D} {k n : Nat} {S : Store} {ρ : Ev} {gs : MTgs} {QE : Ev → Store → Prop} (h1 : lat S k = some ds) (e : ds.length = n) (h : GE (gs ds ρ S) QE) : GE (mgTupL gs n (.lr k) ρ S) QE := by
  show GE ((lat S k).bind fun ds => if ds.length = n then gs ds ρ S else none) QE
  rw [h1]
  show GE (if ds.length = n then gs ds ρ S else none) QE
  rw [if_pos e]
  exact h
end
end MS

set_option Elab.async false
set_option linter.all false
set_option maxRecDepth 100000
set_option maxHeartbeats 4000000
set_option exponentiation.threshold 3000
namespace MS
open PySem PySem.Spec PyProof.Rows L2

/-! ### isinstance -/
def tyD : D → String
  | .non => "NoneType"
  | .bl _ => "bool"
  | .int _ => "int"
  | .str _ => "str"
  | .tup _ => "tuple"
  | .lr _ => "list"
theorem tyX_seqT {K : PySem.W.Frag} {H : Hp} {a : Addr} {vs : List V} (h : SqT K H a vs) : TyX K H (.ref a) (.type "tuple") := by
  rcases h with (h | ⟨o, h⟩) | ⟨o, its, n, h1, h2, _⟩
  · exact .base (.tup h)
  · exact .fTuple h
  · exact .kTuple h1 h2
theorem tyX_seqL {K : PySem.W.Frag} {H : Hp} {a : Addr} {vs : List V} (h : SqL K H a vs) : TyX K H (.ref a) (.type "list") := by
  rcases h with (h | ⟨o, h⟩) | ⟨o, its, n, h1, h2, _⟩
  · exact .base (.lst h)
  · exact .base (.frz h)
  · exact .kList h1 h2
def okTy (S : Store) : D → Bool
  | .lr n => (lat S n).isSome
  | _ => true
theorem tyX_of {K : PySem.W.Frag} {H : Hp} {μ : List Addr} {S : Store} {v : V} {d : D} (s : StR K H μ S) (r : Rp K H μ v d) (h : okTy S d = true) : TyX K H v (.type (tyD d)) := by
  cases r with
  | non => exact .base .non
  | bl b => exact .base (.bl b)
  | int i => exact .base (.int i)
  | str x => exact .base (.str x)
  | tup h1 h2 => exact tyX_seqT (sq _ _ h1)
  | lr e =>
    rename_i a n
    obtain ⟨ds, hl⟩ := Option.isSome_iff_exists.mp h
    obtain ⟨a', vs, e1, h1, _⟩ := s.lat hl (Rp.lr e)
    cases e1
    exact tyX_seqL h1
def mIsi (m : MExp) (T : String) : MExp := fun ρ S => (m ρ S).bind fun p => if okTy p.2 p.1 = true then (kitB (tyD p.1) T).map fun b => (.bl b, p.2) else none
section
variable {X : Cx} {e : Expr} {p q pos : Pos} {m : MExp}
theorem boot_bool : bootBuiltins "bool" = some (.type "bool") := by decide +kernel
theorem boot_isi : bootBuiltins "isinstance" = some (.builtin "isinstance") := by decide +kernel
theorem me_isi {x : Str} {T : String} (hg : Gl X "isinstance") (hm : X.mg "isinstance" = none) (hgT : Gl X x) (hmT : X.mg x = none) (hv : bootBuiltins x = some (.type T)) (he : ME X e m) (hdb : (x == ("__debug__" : Str)) = false := by decide) (hn : x ≠ "__name__" := by decide)
    (hs : starEach [e, .Name x q] X.env = (false, eval e X.env) :: starEach [.Name x q] X.env := by rfl) (hs2 : starEach [.Name x q] X.env = [(false, eval (.Name x q) X.env)] := by rfl) (hpl : (backTo pos (starEach [.Name x q] X.env)).any (·.1) = false := by rfl) :
    ME X (.Call (.Name "isinstance" p) [e, .Name x q] [] pos) (mIsi m T) := by
  refine ⟨PE.imp (pe_callB call_isi hg hm boot_isi (pa_cons he.pe (pa_cons (pe_bltn (v := .ty T) hgT hmT hv rfl (hn := hn) (hd := hdb)) pa_nil hs2) hs) (by decide) (by decide) hs hpl) fun σ H Q h => ?_⟩
  obtain ⟨ρ, S, μ, d, S', st, e1, qq⟩ := h
  obtain ⟨⟨d0, S1⟩, e2, e1⟩ := Option.bind_eq_some_iff.mp e1
  dsimp only at e1
  split at e1
  · rename_i hok
    obtain ⟨b, e3, e4⟩ := Option.map_eq_some_iff.mp e1
    cases e4
    refine ⟨ρ, S, μ, d0, _, st, e2, fun v H1 μ1 g1 s1 r1 => ?_⟩
    exact ⟨v, .ty T, _, _, b, rfl, .ty T, tyX_of s1 r1 hok, kit_ty e3, qq _ H1 μ1 g1 s1 (.bl b)⟩
  · cases e1
end
theorem ge_isi {ρ : Ev} {S : Store} {Q : D → Store → Prop} {m : MExp} {T : String} (h : GE (m ρ S) fun x S1 => okTy S1 x = true ∧ ∃ b, kitB (tyD x) T = some b ∧ Q (.bl b) S1) : GE (mIsi m T ρ S) Q := ge_bind (h.mono fun x S1 ⟨h1, b, h2, h3⟩ => by
  show GE (if okTy S1 x = true then (kitB (tyD x) T).map fun b => (D.bl b, S1) else none) Q
  rw [if_pos h1, h2]
  exact ⟨_, _, rfl, h3⟩)
theorem kit_tt : kitB "tuple" "tuple" = some true := by decide +kernel
theorem kit_it : kitB "int" "tuple" = some false := by decide +kernel
theorem kit_ib : kitB "int" "bool" = some false := by decide +kernel
theorem kit_ii : kitB "int" "int" = some true := by decide +kernel
theorem kit_bi : kitB "bool" "int" = some true := by decide +kernel
theorem kit_bb : kitB "bool" "bool" = some true := by decide +kernel
theorem kit_tb : kitB "tuple" "bool" = some false := by decide +kernel
theorem kit_ti : kitB "tuple" "int" = some false := by decide +kernel
theorem kit_ni : kitB "NoneType" "int" = some false := by decide +kernel
theorem kit_si : kitB "str" "int" = some false := by decide +kernel
theorem kit_li : kitB "list" "int" = some false := by decide +kernel
theorem kit_lt : kitB "list" "tuple" = some false := by decide +kernel
theorem kit_nt : kitB "NoneType" "tuple" = some false := by decide +kernel
theorem kit_st : kitB "str" "tuple" = some false := by decide +kernel
theorem kit_bt : kitB "bool" "tuple" = some false := by decide +kernel

/-! ### all of a list -/
def blsOf : List D → Option (List Bool)
  | [] => some []
  | .bl b :: ds => (blsOf ds).map (b :: ·)
  | _ :: _ => none
theorem blsOf_map : ∀ {bs : List Bool}, blsOf (bs.map D.bl) = some bs
  | [] => rfl
  | b :: bs => by rw [List.map_cons]; unfold blsOf; rw [blsOf_map]; rfl
theorem blsOf_rp {K : PySem.W.Frag} {H : Hp} {μ : List Addr} : ∀ {ds : List D} {vs : List V} {bs : List Bool}, blsOf ds = some bs → RpA K H μ vs ds → vs = bs.map V.bl
  | [], _, _, e, .nil => by cases e; rfl
  | .bl b :: ds, _, _, e, .cons (.bl _) r => by
    unfold blsOf at e
    obtain ⟨bs', e', rfl⟩ := Option.map_eq_some_iff.mp e
    rw [blsOf_rp e' r]; rfl
def cAll : DCall := fun ds S => match ds with
  | [.lr n] => (lat S n).bind fun es => (blsOf es).map fun bs => (.bl (bs.all id), S)
  | _ => none
theorem c_all {X : Cx} (hc : X.calm = true) : CallR X (.builtin "all") (rCM X.K cAll) := CallR.imp (cr_all hc) fun vs H Q ⟨S, μ, ds, d, S', s, r, e, q⟩ => by
  unfold cAll at e
  split at e
  · obtain ⟨es, e1, e⟩ := Option.bind_eq_some_iff.mp e
    obtain ⟨bs, e2, e⟩ := Option.map_eq_some_iff.mp e
    cases e
    match vs, r with
    | _, .cons r1 .nil =>
      obtain ⟨a, ws, rfl, h1, h2⟩ := s.lat e1 r1
      rw [blsOf_rp e2 h2] at h1
      exact ⟨a, bs, rfl, h1, q.id s (.bl _)⟩
  · cases e
theorem boot_all : bootBuiltins "all" = some (.builtin "all") := by decide +kernel
theorem ge_all {S : Store} {Q : D → Store → Prop} {n : Nat} {bs : List Bool} (h1 : lat S n = some (bs.map D.bl)) (h : Q (.bl (bs.all id)) S) : GE (cAll [.lr n] S) Q := by
  show GE ((lat S n).bind fun es => (blsOf es).map fun bs => (D.bl (bs.all id), S)) Q
  rw [h1]
  show GE ((blsOf (bs.map D.bl)).map fun bs => (D.bl (bs.all id), S)) Q
  rw [blsOf_map]
  exact ⟨_, _, rfl, h⟩

/-! ### what is shown of long numbers -/
mutual
def smw : PyData → Bool
  | .none => true
  | .bool _ => true
  | .int i => decide (i.natAbs < 2 ^ 1910)
  | .list xs => smwAll xs
  | .tuple xs => smwAll xs
  | _ => false
def smwAll : List PyData → Bool
  | [] => true
  | x :: xs => smw x && smwAll xs
end
mutual
def wtw : PyData → Nat
  | .list xs => wtwAll xs + 3
  | .tuple xs => wtwAll xs + 3
  | _ => 642
def wtwAll : List PyData → Nat
  | [] => 0
  | x :: xs => wtw x + 2 + wtwAll xs
end
mutual
theorem smw_shown : ∀ p : PyData, smw p = true → p.showable = true ∧ p.hasDict = false ∧ p.shown.length ≤ wtw p
  | .none, _ => ⟨rfl, rfl, by decide⟩
  | .bool b, _ => ⟨rfl, rfl, by cases b <;> decide⟩
  | .int i, h => by
    have h' : i.natAbs < 2 ^ 1910 := of_decide_eq_true h
    have h2 := log2_lt h' (by decide)
    refine ⟨decide_eq_true (by omega), rfl, ?_⟩
    have := int_text_length_le10 (a := i) (k := 640) (by decide) (Nat.lt_of_lt_of_le h' (by decide))
    show ((toString i : String) : Str).length ≤ 642
    rw [PySem.ofString_length]
    omega
  | .list xs, h => by
    obtain ⟨h1, h2, h3⟩ := smwAll_shown xs h
    refine ⟨h1, h2, ?_⟩
    have := listText_le (PyData.shownAll xs)
    show (listText (PyData.shownAll xs)).length ≤ wtwAll xs + 3
    omega
  | .tuple xs, h => by
    obtain ⟨h1, h2, h3⟩ := smwAll_shown xs h
    refine ⟨h1, h2, ?_⟩
    have := tupleText_le (PyData.shownAll xs)
    show (tupleText (PyData.shownAll xs)).length ≤ wtwAll xs + 3
    omega
  | .str _, h => by cases h
  | .dict _, h => by cases h
theorem smwAll_shown : ∀ xs : List PyData, smwAll xs = true → PyData.showableAll xs = true ∧ PyData.hasDictAll xs = false ∧ piled (PyData.shownAll xs) ≤ wtwAll xs
  | [], _ => ⟨rfl, rfl, Nat.le_refl _⟩
  | x :: xs, h => by
    have h : (smw x && smwAll xs) = true := h
    rw [Bool.and_eq_true] at h
    obtain ⟨h1, h2, h3⟩ := smw_shown x h.1
    obtain ⟨h4, h5, h6⟩ := smwAll_shown xs h.2
    refine ⟨?_, ?_, ?_⟩
    · show (x.showable && PyData.showableAll xs) = true
      rw [h1, h4]; rfl
    · show (x.hasDict || PyData.hasDictAll xs) = false
      rw [h2, h5]; rfl
    · show piled (x.shown :: PyData.shownAll xs) ≤ wtw x + 2 + wtwAll xs
      rw [piled_cons]
      omega
end
theorem okShow_wide {p : PyData} (h : smw p = true) (hd : p.depth ≤ 64) (hw : wtw p ≤ szl) : okShow p = true := by
  obtain ⟨h1, h2, h3⟩ := smw_shown p h
  unfold okShow
  rw [h1, h2]
  simp only [Bool.not_false, Bool.and_true, Bool.true_and, Bool.and_eq_true, decide_eq_true_eq]
  exact ⟨hd, Nat.le_trans h3 hw⟩
end MS

set_option Elab.async false
set_option linter.all false
set_option maxRecDepth 100000
set_option maxHeartbeats 4000000
namespace MS
open PySem PySem.Spec PyProof.Rows L2

/-! ### list.pop(i) -/
theorem RpA.eraseIdx {K : PySem.W.Frag} {H : Hp} {μ : List Addr} : ∀ {xs : List V} {ds : List D} (n : Nat), RpA K H μ xs ds → RpA K H μ (xs.eraseIdx n) (ds.eraseIdx n)
  | _, [], _, h => by cases h; exact .nil
  | _, _ :: _, 0, h => by
    cases h with
    | cons _ h2 => exact h2
  | _, _ :: _, n + 1, h => by
    cases h with
    | cons h1 h2 => exact .cons h1 (RpA.eraseIdx n h2)
def popD (S : Store) (n : Nat) (i : Int) : Option (D × Store) := (mat S n).bind fun ds => if ds.length ≤ szl then (L2.ixN ds.length i).bind fun k => (ds[k]?).map fun y => (y, S.set n (.lst (ds.eraseIdx k))) else none
/-- xs.pop(i) -/
def mPop (m : MExp) (a : MArg) : MExp := fun ρ S => (m ρ S).bind fun p => match p.1 with
  | .lr n => (mat p.2 n).bind fun _ => (a ρ p.2).bind fun q => match q.1 with
    | [.int i] => popD q.2 n i
    | _ => none
  | _ => none
section
variable {X : Cx} {e : Expr} {es : List Expr} {m : MArg}
theorem me_pop {o : Expr} {mo : MExp} {apos cpos : Pos} (ho : ME X o mo) (ha : MA X (e :: es) m)
    (hbase : attributeBase o "pop" X.env (eval o X.env) = eval o X.env := by rfl)
    (hfew : ((backTo cpos (starEach (e :: es) X.env)).all (fun x => !x.1) && (backToKw cpos (keywordEach [] X.env)).all (fun x => x.1.isSome)
      && decide ((e :: es).length + ([] : List Keyword).length + (if ([] : List Keyword).isEmpty then 0 else 1) < 30)) = true := by rfl)
    (hline : (apos.endLine == cpos.line) = true := by rfl) (hs : starEach (e :: es) X.env = (false, eval e X.env) :: starEach es X.env := by rfl) (hplain : (backTo cpos (starEach es X.env)).any (·.1) = false := by rfl) :
    ME X (.Call (.Attribute o "pop" apos) (e :: es) [] cpos) (mPop mo m) :=
  ⟨PE.imp (pe_bm PySem.F.plainAttrs_list PySem.F.slot_list_pop PySem.F.type_list_pop mt_popAt ho.pe ha.pa hbase hfew hline hs hplain) fun σ H Q ⟨ρ, S, μ, d, S', st, e, q⟩ => by
    obtain ⟨⟨d1, S1⟩, e1, e⟩ := Option.bind_eq_some_iff.mp e
    refine ⟨ρ, S, μ, d1, S1, st, e1, fun v H1 μ1 g1 s1 r1 => ?_⟩
    cases d1 with
    | lr n =>
      obtain ⟨ds0, e2, e⟩ := Option.bind_eq_some_iff.mp (show ((mat S1 n).bind fun _ => (m ρ S1).bind fun q => (match q.1 with
        | [.int i] => popD q.2 n i
        | _ => none)) = some (d, S') from e)
      obtain ⟨⟨as, S2⟩, e3, e⟩ := Option.bind_eq_some_iff.mp e
      obtain ⟨a, vs, rfl, h1, h2, h3⟩ := s1.mat e2 r1
      refine ⟨.inl ⟨rfl, vs, .inl (.inl h2)⟩, ρ, S1, μ1, as, S2, st.grow g1 s1, e3, fun ws H2 μ2 g2 s2 r2 => ?_⟩
      match as, r2, e with
      | [.int i], .cons (.int _) .nil, e =>
        have e : popD S2 n i = some (d, S') := e
        unfold popD at e
        obtain ⟨ds, e4, e⟩ := Option.bind_eq_some_iff.mp e
        split at e
        · rename_i hz
          obtain ⟨k, e5, e⟩ := Option.bind_eq_some_iff.mp e
          obtain ⟨y, e6, e⟩ := Option.map_eq_some_iff.mp e
          cases e
          obtain ⟨a', vs', h4, h5, h6, h7⟩ := s2.mat e4 (r1.grow g2)
          cases h4
          obtain ⟨f1, f2, f3, f4⟩ := ixN_seq e5
          obtain ⟨w, h8, h9⟩ := h7.get e6
          have hl := h7.length
          have hzz : ds.length ≤ 16777216 := hz
          refine ⟨a, vs', i, k, w, rfl, rfl, h6, by omega, by omega, by rw [hl]; exact f1, h8, ?_⟩
          exact q _ _ μ2 ((g1.trans g2).trans (.wr h6)) (s2.wr (mat_eq e4) h5 (h7.eraseIdx k)) (h9.grow (.wr h6))
        · cases e
    | _ => cases e⟩
end
section
variable {ρ : Ev} {S : Store} {Q : D → Store → Prop} {m : MExp} {a : MArg}
theorem ge_pop (h : GE (m ρ S) fun x S1 => ∃ n, x = .lr n ∧ (∃ z, mat S1 n = some z) ∧ GE (a ρ S1) fun xs S2 => ∃ i ds k y, xs = [.int i] ∧ mat S2 n = some ds ∧ ds.length ≤ szl ∧ L2.ixN ds.length i = some k ∧ ds[k]? = some y ∧ Q y (S2.set n (.lst (ds.eraseIdx k)))) : GE (mPop m a ρ S) Q :=
  ge_bind (h.mono fun x S1 ⟨n, e, ⟨z, hz⟩, h⟩ => by
    subst e
    show GE ((mat S1 n).bind fun _ => _) Q
    rw [hz]
    refine ge_bind (h.mono fun xs S2 ⟨i, ds, k, y, e, h1, h2, h3, h4, h5⟩ => ?_)
    subst e
    show GE (popD S2 n i) Q
    unfold popD
    rw [h1]
    show GE (if ds.length ≤ szl then (L2.ixN ds.length i).bind fun k => (ds[k]?).map fun y => (y, S2.set n (.lst (ds.eraseIdx k))) else none) Q
    rw [if_pos h2, h3]
    show GE ((ds[k]?).map fun y => (y, S2.set n (.lst (ds.eraseIdx k)))) Q
    rw [h4]
    exact ⟨_, _, rfl, h5⟩)
end
end MS

set_option Elab.async false
set_option linter.all false
set_option maxRecDepth 100000
set_option maxHeartbeats 4000000
namespace MS
open PySem PySem.Spec PyProof.Rows L2

/-! ### dicts -/
/-- a datum as a key, a tuple's items as one -/
def keyOf : D → Option Key
  | .int i => some (.inl i)
  | .str x => some (.inr x)
  | _ => none
def keysOf : List D → Option (List Key)
  | [] => some []
  | d :: ds => (keyOf d).bind fun k => (keysOf ds).map fun ks => k :: ks
section
variable {κ : Type} [DecidableEq κ]
def valD (kvs : List (κ × D)) (k : κ) : Option D := (kvs.find? fun kv => decide (kv.1 = k)).map (·.2)
def putD (kvs : List (κ × D)) (k : κ) (d : D) : List (κ × D) :=
  if (kvs.map (·.1)).contains k then kvs.map (fun kv => if kv.1 = k then (kv.1, d) else kv) else kvs ++ [(k, d)]
theorem valD_nil {k : κ} : valD ([] : List (κ × D)) k = none := rfl
theorem valD_cons {p : κ × D} {r : List (κ × D)} {k : κ} : valD (p :: r) k = if p.1 = k then some p.2 else valD r k := by
  unfold valD
  rw [List.find?_cons]
  by_cases h : p.1 = k
  · rw [if_pos h, decide_eq_true h]; rfl
  · rw [if_neg h, decide_eq_false h]
theorem putD_len {kvs : List (κ × D)} {k : κ} {d : D} : (putD kvs k d).length ≤ kvs.length + 1 := by
  unfold putD
  split
  · rw [List.length_map]; omega
  · rw [List.length_append, List.length_singleton]; omega
end
section
variable {K : PySem.W.Frag} {H H' : Hp} {μ : List Addr} {κ : Type} [DecidableEq κ]
theorem rp_key {d : D} {v : V} {k : Key} (e : keyOf d = some k) (r : Rp K H μ v d) : v = kV k := by
  cases r <;> cases e <;> rfl
theorem rp_keys : ∀ {ds : List D} {vs : List V} {ks : List Key}, keysOf ds = some ks → RpA K H μ vs ds → vs = ks.map kV
  | [], _, _, e, r => by cases e; cases r; rfl
  | d :: ds, _, _, e, .cons r1 r2 => by
    obtain ⟨k, e1, e2⟩ := Option.bind_eq_some_iff.mp (show ((keyOf d).bind fun k => (keysOf ds).map fun ks => k :: ks) = _ from e)
    obtain ⟨ks, e3, e4⟩ := Option.map_eq_some_iff.mp e2
    subst e4
    rw [rp_key e1 r1, rp_keys e3 r2]
    rfl
theorem RpK.uncons {p : κ × V} {kws : List (κ × V)} {kvs : List (κ × D)} (h : RpK K H μ (p :: kws) kvs) : ∃ q kvs', kvs = q :: kvs' ∧ p.1 = q.1 ∧ Rp K H μ p.2 q.2 ∧ RpK K H μ kws kvs' := by
  obtain ⟨h1, h2⟩ := h
  cases kvs with
  | nil => cases h1
  | cons q kvs =>
    rw [List.map_cons, List.map_cons] at h1 h2
    cases h2 with
    | cons r1 r2 =>
      rw [List.cons.injEq] at h1
      exact ⟨q, kvs, rfl, h1.1, r1, h1.2, r2⟩
theorem RpK.val {k : κ} : ∀ {kws : List (κ × V)} {kvs : List (κ × D)}, RpK K H μ kws kvs → (valD kvs k = none ∧ valV kws k = none) ∨ ∃ d v, valD kvs k = some d ∧ valV kws k = some v ∧ Rp K H μ v d
  | [], kvs, h => by
    cases kvs with
    | nil => exact .inl ⟨rfl, rfl⟩
    | cons q kvs => cases h.1
  | p :: kws, kvs, h => by
    obtain ⟨q, kvs', rfl, e, r, h'⟩ := h.uncons
    rw [valD_cons]
    by_cases hk : p.1 = k
    · rw [if_pos (e ▸ hk), valV_pos hk]
      exact .inr ⟨_, _, rfl, rfl, r⟩
    · rw [if_neg (e ▸ hk), valV_neg hk]
      exact RpK.val h'
theorem RpA.mapSnd {k : κ} {v : V} {d : D} (r : Rp K H μ v d) : ∀ {kws : List (κ × V)} {kvs : List (κ × D)}, RpK K H μ kws kvs →
    RpK K H μ (kws.map fun kv => if kv.1 = k then (kv.1, v) else kv) (kvs.map fun kv => if kv.1 = k then (kv.1, d) else kv)
  | [], kvs, h => by
    cases kvs with
    | nil => exact h
    | cons q kvs => cases h.1
  | p :: kws, kvs, h => by
    obtain ⟨q, kvs', rfl, e, r', h'⟩ := h.uncons
    obtain ⟨i1, i2⟩ := RpA.mapSnd r h'
    rw [List.map_cons, List.map_cons]
    by_cases hk : p.1 = k
    · rw [if_pos hk, if_pos (e ▸ hk)]
      refine ⟨?_, ?_⟩
      · rw [List.map_cons, List.map_cons, i1]; simp only [e]
      · rw [List.map_cons, List.map_cons]; exact .cons r i2
    · rw [if_neg hk, if_neg (e ▸ hk)]
      refine ⟨?_, ?_⟩
      · rw [List.map_cons, List.map_cons, i1, e]
      · rw [List.map_cons, List.map_cons]; exact .cons r' i2
theorem any_keys {k : κ} : ∀ kws : List (κ × V), (kws.any fun kv => decide (kv.1 = k)) = (kws.map (·.1)).contains k
  | [] => rfl
  | p :: kws => by
    rw [List.any_cons, List.map_cons, List.contains_cons, any_keys kws]
    congr 1
    by_cases h : p.1 = k
    · rw [decide_eq_true h, h, beq_self_eq_true]
    · rw [decide_eq_false h]
      exact (beq_eq_false_iff_ne.mpr fun z => h z.symm).symm
theorem RpK.put {k : κ} {v : V} {d : D} {kws : List (κ × V)} {kvs : List (κ × D)} (h : RpK K H μ kws kvs) (r : Rp K H μ v d) : RpK K H μ (putK kws k v) (putD kvs k d) := by
  unfold putK putD
  rw [any_keys, h.1]
  split
  · exact RpA.mapSnd r h
  · obtain ⟨h1, h2⟩ := h
    refine ⟨?_, ?_⟩
    · rw [List.map_append, List.map_append, h1]; rfl
    · rw [List.map_append, List.map_append]; exact h2.append (.cons r .nil)
theorem RpK.len {kws : List (κ × V)} {kvs : List (κ × D)} (h : RpK K H μ kws kvs) : kws.length = kvs.length := by
  have := h.2.length
  rwa [List.length_map, List.length_map] at this
end
/-- what a dict of the store holds at a key -/
def dget (S : Store) (n : Nat) (y : D) : Option (Option D) := match S[n]? with
  | some (.dk kvs) => (keyOf y).map fun k => valD kvs k
  | some (.dt kvs) => match y with
    | .tup ds => (keysOf ds).map fun ks => valD kvs ks
    | _ => none
  | _ => none
/-- the store behind d[y] = v -/
def dput (S : Store) (n : Nat) (y d : D) : Option Store := match S[n]? with
  | some (.dk kvs) => if kvs.length < szl then (keyOf y).map fun k => S.set n (.dk (putD kvs k d)) else none
  | some (.dt kvs) => match y with
    | .tup ds => if kvs.length < szl then (keysOf ds).map fun ks => S.set n (.dt (putD kvs ks d)) else none
    | _ => none
  | _ => none
section
variable {K : PySem.W.Frag} {H : Hp} {μ : List Addr} {S : Store}
theorem StR.dget {n : Nat} {x y : V} {dy : D} {r : Option D} (s : StR K H μ S) (e : MS.dget S n dy = some r) (rx : Rp K H μ x (.lr n)) (ry : Rp K H μ y dy) :
    ∃ a o, x = .ref a ∧ DGet H a y o ∧ ((r = none ∧ o = none) ∨ ∃ d v, r = some d ∧ o = some v ∧ Rp K H μ v d) := by
  unfold MS.dget at e
  split at e
  · rename_i kvs h
    obtain ⟨k, e1, e2⟩ := Option.map_eq_some_iff.mp e
    obtain ⟨a, q1, kws, h1, h2⟩ := s.get h
    cases rx with
    | lr hx =>
    rw [hx] at q1; cases q1
    rw [rp_key e1 ry]
    refine ⟨_, _, rfl, DGet.k h1, ?_⟩
    rcases RpK.val (k := k) h2 with ⟨q2, q3⟩ | ⟨d, v, q2, q3, q4⟩
    · exact .inl ⟨by rw [← e2, q2], q3⟩
    · exact .inr ⟨d, v, by rw [← e2, q2], q3, q4⟩
  · rename_i kvs h
    split at e
    · obtain ⟨ks, e1, e2⟩ := Option.map_eq_some_iff.mp e
      obtain ⟨a, q1, kws, h1, h2⟩ := s.get h
      cases rx with
      | lr hx =>
      rw [hx] at q1; cases q1
      cases ry with
      | tup hy ry =>
      have hy := hy
      unfold OwnT at hy
      rw [rp_keys e1 ry] at hy
      refine ⟨_, _, rfl, DGet.t h1 hy, ?_⟩
      rcases RpK.val (k := ks) h2 with ⟨q2, q3⟩ | ⟨d, v, q2, q3, q4⟩
      · exact .inl ⟨by rw [← e2, q2], q3⟩
      · exact .inr ⟨d, v, by rw [← e2, q2], q3, q4⟩
    · cases e
  · cases e
theorem StR.dput {n : Nat} {x y v : V} {dy d : D} {S' : Store} (s : StR K H μ S) (e : MS.dput S n dy d = some S') (rx : Rp K H μ x (.lr n)) (ry : Rp K H μ y dy) (rv : Rp K H μ v d) :
    ∃ a H', x = .ref a ∧ DPut H a y v H' ∧ Grow H H' μ μ ∧ StR K H' μ S' := by
  unfold MS.dput at e
  split at e
  · rename_i kvs h
    split at e
    · rename_i hz
      obtain ⟨k, e1, e2⟩ := Option.map_eq_some_iff.mp e
      subst e2
      obtain ⟨a, q1, kws, h1, h2⟩ := s.get h
      cases rx with
      | lr hx =>
      rw [hx] at q1; cases q1
      rw [rp_key e1 ry]
      have g : Grow H (upd H a (.dK (putK kws k v))) μ μ := .wrM (.dk _) h1
      refine ⟨_, _, rfl, DPut.k h1 (by rw [h2.len]; exact szl_lt hz), g, ?_⟩
      exact s.wrM h rfl hx ⟨_, upd_same, (h2.put rv).grow g⟩
    · cases e
  · rename_i kvs h
    split at e
    · split at e
      · rename_i hz
        obtain ⟨ks, e1, e2⟩ := Option.map_eq_some_iff.mp e
        subst e2
        obtain ⟨a, q1, kws, h1, h2⟩ := s.get h
        cases rx with
        | lr hx =>
        rw [hx] at q1; cases q1
        cases ry with
        | tup hy ry =>
        have hy := hy
        unfold OwnT at hy
        rw [rp_keys e1 ry] at hy
        have g : Grow H (upd H a (.dT (putK kws ks v))) μ μ := .wrM (.dt _) h1
        refine ⟨_, _, rfl, DPut.t h1 hy (by rw [h2.len]; exact szl_lt hz), g, ?_⟩
        exact s.wrM h rfl hx ⟨_, upd_same, (h2.put rv).grow g⟩
      · cases e
    · cases e
  · cases e
end
def isDict (S : Store) : D → Bool
  | .lr n => match S[n]? with
    | some (.dk _) => true
    | some (.dt _) => true
    | _ => false
  | _ => false
/-- d[y], x[i] -/
def fIxD : DOp2 := fun x y S => if isDict S x = true then (match x with
  | .lr n => (dget S n y).bind fun r => r.map fun d => (d, S)
  | _ => none) else fIx x y S
/-- y in d, y in xs -/
def fInD (b : Bool) : DOp2 := fun y x S => if isDict S x = true then (match x with
  | .lr n => (dget S n y).map fun r => (.bl (if b then !r.isSome else r.isSome), S)
  | _ => none) else fIn b y x S
def mDNewK : MExp := fun _ S => some (.lr S.length, S ++ [.dk []])
def mDNewT : MExp := fun _ S => some (.lr S.length, S ++ [.dt []])
/-- d[y] = e, as a target -/
def mgDict (mo mi : MExp) : MTg := fun d ρ S => (mo ρ S).bind fun p => (mi ρ p.2).bind fun q => match p.1 with
  | .lr n => (dput q.2 n q.1 d).map fun S' => (ρ, S')
  | _ => none
def rSetK : V → V → V → Hp → (Hp → Prop) → Prop := fun o i v H Q => ∃ a H', o = .ref a ∧ DPut H a i v H' ∧ Q H'
section
variable {X : Cx} {a b : Expr} {ma mb : MExp} {pos : Pos}
theorem me_ixD (hu : X.A.units + 1 < cLine) (ha : ME X a ma) (hb : ME X b mb) (hs : PlainIx b) (hs2 : NoSl b) : ME X (.Subscript a b pos) (mBin fIxD ma mb) := by
  refine ⟨⟨fun pins s σ H Q I h => ?_⟩⟩
  obtain ⟨ρ, S, μ, d, S', st, e, q⟩ := h
  obtain ⟨⟨d1, S1⟩, e1, e⟩ := Option.bind_eq_some_iff.mp e
  obtain ⟨⟨d2, S2⟩, e2, e⟩ := Option.bind_eq_some_iff.mp e
  have e : fIxD d1 d2 S2 = some (d, S') := e
  unfold fIxD at e
  split at e
  · cases d1 with
    | lr n =>
      obtain ⟨r, e3, e4⟩ := Option.bind_eq_some_iff.mp (show ((dget S2 n d2).bind fun r => r.map fun d => (d, S2)) = some (d, S') from e)
      obtain ⟨d', e5, e6⟩ := Option.map_eq_some_iff.mp e4
      cases e6
      refine (pe_dget hu ha.pe hb.pe hs2).run pins s σ H Q I ⟨ρ, S, μ, _, S1, st, e1, fun x H1 μ1 g1 s1 r1 => ⟨ρ, S1, μ1, _, _, st.grow g1 s1, e2, fun y H2 μ2 g2 s2 r2 => ?_⟩⟩
      obtain ⟨a', o, rfl, hg, hr⟩ := s2.dget e3 (r1.grow g2) r2
      rcases hr with ⟨z, _⟩ | ⟨dd, v, z, rfl, rv⟩
      · rw [e5] at z; cases z
      · rw [e5] at z; cases z
        exact ⟨a', v, rfl, hg, q v H2 μ2 (g1.trans g2) s2 rv⟩
    | _ => cases e
  · refine (me_ix ha hb hs).pe.run pins s σ H Q I ⟨ρ, S, μ, d, S', st, ?_, q⟩
    unfold mBin
    rw [e1]
    show ((mb ρ S1).bind fun q => fIx d1 q.1 q.2) = _
    rw [e2]
    exact e
theorem o_inD (hu : X.A.units + 1 < cLine) : OpR X (compareOp .In) (rM X.K (fInD false)) := by
  intro pins s σ H y x u w Q I ry rx ⟨S, μ, dy, dx, d, S', st, py, px, e, q⟩
  unfold fInD at e
  split at e
  · cases dx with
    | lr n =>
      obtain ⟨r, e3, e4⟩ := Option.map_eq_some_iff.mp (show ((dget S n dy).map fun r => (D.bl (if false then !r.isSome else r.isSome), S)) = some (d, S') from e)
      cases e4
      obtain ⟨a', o, rfl, hg, hr⟩ := st.dget e3 px py
      cases rx
      refine d_in hu I hg ry fun s3 I3 => ?_
      have : o.isSome = r.isSome := by
        rcases hr with ⟨rfl, rfl⟩ | ⟨dd, v, rfl, rfl, _⟩ <;> rfl
      rw [this]
      exact ⟨.bl r.isSome, H, I3, rfl, q.id st (.bl _)⟩
    | _ => cases e
  · exact o_in pins s σ H y x u w Q I ry rx ⟨S, μ, dy, dx, d, S', st, py, px, e, q⟩
theorem o_notInD (hu : X.A.units + 1 < cLine) : OpR X (compareOp .NotIn) (rM X.K (fInD true)) := by
  intro pins s σ H y x u w Q I ry rx ⟨S, μ, dy, dx, d, S', st, py, px, e, q⟩
  unfold fInD at e
  split at e
  · cases dx with
    | lr n =>
      obtain ⟨r, e3, e4⟩ := Option.map_eq_some_iff.mp (show ((dget S n dy).map fun r => (D.bl (if true then !r.isSome else r.isSome), S)) = some (d, S') from e)
      cases e4
      obtain ⟨a', o, rfl, hg, hr⟩ := st.dget e3 px py
      cases rx
      refine d_notIn hu I hg ry fun s3 I3 => ?_
      have : o.isSome = r.isSome := by
        rcases hr with ⟨rfl, rfl⟩ | ⟨dd, v, rfl, rfl, _⟩ <;> rfl
      rw [this]
      exact ⟨.bl (!r.isSome), H, I3, rfl, q.id st (.bl _)⟩
    | _ => cases e
  · exact o_notIn pins s σ H y x u w Q I ry rx ⟨S, μ, dy, dx, d, S', st, py, px, e, q⟩
theorem me_dnewK : ME X (.Dict [] [] pos) mDNewK := ⟨PE.imp pe_dnewK fun σ H Q ⟨ρ, S, μ, d, S', s, e, q⟩ => by
  cases e
  exact fun p hp => q (.ref p) _ (μ ++ [p]) (.newL hp) (s.st.newM hp ⟨[], upd_same, rfl, .nil⟩) (.lr (by rw [← s.st.len, List.getElem?_concat_length]))⟩
theorem me_dnewT : ME X (.Dict [] [] pos) mDNewT := ⟨PE.imp pe_dnewT fun σ H Q ⟨ρ, S, μ, d, S', s, e, q⟩ => by
  cases e
  exact fun p hp => q (.ref p) _ (μ ++ [p]) (.newL hp) (s.st.newM hp ⟨[], upd_same, rfl, .nil⟩) (.lr (by rw [← s.st.len, List.getElem?_concat_length]))⟩
theorem set_dict (hu : X.A.units + 1 < cLine) : PSet X rSetK := by
  intro pins s σ H o i v ov iv u Q I ro ri rv ⟨a, H', ex, g, q⟩
  subst ex
  cases ro
  exact d_setItem hu I g ri rv fun s4 I4 => ⟨H', I4, q⟩
theorem mg_dict {o i : Expr} {mo mi : MExp} (hu : X.A.units + 1 < cLine) (ho : ME X o mo) (hi : ME X i mi)
    (ha : ∀ v, assign (.Subscript o i pos) X.env v = (do
      let ov ← holding [v] (eval o X.env)
      let iv ← holding [v, ov] (eval i X.env)
      standAt pos
      holding [v, ov, iv] (setItem ov iv v)
      release [v, ov, iv] []) := by intro _; rfl) : MG X (.Subscript o i pos) (mgDict mo mi) :=
  ⟨PG.imp (pg_sub ho.pe hi.pe (set_dict hu) ha) fun v σ H Q ⟨d, ρ, S, μ, ρ', S', s, rr, e, q⟩ => by
    obtain ⟨⟨d1, S1⟩, e1, e⟩ := Option.bind_eq_some_iff.mp e
    obtain ⟨⟨d2, S2⟩, e2, e⟩ := Option.bind_eq_some_iff.mp e
    refine ⟨ρ, S, μ, d1, S1, s, e1, fun v1 H1 μ1 g1 s1 r1 => ⟨ρ, S1, μ1, d2, S2, s.grow g1 s1, e2, fun v2 H2 μ2 g2 s2 r2 => ?_⟩⟩
    cases d1 with
    | lr n =>
      obtain ⟨S3, e3, e4⟩ := Option.map_eq_some_iff.mp (show ((dput S2 n d2 d).map fun S' => (ρ, S')) = some (ρ', S') from e)
      cases e4
      have g12 := g1.trans g2
      obtain ⟨a', H3, rfl, hp, g3, s3⟩ := s2.dput e3 (r1.grow g2) r2 (rr.grow g12)
      exact ⟨a', H3, rfl, hp, q σ H3 μ2 (g12.trans g3) ((s.grow g12 s2).grow g3 s3)⟩
    | _ => cases e⟩
end
end MS

set_option Elab.async false
set_option linter.all false
set_option maxRecDepth 100000
set_option maxHeartbeats 4000000
set_option exponentiation.threshold 9000
namespace MS
open PySem PySem.Spec PyProof.Rows L2

/-! ### lcm -/
def cLcm : DCall := fun ds S => match ds with
  | [.int a, .int b] => if a.natAbs.log2 < 2000 ∧ b.natAbs.log2 < 2000 then some (.int ((Nat.lcm a.natAbs b.natAbs : Nat) : Int), S) else none
  | _ => none
theorem log2_lcm {a b : Nat} (ha : a.log2 < 2000) (hb : b.log2 < 2000) : (Nat.lcm a b).log2 < 8000 := by
  by_cases h0 : Nat.lcm a b = 0
  · rw [h0]; decide
  · have ha' : a < 2 ^ 2000 := by
      by_cases h : a = 0
      · subst h; exact Nat.two_pow_pos _
      · exact (Nat.log2_lt h).mp ha
    have hb' : b < 2 ^ 2000 := by
      by_cases h : b = 0
      · subst h; exact Nat.two_pow_pos _
      · exact (Nat.log2_lt h).mp hb
    have hle : Nat.lcm a b ≤ a * b := by
      unfold Nat.lcm
      exact Nat.div_le_self _ _
    have hlt : Nat.lcm a b < 2 ^ 4000 := Nat.lt_of_le_of_lt hle (by
      have : a * b < 2 ^ 2000 * 2 ^ 2000 := Nat.mul_lt_mul'' ha' hb'
      rwa [← Nat.pow_add] at this)
    exact Nat.lt_trans ((Nat.log2_lt h0).mpr hlt) (by decide)
theorem c_lcm {X : Cx} : CallR X (.builtin "math.lcm") (rCM X.K cLcm) := by
  intro pins s σ H vs us Q I r ⟨S, μ, ds, d, S', st, ra, e, q⟩
  unfold cLcm at e
  split at e
  · split at e
    · rename_i h
      cases e
      match vs, ra with
      | _, .cons (.int a) (.cons (.int b) .nil) =>
        obtain ⟨t, u, rfl⟩ := Vals.int2 r
        have e1 : Nat.lcm 1 a.natAbs = a.natAbs := Nat.lcm_one_left _
        have h2 : (max a.natAbs b.natAbs).log2 < 2000 := by
          rcases Nat.le_total a.natAbs b.natAbs with hh | hh
          · rw [Nat.max_eq_right hh]; exact h.2
          · rw [Nat.max_eq_left hh]; exact h.1
        have h1 : (max 1 a.natAbs).log2 < 2000 := by
          rcases Nat.le_total 1 a.natAbs with hh | hh
          · rw [Nat.max_eq_right hh]; exact h.1
          · rw [Nat.max_eq_left hh]; decide
        refine call_function_meets PySem.W.MGF.kind_lcm PySem.W.MGF.plain_lcm PySem.W.MGF.entry_lcm (PySem.W.MGF.args_lcm _ _) (PySem.W.mg_run_lcm a t b u (by omega) (by omega) ?_).meets ?_
        · rw [e1, Int.natAbs_natCast]
          exact Nat.lt_trans (log2_lcm h.1 h.2) (by decide)
        · rw [e1]
          exact ⟨.int _, H, I.tok _, ⟨_, rfl⟩, q.id st (.int _)⟩
    · cases e
  · cases e

/-! ### the greatest and the least of a list or tuple of ints -/
def maxI : List Int → Option Int
  | [] => none
  | [x] => some x
  | x :: xs => (maxI xs).map fun m => if m > x then m else x
theorem maxI_spec : ∀ {ns : List Int} {m : Int}, maxI ns = some m → m ∈ ns ∧ ∀ y ∈ ns, y ≤ m
  | [x], m, h => by cases h; exact ⟨List.mem_cons_self, fun y hy => by rw [List.mem_singleton.mp hy]; exact Int.le_refl _⟩
  | x :: z :: xs, m, h => by
    obtain ⟨m', h1, h2⟩ := Option.map_eq_some_iff.mp (show (maxI (z :: xs)).map (fun m => if m > x then m else x) = some m from h)
    obtain ⟨k1, k2⟩ := maxI_spec h1
    subst h2
    refine ⟨?_, fun y hy => ?_⟩
    · split
      · exact List.mem_cons_of_mem _ k1
      · exact List.mem_cons_self
    · rcases List.mem_cons.mp hy with rfl | hy
      · split <;> omega
      · have := k2 y hy
        split <;> omega
theorem maxI_some : ∀ {ns : List Int}, ns ≠ [] → ∃ m, maxI ns = some m
  | [], h => absurd rfl h
  | [x], _ => ⟨x, rfl⟩
  | x :: z :: xs, _ => by
    obtain ⟨m, h⟩ := maxI_some (ns := z :: xs) (by simp)
    exact ⟨_, by show (maxI (z :: xs)).map _ = _; rw [h]; rfl⟩
def minI (ns : List Int) : Option Int := (maxI (ns.map fun x => -x)).map fun m => -m
theorem minI_spec {ns : List Int} {m : Int} (h : minI ns = some m) : m ∈ ns ∧ ∀ y ∈ ns, m ≤ y := by
  obtain ⟨k, h1, rfl⟩ := Option.map_eq_some_iff.mp h
  obtain ⟨h2, h3⟩ := maxI_spec h1
  obtain ⟨x, hx, rfl⟩ := List.mem_map.mp h2
  refine ⟨by rw [Int.neg_neg]; exact hx, fun y hy => ?_⟩
  have := h3 (-y) (List.mem_map.mpr ⟨y, hy, rfl⟩)
  omega
theorem minI_some {ns : List Int} (h : ns ≠ []) : ∃ m, minI ns = some m := by
  obtain ⟨m, e⟩ := maxI_some (ns := ns.map fun x => -x) (by simpa using h)
  exact ⟨-m, by unfold minI; rw [e]; rfl⟩
def cMaxA : DCall := fun ds S => match ds with
  | [d] => (MS.items S d).bind fun es => (intsOf es).bind fun ns => (maxI ns).map fun m => (.int m, S)
  | _ => cMax ds S
def cMinA : DCall := fun ds S => match ds with
  | [d] => (MS.items S d).bind fun es => (intsOf es).bind fun ns => (minI ns).map fun m => (.int m, S)
  | _ => cMin ds S
section
variable {prog : Program} {w : World} {A : Around} {E : Value → Shared → Prop} {s : Shared} {l : Addr}
theorem iter_tupleI {its : Array Value} {Q : Value → Shared → Prop} (hl : s.heap.IsTuple l its)
    (h : ∀ s2 : Shared, s2 = { s with heap := s.heap.push { cls := .type "tuple_iterator", data := .fields #[.ref l, .int 0 0] } } → s2.heap.IsTupleIter s.heap.objs.size l 0 → s2.heap.IsTuple l its → (∀ b ∈ [s.heap.objs.size, l], b < s2.heap.objs.size) → l ≠ s.heap.objs.size → Q (.ref s.heap.objs.size) s2) :
    wpAny (model prog w) A (pyIter (.ref l)) Q E s := by
  have hlt : l < s.heap.objs.size := by obtain ⟨_, e, _⟩ := hl; exact Heap.lt_size e
  refine wpAny_pyIter_tuple hl (h _ rfl ⟨_, Heap.get?_push_size _ rfl, rfl, rfl⟩ (hl.push _) (fun b hb => ?_) (Nat.ne_of_lt hlt))
  show b < (s.heap.push _).objs.size
  rw [Heap.size_push]
  simp only [List.mem_cons, List.not_mem_nil, or_false] at hb
  rcases hb with rfl | rfl
  · exact Nat.lt_succ_self _
  · exact Nat.lt_succ_of_lt hlt
theorem kept_tupleI {h' : Heap} (hk : ∀ b o, b ∉ [s.heap.objs.size] → (s.heap.push { cls := .type "tuple_iterator", data := .fields #[.ref l, .int 0 0] }).get? b = some o → h'.get? b = some o) :
    ∀ b o, s.heap.get? b = some o → h'.get? b = some o := fun b o e => by
  refine hk b o (fun z => ?_) (Heap.get?_push_of_some _ e)
  have := Heap.lt_size e
  rw [List.mem_singleton.mp z] at this
  exact Nat.lt_irrefl _ this
end
section
variable {X : Cx} {pins : List (Addr × Obj)} {σ : L2.St} {H : Hp} {s : Shared}
theorem max_tuple (hc : X.calm = true) (I : Inv X pins σ H s) {a : Addr} {ns : List Int} {Q : VK} (hq : SqT X.K H a (ns.map V.int)) (hne : 0 < ns.length) (q : ∀ m, m ∈ ns → (∀ y ∈ ns, y ≤ m) → Q (.int m) H) :
    wpAny (model X.prog X.w) X.A (call (.builtin "max") [.ref a]) (EP X pins σ Q) X.xe s := by
  obtain ⟨its, rv, hp, hz⟩ := I.tuple hq
  have hi := rv.ints
  obtain ⟨xs, e⟩ := hi.allInts.items
  have hn : numsOf (intItems xs).toList = ns := by rw [← e]; exact hi.numsOf
  rw [nums_intItems] at hn
  subst hn
  have hl : s.heap.IsTuple a (intItems xs) := by rw [← e]; exact hp
  have hsz : 0 < xs.size := by simpa using hne
  refine call_max_walk (iter_tupleI hl fun s2 e2 st1 st2 hfp hlI => ?_)
  subst e2
  refine ⟨_, _, _, _, _, _, _, rfl, Walks.tuple (A := X.A.in1) (I.ok.hd hc) _ a hlI (intItems xs), ⟨st1, st2⟩, hfp, by simpa [intItems] using hsz, CmpOf.ints_gt (numAt xs) (fun _ _ => intItems_at), fun v h' tk hP hk => ?_⟩
  have hP : (intItems xs)[argBest (fun i j => decide (numAt xs i > numAt xs j)) (xs.size - 1)]? = some v := by simpa [intItems] using hP
  obtain ⟨t, rfl⟩ := intItems_at hP
  obtain ⟨h1, h2⟩ := argBest_gt (numAt xs) (xs.size - 1)
  refine ⟨.int _, H, I.kept (kept_tupleI hk), ⟨_, rfl⟩, q _ ?_ fun y hy => ?_⟩
  · rw [numAt_eq]; exact PySem.getD_mem (by rw [List.length_map, Array.length_toList]; omega)
  · obtain ⟨j, hj, rfl⟩ := mem_getD hy
    rw [List.length_map, Array.length_toList] at hj
    rw [← numAt_eq]; exact h2 j (by omega)
theorem min_tuple (hc : X.calm = true) (I : Inv X pins σ H s) {a : Addr} {ns : List Int} {Q : VK} (hq : SqT X.K H a (ns.map V.int)) (hne : 0 < ns.length) (q : ∀ m, m ∈ ns → (∀ y ∈ ns, m ≤ y) → Q (.int m) H) :
    wpAny (model X.prog X.w) X.A (call (.builtin "min") [.ref a]) (EP X pins σ Q) X.xe s := by
  obtain ⟨its, rv, hp, hz⟩ := I.tuple hq
  have hi := rv.ints
  obtain ⟨xs, e⟩ := hi.allInts.items
  have hn : numsOf (intItems xs).toList = ns := by rw [← e]; exact hi.numsOf
  rw [nums_intItems] at hn
  subst hn
  have hl : s.heap.IsTuple a (intItems xs) := by rw [← e]; exact hp
  have hsz : 0 < xs.size := by simpa using hne
  refine call_min_walk (iter_tupleI hl fun s2 e2 st1 st2 hfp hlI => ?_)
  subst e2
  refine ⟨_, _, _, _, _, _, _, rfl, Walks.tuple (A := X.A.in1) (I.ok.hd hc) _ a hlI (intItems xs), ⟨st1, st2⟩, hfp, by simpa [intItems] using hsz, CmpOf.ints_lt (numAt xs) (fun _ _ => intItems_at), fun v h' tk hP hk => ?_⟩
  have hP : (intItems xs)[argBest (fun i j => decide (numAt xs i < numAt xs j)) (xs.size - 1)]? = some v := by simpa [intItems] using hP
  obtain ⟨t, rfl⟩ := intItems_at hP
  obtain ⟨h1, h2⟩ := argBest_lt (numAt xs) (xs.size - 1)
  refine ⟨.int _, H, I.kept (kept_tupleI hk), ⟨_, rfl⟩, q _ ?_ fun y hy => ?_⟩
  · rw [numAt_eq]; exact PySem.getD_mem (by rw [List.length_map, Array.length_toList]; omega)
  · obtain ⟨j, hj, rfl⟩ := mem_getD hy
    rw [List.length_map, Array.length_toList] at hj
    rw [← numAt_eq]; exact h2 j (by omega)
end
theorem c_maxA {X : Cx} (hc : X.calm = true) : CallR X (.builtin "max") (rCM X.K cMaxA) := by
  intro pins s σ H vs us Q I r ⟨S, μ, ds, d, S', st, ra, e, q⟩
  match ds, ra, e with
  | [d0], .cons r1 .nil, e =>
    obtain ⟨es, e1, e⟩ := Option.bind_eq_some_iff.mp (show ((MS.items S d0).bind fun es => (intsOf es).bind fun ns => (maxI ns).map fun m => (D.int m, S)) = some (d, S') from e)
    obtain ⟨ns, e2, e⟩ := Option.bind_eq_some_iff.mp e
    obtain ⟨m, e3, e4⟩ := Option.map_eq_some_iff.mp e
    cases e4
    obtain ⟨m1, m2⟩ := maxI_spec e3
    have uniq : ∀ k, k ∈ ns → (∀ y ∈ ns, y ≤ k) → k = m := fun k k1 k2 => Int.le_antisymm (m2 k k1) (k2 m m1)
    have hne : 0 < ns.length := List.length_pos_of_mem m1
    obtain ⟨a, ws, rfl, h1, h2⟩ := st.items e1 r1
    rw [intsOf_rp e2 h2] at h1
    rcases h1 with h1 | h1
    · exact cr_max hc pins s σ H _ us Q I r ⟨a, ns, rfl, h1, hne, fun k k1 k2 => by rw [uniq k k1 k2]; exact q.id st (.int _)⟩
    · rw [Vals.ref1 r]
      exact max_tuple hc I h1 hne fun k k1 k2 => by rw [uniq k k1 k2]; exact q.id st (.int _)
  | [], ra, e => exact c_max hc pins s σ H _ us Q I r ⟨S, μ, _, d, S', st, ra, e, q⟩
  | _ :: _ :: _, ra, e => exact c_max hc pins s σ H _ us Q I r ⟨S, μ, _, d, S', st, ra, e, q⟩
theorem c_minA {X : Cx} (hc : X.calm = true) : CallR X (.builtin "min") (rCM X.K cMinA) := by
  intro pins s σ H vs us Q I r ⟨S, μ, ds, d, S', st, ra, e, q⟩
  match ds, ra, e with
  | [d0], .cons r1 .nil, e =>
    obtain ⟨es, e1, e⟩ := Option.bind_eq_some_iff.mp (show ((MS.items S d0).bind fun es => (intsOf es).bind fun ns => (minI ns).map fun m => (D.int m, S)) = some (d, S') from e)
    obtain ⟨ns, e2, e⟩ := Option.bind_eq_some_iff.mp e
    obtain ⟨m, e3, e4⟩ := Option.map_eq_some_iff.mp e
    cases e4
    obtain ⟨m1, m2⟩ := minI_spec e3
    have uniq : ∀ k, k ∈ ns → (∀ y ∈ ns, k ≤ y) → k = m := fun k k1 k2 => Int.le_antisymm (k2 m m1) (m2 k k1)
    have hne : 0 < ns.length := List.length_pos_of_mem m1
    obtain ⟨a, ws, rfl, h1, h2⟩ := st.items e1 r1
    rw [intsOf_rp e2 h2] at h1
    rcases h1 with h1 | h1
    · exact cr_min hc pins s σ H _ us Q I r ⟨a, ns, rfl, h1, hne, fun k k1 k2 => by rw [uniq k k1 k2]; exact q.id st (.int _)⟩
    · rw [Vals.ref1 r]
      exact min_tuple hc I h1 hne fun k k1 k2 => by rw [uniq k k1 k2]; exact q.id st (.int _)
  | [], ra, e => exact c_min hc pins s σ H _ us Q I r ⟨S, μ, _, d, S', st, ra, e, q⟩
  | _ :: _ :: _, ra, e => exact c_min hc pins s σ H _ us Q I r ⟨S, μ, _, d, S', st, ra, e, q⟩
end MS

set_option Elab.async false
set_option linter.all false
set_option maxRecDepth 100000
set_option maxHeartbeats 4000000
namespace MS
open PySem PySem.Spec PyProof.Rows L2

/-! ### sorted(set(t)), t a tuple of ints -/
def insU (x : Int) : List Int → List Int
  | [] => [x]
  | y :: l => if x < y then x :: y :: l else if x = y then y :: l else y :: insU x l
def sortU (ns : List Int) : List Int := ns.foldr insU []
theorem mem_insU {x z : Int} : ∀ {l : List Int}, z ∈ insU x l ↔ z = x ∨ z ∈ l
  | [] => by simp [insU]
  | y :: l => by
    unfold insU
    split
    · simp
    · split
      · rename_i h1 h2
        subst h2
        simp
      · rw [List.mem_cons, mem_insU (l := l), List.mem_cons]
        constructor
        · rintro (h | h | h)
          · exact .inr (.inl h)
          · exact .inl h
          · exact .inr (.inr h)
        · rintro (h | h | h)
          · exact .inr (.inl h)
          · exact .inl h
          · exact .inr (.inr h)
theorem mem_sortU {z : Int} : ∀ {ns : List Int}, z ∈ sortU ns ↔ z ∈ ns
  | [] => Iff.rfl
  | x :: ns => by
    show z ∈ insU x (sortU ns) ↔ _
    rw [mem_insU, mem_sortU (ns := ns), List.mem_cons]
theorem insU_sorted {x : Int} : ∀ {l : List Int}, l.Pairwise (· < ·) → (insU x l).Pairwise (· < ·)
  | [], _ => by simp [insU]
  | y :: l, h => by
    obtain ⟨h1, h2⟩ := List.pairwise_cons.mp h
    unfold insU
    split
    · rename_i hx
      refine List.pairwise_cons.mpr ⟨fun z hz => ?_, h⟩
      rcases List.mem_cons.mp hz with rfl | hz
      · exact hx
      · exact Int.lt_trans hx (h1 z hz)
    · split
      · exact h
      · refine List.pairwise_cons.mpr ⟨fun z hz => ?_, insU_sorted h2⟩
        rcases mem_insU.mp hz with rfl | hz
        · omega
        · exact h1 z hz
theorem sortU_sorted : ∀ (ns : List Int), (sortU ns).Pairwise (· < ·)
  | [] => .nil
  | x :: ns => insU_sorted (sortU_sorted ns)
/-- one rising list of given members -/
theorem rising_ext : ∀ {l m : List Int}, l.Pairwise (· < ·) → m.Pairwise (· < ·) → (∀ z, z ∈ l ↔ z ∈ m) → l = m
  | [], [], _, _, _ => rfl
  | [], b :: m, _, _, h => absurd ((h b).mpr List.mem_cons_self) List.not_mem_nil
  | a :: l, [], _, _, h => absurd ((h a).mp List.mem_cons_self) List.not_mem_nil
  | a :: l, b :: m, hl, hm, h => by
    obtain ⟨l1, l2⟩ := List.pairwise_cons.mp hl
    obtain ⟨m1, m2⟩ := List.pairwise_cons.mp hm
    have e : a = b := by
      rcases List.mem_cons.mp ((h a).mp List.mem_cons_self) with e | ha
      · exact e
      · rcases List.mem_cons.mp ((h b).mpr List.mem_cons_self) with e | hb
        · exact e.symm
        · have := l1 b hb
          have := m1 a ha
          omega
    subst e
    rw [rising_ext l2 m2 fun z => ?_]
    constructor
    · intro hz
      rcases List.mem_cons.mp ((h z).mp (List.mem_cons_of_mem _ hz)) with e | hz'
      · subst e; exact absurd (l1 z hz) (Int.lt_irrefl z)
      · exact hz'
    · intro hz
      rcases List.mem_cons.mp ((h z).mpr (List.mem_cons_of_mem _ hz)) with e | hz'
      · subst e; exact absurd (m1 z hz) (Int.lt_irrefl z)
      · exact hz'
section
variable {X : Cx}
/-- set(t) -/
def rSetT (K : PySem.W.Frag) (w : World) : List V → Hp → VK → Prop := fun vs H Q => ∃ (a : Addr) (ns : List Int), vs = [V.ref a] ∧ SqT K H a (ns.map V.int) ∧ ns.length ≤ 1000 ∧
  ∀ p c, H p = none → c ≤ ns.length → Q (.ref p) (upd H p (SetO w p (fun j => decide (j ∈ ns)) c))
theorem cr_setT (hc : X.calm = true) : CallR X (.type "set") (rSetT X.K X.w) := by
  intro pins s σ H vs us Q I r ⟨a, ns, ex, hq, hl, q⟩
  subst ex
  obtain ⟨its, rv, pt, hz⟩ := I.tuple hq
  have hi : IntsAre its.toArray.toList ns := ints_of_vals rv
  rw [Vals.ref1 r]
  refine call_set_tupI ns (I.ok.hd hc) (show s.heap.IsTuple a its.toArray from pt) hi (by unfold scanBound; omega) fun h' tk c R hcn k => ?_
  have hn : H s.heap.objs.size = none := I.hok.fresh (Nat.le_refl _)
  have J := I.call (ch := []) (g' := s.gens) (t' := tk) (d' := s.drawn) (Un.laid (o := SetO X.w s.heap.objs.size (fun j => decide (j ∈ ns)) c) k (Nat.le_refl _) hn) (I.hok.laid k (Nat.le_refl _) (setO_new R)) I.bare (fun _ z => nomatch z)
  exact ⟨.ref s.heap.objs.size, _, J, rfl, q _ c hn hcn⟩
def mSortSet (m : MArg) : MExp := fun ρ S => (m ρ S).bind fun p => match p.1 with
  | [.tup ds] => (intsOf ds).bind fun ns => if ns.length < 64 then some (.lr p.2.length, p.2 ++ [.lst ((sortU ns).map D.int)]) else none
  | _ => none
theorem me_sortSet {e : Expr} {m : MArg} {p p2 q q2 : Pos} (hc : X.calm = true) (hg : Gl X "sorted") (hm : X.mg "sorted" = none) (hg2 : Gl X "set") (hm2 : X.mg "set" = none) (ha : MA X [e] m)
    (hs1 : starEach [.Call (.Name "set" p2) [e] [] q2] X.env = (false, eval (.Call (.Name "set" p2) [e] [] q2) X.env) :: starEach [] X.env := by rfl)
    (hs : starEach [e] X.env = (false, eval e X.env) :: starEach [] X.env := by rfl) : ME X (.Call (.Name "sorted" p) [.Call (.Name "set" p2) [e] [] q2] [] q) (mSortSet m) :=
  ⟨PE.imp (pe_callB (cr_sortedSet hc) hg hm (show bootBuiltins "sorted" = some (.builtin "sorted") by decide +kernel) (pa_cons (pe_callTy (cr_setT hc) hg2 hm2 PyProof.Rows.boot_set ha.pa (by decide) (by decide) hs (by rfl)) pa_nil hs1) (by decide) (by decide) hs1 (by rfl)) fun σ H Q ⟨ρ, S, μ, d, S', st, e, q⟩ => by
    obtain ⟨⟨ds, S1⟩, e1, e⟩ := Option.bind_eq_some_iff.mp e
    refine ⟨ρ, S, μ, ds, S1, st, e1, fun vs H1 μ1 g1 s1 r1 => ?_⟩
    match ds, r1, e with
    | [.tup es], .cons (.tup h1 h2) .nil, e =>
      obtain ⟨ns, e2, e⟩ := Option.bind_eq_some_iff.mp (show ((intsOf es).bind fun ns => if ns.length < 64 then some (D.lr S1.length, S1 ++ [.lst ((sortU ns).map D.int)]) else none) = some (d, S') from e)
      split at e
      · rename_i hz
        cases e
        have h1 := sq X.K _ h1
        rw [intsOf_rp e2 h2] at h1
        refine ⟨_, ns, rfl, h1, by omega, fun p c hp hcn => ?_⟩
        refine ⟨p, _, c, rfl, upd_same, by omega, fun ns' p' hs' hm' _ hp' => ?_⟩
        have en : ns' = sortU ns := rising_ext hs' (sortU_sorted ns) fun z => by rw [hm' z, mem_sortU, decide_eq_true_eq]
        subst en
        have s2 : StR X.K (upd H1 p (SetO X.w p (fun j => decide (j ∈ ns)) c)) μ1 S1 := s1.new hp
        have g2 : Grow H1 (upd H1 p (SetO X.w p (fun j => decide (j ∈ ns)) c)) μ1 μ1 := .new hp
        exact q (.ref p') _ (μ1 ++ [p']) ((g1.trans g2).trans (.newL hp')) (s2.newL hp' RpA.ints) (.lr (by rw [← s1.len, List.getElem?_concat_length]))
      · cases e
    | [], _, e => cases e
    | [.non], _, e => cases e
    | [.bl _], _, e => cases e
    | [.int _], _, e => cases e
    | [.str _], _, e => cases e
    | [.lr _], _, e => cases e
    | d1 :: _ :: _, _, e => (cases d1 <;> cases e)⟩
end

/-! ### xs[i] op= e -/
def augL (f : DOp2) (m : MExp) (n : Nat) (k : Int) : MStm := fun ρ S => if 0 ≤ k then (mat S n).bind fun ds => (L2.ixN ds.length k).bind fun j => (ds[j]?).bind fun old => (m ρ S).bind fun r => (f old r.1 r.2).bind fun z => (mat z.2 n).bind fun ds' => if ds'.length = ds.length then some (.nx, ρ, z.2.set n (.lst (ds'.set j z.1))) else none else none
def mAugS (f : DOp2) (mo mi m : MExp) : MStm := fun ρ S => (mo ρ S).bind fun p => (mi ρ p.2).bind fun q => match p.1, q.1 with
  | .lr n, .int k => augL f m n k ρ q.2
  | _, _ => none
section
variable {X : Cx}
def rGetL : V → V → Hp → VK → Prop := fun o i H Q => ∃ p xs k j v, o = .ref p ∧ i = .int k ∧ 0 ≤ k ∧ H p = some (.lst xs) ∧ ixN xs.length k = some j ∧ xs[j]? = some v ∧ Q v H
theorem get_list : PGet X rGetL := by
  intro pins s σ H o i ov iv Q I ro ri ⟨p, xs, k, j, v, eo, ei, h0, hp, hj, hv, q⟩
  subst eo ei
  cases ro
  obtain ⟨t, rfl⟩ := ri
  obtain ⟨its, r, pl, hz⟩ := I.list (SqL.of hp)
  obtain ⟨w, ew, rw'⟩ := r.get hv
  have hl := r.length
  obtain ⟨h1, h2, h3, h4⟩ := ixN_seq hj
  have hk : k.toNat = j := by
    rw [seqIndex_of h0 h4] at h1
    exact Option.some.inj h1
  have hn := line63
  refine wpAny_getItem_list (x := w) pl.isList h0 (by omega) (by rw [hk, List.getElem?_toArray]; exact ew) ⟨v, H, I, rw', q⟩
theorem ms_augS {o i e : Expr} {mo mi m : MExp} {op : Operator} {f : DOp2} {tpos pos : Pos} (ho : ME X o mo) (hi : ME X i mi) (he : ME X e m) (hp : PIp X op (rM X.K f))
    (ha : ∀ ov iv new, augStore i ov iv new = (do holding [new, ov, iv] (setItem ov iv new); release [new, ov, iv] []; pure .next) := by intros; rfl) : MS_ X (.AugAssign (.Subscript o i tpos) op e pos) (mAugS f mo mi m) :=
  ⟨PS.imp (ps_augS ho.pe hi.pe get_list he.pe hp set_list ha) fun D_ σ H ⟨ρ, S, μ, fl, ρ', S', st, e, q⟩ => by
    obtain ⟨⟨d1, S1⟩, e1, e⟩ := Option.bind_eq_some_iff.mp e
    obtain ⟨⟨d2, S2⟩, e2, e⟩ := Option.bind_eq_some_iff.mp e
    refine ⟨ρ, S, μ, d1, S1, st, e1, fun v1 H1 μ1 g1 s1 r1 => ⟨ρ, S1, μ1, d2, S2, st.grow g1 s1, e2, fun v2 H2 μ2 g2 s2 r2 => ?_⟩⟩
    cases d1 with
    | lr n =>
      cases d2 with
      | int k =>
        have e : augL f m n k ρ S2 = some (fl, ρ', S') := e
        unfold augL at e
        split at e
        · rename_i h0
          obtain ⟨ds, e3, e⟩ := Option.bind_eq_some_iff.mp e
          obtain ⟨j, e4, e⟩ := Option.bind_eq_some_iff.mp e
          obtain ⟨old, e5, e⟩ := Option.bind_eq_some_iff.mp e
          obtain ⟨⟨d3, S3⟩, e6, e⟩ := Option.bind_eq_some_iff.mp e
          obtain ⟨⟨d4, S4⟩, e7, e⟩ := Option.bind_eq_some_iff.mp e
          obtain ⟨ds', e8, e⟩ := Option.bind_eq_some_iff.mp e
          split at e
          · rename_i hlen
            cases e
            have g12 := g1.trans g2
            obtain ⟨a, vs, rfl, h1, h2, h3⟩ := s2.mat e3 (r1.grow g2)
            cases r2
            obtain ⟨w, h4, h5⟩ := h3.get e5
            refine ⟨a, vs, k, j, w, rfl, rfl, h0, h2, by rw [h3.ixN]; exact e4, h4, ?_⟩
            refine ⟨ρ, S2, μ2, d3, S3, st.grow g12 s2, e6, fun v3 H3 μ3 g3 s3 r3 => ?_⟩
            refine ⟨S3, μ3, old, d3, d4, S4, s3, h5.grow g3, r3, e7, fun v4 H4 μ4 g4 s4 r4 => ?_⟩
            have g34 := g3.trans g4
            obtain ⟨a', vs', h6, h7, h8, h9⟩ := s4.mat e8 ((r1.grow g2).grow g34)
            cases h6
            refine ⟨a, vs', k, j, rfl, rfl, h8, by rw [h9.ixN, hlen]; exact e4, ?_⟩
            have g14 := g12.trans g34
            exact q σ _ μ4 (g14.trans (.wr h8)) ((st.grow g14 s4).grow (.wr h8) (s4.wr (mat_eq e8) h7 (h9.set r4 j)))
          · cases e
        · cases e
      | _ => cases e
    | _ => cases e⟩
end

/-! ### is None -/
def D.isNon : D → Bool
  | .non => true
  | _ => false
def fIs : DOp2
  | d, .non, S => some (.bl d.isNon, S)
  | _, _, _ => none
def fIsNot : DOp2
  | d, .non, S => some (.bl (!d.isNon), S)
  | _, _, _ => none
theorem rp_non {K : PySem.W.Frag} {H : Hp} {μ : List Addr} {v : V} {d : D} (r : Rp K H μ v d) : decide (v = .non) = d.isNon := by
  cases r <;> first | rfl | exact decide_eq_false (by intro z; cases z)
section
variable {X : Cx}
theorem o_isN : OpR X (compareOp .Is) (rM X.K fIs) := OpR.imp op_isN fun x y H Q ⟨S, μ, dx, dy, d, S', s, rx, ry, e, q⟩ => by
  unfold fIs at e
  split at e
  · cases e; cases ry
    refine ⟨rfl, ?_⟩
    rw [rp_non rx]
    exact q.id s (.bl _)
  · cases e
theorem o_isNotN : OpR X (compareOp .IsNot) (rM X.K fIsNot) := OpR.imp op_notN fun x y H Q ⟨S, μ, dx, dy, d, S', s, rx, ry, e, q⟩ => by
  unfold fIsNot at e
  split at e
  · cases e; cases ry
    refine ⟨rfl, ?_⟩
    rw [rp_non rx]
    exact q.id s (.bl _)
  · cases e
end
end MS

set_option Elab.async false
set_option linter.all false
set_option maxRecDepth 100000
set_option maxHeartbeats 4000000
namespace MS
open PySem PySem.Spec PyProof.Rows L2
/-! ### the newer readings run forward -/
section
variable {ρ : Ev} {S : Store} {Q : D → Store → Prop} {QS : Fl → Ev → Store → Prop} {QE : Ev → Store → Prop} {m mo mi : MExp} {a : MArg}
theorem ge_isN {d : D} (h : Q (.bl d.isNon) S) : GE (fIs d .non S) Q := by cases d <;> exact ⟨_, _, rfl, h⟩
theorem ge_isNotN {d : D} (h : Q (.bl (!d.isNon)) S) : GE (fIsNot d .non S) Q := by cases d <;> exact ⟨_, _, rfl, h⟩
theorem ge_sortSet (h : GE (a ρ S) fun xs S1 => ∃ ns : List Int, xs = [.tup (ns.map D.int)] ∧ ns.length < 64 ∧ Q (.lr S1.length) (S1 ++ [.lst ((sortU ns).map D.int)])) : GE (mSortSet a ρ S) Q :=
  ge_bind (h.mono fun xs S1 ⟨ns, e, hz, h⟩ => by
    subst e
    show GE ((intsOf (ns.map D.int)).bind fun ns => if ns.length < 64 then some (D.lr S1.length, S1 ++ [.lst ((sortU ns).map D.int)]) else none) Q
    rw [intsOf_map]
    exact ⟨_, _, if_pos hz, h⟩)
theorem ge_maxA {x : D} {ns : List Int} {m : Int} (h1 : MS.items S x = some (ns.map D.int)) (h2 : maxI ns = some m) (h : Q (.int m) S) : GE (cMaxA [x] S) Q := by
  show GE ((MS.items S x).bind fun es => (intsOf es).bind fun ns => (maxI ns).map fun m => (D.int m, S)) Q
  rw [h1]
  show GE ((intsOf (ns.map D.int)).bind fun ns => (maxI ns).map fun m => (D.int m, S)) Q
  rw [intsOf_map]
  show GE ((maxI ns).map fun m => (D.int m, S)) Q
  rw [h2]
  exact ⟨_, _, rfl, h⟩
theorem ge_minA {x : D} {ns : List Int} {m : Int} (h1 : MS.items S x = some (ns.map D.int)) (h2 : minI ns = some m) (h : Q (.int m) S) : GE (cMinA [x] S) Q := by
  show GE ((MS.items S x).bind fun es => (intsOf es).bind fun ns => (minI ns).map fun m => (D.int m, S)) Q
  rw [h1]
  show GE ((intsOf (ns.map D.int)).bind fun ns => (minI ns).map fun m => (D.int m, S)) Q
  rw [intsOf_map]
  show GE ((minI ns).map fun m => (D.int m, S)) Q
  rw [h2]
  exact ⟨_, _, rfl, h⟩
theorem ge_lcm {i j : Int} (h1 : i.natAbs.log2 < 2000) (h2 : j.natAbs.log2 < 2000) (h : Q (.int ((Nat.lcm i.natAbs j.natAbs : Nat) : Int)) S) : GE (cLcm [.int i, .int j] S) Q := ⟨_, _, if_pos ⟨h1, h2⟩, h⟩
theorem ge_dnewK (h : Q (.lr S.length) (S ++ [.dk []])) : GE (mDNewK ρ S) Q := ⟨_, _, rfl, h⟩
theorem ge_dnewT (h : Q (.lr S.length) (S ++ [.dt []])) : GE (mDNewT ρ S) Q := ⟨_, _, rfl, h⟩
theorem ge_ixDk {n : Nat} {kvs : List (Key × D)} {y d : D} {k : Key} (e : S[n]? = some (.dk kvs)) (hk : keyOf y = some k) (hv : valD kvs k = some d) (h : Q d S) : GE (fIxD (.lr n) y S) Q := by
  have h1 : isDict S (.lr n) = true := by unfold isDict; (try dsimp only); rw [e]
  have h2 : dget S n y = some (some d) := by unfold dget; rw [e]; (try dsimp only); rw [hk]; show some (valD kvs k) = _; rw [hv]
  unfold fIxD
  rw [if_pos h1]
  show GE ((dget S n y).bind fun r => r.map fun d => (d, S)) Q
  rw [h2]
  exact ⟨_, _, rfl, h⟩
theorem gt_dictk {d : D} (h : GE (mo ρ S) fun x S1 => GE (mi ρ S1) fun y S2 => ∃ n kvs k, x = .lr n ∧ S2[n]? = some (.dk kvs) ∧ kvs.length < szl ∧ keyOf y = some k ∧ QE ρ (S2.set n (.dk (putD kvs k d)))) : GE (mgDict mo mi d ρ S) QE :=
  ge_bind (h.mono fun x S1 h => ge_bind (h.mono fun y S2 ⟨n, kvs, k, e, h1, h2, h3, h4⟩ => by
    subst e
    show GE ((dput S2 n y d).map fun S' => (ρ, S')) QE
    have : dput S2 n y d = some (S2.set n (.dk (putD kvs k d))) := by
      unfold dput
      rw [h1]
      (try dsimp only)
      rw [if_pos h2, h3]
      rfl
    rw [this]
    exact ⟨_, _, rfl, h4⟩))
theorem gs_augS {f : DOp2} (h : GE (mo ρ S) fun x S1 => GE (mi ρ S1) fun y S2 => ∃ n k ds j old, x = .lr n ∧ y = .int k ∧ 0 ≤ k ∧ mat S2 n = some ds ∧ L2.ixN ds.length k = some j ∧ ds[j]? = some old ∧
    GE (m ρ S2) fun r S3 => GE (f old r S3) fun z S4 => ∃ ds', mat S4 n = some ds' ∧ ds'.length = ds.length ∧ QS .nx ρ (S4.set n (.lst (ds'.set j z)))) : GS (mAugS f mo mi m ρ S) QS :=
  gs_bind (h.mono fun x S1 h => gs_bind (h.mono fun y S2 ⟨n, k, ds, j, old, e1, e2, h0, h1, h2, h3, hh⟩ => by
    subst e1 e2
    show GS (augL f m n k ρ S2) QS
    unfold augL
    rw [if_pos h0, h1]
    show GS ((L2.ixN ds.length k).bind _) QS
    rw [h2]
    show GS ((ds[j]?).bind _) QS
    rw [h3]
    show GS ((m ρ S2).bind _) QS
    refine gs_bind (hh.mono fun r S3 hh => gs_bind (hh.mono fun z S4 ⟨ds', h4, h5, h6⟩ => ?_))
    show GS ((mat S4 n).bind _) QS
    rw [h4]
    show GS (if ds'.length = ds.length then some (.nx, ρ, S4.set n (.lst (ds'.set j z))) else none) QS
    rw [if_pos h5]
    exact gs_of h6))
end
theorem valD_put {κ : Type} [DecidableEq κ] {k j : κ} {d : D} : ∀ {kvs : List (κ × D)}, valD (putD kvs k d) j = if k = j then some d else valD kvs j := by
  have app : ∀ (kvs : List (κ × D)), valD (kvs ++ [(k, d)]) j = match valD kvs j with
      | some x => some x
      | none => if k = j then some d else none := fun kvs => by
    induction kvs with
    | nil => rw [List.nil_append, valD_cons]; rfl
    | cons p kvs ih =>
      rw [List.cons_append, valD_cons, valD_cons]
      by_cases h : p.1 = j
      · rw [if_pos h, if_pos h]
      · rw [if_neg h, if_neg h, ih]
  have mp : ∀ (kvs : List (κ × D)), valD (kvs.map fun kv => if kv.1 = k then (kv.1, d) else kv) j = if k = j then (valD kvs j).map (fun _ => d) else valD kvs j := fun kvs => by
    induction kvs with
    | nil => rw [List.map_nil, valD_nil]; split <;> rfl
    | cons p kvs ih =>
      rw [List.map_cons, valD_cons, valD_cons, ih]
      by_cases h1 : p.1 = k
      · rw [if_pos h1]
        by_cases h2 : k = j
        · rw [if_pos h2, if_pos h2, if_pos (h1.trans h2), if_pos (h1.trans h2)]; rfl
        · rw [if_neg h2, if_neg (show ¬ p.1 = j from fun z => h2 (h1.symm.trans z)), if_neg h2, if_neg (show ¬ p.1 = j from fun z => h2 (h1.symm.trans z))]
      · rw [if_neg h1]
        by_cases h2 : k = j
        · rw [if_pos h2, if_neg (show ¬ p.1 = j from fun z => h1 (z.trans h2.symm)), if_pos h2, if_neg (show ¬ p.1 = j from fun z => h1 (z.trans h2.symm))]
        · rw [if_neg h2, if_neg h2]
  have mem : ∀ (kvs : List (κ × D)), (kvs.map (·.1)).contains k = (valD kvs k).isSome := fun kvs => by
    induction kvs with
    | nil => rfl
    | cons p kvs ih =>
      rw [List.map_cons, List.contains_cons, valD_cons, ih]
      by_cases h : p.1 = k
      · rw [if_pos h, h, beq_self_eq_true]; rfl
      · rw [if_neg h, beq_eq_false_iff_ne.mpr fun z => h z.symm]; rfl
  intro kvs
  unfold putD
  rw [mem]
  split
  · rename_i h
    rw [mp]
    by_cases h2 : k = j
    · subst h2
      obtain ⟨x, hx⟩ := Option.isSome_iff_exists.mp h
      rw [if_pos rfl, if_pos rfl, hx]; rfl
    · rw [if_neg h2, if_neg h2]
  · rename_i h
    rw [app]
    by_cases h2 : k = j
    · subst h2
      have : valD kvs k = none := by
        cases hv : valD kvs k with
        | none => rfl
        | some x => rw [hv] at h; exact absurd rfl h
      rw [this, if_pos rfl]
    · rw [if_neg h2, if_neg h2]
      cases valD kvs j <;> rfl
/-- a loop that a turn may leave by a return -/
theorem gs_forR {ok : Store → Bool} {g : MTg} {b : MStm} {QS : Fl → Ev → Store → Prop} : ∀ (ds : List D) (Pv : Nat → Ev → Store → Prop) {ρ : Ev} {S : Store}, Pv 0 ρ S →
    (∀ i x ρ S, ds[i]? = some x → Pv i ρ S → ok S = true ∧ GE (g x ρ S) fun ρ1 S1 => GS (b ρ1 S1) fun f ρ2 S2 => match f with
      | .nx => Pv (i + 1) ρ2 S2
      | .ct => Pv (i + 1) ρ2 S2
      | .bk => QS .nx ρ2 S2
      | .rt d => QS (.rt d) ρ2 S2) →
    (∀ ρ S, Pv ds.length ρ S → ok S = true ∧ QS .nx ρ S) → GS (forL ok g b ds ρ S) QS
  | [], Pv, ρ, S, h0, _, he => by
    obtain ⟨h1, h2⟩ := he ρ S h0
    unfold forL
    rw [if_pos h1]
    exact gs_of h2
  | x :: r, Pv, ρ, S, h0, hs, he => by
    obtain ⟨h1, ρ1, S1, e1, f, ρ2, S2, e2, h2⟩ := hs 0 x ρ S rfl h0
    have again : ∀ ρ2 S2, Pv 1 ρ2 S2 → GS (forL ok g b r ρ2 S2) QS := fun ρ2 S2 hp =>
      gs_forR r (fun i => Pv (i + 1)) hp (fun i y ρ S hi hp => hs (i + 1) y ρ S (by simpa using hi) hp) (fun ρ S hp => he ρ S (by simpa using hp))
    unfold forL
    rw [if_pos h1, e1]
    show GS ((b ρ1 S1).bind _) QS
    rw [e2]
    cases f with
    | nx => exact again ρ2 S2 h2
    | ct => exact again ρ2 S2 h2
    | bk => exact gs_of h2
    | rt d => exact gs_of h2
end MS

set_option Elab.async false
set_option linter.all false
set_option maxRecDepth 100000
set_option maxHeartbeats 4000000
namespace Law
open PySem PySem.Spec PyProof.Rows L2 MS
abbrev N_law_pen : List Str := ["script"]
def M_law_pen : MStm :=
  (mRet (mLst (mCons (mCall cList (mCons (mSl (mVar 0) mNoPart (mPart (mC (.int 63)))) mNil)) (mCons (mC (.int 0)) (mCons (mC (.int 0)) mNil)))))
def F_law_pen : DCall := den 1 1 M_law_pen
-- level 1, params ['script'], calls []

abbrev N_law_fresh : List Str := ["pen", "cell", "prime", "state", "found", "lap", "seat", "given"]
def M_law_fresh : MStm :=
  (mSeq (mPar 6 7 (mCons (mBin fIx (mVar 0) (mC (.int 1))) (mCons (mBin fIx (mVar 0) (mC (.int 0))) mNil)))
    (mSeq (mAsg (mBin fAdd (mVar 6) (mC (.int 1))) (mgSub (mVar 0) (mC (.int 1))))
    (mSeq (mAsg (mIf (mB (mBin fNe (mVar 7) (mLst mNil))) (mBin fIx (mVar 7) (mBin fMod (mCall cInt (mCons (mVar 6) mNil)) (mCall cLen (mCons (mVar 7) mNil)))) (mC (.int 0))) (mName 1))
    (mSeq (mIfS (mAnd (mB (mBin fLt (mVar 6) (mCall cLen (mCons (mVar 7) mNil)))) (mB (mBin fGe (mVar 1) (mBin fPow (mC (.int 10)) (mC (.int 18)))))) (mRet (mBin fSub (mVar 1) (mBin fPow (mC (.int 10)) (mC (.int 18))))) mNx)
    (mSeq (mAsg (mC (.int 2305843009213693951)) (mName 2))
    (mSeq (mAsg (mBin fMod (mCall cInt (mCons (mBin fAdd (mBin fAdd (mBin fMul (mVar 1) (mC (.int 48271))) (mBin fMul (mC (.int 60013)) (mVar 6))) (mC (.int 31))) mNil)) (mVar 2)) (mName 3))
    (mSeq (mAsg (mVar 3) (mName 4))
    (mSeq (mFor (mRange1 (mCons (mC (.int 6)) mNil)) (mName 5) (mSeq (mAsg (mBin fMod (mCall cInt (mCons (mBin fAdd (mBin fAdd (mBin fMul (mVar 3) (mVar 3)) (mBin fMul (mBin fMul (mC (.int 70139)) (mBin fAdd (mVar 5) (mC (.int 5)))) (mBin fAdd (mVar 6) (mC (.int 1))))) (mVar 1)) mNil)) (mVar 2)) (mName 3))
    (mAsg (mBin fAdd (mBin fMul (mVar 4) (mVar 2)) (mVar 3)) (mName 4))))
    (mRet (mVar 4))))))))))
def F_law_fresh : DCall := den 1 8 M_law_fresh
-- level 1, params ['pen'], calls []

abbrev N_law_draw : List Str := ["pen", "bound", "digit"]
def M_law_draw : MStm :=
  (mSeq (mIfS (mB (mBin fLt (mBin fIx (mVar 0) (mC (.int 2))) (mVar 1))) (mAsg (mCall F_law_fresh (mCons (mVar 0) mNil)) (mgSub (mVar 0) (mC (.int 2)))) mNx)
    (mSeq (mAsg (mBin fMod (mCall cInt (mCons (mBin fIx (mVar 0) (mC (.int 2))) mNil)) (mVar 1)) (mName 2))
    (mSeq (mAsg (mBin fDiv (mCall cInt (mCons (mBin fIx (mVar 0) (mC (.int 2))) mNil)) (mVar 1)) (mgSub (mVar 0) (mC (.int 2))))
    (mRet (mVar 2)))))
def F_law_draw : DCall := den 2 3 M_law_draw
-- level 2, params ['pen', 'bound'], calls ['_law_fresh']

abbrev N_law_one_of : List Str := ["pen", "some"]
def M_law_one_of : MStm :=
  (mRet (mBin fIx (mVar 1) (mCall F_law_draw (mCons (mVar 0) (mCons (mCall cLen (mCons (mVar 1) mNil)) mNil)))))
def F_law_one_of : DCall := den 2 2 M_law_one_of
-- level 3, params ['pen', 'some'], calls ['_law_draw']

abbrev N_law_two_places : List Str := ["pen", "places", "one"]
def M_law_two_places : MStm :=
  (mSeq (mAsg (mCall F_law_draw (mCons (mVar 0) (mCons (mVar 1) mNil))) (mName 2))
    (mRet (mTup (mCons (mVar 2) (mCons (mBin fMod (mCall cInt (mCons (mBin fAdd (mBin fAdd (mVar 2) (mC (.int 1))) (mCall F_law_draw (mCons (mVar 0) (mCons (mBin fSub (mVar 1) (mC (.int 1))) mNil)))) mNil)) (mVar 1)) mNil)))))
def F_law_two_places : DCall := den 2 3 M_law_two_places
-- level 3, params ['pen', 'places'], calls ['_law_draw']

abbrev N_law_mine : List Str := ["pen", "most", "many", "places", "x", "lap", "ways", "pair", "inlet", "outlet"]
def M_law_mine : MStm :=
  (mSeq (mAsg (mCall F_law_one_of (mCons (mVar 0) (mCons (mLst (mCons (mC (.int 2)) (mCons (mC (.int 3)) (mCons (mVar 1) (mCons (mVar 1) (mCons (mBin fAdd (mC (.int 2)) (mCall F_law_draw (mCons (mVar 0) (mCons (mBin fSub (mVar 1) (mC (.int 1))) mNil)))) mNil)))))) mNil))) (mName 3))
    (mSeq (mPar 3 6 (mCons (mCall cMin (mCons (mVar 3) (mCons (mBin fAdd (mVar 2) (mC (.int 1))) mNil))) (mCons (mLst mNil) mNil)))
    (mSeq (mFor (mRange2 (mCons (mC (.int 1)) (mCons (mVar 3) mNil))) (mName 4) (mSeq (mAsg (mTup (mCons (mVar 4) (mCons (mCall F_law_draw (mCons (mVar 0) (mCons (mVar 4) mNil))) mNil))) (mName 7))
    (mDrop (mApp (mVar 6) (mCons (mIf (mB (mBin fEq (mCall F_law_draw (mCons (mVar 0) (mCons (mC (.int 2)) mNil))) (mC (.int 0)))) (mVar 7) (mRevT (mVar 7))) mNil)))))
    (mSeq (mFor (mRange1 (mCons (mCall F_law_draw (mCons (mVar 0) (mCons (mBin fAdd (mBin fSub (mVar 2) (mCall cLen (mCons (mVar 6) mNil))) (mC (.int 1))) mNil))) mNil)) (mName 5) (mDrop (mApp (mVar 6) (mCons (mCall F_law_two_places (mCons (mVar 0) (mCons (mVar 3) mNil))) mNil))))
    (mSeq (mAsg (mCall F_law_two_places (mCons (mVar 0) (mCons (mVar 3) mNil))) (mgTup (mgCons (mName 8) (mgCons (mName 9) mgNil)) 2))
    (mRet (mTup (mCons (mVar 3) (mCons (mCall cTuple (mCons (mVar 6) mNil)) (mCons (mVar 8) (mCons (mVar 9) mNil)))))))))))
def F_law_mine : DCall := den 3 10 M_law_mine
-- level 4, params ['pen', 'most', 'many'], calls ['_law_draw', '_law_one_of', '_law_two_places']
end Law

set_option Elab.async false
set_option linter.all false
set_option maxRecDepth 100000
set_option maxHeartbeats 4000000
namespace Law
open PySem PySem.Spec PyProof.Rows L2 MS
theorem at0 {α : Type} {a : α} {l : List α} : L2.atI (a :: l) 0 = some a := L2.atI_nat (j := 0) rfl
theorem at1 {α : Type} {a b : α} {l : List α} : L2.atI (a :: b :: l) 1 = some b := L2.atI_nat (j := 1) rfl
theorem at2 {α : Type} {a b c : α} {l : List α} : L2.atI (a :: b :: c :: l) 2 = some c := L2.atI_nat (j := 2) rfl
theorem at3 {α : Type} {a b c d : α} {l : List α} : L2.atI (a :: b :: c :: d :: l) 3 = some d := L2.atI_nat (j := 3) rfl
theorem i64_left {i j : Int} (h : i64 i = true) : (i64 i || i64 j) = true := by rw [h]; rfl
theorem i64_right {i j : Int} (h : i64 j = true) : (i64 i || i64 j) = true := by rw [h]; exact Bool.or_true _
theorem i64_of {i : Int} (h1 : -(2 ^ 64) < i) (h2 : i < 2 ^ 64) : i64 i = true := by
  unfold i64
  rw [decide_eq_true h1, decide_eq_true h2]
  rfl
local macro_rules | `(tactic| walk_at "st") => `(tactic| first
  | with_reducible refine gs_seq ?_ | with_reducible refine gs_asg ?_ | with_reducible refine gs_ret ?_ | with_reducible refine gs_retN ?_ | with_reducible refine gs_drop ?_ | with_reducible refine gs_if ?_ | with_reducible refine gs_par ?_ | with_reducible refine gs_for ?_ | with_reducible refine gs_nx ?_
  | with_reducible refine ge_cons ?_ | with_reducible refine ge_nil ?_ | with_reducible refine ge_c ?_ | with_reducible refine ge_bin ?_ | with_reducible refine ge_call ?_
  | ((with_reducible refine ge_var (d := ?d) ?h ?_); case h => exact rfl)
  | ((with_reducible refine gs_aug (d := ?d) ?h ?_); case h => exact rfl)
  | (with_reducible refine ge_tup ?_) | (with_reducible refine ge_lst ?_) | with_reducible refine ge_B ?_ | with_reducible refine ge_and ?_ | with_reducible refine ge_or ?_ | with_reducible refine ge_not ?_ | with_reducible refine ge_if ?_ | with_reducible refine ge_andV ?_ | with_reducible refine ge_orV ?_ | with_reducible refine ge_notV ?_ | with_reducible refine ge_neg ?_
  | with_reducible refine ge_sl ?_ | with_reducible refine ge_noPart ?_ | with_reducible refine ge_part ?_ | with_reducible refine ge_revT ?_ | with_reducible refine ge_app ?_ | with_reducible refine ge_lc ?_ | with_reducible refine ge_chain ?_
  | with_reducible refine gi_items ?_ | with_reducible refine gi_range1 ?_ | with_reducible refine gi_range2 ?_ | with_reducible refine gi_enum ?_
  | with_reducible refine gt_name ?_ | with_reducible refine gt_nil ?_ | with_reducible refine gt_cons ?_ | with_reducible refine gt_tup rfl ?_ | with_reducible refine gt_sub ?_
  | with_reducible refine ge_fI ?_ | with_reducible refine ge_sub ?_ | with_reducible refine ge_add ?_ | with_reducible refine ge_lt ?_ | with_reducible refine ge_le ?_ | with_reducible refine ge_gt ?_ | with_reducible refine ge_ge ?_ | with_reducible refine ge_eqI ?_ | with_reducible refine ge_neI ?_ | with_reducible refine ge_eqS ?_ | with_reducible refine ge_neS ?_
  | with_reducible refine ge_int ?_ | with_reducible refine ge_min ?_ | with_reducible refine ge_max ?_ | with_reducible refine ge_abs ?_ | with_reducible refine ge_slT ?_
  | with_reducible refine then_nx ?_ | with_reducible refine then_rt ?_
  | ((with_reducible refine ge_ixL (ds := ?ds) (d := ?dd) ?hl ?he ?_); (case hl => first | exact lat_lst (by assumption) | exact lat_fz (by assumption)); (case he => first | exact at0 | exact at1 | exact at2 | exact at3))
  | ((with_reducible refine ge_ixT (d := ?dd) ?he ?_); (case he => first | exact at0 | exact at1 | exact at2 | exact at3))
  | ((with_reducible refine ge_len (ds := ?ds) ?hl ?_); (case hl => first | exact lat_lst (by assumption) | exact lat_fz (by assumption) | exact rfl))
  | ((with_reducible refine ge_mod ?hc ?_); (case hc => first | assumption | decide | omega))
  | ((with_reducible refine ge_div ?hc ?hd ?_); (case hc => first | assumption | decide | omega); (case hd => first | assumption | decide | omega))
  | ((with_reducible refine ge_mul ?hc ?_); (case hc => first | assumption | exact i64_left rfl | exact i64_right rfl))
  | ((with_reducible refine ge_pow ?hc ?_); (case hc => decide))
  | (refine ⟨_, rfl, ?_⟩) | (refine ⟨_, _, rfl, ?_⟩))
/-- a pen: the cells, the next one's place, what is left -/
structure Pen (S : Store) (p g : Nat) : Prop where
  ex : ∃ (ns : List Int) (seat rest : Int), S[p]? = some (.lst [.lr g, .int seat, .int rest]) ∧ S[g]? = some (.lst (ns.map D.int)) ∧ g ≠ p ∧ 0 ≤ seat ∧ 0 ≤ rest
theorem toPy_ints {S : Store} {n : Nat} : ∀ ns : List Int, (ns.map D.int).mapM (toPy S (n + 1)) = some (ns.map PyData.int)
  | [] => rfl
  | i :: ns => by
    rw [List.map_cons, List.mapM_cons, toPy_ints ns]
    rfl
theorem ints_lay : ∀ ns : List Int, PyData.canLayAll0 (ns.map PyData.int) = true ∧ PyData.depthAll (ns.map PyData.int) = 0
  | [] => ⟨rfl, rfl⟩
  | i :: ns => by
    obtain ⟨h1, h2⟩ := ints_lay ns
    refine ⟨?_, ?_⟩
    · show (PyData.canLay0 (.int i) && PyData.canLayAll0 (ns.map PyData.int)) = true
      rw [h1]; rfl
    · show max (PyData.depth (.int i)) (PyData.depthAll (ns.map PyData.int)) = 0
      rw [h2]; rfl
theorem ge_neNil {S : Store} {n m : Nat} {ns : List Int} {Q : D → Store → Prop} (h1 : lat S n = some (ns.map D.int)) (h2 : lat S m = some []) (h : Q (.bl (!ns.isEmpty)) S) : GE (fNe (.lr n) (.lr m) S) Q := by
  have e1 : toPy S 64 (.lr n) = some (.list (ns.map PyData.int)) := by
    show ((lat S n).bind fun ds => (ds.mapM (toPy S 63)).map PyData.list) = _
    rw [h1]
    show ((ns.map D.int).mapM (toPy S 63)).map PyData.list = _
    rw [toPy_ints (n := 62)]
    rfl
  have e2 : toPy S 64 (.lr m) = some (.list []) := by
    show ((lat S m).bind fun ds => (ds.mapM (toPy S 63)).map PyData.list) = _
    rw [h2]
    rfl
  have s1 : SeqAt.shaped (.list (ns.map PyData.int)) = true := by
    obtain ⟨l1, l2⟩ := ints_lay ns
    unfold SeqAt.shaped
    rw [Bool.and_eq_true, decide_eq_true_eq]
    refine ⟨l1, ?_⟩
    show PyData.depthAll (ns.map PyData.int) + 1 ≤ 64
    omega
  refine ge_eq (x := .bl (!ns.isEmpty)) (S' := S) ?_ h
  show ((toPy S 64 (.lr n)).bind fun p => (toPy S 64 (.lr m)).bind fun q => if SeqAt.shaped p && SeqAt.shaped q then some (D.bl (not (PyData.eqv p q)), S) else none) = _
  rw [e1, e2]
  show (if SeqAt.shaped (.list (ns.map PyData.int)) && true then some (D.bl (not (PyData.eqv (.list (ns.map PyData.int)) (.list []))), S) else none) = _
  rw [s1]
  cases ns <;> rfl
theorem mod_lt {i j : Int} (h : 0 < j) : 0 ≤ i % j ∧ i % j < j := ⟨Int.emod_nonneg _ (by omega), Int.emod_lt_of_pos _ h⟩
theorem atI_of {α : Type} {l : List α} {i : Int} (h0 : 0 ≤ i) (h1 : i < l.length) : ∃ x, L2.atI l i = some x ∧ x ∈ l := by
  have hi : i.toNat < l.length := by omega
  refine ⟨l[i.toNat], ?_, List.getElem_mem hi⟩
  have := L2.atI_nat (j := i.toNat) (List.getElem?_eq_getElem hi)
  rwa [Int.toNat_of_nonneg h0] at this
theorem mem_ints {ns : List Int} {x : D} (h : x ∈ ns.map D.int) : ∃ c, x = .int c := by
  obtain ⟨c, _, e⟩ := List.mem_map.mp h
  exact ⟨c, e.symm⟩
theorem fresh_gives {S : Store} {p g : Nat} (h : Pen S p g) : GE (F_law_fresh [.lr p] S) fun d S' => ∃ n : Int, d = .int n ∧ 0 ≤ n ∧ Pen S' p g ∧ Keeps p S S' := by
  obtain ⟨ns, seat, rest, hp, hg, hne, h0, h1⟩ := h
  refine ge_den rfl ?_
  unfold M_law_fresh
  repeat walk_at "st"
  refine ⟨p, 1, _, 1, rfl, rfl, mat_lst hp, rfl, ?_⟩
  have hp1 : (S.set p (.lst [.lr g, .int (seat + 1), .int rest]))[p]? = some (.lst [.lr g, .int (seat + 1), .int rest]) := get_set hp
  have hg1 : (S.set p (.lst [.lr g, .int (seat + 1), .int rest]))[g]? = some (.lst (ns.map D.int)) := by rw [get_ne hne.symm]; exact hg
  have k1 : Keeps p S (S.set p (.lst [.lr g, .int (seat + 1), .int rest])) := Keeps.set
  rw [show List.set [D.lr g, D.int seat, D.int rest] 1 (D.int (seat + 1)) = [.lr g, .int (seat + 1), .int rest] from rfl]
  generalize S.set p (.lst [.lr g, .int (seat + 1), .int rest]) = S1 at hp1 hg1 k1 ⊢
  repeat walk_at "st"
  refine ⟨Nat.zero_le _, ge_neNil (lat_lst (get_app hg1)) (lat_lst get_new) ?_⟩
  have hp2 : (S1 ++ [.lst []])[p]? = some (.lst [.lr g, .int (seat + 1), .int rest]) := get_app hp1
  have hg2 : (S1 ++ [.lst []])[g]? = some (.lst (ns.map D.int)) := get_app hg1
  have k2 : Keeps p S (S1 ++ [.lst []]) := k1.trans .app
  generalize S1 ++ [.lst []] = S2 at hp2 hg2 k2 ⊢
  have pen2 : Pen S2 p g := ⟨ns, seat + 1, rest, hp2, hg2, hne, by omega, h1⟩
  -- the cell
  have tail : ∀ c : Int, GS (mSeq (mAsg (mC (.int 2305843009213693951)) (mName 2))
    (mSeq (mAsg (mBin fMod (mCall cInt (mCons (mBin fAdd (mBin fAdd (mBin fMul (mVar 1) (mC (.int 48271))) (mBin fMul (mC (.int 60013)) (mVar 6))) (mC (.int 31))) mNil)) (mVar 2)) (mName 3))
    (mSeq (mAsg (mVar 3) (mName 4))
    (mSeq (mFor (mRange1 (mCons (mC (.int 6)) mNil)) (mName 5) (mSeq (mAsg (mBin fMod (mCall cInt (mCons (mBin fAdd (mBin fAdd (mBin fMul (mVar 3) (mVar 3)) (mBin fMul (mBin fMul (mC (.int 70139)) (mBin fAdd (mVar 5) (mC (.int 5)))) (mBin fAdd (mVar 6) (mC (.int 1))))) (mVar 1)) mNil)) (mVar 2)) (mName 3))
    (mAsg (mBin fAdd (mBin fMul (mVar 4) (mVar 2)) (mVar 3)) (mName 4))))
    (mRet (mVar 4))))) [some (.lr p), some (.int c), none, none, none, none, some (.int seat), some (.lr g)] S2) fun f _ S' => match f with
      | .rt d => ∃ n : Int, d = .int n ∧ 0 ≤ n ∧ Pen S' p g ∧ Keeps p S S'
      | .nx => ∃ n : Int, D.non = .int n ∧ 0 ≤ n ∧ Pen S' p g ∧ Keeps p S S'
      | _ => False := by
    intro c
    repeat walk_at "st"
    refine ⟨by decide, ?_⟩
    have hm := mod_lt (i := c * 48271 + 60013 * seat + 31) (j := 2305843009213693951) (by decide)
    generalize (c * 48271 + 60013 * seat + 31) % 2305843009213693951 = st at hm
    refine gs_forL (fun _ ρ S' => S' = S2 ∧ ∃ (st fo : Int) (x5 : Option D), 0 ≤ st ∧ st < 2305843009213693951 ∧ 0 ≤ fo ∧ ρ = [some (.lr p), some (.int c), some (.int 2305843009213693951), some (.int st), some (.int fo), x5, some (.int seat), some (.lr g)])
      ⟨rfl, st, st, none, hm.1, hm.2, hm.1, rfl⟩ (fun i x ρ S' hx hP => ⟨rfl, ?_⟩) (fun ρ S' hP => ⟨rfl, ?_⟩)
    · obtain ⟨rfl, st, fo, x5, h3, h4, h5, rfl⟩ := hP
      obtain ⟨k, rfl, hk0, hk6⟩ : ∃ k : Int, x = .int k ∧ 0 ≤ k ∧ k < 6 := by
        have hi : i < 6 := by
          have := (List.getElem?_eq_some_iff.mp hx).1
          rw [rangeD_length] at this
          exact this
        unfold rangeD at hx
        rw [List.getElem?_map, List.getElem?_range (by exact hi)] at hx
        cases hx
        exact ⟨_, rfl, by omega, by omega⟩
      have hs64 : i64 st = true := i64_of (by omega) (by omega)
      repeat walk_at "st"
      refine ge_mul (i64_left hs64) ?_
      repeat walk_at "st"
      refine ge_mul (i64_left (i64_of (by omega) (by omega))) ?_
      repeat walk_at "st"
      have hm := mod_lt (i := st * st + 70139 * (k + 5) * (seat + 1) + c) (j := 2305843009213693951) (by decide)
      refine ⟨.inl rfl, rfl, _, _, _, hm.1, hm.2, ?_, rfl⟩
      have := Int.mul_nonneg h5 (by decide : (0 : Int) ≤ 2305843009213693951)
      omega
    · obtain ⟨rfl, st, fo, x5, h3, h4, h5, rfl⟩ := hP
      repeat walk_at "st"
      exact ⟨h5, pen2, k2⟩
  have rest_ : ∀ c : Int, GS (mSeq (mIfS (mAnd (mB (mBin fLt (mVar 6) (mCall cLen (mCons (mVar 7) mNil)))) (mB (mBin fGe (mVar 1) (mBin fPow (mC (.int 10)) (mC (.int 18)))))) (mRet (mBin fSub (mVar 1) (mBin fPow (mC (.int 10)) (mC (.int 18))))) mNx)
    (mSeq (mAsg (mC (.int 2305843009213693951)) (mName 2))
    (mSeq (mAsg (mBin fMod (mCall cInt (mCons (mBin fAdd (mBin fAdd (mBin fMul (mVar 1) (mC (.int 48271))) (mBin fMul (mC (.int 60013)) (mVar 6))) (mC (.int 31))) mNil)) (mVar 2)) (mName 3))
    (mSeq (mAsg (mVar 3) (mName 4))
    (mSeq (mFor (mRange1 (mCons (mC (.int 6)) mNil)) (mName 5) (mSeq (mAsg (mBin fMod (mCall cInt (mCons (mBin fAdd (mBin fAdd (mBin fMul (mVar 3) (mVar 3)) (mBin fMul (mBin fMul (mC (.int 70139)) (mBin fAdd (mVar 5) (mC (.int 5)))) (mBin fAdd (mVar 6) (mC (.int 1))))) (mVar 1)) mNil)) (mVar 2)) (mName 3))
    (mAsg (mBin fAdd (mBin fMul (mVar 4) (mVar 2)) (mVar 3)) (mName 4))))
    (mRet (mVar 4)))))) [some (.lr p), some (.int c), none, none, none, none, some (.int seat), some (.lr g)] S2) fun f _ S' => match f with
      | .rt d => ∃ n : Int, d = .int n ∧ 0 ≤ n ∧ Pen S' p g ∧ Keeps p S S'
      | .nx => ∃ n : Int, D.non = .int n ∧ 0 ≤ n ∧ Pen S' p g ∧ Keeps p S S'
      | _ => False := by
    intro c
    repeat walk_at "st"
    refine ⟨fun hc => ?_, fun hc => ⟨fun z => (by cases z), fun _ => ?_⟩⟩
    · repeat walk_at "st"
      refine ⟨fun hd => ?_, fun hd => ?_⟩
      · repeat walk_at "st"
        have : (10 : Int) ^ (18 : Int).toNat ≤ c := of_decide_eq_true hd
        exact ⟨by omega, pen2, k2⟩
      · exact gs_nx (tail c)
    · exact gs_nx (tail c)
  refine ⟨_, rfl, fun hn => ?_, fun hn => ?_⟩
  · have hlen : 0 < ns.length := by
      cases ns with
      | nil => cases hn
      | cons _ _ => exact Nat.succ_pos _
    have hlen' : (0 : Int) < ((ns.map D.int).length : Int) := by rw [List.length_map]; omega
    repeat walk_at "st"
    obtain ⟨h3, h4⟩ := mod_lt (i := seat) hlen'
    obtain ⟨x, h5, h6⟩ := atI_of h3 h4
    obtain ⟨c, rfl⟩ := mem_ints h6
    exact ge_ixL (lat_lst hg2) h5 (gt_name (then_nx (rest_ c)))
  · exact ge_c (gt_name (then_nx (rest_ 0)))
/-- the pen's rest changed -/
theorem Pen.put {S : Store} {p g : Nat} {seat rest n : Int} (h : Pen S p g) (hp : S[p]? = some (.lst [.lr g, .int seat, .int rest])) (hn : 0 ≤ n) : Pen (S.set p (.lst [.lr g, .int seat, .int n])) p g := by
  obtain ⟨ns, seat', rest', hp', hg, hne, h0, h1⟩ := h
  rw [hp] at hp'
  cases hp'
  exact ⟨ns, seat, n, get_set hp, by rw [get_ne hne.symm]; exact hg, hne, h0, hn⟩
theorem draw_gives {S : Store} {p g : Nat} {b : Int} (h : Pen S p g) (hb : 1 ≤ b) (hb2 : b < 1073741824) : GE (F_law_draw [.lr p, .int b] S) fun d S' => ∃ n : Int, d = .int n ∧ 0 ≤ n ∧ n < b ∧ Pen S' p g ∧ Keeps p S S' := by
  refine ge_den rfl ?_
  unfold M_law_draw
  have tail : ∀ S1, Pen S1 p g → Keeps p S S1 → GS (mSeq (mAsg (mBin fMod (mCall cInt (mCons (mBin fIx (mVar 0) (mC (.int 2))) mNil)) (mVar 1)) (mName 2))
    (mSeq (mAsg (mBin fDiv (mCall cInt (mCons (mBin fIx (mVar 0) (mC (.int 2))) mNil)) (mVar 1)) (mgSub (mVar 0) (mC (.int 2))))
    (mRet (mVar 2))) (startD 3 [.lr p, .int b]) S1) fun f _ S' => match f with
      | .rt d => ∃ n : Int, d = .int n ∧ 0 ≤ n ∧ n < b ∧ Pen S' p g ∧ Keeps p S S'
      | .nx => ∃ n : Int, D.non = .int n ∧ 0 ≤ n ∧ n < b ∧ Pen S' p g ∧ Keeps p S S'
      | _ => False := by
    intro S1 h1 k1
    obtain ⟨ns, seat, rest, hp, hg, hne, h0, hr⟩ := id h1
    repeat walk_at "st"
    refine ⟨p, 2, _, 2, rfl, rfl, mat_lst hp, rfl, ?_⟩
    repeat walk_at "st"
    obtain ⟨m1, m2⟩ := mod_lt (i := rest) (j := b) (by omega)
    exact ⟨m1, m2, h1.put hp (Int.ediv_nonneg hr (by omega)), k1.trans .set⟩
  obtain ⟨ns, seat, rest, hp, hg, hne, h0, hr⟩ := id h
  repeat walk_at "st"
  refine ⟨fun hc => ?_, fun hc => gs_nx (tail S h .refl)⟩
  repeat walk_at "st"
  refine (fresh_gives h).mono ?_
  rintro _ S1 ⟨n, rfl, hn, h1, k1⟩
  obtain ⟨ns1, seat1, rest1, hp1, hg1, hne1, h01, hr1⟩ := id h1
  repeat walk_at "st"
  refine ⟨p, 2, _, 2, rfl, rfl, mat_lst hp1, rfl, ?_⟩
  exact tail _ (h1.put hp1 hn) (k1.trans .set)
theorem one_of_gives {S : Store} {p g q : Nat} {ds : List D} (h : Pen S p g) (hq : S[q]? = some (.lst ds)) (hqp : q ≠ p) (h1 : 1 ≤ ds.length) (h2 : ds.length < 1073741824) : GE (F_law_one_of [.lr p, .lr q] S) fun d S' => d ∈ ds ∧ Pen S' p g ∧ Keeps p S S' := by
  refine ge_den rfl ?_
  unfold M_law_one_of
  repeat walk_at "st"
  refine (draw_gives h (by omega) (by omega)).mono ?_
  rintro _ S1 ⟨n, rfl, hn, hn2, h3, k1⟩
  obtain ⟨x, e, hx⟩ := atI_of hn hn2
  exact ge_ixL (lat_lst (k1.at_ q _ hqp hq)) e ⟨hx, h3, k1⟩
theorem turn_ne {a d b : Int} (h0 : 0 ≤ a) (h1 : a < b) (h2 : 0 ≤ d) (h3 : d < b - 1) : (a + 1 + d) % b ≠ a := by
  by_cases h : a + 1 + d < b
  · rw [Int.emod_eq_of_lt (by omega) h]; omega
  · have e : (a + 1 + d) % b = a + 1 + d - b := by
      rw [← Int.sub_emod_right, Int.emod_eq_of_lt (by omega) (by omega)]
    rw [e]; omega
def pairD (w : Int × Int) : D := .tup [.int w.1, .int w.2]
/-- a way between two of so many places -/
def WayOk (n : Int) (w : Int × Int) : Prop := (0 ≤ w.1 ∧ w.1 < n) ∧ (0 ≤ w.2 ∧ w.2 < n) ∧ w.1 ≠ w.2
theorem two_gives {S : Store} {p g : Nat} {b : Int} (h : Pen S p g) (hb : 2 ≤ b) (hb2 : b < 1073741824) : GE (F_law_two_places [.lr p, .int b] S) fun d S' => ∃ w, d = pairD w ∧ WayOk b w ∧ Pen S' p g ∧ Keeps p S S' := by
  refine ge_den rfl ?_
  unfold M_law_two_places
  repeat walk_at "st"
  refine (draw_gives h (by omega) hb2).mono ?_
  rintro _ S1 ⟨n, rfl, hn, hn2, h3, k1⟩
  repeat walk_at "st"
  refine (draw_gives h3 (by omega) (by omega)).mono ?_
  rintro _ S2 ⟨m, rfl, hm, hm2, h4, k2⟩
  repeat walk_at "st"
  obtain ⟨m1, m2⟩ := mod_lt (i := n + 1 + m) (j := b) (by omega)
  exact ⟨by show 2 ≤ szl; decide, (n, (n + 1 + m) % b), rfl, ⟨⟨hn, hn2⟩, ⟨m1, m2⟩, (turn_ne hn hn2 hm hm2).symm⟩, h4, k1.trans k2⟩
theorem keeps_wrNew {p wl : Nat} {S0 S : Store} {x : MO} (k : Keeps p S0 S) (h : S0.length ≤ wl) : Keeps p S0 (S.set wl x) :=
  ⟨by rw [List.length_set]; exact k.len, fun n y hn e => by
    have hl := (List.getElem?_eq_some_iff.mp e).1
    rw [List.getElem?_set_ne (by omega)]
    exact k.at_ n y hn e⟩
theorem Pen.lt {S : Store} {p g : Nat} (h : Pen S p g) : p < S.length ∧ g < S.length := by
  obtain ⟨ns, seat, rest, hp, hg, _⟩ := h
  exact ⟨(List.getElem?_eq_some_iff.mp hp).1, (List.getElem?_eq_some_iff.mp hg).1⟩
theorem Pen.app {S l : Store} {p g : Nat} (h : Pen S p g) : Pen (S ++ l) p g := by
  obtain ⟨ns, seat, rest, hp, hg, r⟩ := h
  exact ⟨ns, seat, rest, get_app hp, get_app hg, r⟩
theorem Pen.other {S : Store} {p g wl : Nat} {x : MO} (h : Pen S p g) (h1 : wl ≠ p) (h2 : wl ≠ g) : Pen (S.set wl x) p g := by
  obtain ⟨ns, seat, rest, hp, hg, r⟩ := h
  exact ⟨ns, seat, rest, by rw [get_ne h1]; exact hp, by rw [get_ne h2]; exact hg, r⟩
theorem range_int {lo : Int} {n i : Nat} {x : D} (h : (rangeD lo n)[i]? = some x) : x = .int (lo + (i : Int)) ∧ i < n := by
  have hi : i < n := by
    have := (List.getElem?_eq_some_iff.mp h).1
    rwa [rangeD_length] at this
  unfold rangeD at h
  rw [List.getElem?_map, List.getElem?_range hi] at h
  cases h
  exact ⟨rfl, hi⟩
theorem r62_of {i : Int} (h1 : -(2 ^ 62) ≤ i) (h2 : i < 2 ^ 62) : r62 i = true := by
  unfold r62
  rw [decide_eq_true h1, decide_eq_true h2]
  rfl
structure Mine where
  places : Int
  ways : List (Int × Int)
  inlet : Int
  outlet : Int
def mineD (M : Mine) : D := .tup [.int M.places, .tup (M.ways.map pairD), .int M.inlet, .int M.outlet]
structure MineOk (M : Mine) : Prop where
  lo : 2 ≤ M.places
  hi : M.places ≤ 8
  ways : ∀ w ∈ M.ways, WayOk M.places w
  ends : WayOk M.places (M.inlet, M.outlet)
/-- every place but 0 has a way to a lower one -/
def Tree (n : Int) (ws : List (Int × Int)) : Prop := ∀ x : Int, 1 ≤ x → x < n → ∃ y : Int, 0 ≤ y ∧ y < x ∧ ((x, y) ∈ ws ∨ (y, x) ∈ ws)
end Law

set_option Elab.async false
set_option linter.all false
set_option maxRecDepth 100000
set_option maxHeartbeats 4000000
namespace Law
open PySem PySem.Spec PyProof.Rows L2 MS
local macro_rules | `(tactic| walk_at "st") => `(tactic| first
  | with_reducible refine gs_seq ?_ | with_reducible refine gs_asg ?_ | with_reducible refine gs_ret ?_ | with_reducible refine gs_retN ?_ | with_reducible refine gs_drop ?_ | with_reducible refine gs_if ?_ | with_reducible refine gs_par ?_ | with_reducible refine gs_for ?_ | with_reducible refine gs_nx ?_
  | with_reducible refine ge_cons ?_ | with_reducible refine ge_nil ?_ | with_reducible refine ge_c ?_ | with_reducible refine ge_bin ?_ | with_reducible refine ge_call ?_
  | ((with_reducible refine ge_var (d := ?d) ?h ?_); case h => exact rfl)
  | ((with_reducible refine gs_aug (d := ?d) ?h ?_); case h => exact rfl)
  | (with_reducible refine ge_tup ?_) | (with_reducible refine ge_lst ?_) | with_reducible refine ge_B ?_ | with_reducible refine ge_and ?_ | with_reducible refine ge_or ?_ | with_reducible refine ge_not ?_ | with_reducible refine ge_if ?_ | with_reducible refine ge_andV ?_ | with_reducible refine ge_orV ?_ | with_reducible refine ge_notV ?_ | with_reducible refine ge_neg ?_
  | with_reducible refine ge_sl ?_ | with_reducible refine ge_noPart ?_ | with_reducible refine ge_part ?_ | with_reducible refine ge_revT ?_ | with_reducible refine ge_app ?_ | with_reducible refine ge_lc ?_ | with_reducible refine ge_chain ?_
  | with_reducible refine gi_items ?_ | with_reducible refine gi_range1 ?_ | with_reducible refine gi_range2 ?_ | with_reducible refine gi_enum ?_
  | with_reducible refine gt_name ?_ | with_reducible refine gt_nil ?_ | with_reducible refine gt_cons ?_ | with_reducible refine gt_tup rfl ?_ | with_reducible refine gt_sub ?_
  | with_reducible refine ge_fI ?_ | with_reducible refine ge_sub ?_ | with_reducible refine ge_add ?_ | with_reducible refine ge_lt ?_ | with_reducible refine ge_le ?_ | with_reducible refine ge_gt ?_ | with_reducible refine ge_ge ?_ | with_reducible refine ge_eqI ?_ | with_reducible refine ge_neI ?_ | with_reducible refine ge_eqS ?_ | with_reducible refine ge_neS ?_
  | with_reducible refine ge_int ?_ | with_reducible refine ge_min ?_ | with_reducible refine ge_max ?_ | with_reducible refine ge_abs ?_ | with_reducible refine ge_slT ?_
  | with_reducible refine then_nx ?_ | with_reducible refine then_rt ?_
  | ((with_reducible refine ge_ixL (ds := ?ds) (d := ?dd) ?hl ?he ?_); (case hl => first | exact lat_lst (by assumption) | exact lat_fz (by assumption)); (case he => first | exact at0 | exact at1 | exact at2 | exact at3))
  | ((with_reducible refine ge_ixT (d := ?dd) ?he ?_); (case he => first | exact at0 | exact at1 | exact at2 | exact at3))
  | ((with_reducible refine ge_len (ds := ?ds) ?hl ?_); (case hl => first | exact lat_lst (by assumption) | exact lat_fz (by assumption) | exact rfl))
  | ((with_reducible refine ge_mod ?hc ?_); (case hc => first | assumption | decide | omega))
  | ((with_reducible refine ge_div ?hc ?hd ?_); (case hc => first | assumption | decide | omega); (case hd => first | assumption | decide | omega))
  | ((with_reducible refine ge_mul ?hc ?_); (case hc => first | assumption | exact i64_left rfl | exact i64_right rfl))
  | ((with_reducible refine ge_pow ?hc ?_); (case hc => decide))
  | (refine ⟨_, rfl, ?_⟩) | (refine ⟨_, _, rfl, ?_⟩))
theorem mine_gives {S : Store} {p g : Nat} {most many : Int} (h : Pen S p g) (hm : 2 ≤ most) (hm8 : most ≤ 8) (hw : 1 ≤ many) (hw2 : many ≤ 1000) :
    GE (F_law_mine [.lr p, .int most, .int many] S) fun d S' => ∃ M, d = mineD M ∧ MineOk M ∧ (M.ways.length : Int) ≤ many ∧ Tree M.places M.ways ∧ (M.places ≤ most ∨ M.places ≤ 3) ∧ Pen S' p g ∧ Keeps p S S' := by
  refine ge_den rfl ?_
  unfold M_law_mine
  repeat walk_at "st"
  refine (draw_gives h (by omega) (by omega)).mono ?_
  rintro _ S1 ⟨n, rfl, hn, hn2, h1, k1⟩
  repeat walk_at "st"
  refine ⟨by show 5 ≤ szl; decide, ?_⟩
  repeat walk_at "st"
  refine (one_of_gives h1.app get_new (by have := h1.lt; omega) (by show 1 ≤ 5; decide) (by show 5 < 1073741824; decide)).mono ?_
  rintro d S2 ⟨hd, h2, k2⟩
  have k2' : Keeps p S S2 := (k1.trans .app).trans k2
  obtain ⟨pl, rfl, hp2, hp8, hpm⟩ : ∃ pl : Int, d = .int pl ∧ 2 ≤ pl ∧ pl ≤ 8 ∧ (pl ≤ most ∨ pl ≤ 3) := by
    simp only [List.mem_cons, List.not_mem_nil, or_false] at hd
    rcases hd with rfl | rfl | rfl | rfl | rfl
    · exact ⟨2, rfl, by omega, by omega, by omega⟩
    · exact ⟨3, rfl, by omega, by omega, by omega⟩
    · exact ⟨most, rfl, by omega, by omega, by omega⟩
    · exact ⟨most, rfl, by omega, by omega, by omega⟩
    · exact ⟨2 + n, rfl, by omega, by omega, by omega⟩
  repeat walk_at "st"
  refine ⟨Nat.zero_le _, ?_⟩
  repeat walk_at "st"
  obtain ⟨pl', hpl', hp2', hp8', hpm', hpmany⟩ : ∃ pl' : Int, (if many + 1 < pl then many + 1 else pl) = pl' ∧ 2 ≤ pl' ∧ pl' ≤ 8 ∧ (pl' ≤ most ∨ pl' ≤ 3) ∧ pl' ≤ many + 1 := by
    by_cases hc : many + 1 < pl
    · exact ⟨_, if_pos hc, by omega, by omega, by omega, by omega⟩
    · exact ⟨_, if_neg hc, by omega, by omega, by omega, by omega⟩
  rw [hpl']
  generalize hwl : S2.length = wl
  have hwp : wl ≠ p := by have := h2.lt; omega
  have hwg : wl ≠ g := by have := h2.lt; omega
  have hS0 : S.length ≤ wl := by have := k2'.len; omega
  refine ⟨by rw [r62_of (i := pl') (by omega) (by omega)]; decide, ?_⟩
  have S3 : Pen (S2 ++ [.lst []]) p g := h2.app
  refine gs_forL (fun i ρ S' => ∃ (ws : List (Int × Int)) (x4 x7 : Option D), ρ = [some (.lr p), some (.int most), some (.int many), some (.int pl'), x4, none, some (.lr wl), x7, none, none] ∧ Pen S' p g ∧ Keeps p S S' ∧
      S'[wl]? = some (.lst (ws.map pairD)) ∧ ws.length = i ∧ (∀ w ∈ ws, WayOk pl' w) ∧ Tree (i + 1 : Nat) ws)
    ⟨[], none, none, rfl, h2.app, k2'.trans .app, by rw [← hwl]; exact get_new, rfl, fun w z => (by cases z), fun x z1 z2 => by omega⟩ ?_ ?_
  · rintro i x ρ S4 hx ⟨ws, x4, x7, rfl, hp4, k4, hw4, hl4, ho4, ht4⟩
    obtain ⟨rfl, hi⟩ := range_int hx
    refine ⟨rfl, ?_⟩
    have hi2 : (i : Int) + 1 < pl' := by omega
    repeat walk_at "st"
    refine (draw_gives hp4 (by omega) (by omega)).mono ?_
    rintro _ S5 ⟨y, rfl, hy, hy2, hp5, k5⟩
    repeat walk_at "st"
    refine ⟨by show 2 ≤ szl; decide, ?_⟩
    repeat walk_at "st"
    have hw5 := k5.at_ wl _ hwp hw4
    refine ⟨⟨_, mat_lst hw5⟩, ?_⟩
    repeat walk_at "st"
    refine (draw_gives hp5 (by omega) (by omega)).mono ?_
    rintro _ S6 ⟨c, rfl, hc, hc2, hp6, k6⟩
    have hw6 := k6.at_ wl _ hwp hw5
    have fin : ∀ w : Int × Int, WayOk pl' w → (w = (1 + (i : Int), y) ∨ w = (y, 1 + (i : Int))) → ∃ ds, mat S6 wl = some ds ∧ ds.length < szl ∧ (Fl.nx = .nx ∨ Fl.nx = .ct) ∧
        ∃ (ws : List (Int × Int)) (x4 x7 : Option D), [some (.lr p), some (.int most), some (.int many), some (.int pl'), some (.int (1 + (i : Int))), none, some (.lr wl), some (.tup [.int (1 + (i : Int)), .int y]), none, none] = [some (.lr p), some (.int most), some (.int many), some (.int pl'), x4, none, some (.lr wl), x7, none, none] ∧
          Pen (S6.set wl (.lst (ds ++ [pairD w]))) p g ∧ Keeps p S (S6.set wl (.lst (ds ++ [pairD w]))) ∧ (S6.set wl (.lst (ds ++ [pairD w])))[wl]? = some (.lst (ws.map pairD)) ∧ ws.length = i + 1 ∧ (∀ w ∈ ws, WayOk pl' w) ∧ Tree (i + 1 + 1 : Nat) ws := by
      intro w hw hwe
      refine ⟨_, mat_lst hw6, by rw [List.length_map]; show ws.length < 16777216; omega, .inl rfl, ws ++ [w], _, _, rfl, hp6.other hwp hwg, keeps_wrNew ((k4.trans k5).trans k6) hS0, by rw [get_set hw6, List.map_append]; rfl, by rw [List.length_append, hl4]; rfl, fun w' h' => ?_, fun x' a b => ?_⟩
      · rcases List.mem_append.mp h' with h' | h'
        · exact ho4 w' h'
        · rw [List.mem_singleton.mp h']; exact hw
      · by_cases hx' : x' < (i + 1 : Nat)
        · obtain ⟨y', b1, b2, b3⟩ := ht4 x' a hx'
          exact ⟨y', b1, b2, b3.imp (fun z => List.mem_append_left _ z) fun z => List.mem_append_left _ z⟩
        · have e : x' = 1 + (i : Int) := by omega
          refine ⟨y, hy, by omega, ?_⟩
          rw [e]
          rcases hwe with rfl | rfl
          · exact .inl (List.mem_append_right _ (List.mem_singleton.mpr rfl))
          · exact .inr (List.mem_append_right _ (List.mem_singleton.mpr rfl))
    repeat walk_at "st"
    refine ⟨fun _ => ?_, fun _ => ?_⟩
    · repeat walk_at "st"
      obtain ⟨ds, f1, f2, f3⟩ := fin (1 + (i : Int), y) ⟨⟨by omega, by omega⟩, ⟨hy, by omega⟩, by show 1 + (i : Int) ≠ y; omega⟩ (.inl rfl)
      exact ⟨_, ds, rfl, f1, f2, f3⟩
    · repeat walk_at "st"
      obtain ⟨ds, f1, f2, f3⟩ := fin (y, 1 + (i : Int)) ⟨⟨hy, by omega⟩, ⟨by omega, by omega⟩, by show y ≠ 1 + (i : Int); omega⟩ (.inr rfl)
      exact ⟨_, ds, rfl, f1, f2, f3⟩
  · rintro ρ S4 ⟨ws, x4, x7, rfl, hp4, k4, hw4, hl4, ho4, ht4⟩
    rw [rangeD_length] at hl4 ht4
    refine ⟨rfl, ?_⟩
    have hlen : (ws.length : Int) = pl' - 1 := by omega
    have ht : Tree pl' ws := fun x a b => ht4 x a (by omega)
    repeat walk_at "st"
    rw [List.length_map]
    refine (draw_gives hp4 (by omega) (by omega)).mono ?_
    rintro _ S5 ⟨e, rfl, he, he2, hp5, k5⟩
    have hw5 := k5.at_ wl _ hwp hw4
    repeat walk_at "st"
    refine ⟨r62_of (by omega) (by omega), ?_⟩
    repeat walk_at "st"
    refine gs_forL (fun i ρ S' => ∃ (ws' : List (Int × Int)) (x5 : Option D), ρ = [some (.lr p), some (.int most), some (.int many), some (.int pl'), x4, x5, some (.lr wl), x7, none, none] ∧ Pen S' p g ∧ Keeps p S S' ∧
        S'[wl]? = some (.lst (ws'.map pairD)) ∧ ws'.length = ws.length + i ∧ (∀ w ∈ ws', WayOk pl' w) ∧ Tree pl' ws')
      ⟨ws, none, rfl, hp5, k4.trans k5, hw5, rfl, ho4, ht⟩ ?_ ?_
    · rintro i x ρ S6 hx ⟨ws', x5, rfl, hp6, k6, hw6, hl6, ho6, ht6⟩
      obtain ⟨rfl, hi⟩ := range_int hx
      refine ⟨rfl, ?_⟩
      repeat walk_at "st"
      refine ⟨⟨_, mat_lst hw6⟩, ?_⟩
      repeat walk_at "st"
      refine (two_gives hp6 hp2' (by omega)).mono ?_
      rintro _ S7 ⟨w, rfl, hw7, hp7, k7⟩
      have hw7' := k7.at_ wl _ hwp hw6
      repeat walk_at "st"
      refine ⟨_, _, rfl, mat_lst hw7', by rw [List.length_map]; show ws'.length < 16777216; omega, .inl rfl, ws' ++ [w], _, rfl, hp7.other hwp hwg, keeps_wrNew (k6.trans k7) hS0, by rw [get_set hw7', List.map_append]; rfl, by rw [List.length_append, hl6]; rfl, fun w' h' => ?_, fun x' a b => ?_⟩
      · rcases List.mem_append.mp h' with h' | h'
        · exact ho6 w' h'
        · rw [List.mem_singleton.mp h']; exact hw7
      · obtain ⟨y', b1, b2, b3⟩ := ht6 x' a b
        exact ⟨y', b1, b2, b3.imp (fun z => List.mem_append_left _ z) fun z => List.mem_append_left _ z⟩
    · rintro ρ S6 ⟨ws', x5, rfl, hp6, k6, hw6, hl6, ho6, ht6⟩
      rw [rangeD_length] at hl6
      refine ⟨rfl, ?_⟩
      repeat walk_at "st"
      refine (two_gives hp6 hp2' (by omega)).mono ?_
      rintro _ S7 ⟨w, rfl, hw7, hp7, k7⟩
      have hw7' := k7.at_ wl _ hwp hw6
      unfold pairD
      repeat walk_at "st"
      refine ge_tuple (lat_lst hw7') ?_
      repeat walk_at "st"
      exact ⟨by show 4 ≤ szl; decide, ⟨pl', ws', w.1, w.2⟩, rfl, ⟨hp2', hp8', ho6, hw7⟩, by show (ws'.length : Int) ≤ many; omega, ht6, hpm', hp7, k6.trans k7⟩
end Law

set_option Elab.async false
set_option linter.all false
set_option maxRecDepth 100000
set_option maxHeartbeats 4000000
namespace Law
/-! ### lists without duplicates -/
theorem nodup_le {α : Type} [DecidableEq α] : ∀ {l m : List α}, l.Nodup → (∀ x ∈ l, x ∈ m) → l.length ≤ m.length
  | [], m, _, _ => Nat.zero_le _
  | a :: l, m, h, s => by
    rw [List.nodup_cons] at h
    have ha : a ∈ m := s a (List.mem_cons_self ..)
    have := nodup_le (l := l) (m := m.erase a) h.2 fun x hx => by
      have hne : x ≠ a := fun e => h.1 (e ▸ hx)
      exact (List.mem_erase_of_ne hne).mpr (s x (List.mem_cons_of_mem _ hx))
    rw [List.length_erase_of_mem ha] at this
    have hp : 0 < m.length := List.length_pos_of_mem ha
    rw [List.length_cons]
    omega
theorem nodup_same {α : Type} [DecidableEq α] {l m : List α} (h : l.Nodup) (k : m.Nodup) (e : ∀ x, x ∈ l ↔ x ∈ m) : l.length = m.length :=
  Nat.le_antisymm (nodup_le h fun x hx => (e x).mp hx) (nodup_le k fun x hx => (e x).mpr hx)
theorem nodup_bound {l : List Int} {n : Int} (hn : 0 ≤ n) (h : l.Nodup) (b : ∀ x ∈ l, 0 ≤ x ∧ x < n) : (l.length : Int) ≤ n := by
  have := nodup_le (m := (List.range n.toNat).map fun (i : Nat) => (i : Int)) h fun x hx => by
    obtain ⟨h1, h2⟩ := b x hx
    exact List.mem_map.mpr ⟨x.toNat, List.mem_range.mpr (by omega), by omega⟩
  rw [List.length_map, List.length_range] at this
  omega
theorem nodup_snoc {α : Type} {l : List α} {a : α} (h : l.Nodup) (ha : a ∉ l) : (l ++ [a]).Nodup := by
  rw [List.nodup_append]
  refine ⟨h, List.nodup_cons.mpr ⟨List.not_mem_nil, List.nodup_nil⟩, fun x hx y hy e => ?_⟩
  rw [List.mem_singleton] at hy
  subst hy
  exact ha (e ▸ hx)
/-! ### places and ways -/
def Adj (ws : List (Int × Int)) (u v : Int) : Prop := (u, v) ∈ ws ∨ (v, u) ∈ ws
inductive Reach (ws : List (Int × Int)) (s : Int) : Int → Prop
  | start : Reach ws s s
  | step {u v : Int} : Reach ws s u → Adj ws u v → Reach ws s v
def Closed (ws : List (Int × Int)) (l : List Int) : Prop := ∀ u v, u ∈ l → Adj ws u v → v ∈ l
theorem Closed.reach {ws : List (Int × Int)} {s : Int} {l : List Int} (c : Closed ws l) (h : s ∈ l) : ∀ {v}, Reach ws s v → v ∈ l := by
  intro v r
  induction r with
  | start => exact h
  | step _ a ih => exact c _ _ ih a
/-- found so far -/
structure Found (ws : List (Int × Int)) (s n : Int) (l : List Int) : Prop where
  nd : l.Nodup
  st : s ∈ l
  rc : ∀ v ∈ l, Reach ws s v
  bd : ∀ v ∈ l, 0 ≤ v ∧ v < n
theorem Found.snoc {ws : List (Int × Int)} {s n : Int} {l : List Int} {u v : Int} (f : Found ws s n l) (hu : u ∈ l) (a : Adj ws u v) (hv : v ∉ l) (hb : 0 ≤ v ∧ v < n) : Found ws s n (l ++ [v]) where
  nd := nodup_snoc f.nd hv
  st := List.mem_append_left _ f.st
  rc := fun x hx => by
    rcases List.mem_append.mp hx with h | h
    · exact f.rc x h
    · rw [List.mem_singleton.mp h]; exact (f.rc u hu).step a
  bd := fun x hx => by
    rcases List.mem_append.mp hx with h | h
    · exact f.bd x h
    · rw [List.mem_singleton.mp h]; exact hb
theorem Found.same {ws : List (Int × Int)} {s n : Int} {l m : List Int} (f : Found ws s n l) (k : Found ws s n m) (c : Closed ws l) (d : Closed ws m) : l.length = m.length :=
  nodup_same f.nd k.nd fun x => ⟨fun h => d.reach k.st (f.rc x h), fun h => c.reach f.st (k.rc x h)⟩
end Law

set_option Elab.async false
set_option linter.all false
set_option maxRecDepth 100000
set_option maxHeartbeats 4000000
namespace Air
open PySem PySem.Spec PyProof.Rows L2 MS Law
abbrev N_inner_places : List Str := ["mine", "places", "_", "inlet", "outlet", "x"]
def M_inner_places : MStm :=
  (mSeq (mAsg (mVar 0) (mgTup (mgCons (mName 1) (mgCons (mName 2) (mgCons (mName 3) (mgCons (mName 4) mgNil)))) 4))
    (mRet (mCall cTuple (mCons (mLc (mRange1 (mCons (mVar 1) mNil)) (mName 5) (mB (mBin (fIn true) (mVar 5) (mTup (mCons (mVar 3) (mCons (mVar 4) mNil))))) (mVar 5) [5]) mNil))))
def F_inner_places : DCall := den 1 6 M_inner_places
-- level 1, params ['mine'], calls []

abbrev N_ways_at : List Str := ["mine", "x", "w", "way"]
def M_ways_at : MStm :=
  (mRet (mCall cTuple (mCons (mLc (mEnum (mCons (mBin fIx (mVar 0) (mC (.int 1))) mNil)) (mgTup (mgCons (mName 2) (mgCons (mName 3) mgNil)) 2) (mB (mBin (fIn false) (mVar 1) (mVar 3))) (mVar 2) [2, 3]) mNil)))
def F_ways_at : DCall := den 2 4 M_ways_at
-- level 1, params ['mine', 'x'], calls []

abbrev N_far_end : List Str := ["mine", "w", "x", "first", "second"]
def M_far_end : MStm :=
  (mSeq (mAsg (mBin fIx (mBin fIx (mVar 0) (mC (.int 1))) (mVar 1)) (mgTup (mgCons (mName 3) (mgCons (mName 4) mgNil)) 2))
    (mRet (mIf (mB (mBin fEq (mVar 2) (mVar 3))) (mVar 4) (mVar 3))))
def F_far_end : DCall := den 3 5 M_far_end
-- level 1, params ['mine', 'w', 'x'], calls []

abbrev N_leaving_shares : List Str := ["mine", "widths", "x", "shares", "w", "end"]
def M_leaving_shares : MStm :=
  (mSeq (mAsg (mBin fMulW (mLst (mCons (mC (.int 0)) mNil)) (mBin fIx (mVar 0) (mC (.int 0)))) (mName 3))
    (mSeq (mFor (mItems (mCall F_ways_at (mCons (mVar 0) (mCons (mVar 2) mNil)))) (mName 4) (mSeq (mAsg (mCall F_far_end (mCons (mVar 0) (mCons (mVar 4) (mCons (mVar 2) mNil)))) (mName 5))
    (mSeq (mAsg (mBin fAdd (mBin fIx (mVar 3) (mVar 2)) (mBin fIx (mVar 1) (mVar 4))) (mgSub (mVar 3) (mVar 2)))
    (mAsg (mBin fSub (mBin fIx (mVar 3) (mVar 5)) (mBin fIx (mVar 1) (mVar 4))) (mgSub (mVar 3) (mVar 5))))))
    (mRet (mVar 3))))
def F_leaving_shares : DCall := den 3 6 M_leaving_shares
-- level 2, params ['mine', 'widths', 'x'], calls ['far_end', 'ways_at']

abbrev N_cleared_row : List Str := ["row", "lead", "k", "before", "here", "there"]
def M_cleared_row : MStm :=
  (mRet (mLc (mZip (mCons (mVar 0) (mCons (mVar 1) mNil))) (mgTup (mgCons (mName 4) (mgCons (mName 5) mgNil)) 2) mYes (mBin fDivW (mBin fSub (mBin fMulW (mBin fIx (mVar 1) (mVar 2)) (mVar 4)) (mBin fMulW (mBin fIx (mVar 0) (mVar 2)) (mVar 5))) (mVar 3)) [4, 5]))
def F_cleared_row : DCall := den 4 6 M_cleared_row
-- level 1, params ['row', 'lead', 'k', 'before'], calls []

abbrev N_solve_rows : List Str := ["rows", "before", "unknowns", "k", "lead", "row", "i"]
def M_solve_rows : MStm :=
  (mSeq (mAsg (mC (.int 1)) (mName 1))
    (mSeq (mAsg (mCall cLen (mCons (mVar 0) mNil)) (mName 2))
    (mSeq (mFor (mRange1 (mCons (mVar 2) mNil)) (mName 3) (mSeq (mAsg (mBin fIx (mVar 0) (mVar 3)) (mName 4))
    (mSeq (mAsg (mLc (mEnum (mCons (mVar 0) mNil)) (mgTup (mgCons (mName 6) (mgCons (mName 5) mgNil)) 2) mYes (mIf (mB (mBin fEq (mVar 6) (mVar 3))) (mVar 5) (mCall F_cleared_row (mCons (mVar 5) (mCons (mVar 4) (mCons (mVar 3) (mCons (mVar 1) mNil)))))) [6, 5]) (mName 0))
    (mAsg (mBin fIx (mVar 4) (mVar 3)) (mName 1)))))
    (mRet (mTup (mCons (mVar 1) (mCons (mLc (mItems (mVar 0)) (mName 5) mYes (mBin fIx (mVar 5) (mNeg (mC (.int 1)))) [5]) mNil)))))))
def F_solve_rows : DCall := den 1 7 M_solve_rows
-- level 2, params ['rows'], calls ['cleared_row']

abbrev N_without_divisor : List Str := ["levels", "divisor", "level"]
def M_without_divisor : MStm :=
  (mSeq (mAsg (mC (.int 0)) (mName 1))
    (mSeq (mFor (mItems (mVar 0)) (mName 2) (mAsg (mCall cGcd (mCons (mVar 1) (mCons (mVar 2) mNil))) (mName 1)))
    (mRet (mCall cTuple (mCons (mLc (mItems (mVar 0)) (mName 2) mYes (mBin fDivW (mVar 2) (mVar 1)) [2]) mNil)))))
def F_without_divisor : DCall := den 1 3 M_without_divisor
-- level 1, params ['levels'], calls []

abbrev N_levels_for : List Str := ["mine", "widths", "inner", "rows", "x", "levels", "places", "_", "inlet", "shares", "common", "solved", "level", "z"]
def M_levels_for : MStm :=
  (mSeq (mAsg (mVar 0) (mgTup (mgCons (mName 6) (mgCons (mName 7) (mgCons (mName 8) (mgCons (mName 7) mgNil)))) 4))
    (mSeq (mAsg (mCall F_inner_places (mCons (mVar 0) mNil)) (mName 2))
    (mSeq (mAsg (mLst mNil) (mName 3))
    (mSeq (mFor (mItems (mVar 2)) (mName 4) (mSeq (mAsg (mCall F_leaving_shares (mCons (mVar 0) (mCons (mVar 1) (mCons (mVar 4) mNil)))) (mName 9))
    (mDrop (mApp (mVar 3) (mCons (mBin fAdd (mLc (mItems (mVar 2)) (mName 13) mYes (mBin fIx (mVar 9) (mVar 13)) [13]) (mLst (mCons (mNeg (mBin fIx (mVar 9) (mVar 8))) mNil))) mNil)))))
    (mSeq (mAsg (mCall F_solve_rows (mCons (mVar 3) mNil)) (mgTup (mgCons (mName 10) (mgCons (mName 11) mgNil)) 2))
    (mSeq (mAsg (mBin fMulW (mLst (mCons (mC (.int 0)) mNil)) (mVar 6)) (mName 5))
    (mSeq (mAsg (mVar 10) (mgSub (mVar 5) (mVar 8)))
    (mSeq (mFor (mZip (mCons (mVar 2) (mCons (mVar 11) mNil))) (mgTup (mgCons (mName 4) (mgCons (mName 12) mgNil)) 2) (mAsg (mVar 12) (mgSub (mVar 5) (mVar 4))))
    (mRet (mCall F_without_divisor (mCons (mVar 5) mNil)))))))))))
def F_levels_for : DCall := den 2 14 M_levels_for
-- level 3, params ['mine', 'widths'], calls ['inner_places', 'leaving_shares', 'solve_rows', 'without_divisor']

abbrev N_as_fraction : List Str := ["number", "parts", "divisor"]
def M_as_fraction : MStm :=
  (mSeq (mAsg (mCall cGcd (mCons (mVar 0) (mCons (mVar 1) mNil))) (mName 2))
    (mRet (mTup (mCons (mBin fDivW (mVar 0) (mVar 2)) (mCons (mBin fDivW (mVar 1) (mVar 2)) mNil)))))
def F_as_fraction : DCall := den 2 3 M_as_fraction
-- level 1, params ['number', 'parts'], calls []

abbrev N_air_of : List Str := ["mine", "widths", "levels", "whole", "air", "w", "amount", "a", "b"]
def M_air_of : MStm :=
  (mSeq (mAsg (mCall F_levels_for (mCons (mVar 0) (mCons (mVar 1) mNil))) (mName 2))
    (mSeq (mAsg (mBin fIx (mVar 2) (mBin fIx (mVar 0) (mC (.int 2)))) (mName 3))
    (mSeq (mAsg (mLc (mEnum (mCons (mBin fIx (mVar 0) (mC (.int 1))) mNil)) (mgTup (mgCons (mName 5) (mgCons (mgTup (mgCons (mName 7) (mgCons (mName 8) mgNil)) 2) mgNil)) 2) mYes (mBin fMulW (mBin fIx (mVar 1) (mVar 5)) (mBin fSub (mBin fIx (mVar 2) (mVar 7)) (mBin fIx (mVar 2) (mVar 8)))) [5, 7, 8]) (mName 4))
    (mRet (mCall cTuple (mCons (mLc (mItems (mVar 4)) (mName 6) mYes (mCall F_as_fraction (mCons (mVar 6) (mCons (mVar 3) mNil))) [6]) mNil))))))
def F_air_of : DCall := den 2 9 M_air_of
-- level 4, params ['mine', 'widths'], calls ['as_fraction', 'levels_for']

abbrev N_air_leaving : List Str := ["mine", "widths", "levels", "x", "w"]
def M_air_leaving : MStm :=
  (mRet (mCall cSum (mCons (mLc (mItems (mCall F_ways_at (mCons (mVar 0) (mCons (mVar 3) mNil)))) (mName 4) mYes (mBin fMulW (mBin fIx (mVar 1) (mVar 4)) (mBin fSub (mBin fIx (mVar 2) (mVar 3)) (mBin fIx (mVar 2) (mCall F_far_end (mCons (mVar 0) (mCons (mVar 4) (mCons (mVar 3) mNil))))))) [4]) mNil)))
def F_air_leaving : DCall := den 4 5 M_air_leaving
-- level 2, params ['mine', 'widths', 'levels', 'x'], calls ['far_end', 'ways_at']

abbrev N_total_air : List Str := ["mine", "widths", "inlet", "levels"]
def M_total_air : MStm :=
  (mSeq (mAsg (mBin fIx (mVar 0) (mC (.int 2))) (mName 2))
    (mSeq (mAsg (mCall F_levels_for (mCons (mVar 0) (mCons (mVar 1) mNil))) (mName 3))
    (mRet (mCall F_as_fraction (mCons (mCall F_air_leaving (mCons (mVar 0) (mCons (mVar 1) (mCons (mVar 3) (mCons (mVar 2) mNil))))) (mCons (mBin fIx (mVar 3) (mVar 2)) mNil))))))
def F_total_air : DCall := den 2 4 M_total_air
-- level 4, params ['mine', 'widths'], calls ['air_leaving', 'as_fraction', 'levels_for']

abbrev N_sign_between : List Str := ["levels", "x", "y"]
def M_sign_between : MStm :=
  (mSeq (mIfS (mB (mBin fEq (mBin fIx (mVar 0) (mVar 1)) (mBin fIx (mVar 0) (mVar 2)))) (mRet (mC (.int 0))) mNx)
    (mRet (mIf (mB (mBin fGt (mBin fIx (mVar 0) (mVar 1)) (mBin fIx (mVar 0) (mVar 2)))) (mC (.int 1)) (mNeg (mC (.int 1))))))
def F_sign_between : DCall := den 3 3 M_sign_between
-- level 1, params ['levels', 'x', 'y'], calls []

abbrev N_picture_of : List Str := ["mine", "levels", "a", "b"]
def M_picture_of : MStm :=
  (mRet (mCall cTuple (mCons (mLc (mItems (mBin fIx (mVar 0) (mC (.int 1)))) (mgTup (mgCons (mName 2) (mgCons (mName 3) mgNil)) 2) mYes (mCall F_sign_between (mCons (mVar 1) (mCons (mVar 2) (mCons (mVar 3) mNil)))) [2, 3]) mNil)))
def F_picture_of : DCall := den 2 4 M_picture_of
-- level 2, params ['mine', 'levels'], calls ['sign_between']
end Air

set_option Elab.async false
set_option linter.all false
set_option maxRecDepth 100000
set_option maxHeartbeats 4000000
namespace Air
open PySem PySem.Spec PyProof.Rows L2 MS Law
local macro_rules | `(tactic| walk_at "st") => `(tactic| first
  | with_reducible refine gs_seq ?_ | with_reducible refine gs_asg ?_ | with_reducible refine gs_ret ?_ | with_reducible refine gs_retN ?_ | with_reducible refine gs_drop ?_ | with_reducible refine gs_if ?_ | with_reducible refine gs_par ?_ | with_reducible refine gs_for ?_ | with_reducible refine gs_nx ?_
  | with_reducible refine ge_cons ?_ | with_reducible refine ge_nil ?_ | with_reducible refine ge_c ?_ | with_reducible refine ge_bin ?_ | with_reducible refine ge_call ?_
  | ((with_reducible refine ge_var (d := ?d) ?h ?_); case h => exact rfl)
  | ((with_reducible refine gs_aug (d := ?d) ?h ?_); case h => exact rfl)
  | (with_reducible refine ge_tup ?_) | (with_reducible refine ge_lst ?_) | with_reducible refine ge_B ?_ | with_reducible refine ge_and ?_ | with_reducible refine ge_or ?_ | with_reducible refine ge_not ?_ | with_reducible refine ge_if ?_ | with_reducible refine ge_andV ?_ | with_reducible refine ge_orV ?_ | with_reducible refine ge_notV ?_ | with_reducible refine ge_neg ?_
  | with_reducible refine ge_sl ?_ | with_reducible refine ge_noPart ?_ | with_reducible refine ge_part ?_ | with_reducible refine ge_revT ?_ | with_reducible refine ge_app ?_ | with_reducible refine ge_lc ?_ | with_reducible refine ge_chain ?_
  | with_reducible refine gi_items ?_ | with_reducible refine gi_range1 ?_ | with_reducible refine gi_range2 ?_ | with_reducible refine gi_enum ?_
  | with_reducible refine gt_name ?_ | with_reducible refine gt_nil ?_ | with_reducible refine gt_cons ?_ | with_reducible refine gt_tup rfl ?_ | with_reducible refine gt_sub ?_
  | with_reducible refine ge_fI ?_ | with_reducible refine ge_sub ?_ | with_reducible refine ge_add ?_ | with_reducible refine ge_lt ?_ | with_reducible refine ge_le ?_ | with_reducible refine ge_gt ?_ | with_reducible refine ge_ge ?_ | with_reducible refine ge_eqI ?_ | with_reducible refine ge_neI ?_ | with_reducible refine ge_eqS ?_ | with_reducible refine ge_neS ?_
  | with_reducible refine ge_int ?_ | with_reducible refine ge_min ?_ | with_reducible refine ge_max ?_ | with_reducible refine ge_abs ?_ | with_reducible refine ge_slT ?_
  | with_reducible refine then_nx ?_ | with_reducible refine then_rt ?_
  | ((with_reducible refine ge_ixL (ds := ?ds) (d := ?dd) ?hl ?he ?_); (case hl => first | exact lat_lst (by assumption) | exact lat_fz (by assumption)); (case he => first | exact at0 | exact at1 | exact at2 | exact at3))
  | ((with_reducible refine ge_ixT (d := ?dd) ?he ?_); (case he => first | exact at0 | exact at1 | exact at2 | exact at3))
  | ((with_reducible refine ge_len (ds := ?ds) ?hl ?_); (case hl => first | exact lat_lst (by assumption) | exact lat_fz (by assumption) | exact rfl))
  | ((with_reducible refine ge_mod ?hc ?_); (case hc => first | assumption | decide | omega))
  | ((with_reducible refine ge_div ?hc ?hd ?_); (case hc => first | assumption | decide | omega); (case hd => first | assumption | decide | omega))
  | ((with_reducible refine ge_mul ?hc ?_); (case hc => first | assumption | exact i64_left rfl | exact i64_right rfl))
  | ((with_reducible refine ge_pow ?hc ?_); (case hc => decide))
  | (with_reducible refine ⟨_, rfl, ?_⟩) | (with_reducible refine ⟨_, _, rfl, ?_⟩))
/-- what stood stands -/
def All (S S' : Store) : Prop := ∀ (n : Nat) (x : MO), S[n]? = some x → S'[n]? = some x
theorem All.refl {S : Store} : All S S := fun _ _ h => h
theorem All.trans {S S' S'' : Store} (a : All S S') (b : All S' S'') : All S S'' := fun n x h => b n x (a n x h)
theorem All.app {S l : Store} : All S (S ++ l) := fun _ _ h => get_app h
theorem All.pen {S S' : Store} {p g : Nat} (a : All S S') (h : Pen S p g) : Pen S' p g := by
  obtain ⟨ns, seat, rest, hp, hg, r⟩ := h
  exact ⟨ns, seat, rest, a _ _ hp, a _ _ hg, r⟩
theorem All.len {S S' : Store} (a : All S S') : S.length ≤ S'.length := by
  cases h : S.length with
  | zero => exact Nat.zero_le _
  | succ n =>
    have hn : n < S.length := by omega
    have := (List.getElem?_eq_some_iff.mp (a n S[n] (List.getElem?_eq_getElem hn))).1
    omega
theorem All.wr {S S' : Store} {n : Nat} {x : MO} (a : All S S') (h : S.length ≤ n) : All S (S'.set n x) := fun m y e => by
  have := (List.getElem?_eq_some_iff.mp e).1
  rw [List.getElem?_set_ne (by omega)]
  exact a m y e
/-- a comprehension without a test, whose items are known -/
theorem lc_map {ok : Store → Bool} {g : MTg} {e : MExp} {ρw : Ev} {S : Store} {ds ys : List D} (hl : ys.length = ds.length) (hz : ds.length ≤ 1000) (hok : ∀ S', All S S' → ok S' = true)
    (hs : ∀ (i : Nat) (x y : D) (S' : Store), ds[i]? = some x → ys[i]? = some y → All S S' → GE (g x ρw S') fun ρ1 S1 => S1 = S' ∧ GE (e ρ1 S') fun y' S2 => y' = y ∧ All S' S2) :
    ∃ S', lcL ok g mYes e ρw S.length ds (S ++ [.lst []]) = some S' ∧ All S S' ∧ S'[S.length]? = some (.lst ys) := by
  refine lc_by (fun i S' => All S S' ∧ S'[S.length]? = some (.lst (ys.take i))) ⟨.app, get_new⟩ (fun i d S' hd ⟨h1, h2⟩ => ⟨hok _ h1, ?_⟩) fun S' ⟨h1, h2⟩ => ⟨hok _ h1, h1, by rw [← hl, List.take_length] at h2; exact h2⟩
  have hi := (List.getElem?_eq_some_iff.mp hd).1
  have hy : ys[i]? = some ys[i] := List.getElem?_eq_getElem (by omega)
  refine (hs i d _ S' hd hy h1).mono ?_
  rintro ρ1 S1 ⟨rfl, h⟩
  refine ⟨true, S1, rfl, fun _ => h.mono ?_, fun z => (by cases z)⟩
  rintro y' S2 ⟨rfl, h3⟩
  have h4 := h3 _ _ h2
  refine ⟨_, mat_lst h4, by rw [List.length_take]; show _ < 16777216; omega, (h1.trans h3).wr (Nat.le_refl _), ?_⟩
  rw [get_set h4, List.take_succ, hy]
  rfl
/-- the i-th way touches x -/
def touch (ws : List (Int × Int)) (x : Int) (i : Nat) : Bool := match ws[i]? with
  | some w => decide (w.1 = x ∨ w.2 = x)
  | none => false
def hits (ws : List (Int × Int)) (x : Int) (n : Nat) : List Int := ((List.range n).filter (touch ws x)).map fun (i : Nat) => (i : Int)
theorem hits_succ (ws : List (Int × Int)) (x : Int) (n : Nat) : hits ws x (n + 1) = if touch ws x n = true then hits ws x n ++ [(n : Int)] else hits ws x n := by
  unfold hits
  rw [List.range_succ, List.filter_append]
  by_cases h : touch ws x n = true
  · rw [if_pos h, List.filter_cons, if_pos h, List.map_append]; rfl
  · rw [if_neg h, List.filter_cons, if_neg h, List.map_append]; exact List.append_nil _
theorem hits_length (ws : List (Int × Int)) (x : Int) (n : Nat) : (hits ws x n).length ≤ n := by
  unfold hits
  rw [List.length_map]
  exact Nat.le_trans (List.length_filter_le _ _) (by rw [List.length_range]; exact Nat.le_refl _)
theorem mem_hits {ws : List (Int × Int)} {x : Int} {n : Nat} {k : Int} (h : k ∈ hits ws x n) : ∃ (i : Nat) (w : Int × Int), k = (i : Int) ∧ i < n ∧ ws[i]? = some w ∧ (w.1 = x ∨ w.2 = x) := by
  unfold hits at h
  obtain ⟨i, h1, rfl⟩ := List.mem_map.mp h
  obtain ⟨h2, h3⟩ := List.mem_filter.mp h1
  unfold touch at h3
  split at h3
  · rename_i w e
    exact ⟨i, w, rfl, List.mem_range.mp h2, e, of_decide_eq_true h3⟩
  · cases h3
theorem hits_mem {ws : List (Int × Int)} {x : Int} {i : Nat} {w : Int × Int} (e : ws[i]? = some w) (h : w.1 = x ∨ w.2 = x) : (i : Int) ∈ hits ws x ws.length := by
  unfold hits
  refine List.mem_map.mpr ⟨i, List.mem_filter.mpr ⟨List.mem_range.mpr (List.getElem?_eq_some_iff.mp e).1, ?_⟩, rfl⟩
  unfold touch
  rw [e]
  exact decide_eq_true h
theorem inD_pair (x a b : Int) : inD (.int x) [.int a, .int b] = decide (a = x ∨ b = x) := by
  show ((a == x) || ((b == x) || false)) = _
  by_cases h1 : a = x
  · subst h1; simp
  · by_cases h2 : b = x
    · subst h2; simp
    · simp [h1, h2]
/-- the comprehension [w for w, way in enumerate(ways) if x in way], its block's slots given -/
theorem lc_hits {ws : List (Int × Int)} {x : Int} {S : Store} {ρw : Ev} {sx si sw : Nat} (hz : ws.length ≤ 1000)
    (hx : ∀ a b, ((ρw.set si (some a)).set sw (some b))[sx]? = some (some (.int x))) (hi : ∀ a b, ((ρw.set si (some a)).set sw (some b))[si]? = some (some a)) (hw : ∀ a b, ((ρw.set si (some a)).set sw (some b))[sw]? = some (some b)) :
    ∃ S', lcL always (mgTup (mgCons (mName si) (mgCons (mName sw) mgNil)) 2) (mB (mBin (fIn false) (mVar sx) (mVar sw))) (mVar si) ρw S.length (enumD (ws.map pairD)) (S ++ [.lst []]) = some S' ∧ All S S' ∧ S'[S.length]? = some (.lst ((hits ws x ws.length).map D.int)) := by
  have hn : (enumD (ws.map pairD)).length = ws.length := by rw [enumD_length, List.length_map]
  refine lc_by (fun i S' => All S S' ∧ S'[S.length]? = some (.lst ((hits ws x i).map D.int))) ⟨.app, get_new⟩ (fun i d S' hd ⟨h1, h2⟩ => ⟨rfl, ?_⟩) fun S' ⟨h1, h2⟩ => ⟨rfl, h1, by rw [hn] at h2; exact h2⟩
  obtain ⟨d', e1, rfl⟩ := enumD_get hd
  rw [List.getElem?_map] at e1
  obtain ⟨w, e2, rfl⟩ := Option.map_eq_some_iff.mp e1
  refine gt_tup rfl (gt_cons (gt_name (gt_cons (gt_name (gt_nil ?_)))))
  refine ge_B (ge_bin (ge_var (hx _ _) (ge_var (hw _ _) (ge_in (ds := [.int w.1, .int w.2]) rfl rfl ?_))))
  refine ⟨_, rfl, fun hc => ?_, fun hc => ?_⟩
  · refine ge_var (hi _ _) ?_
    have hc : inD (.int x) [.int w.1, .int w.2] = true := hc
    rw [inD_pair] at hc
    have ht : touch ws x i = true := by unfold touch; rw [e2]; exact hc
    have hl := hits_length ws x i
    have hi' := (List.getElem?_eq_some_iff.mp e2).1
    refine ⟨_, mat_lst h2, by rw [List.length_map]; show _ < 16777216; omega, h1.wr (Nat.le_refl _), ?_⟩
    rw [get_set h2, hits_succ, if_pos ht, List.map_append]
    rfl
  · have hc : inD (.int x) [.int w.1, .int w.2] = false := hc
    rw [inD_pair] at hc
    have ht : ¬ touch ws x i = true := by unfold touch; rw [e2]; show ¬ decide _ = true; rw [hc]; exact Bool.false_ne_true
    refine ⟨h1, ?_⟩
    rw [hits_succ, if_neg ht]
    exact h2
theorem ways_at_gives {S : Store} {M : Mine} {x : Int} (hz : M.ways.length ≤ 1000) : GE (F_ways_at [mineD M, .int x] S) fun d S' => d = .tup ((hits M.ways x M.ways.length).map D.int) ∧ All S S' := by
  refine ge_den rfl ?_
  unfold M_ways_at mineD
  repeat walk_at "st"
  refine .inl ⟨_, rfl, ?_⟩
  obtain ⟨S', e, h1, h2⟩ := lc_hits (S := S) (x := x) (ρw := wipeD (startD 4 [.tup [.int M.places, .tup (M.ways.map pairD), .int M.inlet, .int M.outlet], .int x]) [2, 3]) (sx := 1) (si := 2) (sw := 3) hz (fun _ _ => rfl) (fun _ _ => rfl) fun _ _ => rfl
  refine ⟨S', e, ?_⟩
  repeat walk_at "st"
  refine ge_tuple (lat_lst h2) ?_
  exact ⟨rfl, h1⟩
theorem far_end_gives {S : Store} {M : Mine} {i : Nat} {w : Int × Int} {x : Int} (e : M.ways[i]? = some w) : GE (F_far_end [mineD M, .int (i : Int), .int x] S) fun d S' => d = .int (if x = w.1 then w.2 else w.1) ∧ S' = S := by
  refine ge_den rfl ?_
  unfold M_far_end mineD
  repeat walk_at "st"
  refine ge_ixT (d := pairD w) (L2.atI_nat (by rw [List.getElem?_map, e]; rfl)) ?_
  unfold Law.pairD
  repeat walk_at "st"
  refine ⟨fun h => ?_, fun h => ?_⟩
  · repeat walk_at "st"
    exact ⟨by rw [if_pos (of_decide_eq_true h)], rfl⟩
  · repeat walk_at "st"
    exact ⟨by rw [if_neg (of_decide_eq_false h)], rfl⟩
theorem inV_ints (x : Int) : ∀ l : List Int, inV (V.int x) ((l.map D.int).map toV) = decide (x ∈ l)
  | [] => by simp [inV]
  | a :: l => by
    have ih := inV_ints x l
    unfold inV at ih ⊢
    rw [List.map_cons, List.map_cons, List.any_cons, ih]
    show ((a == x) || decide (x ∈ l)) = _
    by_cases h : a = x
    · subst h; simp
    · have h' : ¬ x = a := fun z => h z.symm
      simp [h, h']
theorem inD_ints (x : Int) (l : List Int) : inD (.int x) (l.map D.int) = decide (x ∈ l) := inV_ints x l
theorem flat_ints : ∀ l : List Int, (l.map D.int).all flatD = true
  | [] => rfl
  | a :: l => by rw [List.map_cons, List.all_cons, flat_ints l]; rfl
theorem end_ok {M : Mine} (ok : MineOk M) {i : Nat} {w : Int × Int} (e : M.ways[i]? = some w) (x : Int) : 0 ≤ (if x = w.1 then w.2 else w.1) ∧ (if x = w.1 then w.2 else w.1) < M.places := by
  obtain ⟨h1, h2, _⟩ := ok.ways w (List.mem_of_getElem? e)
  split
  · exact h2
  · exact h1
end Air

set_option Elab.async false
set_option linter.all false
set_option maxRecDepth 100000
set_option maxHeartbeats 4000000
namespace Air
open PySem PySem.Spec PyProof.Rows L2 MS Law
local macro_rules | `(tactic| walk_at "st") => `(tactic| first
  | with_reducible refine gs_seq ?_ | with_reducible refine gs_asg ?_ | with_reducible refine gs_ret ?_ | with_reducible refine gs_retN ?_ | with_reducible refine gs_drop ?_ | with_reducible refine gs_if ?_ | with_reducible refine gs_par ?_ | with_reducible refine gs_for ?_ | with_reducible refine gs_nx ?_
  | with_reducible refine ge_cons ?_ | with_reducible refine ge_nil ?_ | with_reducible refine ge_c ?_ | with_reducible refine ge_bin ?_ | with_reducible refine ge_call ?_
  | ((with_reducible refine ge_var (d := ?d) ?h ?_); case h => exact rfl)
  | ((with_reducible refine gs_aug (d := ?d) ?h ?_); case h => exact rfl)
  | (with_reducible refine ge_tup ?_) | (with_reducible refine ge_lst ?_) | with_reducible refine ge_B ?_ | with_reducible refine ge_and ?_ | with_reducible refine ge_or ?_ | with_reducible refine ge_not ?_ | with_reducible refine ge_if ?_ | with_reducible refine ge_andV ?_ | with_reducible refine ge_orV ?_ | with_reducible refine ge_notV ?_ | with_reducible refine ge_neg ?_
  | with_reducible refine ge_sl ?_ | with_reducible refine ge_noPart ?_ | with_reducible refine ge_part ?_ | with_reducible refine ge_revT ?_ | with_reducible refine ge_app ?_ | with_reducible refine ge_lc ?_ | with_reducible refine ge_chain ?_
  | with_reducible refine gi_items ?_ | with_reducible refine gi_range1 ?_ | with_reducible refine gi_range2 ?_ | with_reducible refine gi_enum ?_
  | with_reducible refine gt_name ?_ | with_reducible refine gt_nil ?_ | with_reducible refine gt_cons ?_ | with_reducible refine gt_tup rfl ?_ | with_reducible refine gt_sub ?_
  | with_reducible refine ge_fI ?_ | with_reducible refine ge_sub ?_ | with_reducible refine ge_add ?_ | with_reducible refine ge_lt ?_ | with_reducible refine ge_le ?_ | with_reducible refine ge_gt ?_ | with_reducible refine ge_ge ?_ | with_reducible refine ge_eqI ?_ | with_reducible refine ge_neI ?_ | with_reducible refine ge_eqS ?_ | with_reducible refine ge_neS ?_
  | with_reducible refine ge_int ?_ | with_reducible refine ge_min ?_ | with_reducible refine ge_max ?_ | with_reducible refine ge_abs ?_ | with_reducible refine ge_slT ?_
  | with_reducible refine then_nx ?_ | with_reducible refine then_rt ?_
  | ((with_reducible refine ge_ixL (ds := ?ds) (d := ?dd) ?hl ?he ?_); (case hl => first | exact lat_lst (by assumption) | exact lat_fz (by assumption)); (case he => first | exact at0 | exact at1 | exact at2 | exact at3))
  | ((with_reducible refine ge_ixT (d := ?dd) ?he ?_); (case he => first | exact at0 | exact at1 | exact at2 | exact at3))
  | ((with_reducible refine ge_len (ds := ?ds) ?hl ?_); (case hl => first | exact lat_lst (by assumption) | exact lat_fz (by assumption) | exact rfl))
  | ((with_reducible refine ge_mod ?hc ?_); (case hc => first | assumption | decide | omega))
  | ((with_reducible refine ge_div ?hc ?hd ?_); (case hc => first | assumption | decide | omega); (case hd => first | assumption | decide | omega))
  | ((with_reducible refine ge_mul ?hc ?_); (case hc => first | assumption | exact i64_left rfl | exact i64_right rfl))
  | ((with_reducible refine ge_pow ?hc ?_); (case hc => decide))
  | (with_reducible refine ⟨_, rfl, ?_⟩) | (with_reducible refine ⟨_, _, rfl, ?_⟩))
theorem ixN_of {n : Nat} {i : Int} (h0 : 0 ≤ i) (h1 : i < n) : L2.ixN n i = some i.toNat := by
  unfold L2.ixN
  rw [if_pos h0, if_pos h1]
theorem at_ints {sh : List Int} {i : Int} (h0 : 0 ≤ i) (h1 : i < sh.length) : L2.atI (sh.map D.int) i = some (.int (sh.getD i.toNat 0)) := by
  unfold L2.atI
  rw [List.length_map, ixN_of h0 h1]
  show (sh.map D.int)[i.toNat]? = _
  have h : i.toNat < sh.length := by omega
  rw [List.getElem?_map, List.getD_eq_getElem?_getD, List.getElem?_eq_getElem h]
  rfl
theorem set_ints {sh : List Int} {j : Nat} {v : Int} : (sh.map D.int).set j (.int v) = (sh.set j v).map D.int := by
  rw [List.map_set]
/-- a comprehension with a test that reads the place alone -/
theorem lc_pick {ok : Store → Bool} {g : MTg} {t : MTst} {e : MExp} {ρw : Ev} {S : Store} {ds : List D} (keep : Nat → Bool) (val : Nat → D) (hz : ds.length ≤ 1000) (hok : ∀ S', All S S' → ok S' = true)
    (hs : ∀ (i : Nat) (x : D) (S' : Store), ds[i]? = some x → All S S' → GE (g x ρw S') fun ρ1 S1 => S1 = S' ∧ GE (t ρ1 S') fun c S2 => c = keep i ∧ S2 = S' ∧ (keep i = true → GE (e ρ1 S') fun y S3 => y = val i ∧ All S' S3)) :
    ∃ S', lcL ok g t e ρw S.length ds (S ++ [.lst []]) = some S' ∧ All S S' ∧ S'[S.length]? = some (.lst (((List.range ds.length).filter keep).map val)) := by
  refine lc_by (fun i S' => All S S' ∧ S'[S.length]? = some (.lst (((List.range i).filter keep).map val))) ⟨.app, get_new⟩ (fun i d S' hd ⟨h1, h2⟩ => ⟨hok _ h1, ?_⟩) fun S' ⟨h1, h2⟩ => ⟨hok _ h1, h1, h2⟩
  have hi := (List.getElem?_eq_some_iff.mp hd).1
  refine (hs i d S' hd h1).mono ?_
  rintro ρ1 S1 ⟨rfl, h⟩
  refine h.mono ?_
  rintro c S2 ⟨rfl, rfl, h⟩
  refine ⟨fun hc => (h hc).mono ?_, fun hc => ⟨h1, ?_⟩⟩
  · rintro y S3 ⟨rfl, h3⟩
    have h4 := h3 _ _ h2
    refine ⟨_, mat_lst h4, ?_, (h1.trans h3).wr (Nat.le_refl _), ?_⟩
    · have := List.length_filter_le keep (List.range i)
      rw [List.length_map]; rw [List.length_range] at this
      show _ < 16777216
      omega
    · rw [get_set h4, List.range_succ, List.filter_append, List.filter_cons, if_pos hc, List.map_append]
      rfl
  · rw [List.range_succ, List.filter_append, List.filter_cons, if_neg (by rw [hc]; exact Bool.false_ne_true), List.map_append]
    rw [h2]
    show some (MO.lst _) = some (MO.lst (_ ++ []))
    rw [List.append_nil]
/-- the inner places -/
def isIn (M : Mine) (i : Nat) : Bool := !decide ((i : Int) = M.inlet ∨ (i : Int) = M.outlet)
def inner (M : Mine) : List Int := ((List.range M.places.toNat).filter (isIn M)).map fun (i : Nat) => (i : Int)
theorem inner_gives {S : Store} {M : Mine} (ok : MineOk M) : GE (F_inner_places [mineD M] S) fun d S' => d = .tup ((inner M).map D.int) ∧ All S S' := by
  refine ge_den rfl ?_
  unfold M_inner_places mineD
  repeat walk_at "st"
  have hlo := ok.lo
  have hhi := ok.hi
  refine ⟨r62_of (by omega) (by omega), ?_⟩
  generalize hm : D.tup [.int M.places, .tup (M.ways.map Law.pairD), .int M.inlet, .int M.outlet] = md
  generalize hw : D.tup (M.ways.map Law.pairD) = wd
  have hlen : (rangeD 0 M.places.toNat).length = M.places.toNat := rangeD_length
  obtain ⟨S', e, h1, h2⟩ := lc_pick (ok := always) (g := mName 5) (t := mB (mBin (fIn true) (mVar 5) (mTup (mCons (mVar 3) (mCons (mVar 4) mNil))))) (e := mVar 5) (S := S)
    (ρw := [some md, some (.int M.places), some wd, some (.int M.inlet), some (.int M.outlet), none]) (ds := rangeD 0 M.places.toNat) (isIn M) (fun i => .int (i : Int)) (by rw [hlen]; omega) (fun _ _ => rfl) (fun i x S' hx ha => by
      obtain ⟨rfl, hi⟩ := range_int hx
      rw [Int.zero_add]
      refine gt_name ⟨rfl, ge_B (ge_bin (ge_var rfl (ge_tup (ge_cons (ge_var rfl (ge_cons (ge_var rfl (ge_nil ⟨by show 2 ≤ szl; decide, ge_in (ds := [.int M.inlet, .int M.outlet]) rfl rfl ?_⟩)))))))) ⟩
      refine ⟨_, rfl, ?_, rfl, fun _ => ge_var rfl ⟨rfl, .refl⟩⟩
      show (!inD (.int (i : Int)) [.int M.inlet, .int M.outlet]) = isIn M i
      rw [inD_pair]
      unfold isIn
      congr 1
      exact decide_eq_decide.mpr ⟨fun h => h.elim (fun z => .inl z.symm) fun z => .inr z.symm, fun h => h.elim (fun z => .inl z.symm) fun z => .inr z.symm⟩)
  refine ⟨S', e, ?_⟩
  repeat walk_at "st"
  refine ge_tuple (lat_lst h2) ⟨?_, h1⟩
  rw [hlen]
  unfold inner
  rw [List.map_map]
  rfl
/-- a list with a number added at a place -/
def bump (sh : List Int) (x v : Int) : List Int := sh.set x.toNat (sh.getD x.toNat 0 + v)
theorem bump_length {sh : List Int} {x v : Int} : (bump sh x v).length = sh.length := List.length_set
def shareStep (M : Mine) (ws : List Int) (x : Int) (sh : List Int) (w : Int) : List Int := match M.ways[w.toNat]? with
  | some p => bump (bump sh x (ws.getD w.toNat 0)) (if x = p.1 then p.2 else p.1) (-(ws.getD w.toNat 0))
  | none => sh
def shares (M : Mine) (ws : List Int) (x : Int) : List Int := (hits M.ways x M.ways.length).foldl (shareStep M ws x) (List.replicate M.places.toNat 0)
theorem shareStep_length {M : Mine} {ws : List Int} {x w : Int} {sh : List Int} : (shareStep M ws x sh w).length = sh.length := by
  unfold shareStep
  split
  · rw [bump_length, bump_length]
  · rfl
theorem fold_length {M : Mine} {ws : List Int} {x : Int} : ∀ (l : List Int) (sh : List Int), (l.foldl (shareStep M ws x) sh).length = sh.length
  | [], _ => rfl
  | a :: l, sh => by rw [List.foldl_cons, fold_length l, shareStep_length]
theorem shares_length {M : Mine} {ws : List Int} {x : Int} : (shares M ws x).length = M.places.toNat := by
  unfold shares; rw [fold_length, List.length_replicate]
def widthsD (ws : List Int) : D := .tup (ws.map D.int)
theorem shares_gives {S : Store} {M : Mine} {ws : List Int} {x : Int} (ok : MineOk M) (hz : M.ways.length ≤ 1000) (hw : ws.length = M.ways.length) (hx : 0 ≤ x ∧ x < M.places) :
    GE (F_leaving_shares [mineD M, widthsD ws, .int x] S) fun d S' => ∃ q, d = .lr q ∧ S.length ≤ q ∧ S'[q]? = some (.lst ((shares M ws x).map D.int)) ∧ All S S' := by
  refine ge_den rfl ?_
  unfold M_leaving_shares
  have hlo := ok.lo
  have hhi := ok.hi
  refine gs_seq (gs_asg (ge_bin (ge_lst (ge_cons (ge_c (ge_nil ⟨by show 1 ≤ szl; decide, ?_⟩))))))
  refine ge_bin (ge_var rfl (ge_c (ge_ixT (d := .int M.places) at0 ?_)))
  refine ge_mulL (ds := [.int 0]) (mat_lst get_new) (by omega) (by omega) (by show _ ≤ 16777216; simp; omega) (gt_name (then_nx ?_))
  have hrep : repD [.int 0] M.places = (List.replicate M.places.toNat (0 : Int)).map D.int := by
    unfold repD
    rw [List.map_replicate]
    generalize M.places.toNat = k
    induction k with
    | zero => rfl
    | succ k ih => rw [List.replicate_succ, List.replicate_succ, List.flatten_cons, ih]; rfl
  rw [hrep]
  have h0 : (S ++ [MO.lst [D.int 0]] ++ [.lst ((List.replicate M.places.toNat (0 : Int)).map D.int)])[(S ++ [MO.lst [D.int 0]]).length]? = some (.lst ((List.replicate M.places.toNat (0 : Int)).map D.int)) := get_new
  have ha0 : All S (S ++ [MO.lst [D.int 0]] ++ [.lst ((List.replicate M.places.toNat (0 : Int)).map D.int)]) := All.app.trans .app
  have hq0 : S.length ≤ (S ++ [MO.lst [D.int 0]]).length := by rw [List.length_append]; omega
  generalize (S ++ [MO.lst [D.int 0]] ++ [.lst ((List.replicate M.places.toNat (0 : Int)).map D.int)]) = S0 at h0 ha0 ⊢
  generalize (S ++ [MO.lst [D.int 0]]).length = q at h0 hq0 ⊢
  refine gs_seq (gs_for (gi_items (ge_call (ge_cons (ge_var rfl (ge_cons (ge_var rfl (ge_nil ?_))))))))
  refine (ways_at_gives hz).mono ?_
  rintro _ S1 ⟨rfl, ha1⟩
  refine .inl ⟨_, rfl, ?_⟩
  have hlen : ((hits M.ways x M.ways.length).map D.int).length = (hits M.ways x M.ways.length).length := List.length_map ..
  refine gs_forL (fun i ρ S' => ∃ (x4 x5 : Option D), ρ = [some (mineD M), some (widthsD ws), some (.int x), some (.lr q), x4, x5] ∧ All S S' ∧
    S'[q]? = some (.lst ((((hits M.ways x M.ways.length).take i).foldl (shareStep M ws x) (List.replicate M.places.toNat 0)).map D.int))) ⟨none, none, rfl, ha0.trans ha1, ha1 _ _ h0⟩ ?_ ?_
  · rintro i d ρ S' hd ⟨x4, x5, rfl, ha, hq⟩
    refine ⟨rfl, ?_⟩
    rw [List.getElem?_map] at hd
    obtain ⟨k, hk, rfl⟩ := Option.map_eq_some_iff.mp hd
    obtain ⟨j, p, rfl, hj, hp, htch⟩ := mem_hits (List.mem_of_getElem? hk)
    have hjw : (j : Int) < ws.length := by omega
    obtain ⟨he0, he1⟩ := end_ok ok hp x
    refine gt_name (gs_seq (gs_asg (ge_call (ge_cons (ge_var rfl (ge_cons (ge_var rfl (ge_cons (ge_var rfl (ge_nil ?_))))))))))
    refine (far_end_gives hp).mono ?_
    rintro _ S2 ⟨rfl, rfl⟩
    refine gt_name (then_nx ?_)
    rw [List.take_add_one, hk, List.foldl_append]
    generalize hsh : ((hits M.ways x M.ways.length).take i).foldl (shareStep M ws x) (List.replicate M.places.toNat 0) = sh at hq ⊢
    have hshl : sh.length = M.places.toNat := by rw [← hsh, fold_length, List.length_replicate]
    generalize hen : (if x = p.1 then p.2 else p.1) = en at he0 he1 ⊢
    have hst : [(j : Int)].foldl (shareStep M ws x) sh = bump (bump sh x (ws.getD j 0)) en (-(ws.getD j 0)) := by
      show shareStep M ws x sh (j : Int) = _
      unfold shareStep
      rw [Int.toNat_natCast, hp]
      show bump _ (if x = p.1 then p.2 else p.1) _ = _
      rw [hen]
    have hwj : L2.atI (ws.map D.int) (j : Int) = some (.int (ws.getD j 0)) := by rw [at_ints (by omega) hjw, Int.toNat_natCast]
    refine gs_seq (gs_asg (ge_bin (ge_bin (ge_var rfl (ge_var rfl ?_)))))
    refine ge_ixL (lat_lst hq) (at_ints hx.1 (by omega)) (ge_bin (ge_var rfl (ge_var rfl (ge_ixT hwj (ge_add ?_)))))
    refine gt_sub (ge_var rfl (ge_var rfl ⟨q, x, _, x.toNat, rfl, rfl, mat_lst hq, by rw [List.length_map]; exact ixN_of hx.1 (by omega), then_nx ?_⟩))
    rw [set_ints]
    have hq2 : (S2.set q (.lst ((sh.set x.toNat (sh.getD x.toNat 0 + ws.getD j 0)).map D.int)))[q]? = some (.lst ((bump sh x (ws.getD j 0)).map D.int)) := get_set hq
    have ha2 : All S (S2.set q (.lst ((sh.set x.toNat (sh.getD x.toNat 0 + ws.getD j 0)).map D.int))) := ha.wr hq0
    generalize S2.set q (.lst ((sh.set x.toNat (sh.getD x.toNat 0 + ws.getD j 0)).map D.int)) = S3 at hq2 ha2 ⊢
    have hbl : (bump sh x (ws.getD j 0)).length = M.places.toNat := by rw [bump_length, hshl]
    refine gs_asg (ge_bin (ge_bin (ge_var rfl (ge_var rfl ?_))))
    refine ge_ixL (lat_lst hq2) (at_ints he0 (by omega)) (ge_bin (ge_var rfl (ge_var rfl (ge_ixT hwj (ge_sub ?_)))))
    refine gt_sub (ge_var rfl (ge_var rfl ⟨q, en, _, en.toNat, rfl, rfl, mat_lst hq2, by rw [List.length_map]; exact ixN_of he0 (by omega), .inl rfl, _, _, rfl, ha2.wr hq0, ?_⟩))
    rw [set_ints, show (some (j : Int)).toList = [(j : Int)] from rfl, hst, Int.sub_eq_add_neg]
    exact get_set hq2
  · rintro ρ S' ⟨x4, x5, rfl, ha, hq⟩
    refine ⟨rfl, then_nx (gs_ret (ge_var rfl ⟨q, rfl, hq0, ?_, ha⟩))⟩
    rw [hlen, List.take_length] at hq
    exact hq
end Air

set_option Elab.async false
set_option linter.all false
set_option maxRecDepth 100000
set_option maxHeartbeats 4000000
namespace Air
open PySem PySem.Spec PyProof.Rows L2 MS Law
local macro_rules | `(tactic| walk_at "st") => `(tactic| first
  | with_reducible refine gs_seq ?_ | with_reducible refine gs_asg ?_ | with_reducible refine gs_ret ?_ | with_reducible refine gs_retN ?_ | with_reducible refine gs_drop ?_ | with_reducible refine gs_if ?_ | with_reducible refine gs_par ?_ | with_reducible refine gs_for ?_ | with_reducible refine gs_nx ?_
  | with_reducible refine ge_cons ?_ | with_reducible refine ge_nil ?_ | with_reducible refine ge_c ?_ | with_reducible refine ge_bin ?_ | with_reducible refine ge_call ?_
  | ((with_reducible refine ge_var (d := ?d) ?h ?_); case h => exact rfl)
  | ((with_reducible refine gs_aug (d := ?d) ?h ?_); case h => exact rfl)
  | (with_reducible refine ge_tup ?_) | (with_reducible refine ge_lst ?_) | with_reducible refine ge_B ?_ | with_reducible refine ge_and ?_ | with_reducible refine ge_or ?_ | with_reducible refine ge_not ?_ | with_reducible refine ge_if ?_ | with_reducible refine ge_andV ?_ | with_reducible refine ge_orV ?_ | with_reducible refine ge_notV ?_ | with_reducible refine ge_neg ?_
  | with_reducible refine ge_sl ?_ | with_reducible refine ge_noPart ?_ | with_reducible refine ge_part ?_ | with_reducible refine ge_revT ?_ | with_reducible refine ge_app ?_ | with_reducible refine ge_lc ?_ | with_reducible refine ge_chain ?_
  | with_reducible refine gi_items ?_ | with_reducible refine gi_range1 ?_ | with_reducible refine gi_range2 ?_ | with_reducible refine gi_enum ?_
  | with_reducible refine gt_name ?_ | with_reducible refine gt_nil ?_ | with_reducible refine gt_cons ?_ | with_reducible refine gt_tup rfl ?_ | with_reducible refine gt_sub ?_
  | with_reducible refine ge_fI ?_ | with_reducible refine ge_sub ?_ | with_reducible refine ge_add ?_ | with_reducible refine ge_lt ?_ | with_reducible refine ge_le ?_ | with_reducible refine ge_gt ?_ | with_reducible refine ge_ge ?_ | with_reducible refine ge_eqI ?_ | with_reducible refine ge_neI ?_ | with_reducible refine ge_eqS ?_ | with_reducible refine ge_neS ?_
  | with_reducible refine ge_int ?_ | with_reducible refine ge_min ?_ | with_reducible refine ge_max ?_ | with_reducible refine ge_abs ?_ | with_reducible refine ge_slT ?_
  | with_reducible refine then_nx ?_ | with_reducible refine then_rt ?_
  | ((with_reducible refine ge_ixL (ds := ?ds) (d := ?dd) ?hl ?he ?_); (case hl => first | exact lat_lst (by assumption) | exact lat_fz (by assumption)); (case he => first | exact at0 | exact at1 | exact at2 | exact at3))
  | ((with_reducible refine ge_ixT (d := ?dd) ?he ?_); (case he => first | exact at0 | exact at1 | exact at2 | exact at3))
  | ((with_reducible refine ge_len (ds := ?ds) ?hl ?_); (case hl => first | exact lat_lst (by assumption) | exact lat_fz (by assumption) | exact rfl))
  | ((with_reducible refine ge_mod ?hc ?_); (case hc => first | assumption | decide | omega))
  | ((with_reducible refine ge_div ?hc ?hd ?_); (case hc => first | assumption | decide | omega); (case hd => first | assumption | decide | omega))
  | ((with_reducible refine ge_mul ?hc ?_); (case hc => first | assumption | exact i64_left rfl | exact i64_right rfl))
  | ((with_reducible refine ge_pow ?hc ?_); (case hc => decide))
  | (with_reducible refine ⟨_, rfl, ?_⟩) | (with_reducible refine ⟨_, _, rfl, ?_⟩))
theorem still_lst {S : Store} {n : Nat} {ds : List D} (h : S[n]? = some (.lst ds)) : still n ds S = true := still_of (lat_lst h)
theorem getD_of {l : List Int} {i : Nat} {x : Int} (h : l[i]? = some x) : l.getD i 0 = x := by
  rw [List.getD_eq_getElem?_getD, h]; rfl
theorem getD_mem {l : List Int} {i : Nat} (h : i < l.length) : l.getD i 0 ∈ l := by
  rw [List.getD_eq_getElem?_getD, List.getElem?_eq_getElem h]; exact List.getElem_mem h
/-- one row without its part at k -/
def cleared (row lead : List Int) (k : Nat) (before : Int) : List Int := List.zipWith (fun here there => (lead.getD k 0 * here - row.getD k 0 * there) / before) row lead
def Wds (l : List Int) : Prop := ∀ z ∈ l, wd z
theorem cleared_length {row lead : List Int} {k : Nat} {b : Int} (h : row.length = lead.length) : (cleared row lead k b).length = row.length := by
  unfold cleared; rw [List.length_zipWith]; omega
theorem cleared_gives {S : Store} {a b : Nat} {row lead : List Int} {k : Nat} {before : Int} (ha : S[a]? = some (.lst (row.map D.int))) (hb : S[b]? = some (.lst (lead.map D.int))) (hl : row.length = lead.length) (hz : row.length ≤ 1000) (hk : k < row.length)
    (h0 : 0 < before) (hw : wd before) (wr : Wds row) (wl : Wds lead) :
    GE (F_cleared_row [.lr a, .lr b, .int (k : Int), .int before] S) fun d S' => ∃ q, d = .lr q ∧ S.length ≤ q ∧ S'[q]? = some (.lst ((cleared row lead k before).map D.int)) ∧ All S S' := by
  refine ge_den rfl ?_
  unfold M_cleared_row
  refine gs_ret (ge_lc (gi_zipL (ge_cons (ge_var rfl (ge_cons (ge_var rfl (ge_nil ⟨a, _, b, _, rfl, lat_lst ha, lat_lst hb, ?_⟩)))))))
  have hzl : (zipD (row.map D.int) (lead.map D.int)).length = row.length := by unfold zipD; rw [List.length_zipWith, List.length_map, List.length_map]; omega
  obtain ⟨S', e, h1, h2⟩ := lc_map (ok := fun S => still a (row.map D.int) S && still b (lead.map D.int) S) (g := mgTup (mgCons (mName 4) (mgCons (mName 5) mgNil)) 2)
    (e := mBin fDivW (mBin fSub (mBin fMulW (mBin fIx (mVar 1) (mVar 2)) (mVar 4)) (mBin fMulW (mBin fIx (mVar 0) (mVar 2)) (mVar 5))) (mVar 3))
    (ρw := [some (.lr a), some (.lr b), some (.int (k : Int)), some (.int before), none, none]) (S := S) (ds := zipD (row.map D.int) (lead.map D.int)) (ys := (cleared row lead k before).map D.int)
    (by rw [hzl, List.length_map, cleared_length hl]) (by rw [hzl]; exact hz) (fun S' h => by rw [still_lst (h _ _ ha), still_lst (h _ _ hb)]; rfl) (fun i x y S' hx hy hS => by
      obtain ⟨d1, d2, e1, e2, rfl⟩ := zipD_get hx
      rw [List.getElem?_map] at e1 e2
      obtain ⟨u, f1, rfl⟩ := Option.map_eq_some_iff.mp e1
      obtain ⟨v, f2, rfl⟩ := Option.map_eq_some_iff.mp e2
      rw [List.getElem?_map] at hy
      obtain ⟨z, hz, rfl⟩ := Option.map_eq_some_iff.mp hy
      unfold cleared at hz
      rw [List.getElem?_zipWith, f1, f2] at hz
      have hz : (lead.getD k 0 * u - row.getD k 0 * v) / before = z := Option.some.inj hz
      refine gt_tup rfl (gt_cons (gt_name (gt_cons (gt_name (gt_nil ⟨rfl, ?_⟩)))))
      have hkl : (k : Int) < lead.length := by omega
      have hkr : (k : Int) < row.length := by omega
      refine ge_bin (ge_bin (ge_bin (ge_bin (ge_var rfl (ge_var rfl (ge_ixL (lat_lst (hS _ _ hb)) (at_ints (by omega) hkl) (ge_var rfl ?_)))))))
      rw [Int.toNat_natCast]
      refine ge_mulW ((wl _ (getD_mem (by omega))).narrow (wr _ (List.mem_of_getElem? f1))) ?_
      refine ge_bin (ge_bin (ge_var rfl (ge_var rfl (ge_ixL (lat_lst (hS _ _ ha)) (at_ints (by omega) hkr) (ge_var rfl ?_)))))
      rw [Int.toNat_natCast]
      refine ge_mulW ((wr _ (getD_mem (by omega))).narrow (wl _ (List.mem_of_getElem? f2))) ?_
      refine ge_sub (ge_var rfl (ge_divW h0 hw ⟨?_, .refl⟩))
      rw [hz])
  exact ⟨S', e, S.length, rfl, Nat.le_refl _, h2, h1⟩
/-- rows of numbers by their handles -/
structure RowsAt (S : Store) (r : Nat) (R : List (List Int)) : Prop where
  ex : ∃ qs : List Nat, S[r]? = some (.lst (qs.map D.lr)) ∧ qs.length = R.length ∧ (∀ q ∈ qs, q ≠ r) ∧ ∀ (i q : Nat) (row : List Int), qs[i]? = some q → R[i]? = some row → S[q]? = some (.lst (row.map D.int))
theorem RowsAt.mono {S S' : Store} {r : Nat} {R : List (List Int)} (h : RowsAt S r R) (a : All S S') : RowsAt S' r R := by
  obtain ⟨qs, h1, h2, h3, h4⟩ := h
  exact ⟨qs, a _ _ h1, h2, h3, fun i q row e1 e2 => a _ _ (h4 i q row e1 e2)⟩
def stepRows (R : List (List Int)) (k : Nat) (before : Int) : List (List Int) := R.mapIdx fun i row => if i = k then row else cleared row (R.getD k []) k before
def turnR (st : List (List Int) × Int) (k : Nat) : List (List Int) × Int := (stepRows st.1 k st.2, (st.1.getD k []).getD k 0)
def runR (R : List (List Int)) (k : Nat) : List (List Int) × Int := (List.range k).foldl turnR (R, 1)
theorem runR_succ {R : List (List Int)} {k : Nat} : runR R (k + 1) = turnR (runR R k) k := by
  unfold runR
  rw [List.range_succ, List.foldl_append]
  rfl
theorem runR_length {R : List (List Int)} : ∀ k, (runR R k).1.length = R.length
  | 0 => rfl
  | k + 1 => by
    rw [runR_succ]
    show (stepRows _ _ _).length = _
    unfold stepRows
    rw [List.length_mapIdx]
    exact runR_length k
structure Fine (n : Nat) (st : List (List Int) × Int) : Prop where
  pos : 0 < st.2
  wide : wd st.2
  rows : ∀ row ∈ st.1, row.length = n + 1 ∧ Wds row
theorem solve_gives {S : Store} {r : Nat} {R : List (List Int)} (h : RowsAt S r R) (hn : R.length ≤ 900) (hF : ∀ k ≤ R.length, Fine R.length (runR R k)) :
    GE (F_solve_rows [.lr r] S) fun d S' => ∃ q, d = .tup [.int (runR R R.length).2, .lr q] ∧ S'[q]? = some (.lst (((runR R R.length).1.map fun row => row.getD R.length 0).map D.int)) ∧ All S S' := by
  refine ge_den rfl ?_
  unfold M_solve_rows
  obtain ⟨qs, h1, h2, h3, h4⟩ := h
  refine gs_seq (gs_asg (ge_c (gt_name (then_nx (gs_seq (gs_asg (ge_call (ge_cons (ge_var rfl (ge_nil (ge_len (lat_lst h1) (gt_name (then_nx ?_)))))))))))))
  rw [List.length_map, h2]
  refine gs_seq (gs_for (gi_range1 (ge_cons (ge_var rfl (ge_nil ⟨_, rfl, r62_of (by omega) (by omega), ?_⟩)))))
  rw [Int.toNat_natCast]
  refine gs_forL (fun k ρ S' => ∃ (r' : Nat) (x3 x4 x5 x6 : Option D), ρ = [some (.lr r'), some (.int (runR R k).2), some (.int (R.length : Int)), x3, x4, x5, x6] ∧ All S S' ∧ RowsAt S' r' (runR R k).1)
    ⟨r, none, none, none, none, rfl, .refl, ⟨qs, h1, h2, h3, h4⟩⟩ ?_ ?_
  · rintro k d ρ S1 hd ⟨r', x3, x4, x5, x6, rfl, ha, hR⟩
    refine ⟨rfl, ?_⟩
    obtain ⟨rfl, hk⟩ := range_int hd
    rw [Int.zero_add]
    have F := hF k (by omega)
    obtain ⟨qs, g1, g2, g3, g4⟩ := hR
    rw [runR_length] at g2
    have hkq : k < qs.length := by omega
    have hkR : k < (runR R k).1.length := by rw [runR_length]; exact hk
    have eq_k : qs[k]? = some qs[k] := List.getElem?_eq_getElem hkq
    have eR_k : (runR R k).1[k]? = some (runR R k).1[k] := List.getElem?_eq_getElem hkR
    generalize qs[k] = qk at eq_k
    generalize hld : (runR R k).1[k] = lead at eR_k
    have g5 := g4 _ _ _ eq_k eR_k
    have F5 := F.rows lead (List.mem_of_getElem? eR_k)
    refine gt_name (gs_seq (gs_asg (ge_bin (ge_var rfl (ge_var rfl (ge_ixL (d := .lr qk) (lat_lst g1) (L2.atI_nat (by rw [List.getElem?_map, eq_k]; rfl)) (gt_name (then_nx (gs_seq (gs_asg (ge_lc (gi_enum (ge_cons (ge_var rfl (ge_nil (.inr ⟨r', _, rfl, lat_lst g1, ?_⟩))))))))))))))))
    have hen : (enumD (qs.map D.lr)).length = R.length := by rw [enumD_length, List.length_map, g2]
    -- the rows anew
    have lc : ∃ S', lcL (still r' (qs.map D.lr)) (mgTup (mgCons (mName 6) (mgCons (mName 5) mgNil)) 2) mYes (mIf (mB (mBin fEq (mVar 6) (mVar 3))) (mVar 5) (mCall F_cleared_row (mCons (mVar 5) (mCons (mVar 4) (mCons (mVar 3) (mCons (mVar 1) mNil))))))
        [some (.lr r'), some (.int (runR R k).2), some (.int (R.length : Int)), some (.int (k : Int)), some (.lr qk), none, none] S1.length (enumD (qs.map D.lr)) (S1 ++ [.lst []]) = some S' ∧ (All S1 S' ∧ RowsAt S' S1.length (stepRows (runR R k).1 k (runR R k).2)) := by
      refine lc_by (fun i S' => All S1 S' ∧ RowsAt S' S1.length ((stepRows (runR R k).1 k (runR R k).2).take i)) ⟨.app, ⟨[], get_new, rfl, fun q hq => absurd hq (List.not_mem_nil), fun i q row e => (by simp at e)⟩⟩ (fun i d S2 hd ⟨a2, b2⟩ => ⟨still_lst (a2 _ _ g1), ?_⟩) fun S2 ⟨a2, b2⟩ => ⟨still_lst (a2 _ _ g1), a2, ?_⟩
      · obtain ⟨d', e1, rfl⟩ := enumD_get hd
        rw [List.getElem?_map] at e1
        obtain ⟨qi, e2, rfl⟩ := Option.map_eq_some_iff.mp e1
        have hi : i < qs.length := (List.getElem?_eq_some_iff.mp e2).1
        have hiR : i < (runR R k).1.length := by rw [runR_length]; omega
        have eR_i : (runR R k).1[i]? = some (runR R k).1[i] := List.getElem?_eq_getElem hiR
        generalize (runR R k).1[i] = row at eR_i
        have g6 := g4 _ _ _ e2 eR_i
        have F6 := F.rows row (List.mem_of_getElem? eR_i)
        have eS : (stepRows (runR R k).1 k (runR R k).2)[i]? = some (if i = k then row else cleared row lead k (runR R k).2) := by
          unfold stepRows
          rw [List.getElem?_mapIdx, eR_i]
          show some (if i = k then row else cleared row ((runR R k).1.getD k []) k (runR R k).2) = _
          rw [List.getD_eq_getElem?_getD, eR_k]
          rfl
        -- what is appended
        have put : ∀ (S3 : Store) (q : Nat), All S2 S3 → q ≠ S1.length → S3[q]? = some (.lst ((if i = k then row else cleared row lead k (runR R k).2).map D.int)) →
            ∃ acc, mat S3 S1.length = some acc ∧ acc.length < szl ∧ All S1 (S3.set S1.length (.lst (acc ++ [.lr q]))) ∧ RowsAt (S3.set S1.length (.lst (acc ++ [.lr q]))) S1.length ((stepRows (runR R k).1 k (runR R k).2).take (i + 1)) := by
          intro S3 q a3 hne hq
          obtain ⟨ps, p1, p2, p3, p4⟩ := b2
          have p5 := a3 _ _ p1
          have hps : ps.length = i := by
            rw [p2, List.length_take]
            unfold stepRows
            rw [List.length_mapIdx, runR_length]
            omega
          refine ⟨_, mat_lst p5, by rw [List.length_map]; show _ < 16777216; omega, (a2.trans a3).wr (Nat.le_refl _), ⟨ps ++ [q], ?_, ?_, ?_, ?_⟩⟩
          · rw [get_set p5, List.map_append]; rfl
          · rw [List.length_append, p2, List.take_add_one, eS, List.length_append]; rfl
          · intro x hx
            rcases List.mem_append.mp hx with hx | hx
            · exact p3 x hx
            · rw [List.mem_singleton.mp hx]; exact hne
          · intro j x y ej ey
            rw [List.take_add_one, eS] at ey
            by_cases hj : j < ps.length
            · rw [List.getElem?_append_left hj] at ej
              rw [List.getElem?_append_left (by rw [← p2]; exact hj)] at ey
              have := a3 _ _ (p4 j x y ej ey)
              rw [get_ne (fun z => p3 x (List.mem_of_getElem? ej) z.symm)]
              exact this
            · have hj' : j = ps.length := by
                have := (List.getElem?_eq_some_iff.mp ej).1
                rw [List.length_append] at this
                simp at this
                omega
              subst hj'
              rw [List.getElem?_append_right (Nat.le_refl _)] at ej
              rw [List.getElem?_append_right (by rw [← p2]; exact Nat.le_refl _), ← p2] at ey
              simp at ej ey
              subst ej ey
              rw [get_ne (fun z => hne z.symm)]
              exact hq
        refine gt_tup rfl (gt_cons (gt_name (gt_cons (gt_name (gt_nil ⟨true, S2, rfl, fun _ => ?_, fun z => (by cases z)⟩)))))
        refine ge_if (ge_B (ge_bin (ge_var rfl (ge_var rfl (ge_eqI ⟨_, rfl, fun hc => ?_, fun hc => ?_⟩)))))
        · have hc : i = k := by have := of_decide_eq_true hc; omega
          have hne : qi ≠ S1.length := by have := (List.getElem?_eq_some_iff.mp g6).1; omega
          exact ge_var rfl (put S2 qi .refl hne (by rw [if_pos hc]; exact a2 _ _ g6))
        · have hc : ¬ i = k := by have := of_decide_eq_false hc; omega
          refine ge_call (ge_cons (ge_var rfl (ge_cons (ge_var rfl (ge_cons (ge_var rfl (ge_cons (ge_var rfl (ge_nil ?_)))))))))
          refine (cleared_gives (a2 _ _ g6) (a2 _ _ g5) (by rw [F6.1, F5.1]) (by rw [F6.1]; omega) (by rw [F6.1]; omega) F.pos F.wide F6.2 F5.2).mono ?_
          rintro _ S3 ⟨q, rfl, hq, e3, a3⟩
          have hlen2 := a2.len
          obtain ⟨ps, p1, _⟩ := b2
          have hp1 := (List.getElem?_eq_some_iff.mp p1).1
          exact put S3 q a3 (by omega) (by rw [if_neg hc]; exact e3)
      · rw [hen] at b2
        rw [List.take_of_length_le (by unfold stepRows; rw [List.length_mapIdx, runR_length]; exact Nat.le_refl _)] at b2
        exact b2
    obtain ⟨S', e, a', b'⟩ := lc
    refine ⟨S', e, gt_name (then_nx (gs_asg (ge_bin (ge_var rfl (ge_var rfl ?_)))))⟩
    refine ge_ixL (lat_lst (a' _ _ g5)) (at_ints (by omega) (by rw [F5.1]; omega)) (gt_name ⟨.inl rfl, S1.length, some (.int (k : Int)), some (.lr qk), x5, x6, ?_, ha.trans a', ?_⟩)
    · rw [runR_succ, Int.toNat_natCast]
      show _ = [some (D.lr S1.length), some (D.int (((runR R k).1.getD k []).getD k 0)), some (D.int (R.length : Int)), some (D.int (k : Int)), some (D.lr qk), x5, x6]
      rw [List.getD_eq_getElem?_getD (l := (runR R k).1), eR_k]
      rfl
    · rw [runR_succ]; exact b'
  · rintro ρ S1 ⟨r', x3, x4, x5, x6, rfl, ha, hR⟩
    refine ⟨rfl, then_nx ?_⟩
    rw [rangeD_length] at hR ⊢
    have F := hF R.length (Nat.le_refl _)
    obtain ⟨qs, g1, g2, g3, g4⟩ := hR
    rw [runR_length] at g2
    refine gs_ret (ge_tup (ge_cons (ge_var rfl (ge_cons (ge_lc (gi_items (ge_var rfl (.inr ⟨r', _, rfl, lat_lst g1, ?_⟩))))))))
    obtain ⟨S', e, h5, h6⟩ := lc_map (ok := still r' (qs.map D.lr)) (g := mName 5) (e := mBin fIx (mVar 5) (mNeg (mC (.int 1)))) (ρw := [some (.lr r'), some (.int (runR R R.length).2), some (.int (R.length : Int)), x3, x4, none, x6]) (S := S1) (ds := qs.map D.lr)
      (ys := ((runR R R.length).1.map fun row => row.getD R.length 0).map D.int) (by rw [List.length_map, List.length_map, List.length_map, runR_length, g2]) (by rw [List.length_map]; omega) (fun S' h => still_lst (h _ _ g1)) (fun i x y S' hx hy hS => by
        rw [List.getElem?_map] at hx
        obtain ⟨q, e1, rfl⟩ := Option.map_eq_some_iff.mp hx
        rw [List.getElem?_map, List.getElem?_map] at hy
        obtain ⟨z, e2, rfl⟩ := Option.map_eq_some_iff.mp hy
        obtain ⟨row, e3, rfl⟩ := Option.map_eq_some_iff.mp e2
        have hl := (F.rows row (List.mem_of_getElem? e3)).1
        refine gt_name ⟨rfl, ge_bin (ge_var rfl (ge_neg (ge_c ⟨1, rfl, ge_ixL (d := .int (row.getD R.length 0)) (lat_lst (hS _ _ (g4 _ _ _ e1 e3))) ?_ ⟨rfl, .refl⟩⟩)))⟩
        unfold L2.atI L2.ixN
        rw [List.length_map, hl, if_neg (by omega), if_pos (by omega)]
        show (row.map D.int)[((-1 : Int) + ((R.length + 1 : Nat) : Int)).toNat]? = _
        rw [show ((-1 : Int) + ((R.length + 1 : Nat) : Int)).toNat = R.length by omega, List.getElem?_map, List.getD_eq_getElem?_getD, List.getElem?_eq_getElem (by omega)]
        rfl)
    refine ⟨S', e, ge_nil ⟨by show 2 ≤ szl; decide, _, rfl, h6, ha.trans h5⟩⟩
end Air

set_option Elab.async false
set_option linter.all false
set_option maxRecDepth 100000
set_option maxHeartbeats 4000000
namespace Air
open PySem PySem.Spec PyProof.Rows L2 MS Law
local macro_rules | `(tactic| walk_at "st") => `(tactic| first
  | with_reducible refine gs_seq ?_ | with_reducible refine gs_asg ?_ | with_reducible refine gs_ret ?_ | with_reducible refine gs_retN ?_ | with_reducible refine gs_drop ?_ | with_reducible refine gs_if ?_ | with_reducible refine gs_par ?_ | with_reducible refine gs_for ?_ | with_reducible refine gs_nx ?_
  | with_reducible refine ge_cons ?_ | with_reducible refine ge_nil ?_ | with_reducible refine ge_c ?_ | with_reducible refine ge_bin ?_ | with_reducible refine ge_call ?_
  | ((with_reducible refine ge_var (d := ?d) ?h ?_); case h => exact rfl)
  | ((with_reducible refine gs_aug (d := ?d) ?h ?_); case h => exact rfl)
  | (with_reducible refine ge_tup ?_) | (with_reducible refine ge_lst ?_) | with_reducible refine ge_B ?_ | with_reducible refine ge_and ?_ | with_reducible refine ge_or ?_ | with_reducible refine ge_not ?_ | with_reducible refine ge_if ?_ | with_reducible refine ge_andV ?_ | with_reducible refine ge_orV ?_ | with_reducible refine ge_notV ?_ | with_reducible refine ge_neg ?_
  | with_reducible refine ge_sl ?_ | with_reducible refine ge_noPart ?_ | with_reducible refine ge_part ?_ | with_reducible refine ge_revT ?_ | with_reducible refine ge_app ?_ | with_reducible refine ge_lc ?_ | with_reducible refine ge_chain ?_
  | with_reducible refine gi_items ?_ | with_reducible refine gi_range1 ?_ | with_reducible refine gi_range2 ?_ | with_reducible refine gi_enum ?_
  | with_reducible refine gt_name ?_ | with_reducible refine gt_nil ?_ | with_reducible refine gt_cons ?_ | with_reducible refine gt_tup rfl ?_ | with_reducible refine gt_sub ?_
  | with_reducible refine ge_fI ?_ | with_reducible refine ge_sub ?_ | with_reducible refine ge_add ?_ | with_reducible refine ge_lt ?_ | with_reducible refine ge_le ?_ | with_reducible refine ge_gt ?_ | with_reducible refine ge_ge ?_ | with_reducible refine ge_eqI ?_ | with_reducible refine ge_neI ?_ | with_reducible refine ge_eqS ?_ | with_reducible refine ge_neS ?_
  | with_reducible refine ge_int ?_ | with_reducible refine ge_min ?_ | with_reducible refine ge_max ?_ | with_reducible refine ge_abs ?_ | with_reducible refine ge_slT ?_
  | with_reducible refine then_nx ?_ | with_reducible refine then_rt ?_
  | ((with_reducible refine ge_ixL (ds := ?ds) (d := ?dd) ?hl ?he ?_); (case hl => first | exact lat_lst (by assumption) | exact lat_fz (by assumption)); (case he => first | exact at0 | exact at1 | exact at2 | exact at3))
  | ((with_reducible refine ge_ixT (d := ?dd) ?he ?_); (case he => first | exact at0 | exact at1 | exact at2 | exact at3))
  | ((with_reducible refine ge_len (ds := ?ds) ?hl ?_); (case hl => first | exact lat_lst (by assumption) | exact lat_fz (by assumption) | exact rfl))
  | ((with_reducible refine ge_mod ?hc ?_); (case hc => first | assumption | decide | omega))
  | ((with_reducible refine ge_div ?hc ?hd ?_); (case hc => first | assumption | decide | omega); (case hd => first | assumption | decide | omega))
  | ((with_reducible refine ge_mul ?hc ?_); (case hc => first | assumption | exact i64_left rfl | exact i64_right rfl))
  | ((with_reducible refine ge_pow ?hc ?_); (case hc => decide))
  | (with_reducible refine ⟨_, rfl, ?_⟩) | (with_reducible refine ⟨_, _, rfl, ?_⟩))
def gdiv (ls : List Int) : Int := ls.foldl (fun d l => ((Nat.gcd d.natAbs l.natAbs : Nat) : Int)) 0
def without (ls : List Int) : List Int := ls.map fun l => l / gdiv ls
theorem without_gives {S : Store} {n : Nat} {ls : List Int} (h : S[n]? = some (.lst (ls.map D.int))) (hz : ls.length ≤ 1000) (h0 : 0 < gdiv ls) (hw : wd (gdiv ls)) :
    GE (F_without_divisor [.lr n] S) fun d S' => d = .tup ((without ls).map D.int) ∧ All S S' := by
  refine ge_den rfl ?_
  unfold M_without_divisor
  refine gs_seq (gs_asg (ge_c (gt_name (then_nx (gs_seq (gs_for (gi_items (ge_var rfl (.inr ⟨n, _, rfl, lat_lst h, ?_⟩)))))))))
  refine gs_forL (fun i ρ S' => S' = S ∧ ∃ x2 : Option D, ρ = [some (.lr n), some (.int ((ls.take i).foldl (fun d l => ((Nat.gcd d.natAbs l.natAbs : Nat) : Int)) 0)), x2]) ⟨rfl, none, rfl⟩ ?_ ?_
  · rintro i d ρ S' hd ⟨rfl, x2, rfl⟩
    refine ⟨still_lst h, ?_⟩
    rw [List.getElem?_map] at hd
    obtain ⟨l, hl, rfl⟩ := Option.map_eq_some_iff.mp hd
    refine gt_name (gs_asg (ge_call (ge_cons (ge_var rfl (ge_cons (ge_var rfl (ge_nil (ge_gcd (gt_name ⟨.inl rfl, rfl, some (.int l), ?_⟩)))))))))
    rw [List.take_add_one, hl, List.foldl_append]
    rfl
  · rintro ρ S' ⟨rfl, x2, rfl⟩
    refine ⟨still_lst h, then_nx ?_⟩
    rw [List.length_map, List.take_length]
    have hg : ls.foldl (fun d l => ((Nat.gcd d.natAbs l.natAbs : Nat) : Int)) 0 = gdiv ls := rfl
    rw [hg]
    obtain ⟨S2, e, h1, h2⟩ := lc_map (ok := still n (ls.map D.int)) (g := mName 2) (e := mBin fDivW (mVar 2) (mVar 1)) (ρw := [some (.lr n), some (.int (gdiv ls)), none]) (S := S') (ds := ls.map D.int) (ys := (without ls).map D.int)
      (by unfold without; rw [List.length_map, List.length_map, List.length_map]) (by rw [List.length_map]; exact hz) (fun S' k => still_lst (k _ _ h)) (fun i x y S' hx hy hS => by
        rw [List.getElem?_map] at hx
        obtain ⟨l, hl, rfl⟩ := Option.map_eq_some_iff.mp hx
        unfold without at hy
        rw [List.getElem?_map, List.getElem?_map, hl] at hy
        cases hy
        exact gt_name ⟨rfl, ge_bin (ge_var rfl (ge_var rfl (ge_divW h0 hw ⟨rfl, .refl⟩)))⟩)
    exact gs_ret (ge_call (ge_cons (ge_lc (gi_items (ge_var rfl (.inr ⟨n, _, rfl, lat_lst h, S2, e, ge_nil (ge_tuple (lat_lst h2) ⟨rfl, h1⟩)⟩))))))
/-- the rows for the inner places -/
def rowOf (M : Mine) (ws : List Int) (x : Int) : List Int := ((inner M).map fun z => (shares M ws x).getD z.toNat 0) ++ [-((shares M ws x).getD M.inlet.toNat 0)]
def rowsOf (M : Mine) (ws : List Int) : List (List Int) := (inner M).map (rowOf M ws)
def fin (M : Mine) (ws : List Int) : List (List Int) × Int := runR (rowsOf M ws) (rowsOf M ws).length
def solved (M : Mine) (ws : List Int) : List Int := (fin M ws).1.map fun row => row.getD (rowsOf M ws).length 0
def laid (M : Mine) (ws : List Int) : List Int := ((inner M).zip (solved M ws)).foldl (fun lv p => lv.set p.1.toNat p.2) ((List.replicate M.places.toNat 0).set M.inlet.toNat (fin M ws).2)
def levelsP (M : Mine) (ws : List Int) : List Int := without (laid M ws)
/-- what the program's way to the levels asks of the numbers -/
structure LevOk (M : Mine) (ws : List Int) : Prop where
  len : ws.length = M.ways.length
  run : ∀ k ≤ (rowsOf M ws).length, Fine (rowsOf M ws).length (runR (rowsOf M ws) k)
  pos : 0 < gdiv (laid M ws)
  wide : wd (gdiv (laid M ws))
theorem inner_mem {M : Mine} {x : Int} (h : x ∈ inner M) : 0 ≤ x ∧ x < M.places := by
  unfold inner at h
  obtain ⟨i, h1, rfl⟩ := List.mem_map.mp h
  have := List.mem_range.mp (List.mem_filter.mp h1).1
  omega
theorem inner_len {M : Mine} (ok : MineOk M) : (inner M).length ≤ 8 := by
  unfold inner
  have h := List.length_filter_le (isIn M) (List.range M.places.toNat)
  rw [List.length_range] at h
  rw [List.length_map]
  have := ok.hi
  omega
theorem laid_len {M : Mine} {ws : List Int} : (laid M ws).length = M.places.toNat := by
  unfold laid
  have : ∀ (l : List (Int × Int)) (lv : List Int), (l.foldl (fun lv p => lv.set p.1.toNat p.2) lv).length = lv.length := by
    intro l
    induction l with
    | nil => intro lv; rfl
    | cons a l ih => intro lv; rw [List.foldl_cons, ih, List.length_set]
  rw [this, List.length_set, List.length_replicate]
theorem levels_gives {S : Store} {M : Mine} {ws : List Int} (ok : MineOk M) (hz : M.ways.length ≤ 1000) (L : LevOk M ws) :
    GE (F_levels_for [mineD M, widthsD ws] S) fun d S' => d = .tup ((levelsP M ws).map D.int) ∧ All S S' := by
  refine ge_den rfl ?_
  unfold M_levels_for
  have hlo := ok.lo
  have hhi := ok.hi
  have hin := inner_len ok
  refine gs_seq (gs_asg (ge_var (d := mineD M) rfl ?_))
  refine gt_tup rfl (gt_cons (gt_name (gt_cons (gt_name (gt_cons (gt_name (gt_cons (gt_name (gt_nil (then_nx ?_))))))))))
  refine gs_seq (gs_asg (ge_call (ge_cons (ge_var rfl (ge_nil ?_)))))
  refine (inner_gives ok).mono ?_
  rintro _ S1 ⟨rfl, a1⟩
  refine gt_name (then_nx (gs_seq (gs_asg (ge_lst (ge_nil ⟨Nat.zero_le _, gt_name (then_nx ?_)⟩)))))
  have r0 : RowsAt (S1 ++ [.lst []]) S1.length ((rowsOf M ws).take 0) := ⟨[], get_new, rfl, fun q hq => absurd hq List.not_mem_nil, fun i q row e => (by simp at e)⟩
  have a2 : All S (S1 ++ [.lst []]) := a1.trans .app
  have hr : S.length ≤ S1.length := a1.len
  generalize S1 ++ [.lst []] = S2 at r0 a2 ⊢
  generalize S1.length = r at r0 hr ⊢
  refine gs_seq (gs_for (gi_items (ge_var rfl (.inl ⟨_, rfl, ?_⟩))))
  refine gs_forL (fun i ρ S' => ∃ (x4 x9 : Option D), ρ = [some (mineD M), some (widthsD ws), some (.tup ((inner M).map D.int)), some (.lr r), x4, none, some (.int M.places), some (.int M.outlet), some (.int M.inlet), x9, none, none, none, none] ∧ All S S' ∧ RowsAt S' r ((rowsOf M ws).take i))
    ⟨none, none, rfl, a2, r0⟩ ?_ ?_
  · rintro i d ρ S3 hd ⟨x4, x9, rfl, a3, r3⟩
    refine ⟨rfl, ?_⟩
    rw [List.getElem?_map] at hd
    obtain ⟨x, hx, rfl⟩ := Option.map_eq_some_iff.mp hd
    have hxm := inner_mem (List.mem_of_getElem? hx)
    have hii := (List.getElem?_eq_some_iff.mp hx).1
    have eR : (rowsOf M ws)[i]? = some (rowOf M ws x) := by unfold rowsOf; rw [List.getElem?_map, hx]; rfl
    refine gt_name (gs_seq (gs_asg (ge_call (ge_cons (ge_var rfl (ge_cons (ge_var rfl (ge_cons (ge_var rfl (ge_nil ?_))))))))))
    refine (shares_gives ok hz L.len hxm).mono ?_
    rintro _ S4 ⟨q, rfl, hq, e4, a4⟩
    have r4 := r3.mono a4
    have a4' := a3.trans a4
    refine gt_name (then_nx (gs_drop (ge_app (ge_var rfl ⟨r, rfl, ?_, ?_⟩))))
    · obtain ⟨qs, g1, _⟩ := r4; exact ⟨_, mat_lst g1⟩
    refine ge_cons (ge_bin (ge_lc (gi_items (ge_var rfl (.inl ⟨_, rfl, ?_⟩)))))
    have hsl := shares_length (M := M) (ws := ws) (x := x)
    obtain ⟨S5, e, a5, e5⟩ := lc_map (ok := always) (g := mName 13) (e := mBin fIx (mVar 9) (mVar 13)) (S := S4) (ds := (inner M).map D.int) (ys := ((inner M).map fun z => (shares M ws x).getD z.toNat 0).map D.int)
      (ρw := [some (mineD M), some (widthsD ws), some (.tup ((inner M).map D.int)), some (.lr r), some (.int x), none, some (.int M.places), some (.int M.outlet), some (.int M.inlet), some (.lr q), none, none, none, none])
      (by rw [List.length_map, List.length_map, List.length_map]) (by rw [List.length_map]; omega) (fun _ _ => rfl) (fun i y z S' hy hz hS => by
        rw [List.getElem?_map] at hy
        obtain ⟨y, hy', rfl⟩ := Option.map_eq_some_iff.mp hy
        rw [List.getElem?_map, List.getElem?_map, hy'] at hz
        cases hz
        have hym := inner_mem (List.mem_of_getElem? hy')
        exact gt_name ⟨rfl, ge_bin (ge_var rfl (ge_var rfl (ge_ixL (lat_lst (hS _ _ e4)) (at_ints hym.1 (by rw [hsl]; omega)) ⟨rfl, .refl⟩)))⟩)
    refine ⟨S5, e, ge_lst (ge_cons (ge_neg (ge_bin (ge_var rfl (ge_var rfl (ge_ixL (lat_lst (a5 _ _ e4)) (at_ints ok.ends.1.1 (by rw [hsl]; have := ok.ends.1.2; omega)) ⟨_, rfl, ge_nil ⟨by show 1 ≤ szl; decide, ?_⟩⟩))))))⟩
    refine ge_addL (mat_lst (get_app e5)) (mat_lst get_new) (by rw [List.length_map, List.length_map]; show _ ≤ 16777216; simp; omega) ?_
    have erow : ((inner M).map fun z => (shares M ws x).getD z.toNat 0).map D.int ++ [D.int (-(shares M ws x).getD M.inlet.toNat 0)] = (rowOf M ws x).map D.int := by
      unfold rowOf; rw [List.map_append]; rfl
    rw [erow]
    have a6 : All S4 (S5 ++ [.lst [D.int (-(shares M ws x).getD M.inlet.toNat 0)]] ++ [.lst ((rowOf M ws x).map D.int)]) := a5.trans (All.app.trans .app)
    have e6 : (S5 ++ [MO.lst [D.int (-(shares M ws x).getD M.inlet.toNat 0)]] ++ [.lst ((rowOf M ws x).map D.int)])[(S5 ++ [MO.lst [D.int (-(shares M ws x).getD M.inlet.toNat 0)]]).length]? = some (.lst ((rowOf M ws x).map D.int)) := get_new
    have hq6 : S4.length < (S5 ++ [MO.lst [D.int (-(shares M ws x).getD M.inlet.toNat 0)]]).length := by have := a5.len; rw [List.length_append]; simp; omega
    generalize (S5 ++ [MO.lst [D.int (-(shares M ws x).getD M.inlet.toNat 0)]] ++ [.lst ((rowOf M ws x).map D.int)]) = S6 at a6 e6 ⊢
    generalize (S5 ++ [MO.lst [D.int (-(shares M ws x).getD M.inlet.toNat 0)]]).length = q6 at e6 hq6 ⊢
    obtain ⟨ps, p1, p2, p3, p4⟩ := r4
    have hps : ps.length = i := by
      rw [p2, List.length_take]; unfold rowsOf; rw [List.length_map]; omega
    have p5 := a6 _ _ p1
    have hrl := (List.getElem?_eq_some_iff.mp p1).1
    refine ge_nil ⟨_, _, rfl, mat_lst p5, by rw [List.length_map]; show _ < 16777216; omega, .inl rfl, some (.int x), some (.lr q), rfl, (a4'.trans a6).wr hr, ⟨ps ++ [q6], ?_, ?_, ?_, ?_⟩⟩
    · rw [get_set p5, List.map_append]; rfl
    · rw [List.length_append, p2, List.take_add_one, eR, List.length_append]; rfl
    · intro y hy
      rcases List.mem_append.mp hy with hy | hy
      · exact p3 y hy
      · rw [List.mem_singleton.mp hy]; omega
    · intro j y z ej ez
      rw [List.take_add_one, eR] at ez
      by_cases hj : j < ps.length
      · rw [List.getElem?_append_left hj] at ej
        rw [List.getElem?_append_left (by rw [← p2]; exact hj)] at ez
        have := a6 _ _ (p4 j y z ej ez)
        rw [get_ne (fun z => p3 y (List.mem_of_getElem? ej) z.symm)]
        exact this
      · have hj' : j = ps.length := by
          have := (List.getElem?_eq_some_iff.mp ej).1
          rw [List.length_append] at this
          simp at this
          omega
        subst hj'
        rw [List.getElem?_append_right (Nat.le_refl _)] at ej
        rw [List.getElem?_append_right (by rw [← p2]; exact Nat.le_refl _), ← p2] at ez
        simp at ej ez
        subst ej ez
        rw [get_ne (by omega)]
        exact e6
  · rintro ρ S3 ⟨x4, x9, rfl, a3, r3⟩
    refine ⟨rfl, then_nx ?_⟩
    have hrl : (rowsOf M ws).length = (inner M).length := by unfold rowsOf; rw [List.length_map]
    rw [List.length_map, ← hrl, List.take_length] at r3
    refine gs_seq (gs_asg (ge_call (ge_cons (ge_var rfl (ge_nil ?_)))))
    refine (solve_gives r3 (by omega) L.run).mono ?_
    rintro _ S4 ⟨q, rfl, e4, a4⟩
    refine gt_tup rfl (gt_cons (gt_name (gt_cons (gt_name (gt_nil (then_nx ?_))))))
    have ef : (runR (rowsOf M ws) (rowsOf M ws).length) = fin M ws := rfl
    rw [ef] at e4 ⊢
    have es : ((fin M ws).1.map fun row => row.getD (rowsOf M ws).length 0) = solved M ws := rfl
    rw [es] at e4
    have hsl : (solved M ws).length = (inner M).length := by unfold solved fin; rw [List.length_map, runR_length, hrl]
    refine gs_seq (gs_asg (ge_bin (ge_lst (ge_cons (ge_c (ge_nil ⟨by show 1 ≤ szl; decide, ge_var rfl ?_⟩))))))
    refine ge_mulL (ds := [.int 0]) (mat_lst get_new) (by omega) (by omega) (by show _ ≤ 16777216; simp; omega) (gt_name (then_nx ?_))
    have hrep : repD [.int 0] M.places = (List.replicate M.places.toNat (0 : Int)).map D.int := by
      unfold repD
      rw [List.map_replicate]
      generalize M.places.toNat = k
      induction k with
      | zero => rfl
      | succ k ih => rw [List.replicate_succ, List.replicate_succ, List.flatten_cons, ih]; rfl
    rw [hrep]
    have e5 : (S4 ++ [MO.lst [D.int 0]] ++ [.lst ((List.replicate M.places.toNat (0 : Int)).map D.int)])[(S4 ++ [MO.lst [D.int 0]]).length]? = some (.lst ((List.replicate M.places.toNat (0 : Int)).map D.int)) := get_new
    have a5 : All S4 (S4 ++ [MO.lst [D.int 0]] ++ [.lst ((List.replicate M.places.toNat (0 : Int)).map D.int)]) := All.app.trans .app
    have hv : S4.length < (S4 ++ [MO.lst [D.int 0]]).length := by rw [List.length_append]; simp
    generalize (S4 ++ [MO.lst [D.int 0]] ++ [.lst ((List.replicate M.places.toNat (0 : Int)).map D.int)]) = S5 at e5 a5 ⊢
    generalize (S4 ++ [MO.lst [D.int 0]]).length = v at e5 hv ⊢
    have hl4 := (a3.trans a4).len
    refine gs_seq (gs_asg (ge_var rfl (gt_sub (ge_var rfl (ge_var rfl ⟨v, M.inlet, _, M.inlet.toNat, rfl, rfl, mat_lst e5, by rw [List.length_map, List.length_replicate]; exact ixN_of ok.ends.1.1 (by have := ok.ends.1.2; omega), then_nx ?_⟩)))))
    rw [set_ints]
    have e6 : (S5.set v (.lst (((List.replicate M.places.toNat (0 : Int)).set M.inlet.toNat (fin M ws).2).map D.int)))[v]? = some (.lst (((List.replicate M.places.toNat (0 : Int)).set M.inlet.toNat (fin M ws).2).map D.int)) := get_set e5
    have a6 : All S (S5.set v (.lst (((List.replicate M.places.toNat (0 : Int)).set M.inlet.toNat (fin M ws).2).map D.int))) := ((a3.trans a4).trans a5).wr (by omega)
    have e7 : (S5.set v (.lst (((List.replicate M.places.toNat (0 : Int)).set M.inlet.toNat (fin M ws).2).map D.int)))[q]? = some (.lst ((solved M ws).map D.int)) := by
      have := (List.getElem?_eq_some_iff.mp e4).1
      rw [get_ne (by omega)]; exact a5 _ _ e4
    have hqv : q ≠ v := by have := (List.getElem?_eq_some_iff.mp e4).1; omega
    generalize S5.set v (.lst (((List.replicate M.places.toNat (0 : Int)).set M.inlet.toNat (fin M ws).2).map D.int)) = S6 at e6 a6 e7 ⊢
    refine gs_seq (gs_for (gi_zipM (ge_cons (ge_var rfl (ge_cons (ge_var rfl (ge_nil ⟨_, q, _, rfl, lat_lst e7, ?_⟩)))))))
    refine gs_forL (fun i ρ S' => ∃ (x4 x12 : Option D), ρ = [some (mineD M), some (widthsD ws), some (.tup ((inner M).map D.int)), some (.lr r), x4, some (.lr v), some (.int M.places), some (.int M.outlet), some (.int M.inlet), x9, some (.int (fin M ws).2), some (.lr q), x12, none] ∧ All S S' ∧
      S'[q]? = some (.lst ((solved M ws).map D.int)) ∧ S'[v]? = some (.lst (((((inner M).zip (solved M ws)).take i).foldl (fun lv p => lv.set p.1.toNat p.2) ((List.replicate M.places.toNat 0).set M.inlet.toNat (fin M ws).2)).map D.int)))
      ⟨x4, none, rfl, a6, e7, e6⟩ ?_ ?_
    · rintro i d ρ S7 hd ⟨x4, x12, rfl, a7, e7, e8⟩
      refine ⟨still_lst e7, ?_⟩
      obtain ⟨d1, d2, f1, f2, rfl⟩ := zipD_get hd
      rw [List.getElem?_map] at f1 f2
      obtain ⟨x, g1, rfl⟩ := Option.map_eq_some_iff.mp f1
      obtain ⟨l, g2, rfl⟩ := Option.map_eq_some_iff.mp f2
      have hxm := inner_mem (List.mem_of_getElem? g1)
      have ez : ((inner M).zip (solved M ws))[i]? = some (x, l) := by rw [List.getElem?_zip_eq_some]; exact ⟨g1, g2⟩
      refine gt_tup rfl (gt_cons (gt_name (gt_cons (gt_name (gt_nil (gs_asg (ge_var rfl (gt_sub (ge_var rfl (ge_var rfl ⟨v, x, _, x.toNat, rfl, rfl, mat_lst e8, ?_, .inl rfl, some (.int x), some (.int l), rfl, a7.wr (by omega), ?_, ?_⟩)))))))))) 
      · rw [List.length_map]
        refine ixN_of hxm.1 ?_
        have : ∀ (l : List (Int × Int)) (lv : List Int), (l.foldl (fun lv p => lv.set p.1.toNat p.2) lv).length = lv.length := by
          intro l
          induction l with
          | nil => intro lv; rfl
          | cons a l ih => intro lv; rw [List.foldl_cons, ih, List.length_set]
        rw [this, List.length_set, List.length_replicate]; omega
      · rw [get_ne hqv.symm]; exact e7
      · rw [get_set e8, set_ints, List.take_add_one, ez, List.foldl_append]
        rfl
    · rintro ρ S7 ⟨x4, x12, rfl, a7, e7, e8⟩
      refine ⟨still_lst e7, then_nx ?_⟩
      have hzl : (zipD ((inner M).map D.int) ((solved M ws).map D.int)).length = ((inner M).zip (solved M ws)).length := by
        unfold zipD; rw [List.length_zipWith, List.length_map, List.length_map, List.length_zip]
      have e9 : S7[v]? = some (.lst ((laid M ws).map D.int)) := by
        rw [e8]
        show some (MO.lst _) = _
        rw [show (zipD ((inner M).map D.int) ((solved M ws).map D.int), still q ((solved M ws).map D.int)).1.length = ((inner M).zip (solved M ws)).length from hzl, List.take_length]
        rfl
      refine gs_ret (ge_call (ge_cons (ge_var rfl (ge_nil ?_))))
      refine (without_gives e9 (by rw [laid_len]; omega) L.pos L.wide).mono ?_
      rintro _ S8 ⟨rfl, a8⟩
      exact ⟨rfl, a7.trans a8⟩
end Air

set_option Elab.async false
set_option linter.all false
set_option maxRecDepth 100000
set_option maxHeartbeats 4000000
namespace Air
open PySem PySem.Spec PyProof.Rows L2 MS Law
local macro_rules | `(tactic| walk_at "st") => `(tactic| first
  | with_reducible refine gs_seq ?_ | with_reducible refine gs_asg ?_ | with_reducible refine gs_ret ?_ | with_reducible refine gs_retN ?_ | with_reducible refine gs_drop ?_ | with_reducible refine gs_if ?_ | with_reducible refine gs_par ?_ | with_reducible refine gs_for ?_ | with_reducible refine gs_nx ?_
  | with_reducible refine ge_cons ?_ | with_reducible refine ge_nil ?_ | with_reducible refine ge_c ?_ | with_reducible refine ge_bin ?_ | with_reducible refine ge_call ?_
  | ((with_reducible refine ge_var (d := ?d) ?h ?_); case h => exact rfl)
  | ((with_reducible refine gs_aug (d := ?d) ?h ?_); case h => exact rfl)
  | (with_reducible refine ge_tup ?_) | (with_reducible refine ge_lst ?_) | with_reducible refine ge_B ?_ | with_reducible refine ge_and ?_ | with_reducible refine ge_or ?_ | with_reducible refine ge_not ?_ | with_reducible refine ge_if ?_ | with_reducible refine ge_andV ?_ | with_reducible refine ge_orV ?_ | with_reducible refine ge_notV ?_ | with_reducible refine ge_neg ?_
  | with_reducible refine ge_sl ?_ | with_reducible refine ge_noPart ?_ | with_reducible refine ge_part ?_ | with_reducible refine ge_revT ?_ | with_reducible refine ge_app ?_ | with_reducible refine ge_lc ?_ | with_reducible refine ge_chain ?_
  | with_reducible refine gi_items ?_ | with_reducible refine gi_range1 ?_ | with_reducible refine gi_range2 ?_ | with_reducible refine gi_enum ?_
  | with_reducible refine gt_name ?_ | with_reducible refine gt_nil ?_ | with_reducible refine gt_cons ?_ | with_reducible refine gt_tup rfl ?_ | with_reducible refine gt_sub ?_
  | with_reducible refine ge_fI ?_ | with_reducible refine ge_sub ?_ | with_reducible refine ge_add ?_ | with_reducible refine ge_lt ?_ | with_reducible refine ge_le ?_ | with_reducible refine ge_gt ?_ | with_reducible refine ge_ge ?_ | with_reducible refine ge_eqI ?_ | with_reducible refine ge_neI ?_ | with_reducible refine ge_eqS ?_ | with_reducible refine ge_neS ?_
  | with_reducible refine ge_int ?_ | with_reducible refine ge_min ?_ | with_reducible refine ge_max ?_ | with_reducible refine ge_abs ?_ | with_reducible refine ge_slT ?_
  | with_reducible refine then_nx ?_ | with_reducible refine then_rt ?_
  | ((with_reducible refine ge_ixL (ds := ?ds) (d := ?dd) ?hl ?he ?_); (case hl => first | exact lat_lst (by assumption) | exact lat_fz (by assumption)); (case he => first | exact at0 | exact at1 | exact at2 | exact at3))
  | ((with_reducible refine ge_ixT (d := ?dd) ?he ?_); (case he => first | exact at0 | exact at1 | exact at2 | exact at3))
  | ((with_reducible refine ge_len (ds := ?ds) ?hl ?_); (case hl => first | exact lat_lst (by assumption) | exact lat_fz (by assumption) | exact rfl))
  | ((with_reducible refine ge_mod ?hc ?_); (case hc => first | assumption | decide | omega))
  | ((with_reducible refine ge_div ?hc ?hd ?_); (case hc => first | assumption | decide | omega); (case hd => first | assumption | decide | omega))
  | ((with_reducible refine ge_mul ?hc ?_); (case hc => first | assumption | exact i64_left rfl | exact i64_right rfl))
  | ((with_reducible refine ge_pow ?hc ?_); (case hc => decide))
  | (with_reducible refine ⟨_, rfl, ?_⟩) | (with_reducible refine ⟨_, _, rfl, ?_⟩))
def sgn (x y : Int) : Int := if x = y then 0 else if y < x then 1 else -1
theorem sign_gives {S : Store} {lv : List Int} {a b : Int} (ha : 0 ≤ a ∧ a < lv.length) (hb : 0 ≤ b ∧ b < lv.length) : GE (F_sign_between [.tup (lv.map D.int), .int a, .int b] S) fun d S' => d = .int (sgn (lv.getD a.toNat 0) (lv.getD b.toNat 0)) ∧ S' = S := by
  refine ge_den rfl ?_
  unfold M_sign_between sgn
  have e1 := at_ints ha.1 ha.2
  have e2 := at_ints hb.1 hb.2
  generalize lv.getD a.toNat 0 = u at e1 ⊢
  generalize lv.getD b.toNat 0 = v at e2 ⊢
  refine gs_seq (gs_if (ge_B (ge_bin (ge_bin (ge_var rfl (ge_var rfl (ge_ixT e1 (ge_bin (ge_var rfl (ge_var rfl (ge_ixT e2 (ge_eqI ⟨_, rfl, fun hc => ?_, fun hc => ?_⟩))))))))))))
  · exact gs_ret (ge_c ⟨by rw [if_pos (of_decide_eq_true hc)], rfl⟩)
  · have h := of_decide_eq_false hc
    refine gs_nx (then_nx (gs_ret (ge_if (ge_B (ge_bin (ge_bin (ge_var rfl (ge_var rfl (ge_ixT e1 (ge_bin (ge_var rfl (ge_var rfl (ge_ixT e2 (ge_gt ⟨_, rfl, fun hc => ?_, fun hc => ?_⟩))))))))))))))
    · exact ge_c ⟨by rw [if_neg h, if_pos (of_decide_eq_true hc)], rfl⟩
    · exact ge_neg (ge_c ⟨1, rfl, by rw [if_neg h, if_neg (of_decide_eq_false hc)], rfl⟩)
def pic (M : Mine) (lv : List Int) : List Int := M.ways.map fun w => sgn (lv.getD w.1.toNat 0) (lv.getD w.2.toNat 0)
theorem way_lt {M : Mine} {lv : List Int} (ok : MineOk M) (hl : lv.length = M.places.toNat) {w : Int × Int} (h : w ∈ M.ways) : (0 ≤ w.1 ∧ w.1 < lv.length) ∧ (0 ≤ w.2 ∧ w.2 < lv.length) := by
  obtain ⟨h1, h2, _⟩ := ok.ways w h
  have := ok.lo
  omega
theorem picture_gives {S : Store} {M : Mine} {lv : List Int} (ok : MineOk M) (hz : M.ways.length ≤ 1000) (hl : lv.length = M.places.toNat) : GE (F_picture_of [mineD M, .tup (lv.map D.int)] S) fun d S' => d = .tup ((pic M lv).map D.int) ∧ All S S' := by
  refine ge_den rfl ?_
  unfold M_picture_of
  refine gs_ret (ge_call (ge_cons (ge_lc (gi_items (ge_bin (ge_var (d := mineD M) rfl (ge_c (ge_ixT (d := .tup (M.ways.map Law.pairD)) at1 (.inl ⟨_, rfl, ?_⟩)))))))))
  obtain ⟨S', e, h1, h2⟩ := lc_map (ok := always) (g := mgTup (mgCons (mName 2) (mgCons (mName 3) mgNil)) 2) (e := mCall F_sign_between (mCons (mVar 1) (mCons (mVar 2) (mCons (mVar 3) mNil)))) (S := S) (ds := M.ways.map Law.pairD) (ys := (pic M lv).map D.int)
    (ρw := [some (mineD M), some (.tup (lv.map D.int)), none, none]) (by unfold pic; rw [List.length_map, List.length_map, List.length_map]) (by rw [List.length_map]; exact hz) (fun _ _ => rfl) (fun i x y S' hx hy hS => by
      rw [List.getElem?_map] at hx
      obtain ⟨w, hw, rfl⟩ := Option.map_eq_some_iff.mp hx
      unfold pic at hy
      rw [List.getElem?_map, List.getElem?_map, hw] at hy
      cases hy
      obtain ⟨k1, k2⟩ := way_lt ok hl (List.mem_of_getElem? hw)
      refine gt_tup rfl (gt_cons (gt_name (gt_cons (gt_name (gt_nil ⟨rfl, ?_⟩)))))
      refine ge_call (ge_cons (ge_var rfl (ge_cons (ge_var rfl (ge_cons (ge_var rfl (ge_nil ?_)))))))
      refine (sign_gives k1 k2).mono ?_
      rintro _ S2 ⟨rfl, rfl⟩
      exact ⟨rfl, .refl⟩)
  exact ⟨S', e, ge_nil (ge_tuple (lat_lst h2) ⟨rfl, h1⟩)⟩
def gcdI (a b : Int) : Int := ((Nat.gcd a.natAbs b.natAbs : Nat) : Int)
theorem gcdI_pos {a b : Int} (h : 0 < b) : 0 < gcdI a b := by
  unfold gcdI
  have := Nat.gcd_pos_of_pos_right a.natAbs (n := b.natAbs) (by omega)
  omega
theorem gcdI_le {a b : Int} (h : 0 < b) (hw : wd b) : wd (gcdI a b) := by
  unfold gcdI wd at *
  have := Nat.gcd_le_right a.natAbs (n := b.natAbs) (by omega)
  rw [Int.natAbs_natCast]
  exact Nat.lt_of_le_of_lt this hw
def frac (a b : Int) : List Int := [a / gcdI a b, b / gcdI a b]
theorem fraction_gives {S : Store} {a b : Int} (h : 0 < b) (hw : wd b) : GE (F_as_fraction [.int a, .int b] S) fun d S' => d = .tup ((frac a b).map D.int) ∧ S' = S := by
  refine ge_den rfl ?_
  unfold M_as_fraction
  have hp := gcdI_pos (a := a) h
  have hq := gcdI_le (a := a) h hw
  refine gs_seq (gs_asg (ge_call (ge_cons (ge_var rfl (ge_cons (ge_var rfl (ge_nil (ge_gcd (gt_name (then_nx ?_))))))))))
  have e : ((Nat.gcd a.natAbs b.natAbs : Nat) : Int) = gcdI a b := rfl
  rw [e]
  exact gs_ret (ge_tup (ge_cons (ge_bin (ge_var rfl (ge_var rfl (ge_divW hp hq (ge_cons (ge_bin (ge_var rfl (ge_var rfl (ge_divW hp hq (ge_nil ⟨by show 2 ≤ szl; decide, rfl, rfl⟩))))))))))))
theorem wd_diff {i a b : Int} (hi : wd i) (ha : wd a) (hb : wd b) : narrow i (a - b) = true := by
  unfold wd at *
  have h1 := log2_lt hi (by decide)
  have h2 : (a - b).natAbs < 2 ^ 2001 := by
    have : (a - b).natAbs ≤ a.natAbs + b.natAbs := by omega
    rw [Nat.pow_succ]
    omega
  have h3 := log2_lt h2 (by decide)
  exact decide_eq_true (by omega)
def airs (M : Mine) (ws lv : List Int) : List Int := M.ways.mapIdx fun i w => ws.getD i 0 * (lv.getD w.1.toNat 0 - lv.getD w.2.toNat 0)
/-- what the program's way to the air asks of the numbers, the levels known -/
structure AirOk (M : Mine) (ws : List Int) : Prop extends LevOk M ws where
  wsw : Wds ws
  lvw : Wds (levelsP M ws)
  top : 0 < (levelsP M ws).getD M.inlet.toNat 0
theorem levelsP_len {M : Mine} {ws : List Int} : (levelsP M ws).length = M.places.toNat := by
  unfold levelsP without; rw [List.length_map, laid_len]
theorem air_gives {S : Store} {M : Mine} {ws : List Int} (ok : MineOk M) (hz : M.ways.length ≤ 1000) (A : AirOk M ws) :
    GE (F_air_of [mineD M, widthsD ws] S) fun d S' => d = .tup ((airs M ws (levelsP M ws)).map fun a => .tup ((frac a ((levelsP M ws).getD M.inlet.toNat 0)).map D.int)) ∧ All S S' := by
  refine ge_den rfl ?_
  unfold M_air_of
  refine gs_seq (gs_asg (ge_call (ge_cons (ge_var rfl (ge_cons (ge_var rfl (ge_nil ?_)))))))
  refine (levels_gives ok hz A.toLevOk).mono ?_
  rintro _ S1 ⟨rfl, a1⟩
  have hl := levelsP_len (M := M) (ws := ws)
  have hw := A.lvw
  have htop := A.top
  have hio : M.inlet < (levelsP M ws).length := by have := ok.ends.1; have := ok.lo; omega
  have hmem := getD_mem (l := levelsP M ws) (i := M.inlet.toNat) (by have := ok.ends.1; omega)
  generalize levelsP M ws = lv at hl hw htop hio hmem ⊢
  refine gt_name (then_nx (gs_seq (gs_asg (ge_bin (ge_var rfl (ge_bin (ge_var (d := mineD M) rfl (ge_c (ge_ixT (d := .int M.inlet) at2 (ge_ixT (at_ints ok.ends.1.1 hio) (gt_name (then_nx ?_))))))))))))
  refine gs_seq (gs_asg (ge_lc (gi_enum (ge_cons (ge_bin (ge_var (d := mineD M) rfl (ge_c (ge_ixT (d := .tup (M.ways.map Law.pairD)) at1 (ge_nil (.inl ⟨_, rfl, ?_⟩))))))))))
  obtain ⟨S2, e, a2, e2⟩ := lc_map (ok := always) (g := mgTup (mgCons (mName 5) (mgCons (mgTup (mgCons (mName 7) (mgCons (mName 8) mgNil)) 2) mgNil)) 2)
    (e := mBin fMulW (mBin fIx (mVar 1) (mVar 5)) (mBin fSub (mBin fIx (mVar 2) (mVar 7)) (mBin fIx (mVar 2) (mVar 8)))) (S := S1) (ds := enumD (M.ways.map Law.pairD)) (ys := (airs M ws lv).map D.int)
    (ρw := [some (mineD M), some (widthsD ws), some (.tup (lv.map D.int)), some (.int (lv.getD M.inlet.toNat 0)), none, none, none, none, none]) (by unfold airs; rw [List.length_map, enumD_length, List.length_mapIdx, List.length_map]) (by rw [enumD_length, List.length_map]; exact hz) (fun _ _ => rfl) (fun i x y S' hx hy hS => by
      obtain ⟨x', hx', rfl⟩ := enumD_get hx
      rw [List.getElem?_map] at hx'
      obtain ⟨w, hw', rfl⟩ := Option.map_eq_some_iff.mp hx'
      unfold airs at hy
      rw [List.getElem?_map, List.getElem?_mapIdx, hw'] at hy
      cases hy
      obtain ⟨k1, k2⟩ := way_lt ok hl (List.mem_of_getElem? hw')
      have hi : (i : Int) < ws.length := by have := (List.getElem?_eq_some_iff.mp hw').1; have := A.len; omega
      refine gt_tup rfl (gt_cons (gt_name (gt_cons (gt_tup rfl (gt_cons (gt_name (gt_cons (gt_name (gt_nil (gt_nil ⟨rfl, ?_⟩))))))))))
      refine ge_bin (ge_bin (ge_var rfl (ge_var rfl (ge_ixT (at_ints (by omega) hi) ?_))))
      refine ge_bin (ge_bin (ge_var rfl (ge_var rfl (ge_ixT (at_ints k1.1 k1.2) (ge_bin (ge_var rfl (ge_var rfl (ge_ixT (at_ints k2.1 k2.2) (ge_sub ?_)))))))))
      refine ge_mulW (wd_diff (A.wsw _ (getD_mem (by omega))) (hw _ (getD_mem (by omega))) (hw _ (getD_mem (by omega)))) ⟨?_, .refl⟩
      rw [Int.toNat_natCast])
  refine ⟨S2, e, gt_name (then_nx (gs_ret (ge_call (ge_cons (ge_lc (gi_items (ge_var rfl (.inr ⟨_, _, rfl, lat_lst e2, ?_⟩))))))))⟩
  have hal : (airs M ws lv).length = M.ways.length := by unfold airs; rw [List.length_mapIdx]
  obtain ⟨S3, e3, a3, e4⟩ := lc_map (ok := still S1.length ((airs M ws lv).map D.int)) (g := mName 6) (e := mCall F_as_fraction (mCons (mVar 6) (mCons (mVar 3) mNil))) (S := S2) (ds := (airs M ws lv).map D.int) (ys := (airs M ws lv).map fun a => .tup ((frac a (lv.getD M.inlet.toNat 0)).map D.int))
    (ρw := [some (mineD M), some (widthsD ws), some (.tup (lv.map D.int)), some (.int (lv.getD M.inlet.toNat 0)), some (.lr S1.length), none, none, none, none]) (by rw [List.length_map, List.length_map]) (by rw [List.length_map, hal]; exact hz) (fun S' h => still_lst (h _ _ e2)) (fun i x y S' hx hy hS => by
      rw [List.getElem?_map] at hx
      obtain ⟨a, ha, rfl⟩ := Option.map_eq_some_iff.mp hx
      rw [List.getElem?_map, ha] at hy
      cases hy
      refine gt_name ⟨rfl, ge_call (ge_cons (ge_var rfl (ge_cons (ge_var rfl (ge_nil ?_)))))⟩
      refine (fraction_gives htop (hw _ hmem)).mono ?_
      rintro _ S4 ⟨rfl, rfl⟩
      exact ⟨rfl, .refl⟩)
  exact ⟨S3, e3, ge_nil (ge_tuple (lat_lst e4) ⟨rfl, (a1.trans a2).trans a3⟩)⟩
def far (M : Mine) (x w : Int) : Int := match M.ways[w.toNat]? with
  | some p => if x = p.1 then p.2 else p.1
  | none => 0
def leaving (M : Mine) (ws lv : List Int) (x : Int) : Int := ((hits M.ways x M.ways.length).map fun w => ws.getD w.toNat 0 * (lv.getD x.toNat 0 - lv.getD (far M x w).toNat 0)).sum
theorem leaving_gives {S : Store} {M : Mine} {ws lv : List Int} {x : Int} (ok : MineOk M) (hz : M.ways.length ≤ 1000) (hx : 0 ≤ x ∧ x < M.places) (hl : lv.length = M.places.toNat) (hn : ws.length = M.ways.length) (hws : Wds ws) (hlv : Wds lv) :
    GE (F_air_leaving [mineD M, widthsD ws, .tup (lv.map D.int), .int x] S) fun d S' => d = .int (leaving M ws lv x) ∧ All S S' := by
  refine ge_den rfl ?_
  unfold M_air_leaving
  refine gs_ret (ge_call (ge_cons (ge_lc (gi_items (ge_call (ge_cons (ge_var rfl (ge_cons (ge_var rfl (ge_nil ?_))))))))))
  refine (ways_at_gives hz).mono ?_
  rintro _ S1 ⟨rfl, a1⟩
  refine .inl ⟨_, rfl, ?_⟩
  have hlo := ok.lo
  have hhl := hits_length M.ways x M.ways.length
  obtain ⟨S2, e, a2, e2⟩ := lc_map (ok := always) (g := mName 4) (e := mBin fMulW (mBin fIx (mVar 1) (mVar 4)) (mBin fSub (mBin fIx (mVar 2) (mVar 3)) (mBin fIx (mVar 2) (mCall F_far_end (mCons (mVar 0) (mCons (mVar 4) (mCons (mVar 3) mNil)))))))
    (S := S1) (ds := (hits M.ways x M.ways.length).map D.int) (ys := ((hits M.ways x M.ways.length).map fun w => ws.getD w.toNat 0 * (lv.getD x.toNat 0 - lv.getD (far M x w).toNat 0)).map D.int)
    (ρw := [some (mineD M), some (widthsD ws), some (.tup (lv.map D.int)), some (.int x), none]) (by rw [List.length_map, List.length_map, List.length_map]) (by rw [List.length_map]; omega) (fun _ _ => rfl) (fun i y z S' hy hz hS => by
      rw [List.getElem?_map] at hy
      obtain ⟨k, hk, rfl⟩ := Option.map_eq_some_iff.mp hy
      rw [List.getElem?_map, List.getElem?_map, hk] at hz
      cases hz
      obtain ⟨j, p, rfl, hj, hp, _⟩ := mem_hits (List.mem_of_getElem? hk)
      obtain ⟨he0, he1⟩ := end_ok ok hp x
      have hf : far M x (j : Int) = if x = p.1 then p.2 else p.1 := by unfold far; rw [Int.toNat_natCast, hp]
      dsimp only
      rw [hf]
      refine gt_name ⟨rfl, ?_⟩
      refine ge_bin (ge_bin (ge_var rfl (ge_var rfl (ge_ixT (at_ints (by omega) (by omega)) ?_))))
      refine ge_bin (ge_bin (ge_var rfl (ge_var rfl (ge_ixT (at_ints hx.1 (by omega)) ?_))))
      refine ge_bin (ge_var rfl (ge_call (ge_cons (ge_var rfl (ge_cons (ge_var rfl (ge_cons (ge_var rfl (ge_nil ?_)))))))))
      refine (far_end_gives hp).mono ?_
      rintro _ S2 ⟨rfl, rfl⟩
      refine ge_ixT (at_ints he0 (by omega)) (ge_sub (ge_mulW (wd_diff (hws _ (getD_mem (by omega))) (hlv _ (getD_mem (by omega))) (hlv _ (getD_mem (by omega)))) ⟨rfl, .refl⟩)))
  exact ⟨S2, e, ge_nil (ge_sum (lat_lst e2) ⟨rfl, a1.trans a2⟩)⟩
theorem total_gives {S : Store} {M : Mine} {ws : List Int} (ok : MineOk M) (hz : M.ways.length ≤ 1000) (A : AirOk M ws) :
    GE (F_total_air [mineD M, widthsD ws] S) fun d S' => d = .tup ((frac (leaving M ws (levelsP M ws) M.inlet) ((levelsP M ws).getD M.inlet.toNat 0)).map D.int) ∧ All S S' := by
  refine ge_den rfl ?_
  unfold M_total_air
  refine gs_seq (gs_asg (ge_bin (ge_var (d := mineD M) rfl (ge_c (ge_ixT (d := .int M.inlet) at2 (gt_name (then_nx ?_)))))))
  refine gs_seq (gs_asg (ge_call (ge_cons (ge_var rfl (ge_cons (ge_var rfl (ge_nil ?_)))))))
  refine (levels_gives ok hz A.toLevOk).mono ?_
  rintro _ S1 ⟨rfl, a1⟩
  have hl := levelsP_len (M := M) (ws := ws)
  have hw := A.lvw
  have htop := A.top
  have hio : M.inlet < (levelsP M ws).length := by have := ok.ends.1; have := ok.lo; omega
  have hmem := getD_mem (l := levelsP M ws) (i := M.inlet.toNat) (by have := ok.ends.1; omega)
  generalize levelsP M ws = lv at hl hw htop hio hmem ⊢
  refine gt_name (then_nx (gs_ret (ge_call (ge_cons (ge_call (ge_cons (ge_var rfl (ge_cons (ge_var rfl (ge_cons (ge_var rfl (ge_cons (ge_var rfl (ge_nil ?_))))))))))))))
  refine (leaving_gives ok hz ok.ends.1 hl A.len A.wsw hw).mono ?_
  rintro _ S2 ⟨rfl, a2⟩
  refine ge_cons (ge_bin (ge_var rfl (ge_var rfl (ge_ixT (at_ints ok.ends.1.1 hio) (ge_nil ?_)))))
  refine (fraction_gives htop (hw _ hmem)).mono ?_
  rintro _ S3 ⟨rfl, rfl⟩
  exact ⟨rfl, a1.trans a2⟩
end Air

set_option Elab.async false
set_option linter.all false
set_option maxRecDepth 100000
set_option maxHeartbeats 4000000
set_option exponentiation.threshold 3000
namespace Air
open PySem PySem.Spec PyProof.Rows L2 MS Law
local macro_rules | `(tactic| walk_at "st") => `(tactic| first
  | with_reducible refine gs_seq ?_ | with_reducible refine gs_asg ?_ | with_reducible refine gs_ret ?_ | with_reducible refine gs_retN ?_ | with_reducible refine gs_drop ?_ | with_reducible refine gs_if ?_ | with_reducible refine gs_par ?_ | with_reducible refine gs_for ?_ | with_reducible refine gs_nx ?_
  | with_reducible refine ge_cons ?_ | with_reducible refine ge_nil ?_ | with_reducible refine ge_c ?_ | with_reducible refine ge_bin ?_ | with_reducible refine ge_call ?_
  | ((with_reducible refine ge_var (d := ?d) ?h ?_); case h => exact rfl)
  | ((with_reducible refine gs_aug (d := ?d) ?h ?_); case h => exact rfl)
  | (with_reducible refine ge_tup ?_) | (with_reducible refine ge_lst ?_) | with_reducible refine ge_B ?_ | with_reducible refine ge_and ?_ | with_reducible refine ge_or ?_ | with_reducible refine ge_not ?_ | with_reducible refine ge_if ?_ | with_reducible refine ge_andV ?_ | with_reducible refine ge_orV ?_ | with_reducible refine ge_notV ?_ | with_reducible refine ge_neg ?_
  | with_reducible refine ge_sl ?_ | with_reducible refine ge_noPart ?_ | with_reducible refine ge_part ?_ | with_reducible refine ge_revT ?_ | with_reducible refine ge_app ?_ | with_reducible refine ge_lc ?_ | with_reducible refine ge_chain ?_
  | with_reducible refine gi_items ?_ | with_reducible refine gi_range1 ?_ | with_reducible refine gi_range2 ?_ | with_reducible refine gi_enum ?_
  | with_reducible refine gt_name ?_ | with_reducible refine gt_nil ?_ | with_reducible refine gt_cons ?_ | with_reducible refine gt_tup rfl ?_ | with_reducible refine gt_sub ?_
  | with_reducible refine ge_fI ?_ | with_reducible refine ge_sub ?_ | with_reducible refine ge_add ?_ | with_reducible refine ge_lt ?_ | with_reducible refine ge_le ?_ | with_reducible refine ge_gt ?_ | with_reducible refine ge_ge ?_ | with_reducible refine ge_eqI ?_ | with_reducible refine ge_neI ?_ | with_reducible refine ge_eqS ?_ | with_reducible refine ge_neS ?_
  | with_reducible refine ge_int ?_ | with_reducible refine ge_min ?_ | with_reducible refine ge_max ?_ | with_reducible refine ge_abs ?_ | with_reducible refine ge_slT ?_
  | with_reducible refine then_nx ?_ | with_reducible refine then_rt ?_
  | ((with_reducible refine ge_ixL (ds := ?ds) (d := ?dd) ?hl ?he ?_); (case hl => first | exact lat_lst (by assumption) | exact lat_fz (by assumption)); (case he => first | exact at0 | exact at1 | exact at2 | exact at3))
  | ((with_reducible refine ge_ixT (d := ?dd) ?he ?_); (case he => first | exact at0 | exact at1 | exact at2 | exact at3))
  | ((with_reducible refine ge_len (ds := ?ds) ?hl ?_); (case hl => first | exact lat_lst (by assumption) | exact lat_fz (by assumption) | exact rfl))
  | ((with_reducible refine ge_mod ?hc ?_); (case hc => first | assumption | decide | omega))
  | ((with_reducible refine ge_div ?hc ?hd ?_); (case hc => first | assumption | decide | omega); (case hd => first | assumption | decide | omega))
  | ((with_reducible refine ge_mul ?hc ?_); (case hc => first | assumption | exact i64_left rfl | exact i64_right rfl))
  | ((with_reducible refine ge_pow ?hc ?_); (case hc => decide))
  | (with_reducible refine ⟨_, rfl, ?_⟩) | (with_reducible refine ⟨_, _, rfl, ?_⟩))
/-! numbers of at most k bits -/
def wk (k : Nat) (i : Int) : Prop := i.natAbs < 2 ^ k
theorem wk.mono {k l : Nat} {i : Int} (h : wk k i) (hl : k ≤ l) : wk l i := Nat.lt_of_lt_of_le h (Nat.pow_le_pow_right (by decide) hl)
theorem wk.wd {k : Nat} {i : Int} (h : wk k i) (hl : k ≤ 2000) : wd i := wk.mono h hl
theorem wk.mul {k l : Nat} {i j : Int} (h : wk k i) (g : wk l j) : wk (k + l) (i * j) := by
  unfold wk at *
  rw [Int.natAbs_mul, Nat.pow_add]
  exact Nat.mul_lt_mul'' h g
theorem wk.add {k : Nat} {i j : Int} (h : wk k i) (g : wk k j) : wk (k + 1) (i + j) := by
  unfold wk at *
  have : (i + j).natAbs ≤ i.natAbs + j.natAbs := by omega
  rw [Nat.pow_succ]; omega
theorem wk.sub {k : Nat} {i j : Int} (h : wk k i) (g : wk k j) : wk (k + 1) (i - j) := by
  unfold wk at *
  have : (i - j).natAbs ≤ i.natAbs + j.natAbs := by omega
  rw [Nat.pow_succ]; omega
theorem wk.neg {k : Nat} {i : Int} (h : wk k i) : wk k (-i) := by
  unfold wk at *; omega
theorem wd_zero : wd 0 := by unfold wd; exact Nat.two_pow_pos _
theorem wd_small {i : Int} (h : i.natAbs < 2 ^ 62) : wd i := wk.mono (k := 62) h (by decide)
theorem wd_div {i j : Int} (h : wd i) : wd (i / j) := by
  unfold wd at *
  exact Nat.lt_of_le_of_lt (Int.natAbs_ediv_le_natAbs i j) h
/-! the common divisor -/
theorem gfold_dvd : ∀ (ls : List Int) (d : Int), (ls.foldl (fun d l => ((Nat.gcd d.natAbs l.natAbs : Nat) : Int)) d ∣ d) ∧ ∀ l ∈ ls, ls.foldl (fun d l => ((Nat.gcd d.natAbs l.natAbs : Nat) : Int)) d ∣ l
  | [], d => ⟨Int.dvd_refl d, fun l h => absurd h List.not_mem_nil⟩
  | a :: ls, d => by
    obtain ⟨h1, h2⟩ := gfold_dvd ls ((Nat.gcd d.natAbs a.natAbs : Nat) : Int)
    rw [List.foldl_cons]
    have k1 : ((Nat.gcd d.natAbs a.natAbs : Nat) : Int) ∣ d := Int.ofNat_dvd_left.mpr (Nat.gcd_dvd_left _ _)
    have k2 : ((Nat.gcd d.natAbs a.natAbs : Nat) : Int) ∣ a := Int.ofNat_dvd_left.mpr (Nat.gcd_dvd_right _ _)
    refine ⟨Int.dvd_trans h1 k1, fun l hl => ?_⟩
    rcases List.mem_cons.mp hl with rfl | hl
    · exact Int.dvd_trans h1 k2
    · exact h2 l hl
theorem gdiv_dvd {ls : List Int} {l : Int} (h : l ∈ ls) : gdiv ls ∣ l := (gfold_dvd ls 0).2 l h
theorem gfold_nonneg : ∀ (ls : List Int) (d : Int), 0 ≤ d → 0 ≤ ls.foldl (fun d l => ((Nat.gcd d.natAbs l.natAbs : Nat) : Int)) d
  | [], d, h => h
  | a :: ls, d, _ => by
    rw [List.foldl_cons]
    exact gfold_nonneg ls _ (by omega)
theorem gdiv_pos {ls : List Int} {l : Int} (h : l ∈ ls) (hl : l ≠ 0) : 0 < gdiv ls := by
  have h1 := gfold_nonneg ls 0 (Int.le_refl 0)
  have h2 := gdiv_dvd h
  have h3 : gdiv ls ≠ 0 := fun z => by
    rw [z] at h2
    exact hl (Int.zero_dvd.mp h2)
  unfold gdiv at *
  omega
theorem gdiv_wd {ls : List Int} {l : Int} (h : l ∈ ls) (hl : l ≠ 0) (hw : wd l) : wd (gdiv ls) := by
  have h1 := Int.natAbs_dvd_natAbs.mpr (gdiv_dvd h)
  unfold wd at *
  exact Nat.lt_of_le_of_lt (Nat.le_of_dvd (by omega) h1) hw
theorem sgn_div {x y g : Int} (hg : 0 < g) (hx : g ∣ x) (hy : g ∣ y) : sgn (x / g) (y / g) = sgn x y := by
  obtain ⟨u, rfl⟩ := hx
  obtain ⟨v, rfl⟩ := hy
  rw [Int.mul_ediv_cancel_left _ (by omega), Int.mul_ediv_cancel_left _ (by omega)]
  unfold sgn
  by_cases h1 : u = v
  · rw [if_pos h1, if_pos (by rw [h1])]
  · rw [if_neg h1, if_neg (fun z => h1 (Int.eq_of_mul_eq_mul_left (by omega) z))]
    by_cases h2 : v < u
    · rw [if_pos h2, if_pos (Int.mul_lt_mul_of_pos_left h2 hg)]
    · rw [if_neg h2, if_neg (fun z => h2 (Int.lt_of_mul_lt_mul_left z (by omega)))]
theorem getD_map {ls : List Int} {f : Int → Int} {i : Nat} (h : i < ls.length) : (ls.map f).getD i 0 = f (ls.getD i 0) := by
  rw [List.getD_eq_getElem?_getD, List.getD_eq_getElem?_getD, List.getElem?_map, List.getElem?_eq_getElem h]
  rfl
theorem pic_without {M : Mine} {ls : List Int} (ok : MineOk M) (hl : ls.length = M.places.toNat) (h0 : 0 < gdiv ls) : pic M (without ls) = pic M ls := by
  unfold pic
  refine List.map_congr_left fun w hw => ?_
  obtain ⟨k1, k2⟩ := way_lt ok hl hw
  unfold without
  rw [getD_map (by omega), getD_map (by omega)]
  exact sgn_div h0 (gdiv_dvd (getD_mem (by omega))) (gdiv_dvd (getD_mem (by omega)))
/-! equality of tuples of whole numbers -/
theorem eqv_ints : ∀ l m : List Int, PyData.eqvAll (l.map PyData.int) (m.map PyData.int) = decide (l = m)
  | [], [] => by simp; rfl
  | [], _ :: _ => by simp; rfl
  | _ :: _, [] => by simp; rfl
  | a :: l, b :: m => by
    rw [List.map_cons, List.map_cons]
    show (PyData.eqv (.int a) (.int b) && PyData.eqvAll (l.map PyData.int) (m.map PyData.int)) = _
    rw [eqv_ints l m]
    show ((a == b) && _) = _
    by_cases h1 : a = b
    · subst h1; simp
    · simp [h1]
theorem shaped_ints (l : List Int) : SeqAt.shaped (.tuple (l.map PyData.int)) = true := by
  obtain ⟨l1, l2⟩ := ints_lay l
  unfold SeqAt.shaped
  rw [Bool.and_eq_true, decide_eq_true_eq]
  refine ⟨l1, ?_⟩
  show PyData.depthAll (l.map PyData.int) + 1 ≤ 64
  omega
theorem eqG_ints {S : Store} {Q : D → Store → Prop} {g : Bool → Bool} {l m : List Int} (h : Q (.bl (g (decide (l = m)))) S) : GE (fEqG g (.tup (l.map D.int)) (.tup (m.map D.int)) S) Q := by
  have e : ∀ l : List Int, toPy S 64 (.tup (l.map D.int)) = some (.tuple (l.map PyData.int)) := fun l => by
    show (((l.map D.int).mapM (toPy S 63)).map PyData.tuple) = _
    rw [toPy_ints (n := 62)]
    rfl
  refine ge_eq (x := .bl (g (decide (l = m)))) (S' := S) ?_ h
  show ((toPy S 64 (.tup (l.map D.int))).bind fun p => (toPy S 64 (.tup (m.map D.int))).bind fun q => if SeqAt.shaped p && SeqAt.shaped q then some (D.bl (g (PyData.eqv p q)), S) else none) = _
  rw [e, e]
  show (if SeqAt.shaped (.tuple (l.map PyData.int)) && SeqAt.shaped (.tuple (m.map PyData.int)) then some (D.bl (g (PyData.eqv (.tuple (l.map PyData.int)) (.tuple (m.map PyData.int)))), S) else none) = _
  rw [shaped_ints, shaped_ints]
  show some (D.bl (g (PyData.eqvAll (l.map PyData.int) (m.map PyData.int))), S) = _
  rw [eqv_ints]
theorem ge_eqT {S : Store} {Q : D → Store → Prop} {l m : List Int} (h : Q (.bl (decide (l = m))) S) : GE (fEq (.tup (l.map D.int)) (.tup (m.map D.int)) S) Q := eqG_ints (g := id) h
theorem ge_neT {S : Store} {Q : D → Store → Prop} {l m : List Int} (h : Q (.bl (!decide (l = m))) S) : GE (fNe (.tup (l.map D.int)) (.tup (m.map D.int)) S) Q := eqG_ints (g := not) h
theorem pen_gives {S : Store} {n : Nat} {ns : List Int} (h : lat S n = some (ns.map D.int)) : GE (F_law_pen [.lr n] S) fun d S' => ∃ p g, d = .lr p ∧ Pen S' p g ∧ All S S' := by
  refine ge_den rfl ?_
  unfold M_law_pen
  repeat walk_at "st"
  refine ge_slL h ?_
  repeat walk_at "st"
  refine ge_list (lat_lst get_new) ?_
  repeat walk_at "st"
  refine ⟨by show 3 ≤ szl; decide, ?_⟩
  have hc : ∃ ms : List Int, MS.cutD (ns.map D.int) none (some 63) = ms.map D.int := by
    unfold MS.cutD
    rw [← List.map_drop, ← List.map_take]
    exact ⟨_, rfl⟩
  obtain ⟨ms, hc⟩ := hc
  rw [hc]
  refine ⟨_, _, rfl, ⟨ms, 0, 0, get_new, get_app get_new, ?_, by decide, by decide⟩, (All.app.trans .app).trans .app⟩
  simp only [List.length_append, List.length_singleton]
  omega
end Air

/-! whole determinants, as far as an elimination without fractions needs them -/
set_option Elab.async false
set_option linter.all false
namespace Det
def sumN : Nat → (Nat → Int) → Int
  | 0, _ => 0
  | n + 1, f => sumN n f + f n
theorem sum_congr {f g : Nat → Int} : ∀ {n : Nat}, (∀ i < n, f i = g i) → sumN n f = sumN n g
  | 0, _ => rfl
  | n + 1, h => by
    show sumN n f + f n = sumN n g + g n
    rw [sum_congr fun i hi => h i (Nat.lt_succ_of_lt hi), h n (Nat.lt_succ_self n)]
theorem sum_zero {n : Nat} : sumN n (fun _ => 0) = 0 := by
  induction n with
  | zero => rfl
  | succ n ih => show sumN n _ + 0 = 0; rw [ih]; rfl
theorem sum_zero' {n : Nat} {f : Nat → Int} (h : ∀ i < n, f i = 0) : sumN n f = 0 := by rw [sum_congr h, sum_zero]
theorem sum_add {n : Nat} {f g : Nat → Int} : sumN n (fun i => f i + g i) = sumN n f + sumN n g := by
  induction n with
  | zero => rfl
  | succ n ih => show sumN n _ + (f n + g n) = (sumN n f + f n) + (sumN n g + g n); rw [ih]; omega
theorem sum_mul {n : Nat} {f : Nat → Int} {c : Int} : sumN n (fun i => c * f i) = c * sumN n f := by
  induction n with
  | zero => show (0 : Int) = c * 0; rw [Int.mul_zero]
  | succ n ih => show sumN n _ + c * f n = c * (sumN n f + f n); rw [ih, Int.mul_add]
theorem sum_neg {n : Nat} {f : Nat → Int} : sumN n (fun i => -f i) = -sumN n f := by
  induction n with
  | zero => rfl
  | succ n ih => show sumN n _ + -f n = -(sumN n f + f n); rw [ih]; omega
/-- the pairs below the diagonal and those from it on, as pairs (a, b) with a below b -/
theorem sum_pairs (f : Nat → Nat → Int) : ∀ n : Nat, sumN (n + 1) (fun l => sumN n fun m => f l m) = sumN (n + 1) fun b => sumN b fun a => f b a + f a (b - 1)
  | 0 => rfl
  | n + 1 => by
    have ih := sum_pairs f n
    have h1 : sumN (n + 1) (fun l => sumN (n + 1) fun m => f l m) = sumN (n + 1) (fun l => sumN n fun m => f l m) + sumN (n + 1) (fun l => f l n) := by
      rw [← sum_add]
      exact sum_congr fun l _ => rfl
    have h2 : sumN (n + 1) (fun a => f (n + 1) a + f a (n + 1 - 1)) = sumN (n + 1) (fun a => f (n + 1) a) + sumN (n + 1) (fun a => f a n) := sum_add
    show sumN (n + 1) (fun l => sumN (n + 1) fun m => f l m) + sumN (n + 1) (fun m => f (n + 1) m) = sumN (n + 1) (fun b => sumN b fun a => f b a + f a (b - 1)) + sumN (n + 1) (fun a => f (n + 1) a + f a (n + 1 - 1))
    rw [h1, h2, ih]
    omega
def sg : Nat → Int
  | 0 => 1
  | n + 1 => -sg n
theorem sg_add : ∀ a b : Nat, sg (a + b) = sg a * sg b
  | a, 0 => by show sg a = sg a * 1; omega
  | a, b + 1 => by
    show -sg (a + b) = sg a * -sg b
    rw [sg_add a b, Int.mul_neg]
theorem sg_sq : ∀ a : Nat, sg a * sg a = 1
  | 0 => rfl
  | a + 1 => by
    show -sg a * -sg a = 1
    rw [Int.neg_mul_neg, sg_sq a]
theorem sg_double (a : Nat) : sg (a + a) = 1 := by rw [sg_add, sg_sq]
def skip (l r : Nat) : Nat := if r < l then r else r + 1
theorem skip_skip {a b r : Nat} (h : a < b) : skip b (skip a r) = skip a (skip (b - 1) r) := by
  unfold skip
  by_cases h1 : r < a
  · have h2 : r < b := by omega
    have h3 : r < b - 1 := by omega
    simp [h1, h2, h3]
  · by_cases h2 : r + 1 < b
    · have h3 : r < b - 1 := by omega
      simp [h1, h2, h3]
    · have h3 : ¬ r < b - 1 := by omega
      have h4 : ¬ r + 1 < a := by omega
      simp [h1, h2, h3, h4]
/-- column j, row r -/
abbrev Mat := Nat → Nat → Int
def det : Nat → Mat → Int
  | 0, _ => 1
  | k + 1, C => sumN (k + 1) fun l => sg (l + k) * (C k l * det k fun j r => C j (skip l r))
theorem det_congr : ∀ {k : Nat} {C E : Mat}, (∀ j < k, ∀ r < k, C j r = E j r) → det k C = det k E
  | 0, _, _, _ => rfl
  | k + 1, C, E, h => by
    refine sum_congr fun l hl => ?_
    rw [h k (Nat.lt_succ_self k) l hl]
    have : det k (fun j r => C j (skip l r)) = det k (fun j r => E j (skip l r)) := det_congr fun j hj r hr => h j (Nat.lt_succ_of_lt hj) _ (by unfold skip; split <;> omega)
    rw [this]
/-- the expansion by the last two columns -/
theorem det_two {k : Nat} {C : Mat} : det (k + 2) C = sumN (k + 2) fun b => sumN b fun a => sg (a + b) * ((C (k + 1) a * C k b - C (k + 1) b * C k a) * det k fun j r => C j (skip b (skip a r))) := by
  have e : det (k + 2) C = sumN (k + 1 + 1) fun l => sumN (k + 1) fun m => sg (l + (k + 1)) * (C (k + 1) l * (sg (m + k) * (C k (skip l m) * det k fun j r => C j (skip l (skip m r))))) := by
    refine sum_congr fun l _ => ?_
    show sg (l + (k + 1)) * (C (k + 1) l * sumN (k + 1) fun m => sg (m + k) * (C k (skip l m) * det k fun j r => C j (skip l (skip m r)))) = _
    rw [← sum_mul, ← sum_mul]
  rw [e, sum_pairs]
  refine sum_congr fun b hb => sum_congr fun a ha => ?_
  have s1 : skip b a = a := by unfold skip; rw [if_pos ha]
  have s2 : skip a (b - 1) = b := by unfold skip; split <;> omega
  have s3 : (fun j r => C j (skip a (skip (b - 1) r))) = fun j r => C j (skip b (skip a r)) := by
    funext j r; rw [skip_skip ha]
  rw [s1, s2, s3]
  generalize (det k fun j r => C j (skip b (skip a r))) = d
  have g1 : sg (b + (k + 1)) * sg (a + k) = -sg (a + b) := by
    rw [← sg_add, show b + (k + 1) + (a + k) = (a + b) + (k + k) + 1 by omega]
    show -sg ((a + b) + (k + k)) = _
    rw [sg_add (a + b), sg_double, Int.mul_one]
  have g2 : sg (a + (k + 1)) * sg (b - 1 + k) = sg (a + b) := by
    rw [← sg_add, show a + (k + 1) + (b - 1 + k) = (a + b) + (k + k) by omega, sg_add (a + b), sg_double, Int.mul_one]
  have h1 : sg (b + (k + 1)) * (C (k + 1) b * (sg (a + k) * (C k a * d))) = (sg (b + (k + 1)) * sg (a + k)) * (C (k + 1) b * C k a * d) := by grind
  have h2 : sg (a + (k + 1)) * (C (k + 1) a * (sg (b - 1 + k) * (C k b * d))) = (sg (a + (k + 1)) * sg (b - 1 + k)) * (C (k + 1) a * C k b * d) := by grind
  rw [h1, h2, g1, g2]
  grind
def sw (c : Nat) (j : Nat) : Nat := if j = c then c + 1 else if j = c + 1 then c else j
/-- neighbouring columns exchanged -/
theorem det_swap : ∀ {k c : Nat} {C : Mat}, c + 1 < k → det k (fun j r => C (sw c j) r) = -det k C
  | 0, c, C, h => absurd h (by omega)
  | 1, c, C, h => absurd h (by omega)
  | k + 2, c, C, h => by
    by_cases hc : c = k
    · subst hc
      rw [det_two, det_two, ← sum_neg]
      refine sum_congr fun b _ => ?_
      rw [← sum_neg]
      refine sum_congr fun a _ => ?_
      have e1 : sw c (c + 1) = c := by unfold sw; simp
      have e2 : sw c c = c + 1 := by unfold sw; simp
      have e3 : det c (fun j r => C (sw c j) (skip b (skip a r))) = det c (fun j r => C j (skip b (skip a r))) := det_congr fun j hj r _ => by
        have : sw c j = j := by unfold sw; rw [if_neg (by omega), if_neg (by omega)]
        rw [this]
      show sg (a + b) * ((C (sw c (c + 1)) a * C (sw c c) b - C (sw c (c + 1)) b * C (sw c c) a) * det c fun j r => C (sw c j) (skip b (skip a r))) = _
      rw [e1, e2, e3]
      grind
    · show sumN (k + 2) (fun l => sg (l + (k + 1)) * (C (sw c (k + 1)) l * det (k + 1) fun j r => C (sw c j) (skip l r))) = -sumN (k + 2) (fun l => sg (l + (k + 1)) * (C (k + 1) l * det (k + 1) fun j r => C j (skip l r)))
      rw [← sum_neg]
      refine sum_congr fun l _ => ?_
      have e1 : sw c (k + 1) = k + 1 := by unfold sw; rw [if_neg (by omega), if_neg (by omega)]
      have e2 := det_swap (k := k + 1) (c := c) (C := fun j r => C j (skip l r)) (by omega)
      rw [e1]
      show sg (l + (k + 1)) * (C (k + 1) l * det (k + 1) fun j r => C (sw c j) (skip l r)) = _
      rw [e2]
      grind
/-- the last column like one before it -/
theorem det_same : ∀ {n j : Nat} {C : Mat}, j < n → (∀ r < n + 1, C n r = C j r) → det (n + 1) C = 0
  | 0, j, C, h, _ => absurd h (Nat.not_lt_zero _)
  | n + 1, j, C, h, e => by
    by_cases hj : j = n
    · subst hj
      rw [det_two]
      refine sum_zero' fun b hb => sum_zero' fun a ha => ?_
      rw [e a (by omega), e b (by omega), show C j a * C j b - C j b * C j a = 0 by grind]
      simp
    · have h1 := det_swap (k := n + 2) (c := n) (C := C) (by omega)
      have h2 : det (n + 2) (fun i r => C (sw n i) r) = 0 := by
        refine sum_zero' fun l hl => ?_
        have : det (n + 1) (fun i r => C (sw n i) (skip l r)) = 0 := det_same (j := j) (by omega) fun r hr => by
          have e1 : sw n n = n + 1 := by unfold sw; simp
          have e2 : sw n j = j := by unfold sw; rw [if_neg (by omega), if_neg (by omega)]
          show C (sw n n) (skip l r) = C (sw n j) (skip l r)
          rw [e1, e2]
          exact e _ (by unfold skip; split <;> omega)
        show sg (l + (n + 1)) * (C (sw n (n + 1)) l * det (n + 1) fun i r => C (sw n i) (skip l r)) = 0
        rw [this, Int.mul_zero, Int.mul_zero]
      rw [h2] at h1
      have h3 : det (n + 2) C = 0 := by omega
      exact h3
end Det

/-! an elimination without fractions divides without a rest -/
set_option Elab.async false
set_option linter.all false
namespace Det
section
variable (A : Nat → Nat → Int)
/-- sums of multiples of the first k rows -/
def Comb (k : Nat) (z : Nat → Int) : Prop := ∃ c : Nat → Int, ∀ j, z j = sumN k fun l => c l * A l j
variable {A}
theorem Comb.add {k : Nat} {x y : Nat → Int} (h : Comb A k x) (g : Comb A k y) : Comb A k fun j => x j + y j := by
  obtain ⟨c, h⟩ := h
  obtain ⟨e, g⟩ := g
  refine ⟨fun l => c l + e l, fun j => ?_⟩
  try dsimp only
  rw [h, g, ← sum_add]
  exact sum_congr fun l _ => by (try dsimp only); grind
theorem Comb.mul {k : Nat} {x : Nat → Int} (h : Comb A k x) (t : Int) : Comb A k fun j => t * x j := by
  obtain ⟨c, h⟩ := h
  refine ⟨fun l => t * c l, fun j => ?_⟩
  try dsimp only
  rw [h, ← sum_mul]
  exact sum_congr fun l _ => by (try dsimp only); grind
theorem Comb.congr {k : Nat} {x y : Nat → Int} (h : Comb A k x) (e : ∀ j, y j = x j) : Comb A k y := by
  obtain ⟨c, h⟩ := h
  exact ⟨c, fun j => by rw [e, h]⟩
theorem Comb.up {k : Nat} {x : Nat → Int} (h : Comb A k x) : Comb A (k + 1) x := by
  obtain ⟨c, h⟩ := h
  refine ⟨fun l => if l < k then c l else 0, fun j => ?_⟩
  try dsimp only
  show x j = sumN k (fun l => (if l < k then c l else 0) * A l j) + (if k < k then c k else 0) * A k j
  rw [h, if_neg (Nat.lt_irrefl k)]
  have : sumN k (fun l => (if l < k then c l else 0) * A l j) = sumN k fun l => c l * A l j := sum_congr fun l hl => by (try dsimp only); rw [if_pos hl]
  rw [this]; omega
theorem sum_one {k i : Nat} (h : i < k) {f : Nat → Int} (hf : ∀ l < k, l ≠ i → f l = 0) : sumN k f = f i := by
  induction k with
  | zero => exact absurd h (Nat.not_lt_zero _)
  | succ k ih =>
    show sumN k f + f k = f i
    by_cases hi : i = k
    · subst hi
      rw [sum_zero' fun l hl => hf l (by omega) (by omega)]; omega
    · rw [ih (by omega) fun l hl => hf l (by omega), hf k (by omega) (by omega)]; omega
theorem Comb.row {k i : Nat} (h : i < k) : Comb A k (A i) := by
  refine ⟨fun l => if l = i then 1 else 0, fun j => ?_⟩
  try dsimp only
  rw [sum_one h fun l _ hl => by (try dsimp only); rw [if_neg hl, Int.zero_mul]]
  (try dsimp only)
  rw [if_pos rfl, Int.one_mul]
variable (A)
/-- the leading determinants -/
def D (k : Nat) : Int := det k fun c r => A r c
/-- the row i when k columns are cleared -/
structure IsV (k i : Nat) (v : Nat → Int) : Prop where
  comb : Comb A k fun j => v j - if i < k then 0 else D A k * A i j
  zero : ∀ j < k, j ≠ i → v j = 0
  diag : i < k → v i = D A k
variable {A}
theorem det_last {k : Nat} {C : Mat} : det (k + 1) C = sumN k (fun l => sg (l + k) * (C k l * det k fun j r => C j (skip l r))) + C k k * det k C := by
  show sumN k _ + sg (k + k) * (C k k * det k fun j r => C j (skip k r)) = _
  rw [sg_double, Int.one_mul]
  have : det k (fun j r => C j (skip k r)) = det k C := det_congr fun j _ r hr => by unfold skip; rw [if_pos hr]
  rw [this]
/-- a row that is not among the first k -/
theorem ex_below (k i : Nat) (h : k ≤ i) : ∃ v, IsV A k i v ∧ (i = k → v k = D A (k + 1)) := by
  refine ⟨fun j => det (k + 1) fun c r => A (if r < k then r else i) (if c < k then c else j), ⟨?_, fun j hj _ => ?_, fun hi => absurd hi (by omega)⟩, fun hi => ?_⟩
  · refine ⟨fun l => sg (l + k) * det k fun c r => A (if skip l r < k then skip l r else i) c, fun j => ?_⟩
    try dsimp only
    rw [if_neg (by omega), det_last]
    show sumN k (fun l => sg (l + k) * (A (if l < k then l else i) (if k < k then k else j) * _)) + A (if k < k then k else i) (if k < k then k else j) * _ - _ = _
    rw [if_neg (Nat.lt_irrefl k), if_neg (Nat.lt_irrefl k)]
    have e1 : det k (fun c r => A (if r < k then r else i) (if c < k then c else j)) = D A k := det_congr fun c hc r hr => by rw [if_pos hc, if_pos hr]
    have e2 : sumN k (fun l => sg (l + k) * (A (if l < k then l else i) j * det k fun c r => A (if skip l r < k then skip l r else i) (if c < k then c else j))) = sumN k fun l => (sg (l + k) * det k fun c r => A (if skip l r < k then skip l r else i) c) * A l j :=
      sum_congr fun l hl => by
        have : det k (fun c r => A (if skip l r < k then skip l r else i) (if c < k then c else j)) = det k fun c r => A (if skip l r < k then skip l r else i) c := det_congr fun c hc r _ => by rw [if_pos hc]
        rw [this, if_pos hl]
        grind
    rw [e1, e2]
    grind
  · exact det_same hj fun r _ => by
      show A _ (if k < k then k else j) = A _ (if j < k then j else j)
      rw [if_neg (Nat.lt_irrefl k)]
      split <;> rfl
  · subst hi
    exact det_congr fun c hc r hr => by
      show A (if r < i then r else i) (if c < i then c else i) = A r c
      have e1 : (if r < i then r else i) = r := by split <;> omega
      have e2 : (if c < i then c else i) = c := by split <;> omega
      rw [e1, e2]
/-- the i-th column moved right t places -/
def mv (i t c : Nat) : Nat := if c < i then c else if c < i + t then c + 1 else if c = i + t then i else c
theorem det_mv {k i : Nat} {C : Mat} : ∀ t : Nat, i + t < k → det k (fun c r => C (mv i t c) r) = sg t * det k C
  | 0, h => by
    show _ = 1 * det k C
    rw [Int.one_mul]
    exact det_congr fun c _ r _ => by
      have : mv i 0 c = c := by unfold mv; split; rfl; split; omega; split <;> omega
      rw [this]
  | t + 1, h => by
    have h1 := det_swap (k := k) (c := i + t) (C := fun c r => C (mv i t c) r) (by omega)
    have h2 : det k (fun c r => C (mv i t (sw (i + t) c)) r) = det k fun c r => C (mv i (t + 1) c) r := det_congr fun c _ r _ => by
      have : mv i t (sw (i + t) c) = mv i (t + 1) c := by
        unfold sw
        by_cases c1 : c = i + t
        · rw [if_pos c1]
          unfold mv
          rw [if_neg (by omega), if_neg (by omega), if_neg (by omega), if_neg (by omega), if_pos (by omega)]
          omega
        · rw [if_neg c1]
          by_cases c2 : c = i + t + 1
          · rw [if_pos c2]
            unfold mv
            rw [if_neg (by omega), if_neg (by omega), if_pos rfl, if_neg (by omega), if_neg (by omega), if_pos (by omega)]
          · rw [if_neg c2]
            unfold mv
            by_cases c3 : c < i
            · rw [if_pos c3, if_pos c3]
            · rw [if_neg c3, if_neg c3]
              by_cases c4 : c < i + t
              · rw [if_pos c4, if_pos (by omega)]
              · rw [if_neg c4, if_neg (by omega), if_neg (by omega), if_neg (by omega)]
      rw [this]
    rw [← h2, h1, det_mv t (by omega)]
    show _ = -sg t * det k C
    rw [Int.neg_mul]
/-- a row that is among the first k -/
theorem ex_above (k i : Nat) (h : i < k) : ∃ v, IsV A k i v := by
  obtain ⟨n, rfl⟩ : ∃ n, k = n + 1 := ⟨k - 1, by omega⟩
  refine ⟨fun j => sg (n - i) * det (n + 1) fun c r => A r (if c < n then mv i (n - i) c else j), ⟨?_, fun j hj hji => ?_, fun _ => ?_⟩⟩
  · refine ⟨fun l => sg (n - i) * (sg (l + n) * det n fun c r => A (skip l r) (mv i (n - i) c)), fun j => ?_⟩
    try dsimp only
    rw [if_pos h]
    show sg (n - i) * sumN (n + 1) (fun l => sg (l + n) * (A l (if n < n then _ else j) * det n fun c r => A (skip l r) (if c < n then mv i (n - i) c else j))) - 0 = _
    rw [if_neg (Nat.lt_irrefl n), ← sum_mul, Int.sub_zero]
    refine sum_congr fun l _ => ?_
    have : det n (fun c r => A (skip l r) (if c < n then mv i (n - i) c else j)) = det n fun c r => A (skip l r) (mv i (n - i) c) := det_congr fun c hc r _ => by rw [if_pos hc]
    rw [this]
    grind
  · have hc : ∃ c, c < n ∧ mv i (n - i) c = j := by
      by_cases h1 : j < i
      · exact ⟨j, by omega, by unfold mv; rw [if_pos h1]⟩
      · exact ⟨j - 1, by omega, by unfold mv; rw [if_neg (by omega), if_pos (by omega)]; omega⟩
    obtain ⟨c, hc, e⟩ := hc
    have : det (n + 1) (fun c r => A r (if c < n then mv i (n - i) c else j)) = 0 := det_same hc fun r _ => by
      show A r (if n < n then _ else j) = A r (if c < n then _ else j)
      rw [if_neg (Nat.lt_irrefl n), if_pos hc, e]
    show sg (n - i) * det (n + 1) (fun c r => A r (if c < n then mv i (n - i) c else j)) = 0
    rw [this, Int.mul_zero]
  · have : det (n + 1) (fun c r => A r (if c < n then mv i (n - i) c else i)) = det (n + 1) fun c r => A r (mv i (n - i) c) := det_congr fun c hc r _ => by
      have : (if c < n then mv i (n - i) c else i) = mv i (n - i) c := by
        split
        · rfl
        · unfold mv; rw [if_neg (by omega), if_neg (by omega), if_pos (by omega)]
      rw [this]
    show sg (n - i) * det (n + 1) (fun c r => A r (if c < n then mv i (n - i) c else i)) = D A (n + 1)
    rw [this, det_mv (C := fun c r => A r c) (n - i) (by omega), ← Int.mul_assoc, sg_sq, Int.one_mul]
    rfl
theorem ex_v (k i : Nat) : ∃ v, IsV A k i v := by
  by_cases h : i < k
  · exact ex_above k i h
  · obtain ⟨v, h, _⟩ := ex_below (A := A) k i (by omega); exact ⟨v, h⟩
/-- the first k rows are independent in the first k columns -/
theorem indep : ∀ {k : Nat}, (∀ m ≤ k, D A m ≠ 0) → ∀ c : Nat → Int, (∀ j < k, sumN k (fun l => c l * A l j) = 0) → ∀ l < k, c l = 0
  | 0, _, _, _, l, hl => absurd hl (Nat.not_lt_zero _)
  | k + 1, hD, c, h, l, hl => by
    obtain ⟨v, hv, hvk⟩ := ex_below (A := A) k k (Nat.le_refl k)
    obtain ⟨e, he⟩ := hv.comb
    have he' : ∀ j, v j = D A k * A k j + sumN k (fun l => e l * A l j) := fun j => by
      have := he j
      dsimp only at this
      rw [if_neg (Nat.lt_irrefl k)] at this
      omega
    have key : ∀ j < k + 1, sumN k (fun l => (D A k * c l - c k * e l) * A l j) + c k * v j = 0 := fun j hj => by
      have h1 : sumN k (fun l => c l * A l j) + c k * A k j = 0 := h j hj
      have h2 : sumN k (fun l => (D A k * c l - c k * e l) * A l j) = D A k * sumN k (fun l => c l * A l j) + -c k * sumN k (fun l => e l * A l j) := by
        rw [← sum_mul, ← sum_mul, ← sum_add]
        exact sum_congr fun l _ => by (try dsimp only); grind
      rw [h2, he' j]
      have : D A k * (sumN k (fun l => c l * A l j) + c k * A k j) = 0 := by rw [h1, Int.mul_zero]
      grind
    have z : ∀ l < k, D A k * c l - c k * e l = 0 := indep (fun m hm => hD m (by omega)) (fun l => D A k * c l - c k * e l) fun j hj => by
      have := key j (by omega)
      rw [hv.zero j hj (by omega), Int.mul_zero, Int.add_zero] at this
      exact this
    have hk : c k = 0 := by
      have := key k (by omega)
      rw [sum_zero' fun l hl => by rw [z l hl, Int.zero_mul], hvk rfl, Int.zero_add] at this
      exact (Int.mul_eq_zero.mp this).resolve_right (hD _ (Nat.le_refl _))
    by_cases hlk : l = k
    · rw [hlk]; exact hk
    · have := z l (by omega)
      rw [hk, Int.zero_mul, Int.sub_zero] at this
      exact (Int.mul_eq_zero.mp this).resolve_left (hD k (by omega))
theorem comb_zero {k : Nat} (hD : ∀ m ≤ k, D A m ≠ 0) {z : Nat → Int} (h : Comb A k z) (h0 : ∀ j < k, z j = 0) (j : Nat) : z j = 0 := by
  obtain ⟨c, h⟩ := h
  have := indep hD c fun j hj => by rw [← h]; exact h0 j hj
  rw [h]
  exact sum_zero' fun l hl => by rw [this l hl, Int.zero_mul]
theorem v_same {k i : Nat} (hD : ∀ m ≤ k, D A m ≠ 0) {v u : Nat → Int} (h : IsV A k i v) (g : IsV A k i u) (j : Nat) : v j = u j := by
  have := comb_zero hD (z := fun j => v j - u j) ((h.comb.add (g.comb.mul (-1))).congr fun j => by (try dsimp only); grind) (fun j hj => by
    by_cases hi : j = i
    · subst hi
      rw [h.diag hj, g.diag hj, Int.sub_self]
    · rw [h.zero j hj hi, g.zero j hj hi]; rfl) j
  omega
theorem v_lead {k : Nat} (hD : ∀ m ≤ k, D A m ≠ 0) {v : Nat → Int} (h : IsV A k k v) : v k = D A (k + 1) := by
  obtain ⟨u, hu, e⟩ := ex_below (A := A) k k (Nat.le_refl k)
  rw [v_same hD h hu, e rfl]
/-- one turn of the elimination, the row itself -/
theorem v_self {k : Nat} (hD : ∀ m ≤ k, D A m ≠ 0) {p : Nat → Int} (h : IsV A k k p) : IsV A (k + 1) k p where
  comb := by
    refine ((h.comb.up).add ((Comb.row (i := k) (Nat.lt_succ_self k)).mul (D A k))).congr fun j => ?_
    try dsimp only
    rw [if_pos (Nat.lt_succ_self k), if_neg (Nat.lt_irrefl k)]
    grind
  zero := fun j hj hjk => h.zero j (by omega) hjk
  diag := fun _ => v_lead hD h
/-- another row: the division has no rest -/
theorem v_step {k i : Nat} (hik : i ≠ k) (hD : ∀ m ≤ k + 1, D A m ≠ 0) {p v u : Nat → Int} (hp : IsV A k k p) (hv : IsV A k i v) (hu : IsV A (k + 1) i u) (j : Nat) : p k * v j - v k * p j = u j * D A k := by
  have hlead := v_lead (fun m hm => hD m (by omega)) hp
  have hpc : Comb A (k + 1) p := (v_self (fun m hm => hD m (by omega)) hp).comb.congr fun j => by (try dsimp only); rw [if_pos (Nat.lt_succ_self k)]; omega
  have hz : Comb A (k + 1) fun j => (p k * v j - v k * p j) - u j * D A k := by
    by_cases hi : i < k
    · have c1 : Comb A (k + 1) v := (hv.comb.up).congr fun j => by (try dsimp only); rw [if_pos hi]; omega
      have c2 : Comb A (k + 1) u := hu.comb.congr fun j => by (try dsimp only); rw [if_pos (by omega)]; omega
      exact (((c1.mul (p k)).add (hpc.mul (-v k))).add (c2.mul (-D A k))).congr fun j => by (try dsimp only); grind
    · have c1 := hv.comb.up
      have c2 := hu.comb
      exact (((c1.mul (p k)).add (hpc.mul (-v k))).add (c2.mul (-D A k))).congr fun j => by
        try dsimp only
        rw [if_neg hi, if_neg (by omega), hlead]
        grind
  have := comb_zero hD hz (fun j hj => by
    by_cases hjk : j = k
    · subst hjk
      rw [hu.zero j hj (by omega)]
      grind
    · have hp0 : p j = 0 := hp.zero j (by omega) hjk
      by_cases hji : j = i
      · subst hji
        rw [hp0, hv.diag (by omega), hu.diag (by omega), hlead]
        grind
      · rw [hp0, hv.zero j (by omega) hji, hu.zero j hj hji]
        grind) j
  omega
end
end Det

/-! the elimination itself: exact, its leads positive where the rows are those of a net that is joined to its ends, its last rows the solution -/
set_option Elab.async false
set_option linter.all false
namespace Det
section
variable (A : Nat → Nat → Int)
def estep (a : Nat → Nat → Int) (d : Int) (k : Nat) : Nat → Nat → Int := fun i j => if i = k then a i j else (a k k * a i j - a i k * a k j) / d
def el : Nat → (Nat → Nat → Int) × Int
  | 0 => (A, 1)
  | k + 1 => (estep (el k).1 (el k).2 k, (el k).1 k k)
variable {A}
theorem el_is : ∀ {k : Nat}, (∀ m ≤ k, D A m ≠ 0) → (el A k).2 = D A k ∧ ∀ i, IsV A k i ((el A k).1 i)
  | 0, _ => ⟨rfl, fun i => ⟨⟨fun _ => 0, fun j => by
      show A i j - (if i < 0 then 0 else 1 * A i j) = 0
      rw [if_neg (Nat.not_lt_zero _)]; omega⟩, fun j hj => absurd hj (Nat.not_lt_zero _), fun h => absurd h (Nat.not_lt_zero _)⟩⟩
  | k + 1, hD => by
    obtain ⟨h1, h2⟩ := el_is (k := k) fun m hm => hD m (by omega)
    refine ⟨v_lead (fun m hm => hD m (by omega)) (h2 k), fun i => ?_⟩
    by_cases hi : i = k
    · subst hi
      have e : (el A (i + 1)).1 i = (el A i).1 i := by
        funext j
        show (if i = i then _ else _) = _
        rw [if_pos rfl]
      rw [e]
      exact v_self (fun m hm => hD m (by omega)) (h2 i)
    · obtain ⟨u, hu⟩ := ex_v (A := A) (k + 1) i
      have e : (el A (k + 1)).1 i = u := by
        funext j
        show (if i = k then _ else _) = _
        rw [if_neg hi, h1, v_step hi hD (h2 k) (h2 i) hu j, Int.mul_ediv_cancel _ (hD k (by omega))]
      rw [e]
      exact hu
/-- the step's products, without a division -/
theorem el_mul {k i : Nat} (hD : ∀ m ≤ k + 1, D A m ≠ 0) (hi : i ≠ k) (j : Nat) : (el A (k + 1)).1 i j * D A k = (el A k).1 k k * (el A k).1 i j - (el A k).1 i k * (el A k).1 k j := by
  obtain ⟨_, h2⟩ := el_is (k := k) fun m hm => hD m (by omega)
  obtain ⟨_, h3⟩ := el_is hD
  exact (v_step hi hD (h2 k) (h2 i) (h3 i) j).symm
/-! nets: rows whose other parts are not above 0, column n what leads to the one end, the rest what leads to the other one -/
variable (n : Nat)
def slack (a : Nat → Nat → Int) (k i : Nat) : Int := sumN n (fun j => if j < k then 0 else a i j) - a i n
inductive Rch (a : Nat → Nat → Int) (k : Nat) : Nat → Prop
  | out {i : Nat} : k ≤ i → i < n → (0 < a i n ∨ 0 < slack n a k i) → Rch a k i
  | go {i j : Nat} : k ≤ i → i < n → i ≠ j → a i j < 0 → Rch a k j → Rch a k i
structure Net (a : Nat → Nat → Int) (k : Nat) : Prop where
  off : ∀ i j, k ≤ i → i < n → k ≤ j → j < n → i ≠ j → a i j ≤ 0
  one : ∀ i, k ≤ i → i < n → 0 ≤ a i n
  other : ∀ i, k ≤ i → i < n → 0 ≤ slack n a k i
  joined : ∀ i, k ≤ i → i < n → Rch n a k i
variable {n}
theorem Rch.ge {a : Nat → Nat → Int} {k i : Nat} (h : Rch n a k i) : k ≤ i ∧ i < n := by
  cases h with
  | out h1 h2 _ => exact ⟨h1, h2⟩
  | go h1 h2 _ _ _ => exact ⟨h1, h2⟩
theorem sum_le {m : Nat} {f : Nat → Int} (h : ∀ j < m, f j ≤ 0) : sumN m f ≤ 0 := by
  induction m with
  | zero => exact Int.le_refl 0
  | succ m ih =>
    show sumN m f + f m ≤ 0
    have h1 := ih fun j hj => h j (by omega)
    have h2 := h m (by omega)
    omega
/-- all parts but one -/
def but (i : Nat) (f : Nat → Int) : Nat → Int := fun j => if j = i then 0 else f j
theorem sum_but {m i : Nat} (h : i < m) (f : Nat → Int) : sumN m f = f i + sumN m (but i f) := by
  have e : sumN m f = sumN m (fun j => (if j = i then f j else 0) + but i f j) := sum_congr fun j _ => by
    unfold but
    split <;> omega
  rw [e, sum_add, sum_one h fun l _ hl => by rw [if_neg hl], if_pos rfl]
theorem sum_lt {m i : Nat} {f : Nat → Int} (h : ∀ j < m, f j ≤ 0) (hi : i < m) (hf : f i < 0) : sumN m f < 0 := by
  rw [sum_but hi]
  have : sumN m (but i f) ≤ 0 := sum_le fun j hj => by unfold but; split; omega; exact h j hj
  omega
theorem Net.lead {a : Nat → Nat → Int} {k i : Nat} (N : Net n a k) (h1 : k ≤ i) (h2 : i < n) : 0 < a i i := by
  have e : slack n a k i = a i i + sumN n (but i fun j => if j < k then 0 else a i j) - a i n := by
    unfold slack
    rw [sum_but h2, if_neg (by omega)]
  have hb : ∀ j < n, but i (fun j => if j < k then 0 else a i j) j ≤ 0 := fun j hj => by
    unfold but
    split
    · exact Int.le_refl 0
    · (try dsimp only)
      split
      · exact Int.le_refl 0
      · exact N.off i j h1 h2 (by omega) hj (by omega)
  have h3 := N.one i h1 h2
  have h4 := N.other i h1 h2
  have h5 := sum_le hb
  cases N.joined i h1 h2 with
  | out _ _ h => omega
  | go _ _ hij hlt hr =>
    rename_i j
    have hj := hr.ge
    have := sum_lt hb hj.2 (by unfold but; rw [if_neg (fun z => hij z.symm)]; (try dsimp only); rw [if_neg (by omega)]; exact hlt)
    omega
theorem slack_cut {a : Nat → Nat → Int} {k i : Nat} (hk : k < n) : slack n a k i = a i k + slack n a (k + 1) i := by
  unfold slack
  have : sumN n (fun j => if j < k then 0 else a i j) = a i k + sumN n (fun j => if j < k + 1 then 0 else a i j) := by
    rw [sum_but hk, if_neg (Nat.lt_irrefl k)]
    congr 1
    refine sum_congr fun j _ => ?_
    unfold but
    by_cases h1 : j = k
    · rw [if_pos h1, if_pos (by omega)]
    · rw [if_neg h1]
      (try dsimp only)
      by_cases h2 : j < k
      · rw [if_pos h2, if_pos (by omega)]
      · rw [if_neg h2, if_neg (by omega)]
  rw [this]; omega
theorem pos_of_mul {x d : Int} (hd : 0 < d) (h : 0 < x * d) : 0 < x := by
  rcases Int.lt_trichotomy x 0 with h1 | h1 | h1
  · have := Int.mul_neg_of_neg_of_pos h1 hd; omega
  · rw [h1, Int.zero_mul] at h; omega
  · exact h1
theorem nonneg_of_mul {x d : Int} (hd : 0 < d) (h : 0 ≤ x * d) : 0 ≤ x := by
  rcases Int.lt_trichotomy x 0 with h1 | h1 | h1
  · have := Int.mul_neg_of_neg_of_pos h1 hd; omega
  · omega
  · omega
/-- the net's next turn, by its products -/
theorem Net.next {a b : Nat → Nat → Int} {k : Nat} {d : Int} (N : Net n a k) (hk : k < n) (hd : 0 < d) (hb : ∀ i j, i ≠ k → b i j * d = a k k * a i j - a i k * a k j) : Net n b (k + 1) := by
  have hp := N.lead (Nat.le_refl k) hk
  have hsl : ∀ i, i ≠ k → slack n b (k + 1) i * d = a k k * slack n a k i - a i k * slack n a k k := fun i hi => by
    rw [slack_cut (i := i) hk, slack_cut (i := k) hk]
    unfold slack
    have e : sumN n (fun j => if j < k + 1 then 0 else b i j) * d = a k k * sumN n (fun j => if j < k + 1 then 0 else a i j) + -a i k * sumN n (fun j => if j < k + 1 then 0 else a k j) := by
      rw [Int.mul_comm, ← sum_mul, ← sum_mul, ← sum_mul, ← sum_add]
      refine sum_congr fun j _ => ?_
      by_cases h : j < k + 1
      · rw [if_pos h, if_pos h, if_pos h]; grind
      · rw [if_neg h, if_neg h, if_neg h, Int.mul_comm, hb i j hi]; grind
    rw [Int.sub_mul, e, hb i n hi]
    grind
  have hoff : ∀ i j, k + 1 ≤ i → i < n → k + 1 ≤ j → j < n → i ≠ j → b i j * d ≤ 0 ∧ (a i j < 0 → b i j < 0) ∧ (a i k < 0 → a k j < 0 → b i j < 0) := fun i j h1 h2 h3 h4 h5 => by
    have e := hb i j (by omega)
    have x1 := N.off i j (by omega) h2 (by omega) h4 h5
    have x2 := N.off i k (by omega) h2 (Nat.le_refl k) hk (by omega)
    have x3 := N.off k j (Nat.le_refl k) hk (by omega) h4 (by omega)
    have y1 : 0 ≤ a i k * a k j := Int.mul_nonneg_of_nonpos_of_nonpos x2 x3
    have y2 : a k k * a i j ≤ 0 := Int.mul_nonpos_of_nonneg_of_nonpos (by omega) x1
    refine ⟨by omega, fun h => ?_, fun h g => ?_⟩
    · have := Int.mul_neg_of_pos_of_neg hp h
      have := pos_of_mul (x := -b i j) hd (by rw [Int.neg_mul]; omega)
      omega
    · have := Int.mul_pos_of_neg_of_neg h g
      have := pos_of_mul (x := -b i j) hd (by rw [Int.neg_mul]; omega)
      omega
  have hone : ∀ i, k + 1 ≤ i → i < n → 0 ≤ b i n ∧ (0 < a i n → 0 < b i n) ∧ (a i k < 0 → 0 < a k n → 0 < b i n) := fun i h1 h2 => by
    have e := hb i n (by omega)
    have x1 := N.one i (by omega) h2
    have x2 := N.off i k (by omega) h2 (Nat.le_refl k) hk (by omega)
    have x3 := N.one k (Nat.le_refl k) hk
    have y1 : a i k * a k n ≤ 0 := Int.mul_nonpos_of_nonpos_of_nonneg x2 x3
    have y2 : 0 ≤ a k k * a i n := Int.mul_nonneg (by omega) x1
    refine ⟨nonneg_of_mul hd (by omega), fun h => pos_of_mul hd ?_, fun h g => pos_of_mul hd ?_⟩
    · have := Int.mul_pos hp h; omega
    · have := Int.mul_neg_of_neg_of_pos h g; omega
  have hoth : ∀ i, k + 1 ≤ i → i < n → 0 ≤ slack n b (k + 1) i ∧ (0 < slack n a k i → 0 < slack n b (k + 1) i) ∧ (a i k < 0 → 0 < slack n a k k → 0 < slack n b (k + 1) i) := fun i h1 h2 => by
    have e := hsl i (by omega)
    have x1 := N.other i (by omega) h2
    have x2 := N.off i k (by omega) h2 (Nat.le_refl k) hk (by omega)
    have x3 := N.other k (Nat.le_refl k) hk
    have y1 : a i k * slack n a k k ≤ 0 := Int.mul_nonpos_of_nonpos_of_nonneg x2 x3
    have y2 : 0 ≤ a k k * slack n a k i := Int.mul_nonneg (by omega) x1
    refine ⟨nonneg_of_mul hd (by omega), fun h => pos_of_mul hd ?_, fun h g => pos_of_mul hd ?_⟩
    · have := Int.mul_pos hp h; omega
    · have := Int.mul_neg_of_neg_of_pos h g; omega
  have reach : ∀ i, Rch n a k i → (i ≠ k → Rch n b (k + 1) i) ∧ (i = k → (0 < a k n ∨ 0 < slack n a k k) ∨ ∃ j, j ≠ k ∧ a k j < 0 ∧ Rch n b (k + 1) j) := by
    intro i h
    induction h with
    | out h1 h2 h3 =>
      refine ⟨fun hi => .out (by omega) h2 ?_, fun hi => by subst hi; exact .inl h3⟩
      rcases h3 with h3 | h3
      · exact .inl ((hone _ (by omega) h2).2.1 h3)
      · exact .inr ((hoth _ (by omega) h2).2.1 h3)
    | go h1 h2 h3 h4 h5 ih =>
      rename_i i j
      obtain ⟨ih1, ih2⟩ := ih
      have hj := h5.ge
      refine ⟨fun hi => ?_, fun hi => ?_⟩
      · by_cases hjk : j = k
        · subst hjk
          rcases ih2 rfl with (h | h) | ⟨m, hm, hlt, hr⟩
          · exact .out (by omega) h2 (.inl ((hone i (by omega) h2).2.2 h4 h))
          · exact .out (by omega) h2 (.inr ((hoth i (by omega) h2).2.2 h4 h))
          · by_cases him : i = m
            · subst him; exact hr
            · have hm' := hr.ge
              exact .go (by omega) h2 him ((hoff i m (by omega) h2 hm'.1 hm'.2 him).2.2 h4 hlt) hr
        · exact .go (by omega) h2 h3 ((hoff i j (by omega) h2 (by omega) hj.2 h3).2.1 h4) (ih1 hjk)
      · subst hi
        exact .inr ⟨j, fun z => h3 z.symm, h4, ih1 fun z => h3 z.symm⟩
  exact ⟨fun i j h1 h2 h3 h4 h5 => by
      have := (hoff i j h1 h2 h3 h4 h5).1
      have := nonneg_of_mul (x := -b i j) hd (by rw [Int.neg_mul]; omega)
      omega,
    fun i h1 h2 => (hone i h1 h2).1, fun i h1 h2 => (hoth i h1 h2).1, fun i h1 h2 => (reach i (N.joined i (by omega) h2)).1 (by omega)⟩
/-- all leads of a net are positive -/
theorem net_pos (N : Net n A 0) : ∀ k ≤ n, (∀ m ≤ k, 0 < D A m) ∧ Net n (el A k).1 k
  | 0, _ => ⟨fun m hm => by rw [Nat.le_zero.mp hm]; show (0 : Int) < 1; decide, N⟩
  | k + 1, hk => by
    obtain ⟨h1, h2⟩ := net_pos N k (by omega)
    have hne : ∀ m ≤ k, D A m ≠ 0 := fun m hm => by have := h1 m hm; omega
    have hlead : 0 < D A (k + 1) := by
      rw [← v_lead hne ((el_is hne).2 k)]
      exact h2.lead (Nat.le_refl k) (by omega)
    have hpos : ∀ m ≤ k + 1, 0 < D A m := fun m hm => by
      by_cases h : m = k + 1
      · rw [h]; exact hlead
      · exact h1 m (by omega)
    have hne' : ∀ m ≤ k + 1, D A m ≠ 0 := fun m hm => by have := hpos m hm; omega
    exact ⟨hpos, h2.next (by omega) (h1 k (Nat.le_refl k)) fun i j hi => el_mul hne' hi j⟩
/-- the last rows solve the first ones -/
theorem el_solves (hD : ∀ m ≤ n, D A m ≠ 0) {i : Nat} (hi : i < n) (j : Nat) : D A n * A i j = sumN n fun c => A i c * (el A n).1 c j := by
  have hV := (el_is hD).2
  have hc : ∀ m : Nat, m ≤ n → Comb A n fun j => sumN m fun c => A i c * (el A n).1 c j := fun m hm => by
    induction m with
    | zero => exact ⟨fun _ => 0, fun j => by
        show (0 : Int) = _
        rw [sum_zero' fun l _ => by rw [Int.zero_mul]]⟩
    | succ m ih =>
      have h := (hV m).comb
      exact ((ih (by omega)).add (h.mul (A i m))).congr fun j => by
        show sumN m _ + A i m * (el A n).1 m j = _ + A i m * ((el A n).1 m j - if m < n then 0 else D A n * A m j)
        rw [if_pos (by omega), Int.sub_zero]
  have := comb_zero hD (z := fun j => D A n * A i j - sumN n fun c => A i c * (el A n).1 c j) ((((Comb.row hi).mul (D A n)).add ((hc n (Nat.le_refl n)).mul (-1))).congr fun j => by (try dsimp only); omega) (fun j hj => by
    have : sumN n (fun c => A i c * (el A n).1 c j) = A i j * D A n := by
      rw [sum_one hj fun c hc hcj => by rw [(hV c).zero j hj (fun z => hcj z.symm), Int.mul_zero], (hV j).diag hj]
    (try dsimp only)
    rw [this]
    grind) j
  (try dsimp only at this)
  omega
end
end Det

set_option Elab.async false
set_option linter.all false
set_option maxRecDepth 100000
set_option maxHeartbeats 4000000
set_option exponentiation.threshold 3000
namespace Air
open PySem PySem.Spec PyProof.Rows L2 MS Law
/-- the parts of rows as a function -/
def ent (R : List (List Int)) : Nat → Nat → Int := fun i j => (R.getD i []).getD j 0
theorem getD_some {l : List Int} {i : Nat} (h : i < l.length) : l[i]? = some (l.getD i 0) := by
  rw [List.getD_eq_getElem?_getD, List.getElem?_eq_getElem h]; rfl
theorem row_some {R : List (List Int)} {i : Nat} (h : i < R.length) : R[i]? = some (R.getD i []) := by
  rw [List.getD_eq_getElem?_getD, List.getElem?_eq_getElem h]; rfl
theorem row_of {R : List (List Int)} {i : Nat} {row : List Int} (h : R[i]? = some row) : R.getD i [] = row := by
  rw [List.getD_eq_getElem?_getD, h]; rfl
theorem cleared_at {row lead : List Int} {k j : Nat} {b : Int} (h1 : j < row.length) (h2 : j < lead.length) : (cleared row lead k b).getD j 0 = (lead.getD k 0 * row.getD j 0 - row.getD k 0 * lead.getD j 0) / b := by
  unfold cleared
  rw [List.getD_eq_getElem?_getD, List.getElem?_zipWith, getD_some h1, getD_some h2]
  rfl
theorem run_el {R : List (List Int)} {n : Nat} (hR : R.length = n) (hrow : ∀ row ∈ R, row.length = n + 1) : ∀ k ≤ n, (runR R k).2 = (Det.el (ent R) k).2 ∧ (runR R k).1.length = n ∧ (∀ row ∈ (runR R k).1, row.length = n + 1) ∧ ∀ i < n, ∀ j < n + 1, ent (runR R k).1 i j = (Det.el (ent R) k).1 i j
  | 0, _ => ⟨rfl, hR, hrow, fun _ _ _ _ => rfl⟩
  | k + 1, hk => by
    obtain ⟨h1, h2, h3, h4⟩ := run_el hR hrow k (by omega)
    have hkl : k < (runR R k).1.length := by omega
    have hlead := h3 _ (List.mem_of_getElem? (row_some hkl))
    have hst : ∀ i, i < n → (runR R (k + 1)).1[i]? = some (if i = k then (runR R k).1.getD i [] else cleared ((runR R k).1.getD i []) ((runR R k).1.getD k []) k (runR R k).2) := fun i hi => by
      rw [runR_succ]
      show (stepRows _ _ _)[i]? = _
      unfold stepRows
      rw [List.getElem?_mapIdx, row_some (by omega)]
      rfl
    refine ⟨?_, by rw [runR_length, hR], fun row hr => ?_, fun i hi j hj => ?_⟩
    · rw [runR_succ]
      show ((runR R k).1.getD k []).getD k 0 = (Det.el (ent R) k).1 k k
      exact h4 k (by omega) k (by omega)
    · obtain ⟨i, hi, e⟩ := List.getElem_of_mem hr
      have hin : i < n := by rw [runR_length, hR] at hi; exact hi
      have e2 := hst i hin
      rw [List.getElem?_eq_getElem hi, e] at e2
      have e3 := Option.some.inj e2
      have hrl := h3 _ (List.mem_of_getElem? (row_some (R := (runR R k).1) (i := i) (by omega)))
      rw [e3]
      split
      · exact hrl
      · rw [cleared_length (by rw [hrl, hlead])]; exact hrl
    · have hrl := h3 _ (List.mem_of_getElem? (row_some (R := (runR R k).1) (i := i) (by omega)))
      show ((runR R (k + 1)).1.getD i []).getD j 0 = if i = k then _ else _
      rw [row_of (hst i hi)]
      by_cases h : i = k
      · rw [if_pos h, if_pos h]; exact h4 i hi j hj
      · rw [if_neg h, if_neg h, cleared_at (by omega) (by omega), h1]
        have g := fun a (ha : a < n) b (hb : b < n + 1) => h4 a ha b hb
        unfold ent at g
        rw [g k (by omega) k (by omega), g i hi j hj, g i hi k (by omega), g k (by omega) j hj]
        rfl
def bits : Nat → Nat
  | 0 => 28
  | k + 1 => bits k + bits k + 1
theorem wk_div {k : Nat} {i j : Int} (h : wk k i) : wk k (i / j) := by
  unfold wk at *
  exact Nat.lt_of_le_of_lt (Int.natAbs_ediv_le_natAbs i j) h
theorem el_bits {A : Nat → Nat → Int} {n : Nat} (h : ∀ i < n, ∀ j < n + 1, wk 28 (A i j)) : ∀ k ≤ n, (∀ i < n, ∀ j < n + 1, wk (bits k) ((Det.el A k).1 i j)) ∧ wk (bits k) (Det.el A k).2
  | 0, _ => ⟨h, by show wk 28 1; unfold wk; decide⟩
  | k + 1, hk => by
    obtain ⟨h1, h2⟩ := el_bits h k (by omega)
    refine ⟨fun i hi j hj => ?_, ?_⟩
    · show wk (bits k + bits k + 1) (if i = k then _ else _)
      split
      · exact (h1 i hi j hj).mono (by omega)
      · exact wk_div (((h1 k (by omega) k (by omega)).mul (h1 i hi j hj)).sub ((h1 i hi k (by omega)).mul (h1 k (by omega) j hj)))
    · exact (h1 k (by omega) k (by omega)).mono (by show bits k ≤ bits k + bits k + 1; omega)
theorem bits_le : ∀ k ≤ 6, bits k ≤ 1900 := by decide
theorem fine_of {R : List (List Int)} {n : Nat} (hR : R.length = n) (hn : n ≤ 6) (hrow : ∀ row ∈ R, row.length = n + 1) (hb : ∀ i < n, ∀ j < n + 1, wk 28 (ent R i j)) (N : Det.Net n (ent R) 0) : ∀ k ≤ n, Fine n (runR R k) := fun k hk => by
  obtain ⟨h1, h2, h3, h4⟩ := run_el hR hrow k hk
  obtain ⟨b1, b2⟩ := el_bits hb k hk
  have hp := (Det.net_pos N k hk).1
  have hbk := bits_le k (by omega)
  refine ⟨?_, ?_, fun row hr => ⟨h3 row hr, fun z hz => ?_⟩⟩
  · rw [h1, (Det.el_is (fun m hm => by have := hp m hm; omega)).1]
    exact hp k (Nat.le_refl k)
  · rw [h1]; exact b2.wd (by omega)
  · obtain ⟨i, hi, e⟩ := List.getElem_of_mem hr
    obtain ⟨j, hj, e2⟩ := List.getElem_of_mem hz
    have hl := h3 row hr
    have : z = ent (runR R k).1 i j := by
      unfold ent
      rw [row_of (by rw [List.getElem?_eq_getElem hi, e]), List.getD_eq_getElem?_getD, List.getElem?_eq_getElem hj, e2]
      rfl
    rw [this, h4 i (by omega) j (by omega)]
    exact (b1 i (by omega) j (by omega)).wd (by omega)
end Air

set_option Elab.async false
set_option linter.all false
set_option maxRecDepth 100000
set_option maxHeartbeats 4000000
set_option exponentiation.threshold 3000
namespace Air
open PySem PySem.Spec PyProof.Rows L2 MS Law
def wv (ws : List Int) (w : Int) : Int := ws.getD w.toNat 0
/-- what way w puts at place z when the air out of x is told -/
def contrib (M : Mine) (ws : List Int) (x z w : Int) : Int := (if z = x then wv ws w else 0) + if z = far M x w then -wv ws w else 0
theorem bump_at {sh : List Int} {y v z : Int} (hy : 0 ≤ y ∧ y < sh.length) (hz : 0 ≤ z) : (bump sh y v).getD z.toNat 0 = sh.getD z.toNat 0 + if z = y then v else 0 := by
  unfold bump
  by_cases h : z = y
  · subst h
    rw [if_pos rfl, List.getD_eq_getElem?_getD, List.getElem?_set_self (by omega)]
    rfl
  · rw [if_neg h, List.getD_eq_getElem?_getD, List.getElem?_set_ne (by omega), ← List.getD_eq_getElem?_getD]
    omega
/-- w is the number of a way at x -/
structure At (M : Mine) (x w : Int) : Prop where
  ex : ∃ (i : Nat) (p : Int × Int), w = (i : Int) ∧ M.ways[i]? = some p ∧ (p.1 = x ∨ p.2 = x)
theorem At.far {M : Mine} {x w : Int} (ok : MineOk M) (h : At M x w) : (0 ≤ far M x w ∧ far M x w < M.places) ∧ Adj M.ways x (far M x w) ∧ far M x w ≠ x := by
  obtain ⟨i, p, rfl, hp, ht⟩ := h.ex
  have hf : Air.far M x (i : Int) = if x = p.1 then p.2 else p.1 := by unfold Air.far; rw [Int.toNat_natCast, hp]
  rw [hf]
  have hne := (ok.ways p (List.mem_of_getElem? hp)).2.2
  refine ⟨end_ok ok hp x, ?_, ?_⟩
  · have hm : p ∈ M.ways := List.mem_of_getElem? hp
    by_cases hx : x = p.1
    · rw [if_pos hx]; subst hx; exact .inl hm
    · rw [if_neg hx]
      rcases ht with h | h
      · exact absurd h.symm hx
      · subst h; exact .inr hm
  · split
    · rename_i h; intro z; exact hne (by rw [← h, z])
    · rename_i h; exact fun z => h z.symm
theorem hits_at {M : Mine} {x w : Int} (h : w ∈ hits M.ways x M.ways.length) : At M x w := by
  obtain ⟨i, p, e, _, hp, ht⟩ := mem_hits h
  exact ⟨i, p, e, hp, ht⟩
theorem step_at {M : Mine} {ws sh : List Int} {x z w : Int} (ok : MineOk M) (hx : 0 ≤ x ∧ x < M.places) (hz : 0 ≤ z) (hl : sh.length = M.places.toNat) (h : At M x w) : (shareStep M ws x sh w).getD z.toNat 0 = sh.getD z.toNat 0 + contrib M ws x z w := by
  have hf := h.far ok
  obtain ⟨i, p, rfl, hp, ht⟩ := h.ex
  have e : far M x (i : Int) = if x = p.1 then p.2 else p.1 := by unfold far; rw [Int.toNat_natCast, hp]
  unfold shareStep contrib
  rw [Int.toNat_natCast, hp]
  show (bump (bump sh x (ws.getD i 0)) (if x = p.1 then p.2 else p.1) (-(ws.getD i 0))).getD z.toNat 0 = _
  have ew : wv ws (i : Int) = ws.getD i 0 := by unfold wv; rw [Int.toNat_natCast]
  rw [← e, bump_at (by rw [bump_length]; omega) hz, bump_at (by omega) hz, ew]
  omega
theorem fold_at {M : Mine} {ws : List Int} {x z : Int} (ok : MineOk M) (hx : 0 ≤ x ∧ x < M.places) (hz : 0 ≤ z) : ∀ (l : List Int) (sh : List Int), sh.length = M.places.toNat → (∀ w ∈ l, At M x w) → (l.foldl (shareStep M ws x) sh).getD z.toNat 0 = sh.getD z.toNat 0 + (l.map (contrib M ws x z)).sum
  | [], sh, _, _ => by simp
  | w :: l, sh, hl, h => by
    rw [List.foldl_cons, fold_at ok hx hz l _ (by rw [shareStep_length, hl]) (fun w' hw' => h w' (List.mem_cons_of_mem _ hw')), step_at ok hx hz hl (h w (List.mem_cons_self ..)), List.map_cons, List.sum_cons]
    omega
theorem shares_at {M : Mine} {ws : List Int} {x z : Int} (ok : MineOk M) (hx : 0 ≤ x ∧ x < M.places) (hz : 0 ≤ z) : (shares M ws x).getD z.toNat 0 = ((hits M.ways x M.ways.length).map (contrib M ws x z)).sum := by
  unfold shares
  rw [fold_at ok hx hz _ _ List.length_replicate (fun w hw => hits_at hw)]
  have : (List.replicate M.places.toNat (0 : Int)).getD z.toNat 0 = 0 := by
    rw [List.getD_eq_getElem?_getD, List.getElem?_replicate]
    split <;> rfl
  rw [this, Int.zero_add]
/-- widths that are positive and not too big -/
structure WsOk (M : Mine) (ws : List Int) : Prop where
  len : ws.length = M.ways.length
  few : M.ways.length ≤ 12
  pos : ∀ v ∈ ws, 1 ≤ v ∧ v < 2 ^ 23
theorem WsOk.at {M : Mine} {ws : List Int} {x w : Int} (W : WsOk M ws) (h : At M x w) : 1 ≤ wv ws w ∧ wv ws w < 2 ^ 23 := by
  obtain ⟨i, p, rfl, hp, _⟩ := h.ex
  have hi := (List.getElem?_eq_some_iff.mp hp).1
  unfold wv
  rw [Int.toNat_natCast]
  exact W.pos _ (getD_mem (by have := W.len; omega))
theorem sum_nonpos : ∀ {l : List Int}, (∀ x ∈ l, x ≤ 0) → l.sum ≤ 0
  | [], _ => Int.le_refl 0
  | a :: l, h => by
    have h1 := h a (List.mem_cons_self ..)
    have h2 := sum_nonpos (l := l) fun x hx => h x (List.mem_cons_of_mem _ hx)
    rw [List.sum_cons]; omega
theorem sum_neg_of : ∀ {l : List Int} {y : Int}, (∀ x ∈ l, x ≤ 0) → y ∈ l → y < 0 → l.sum < 0
  | a :: l, y, h, hy, hy0 => by
    rw [List.sum_cons]
    have h1 := h a (List.mem_cons_self ..)
    have h2 := sum_nonpos (l := l) fun x hx => h x (List.mem_cons_of_mem _ hx)
    rcases List.mem_cons.mp hy with rfl | hy
    · omega
    · have := sum_neg_of (l := l) (fun x hx => h x (List.mem_cons_of_mem _ hx)) hy hy0
      omega
section
variable {M : Mine} {ws : List Int} {x z : Int}
theorem contrib_off (W : WsOk M ws) (hzx : z ≠ x) : ∀ v ∈ (hits M.ways x M.ways.length).map (contrib M ws x z), v ≤ 0 := fun v hv => by
  obtain ⟨w, hw, rfl⟩ := List.mem_map.mp hv
  have := W.at (hits_at hw)
  unfold contrib
  rw [if_neg hzx]
  split <;> omega
theorem shares_off (ok : MineOk M) (W : WsOk M ws) (hx : 0 ≤ x ∧ x < M.places) (hz : 0 ≤ z) (hzx : z ≠ x) : (shares M ws x).getD z.toNat 0 ≤ 0 := by
  rw [shares_at ok hx hz]
  exact sum_nonpos (contrib_off W hzx)
theorem shares_adj (ok : MineOk M) (W : WsOk M ws) (hx : 0 ≤ x ∧ x < M.places) (hz : 0 ≤ z) (hzx : z ≠ x) (h : Adj M.ways x z) : (shares M ws x).getD z.toNat 0 < 0 := by
  rw [shares_at ok hx hz]
  have hex : ∃ (i : Nat) (p : Int × Int), M.ways[i]? = some p ∧ (p.1 = x ∨ p.2 = x) ∧ z = if x = p.1 then p.2 else p.1 := by
    rcases h with h | h
    · obtain ⟨i, hi, e⟩ := List.getElem_of_mem h
      exact ⟨i, (x, z), by rw [List.getElem?_eq_getElem hi, e], .inl rfl, by rw [if_pos rfl]⟩
    · obtain ⟨i, hi, e⟩ := List.getElem_of_mem h
      exact ⟨i, (z, x), by rw [List.getElem?_eq_getElem hi, e], .inr rfl, by rw [if_neg (fun y => hzx y.symm)]⟩
  obtain ⟨i, p, hp, ht, e⟩ := hex
  have hm := hits_mem hp ht
  refine sum_neg_of (contrib_off W hzx) (List.mem_map.mpr ⟨_, hm, rfl⟩) ?_
  have hv := W.at (hits_at hm)
  have hf : far M x (i : Int) = z := by unfold far; rw [Int.toNat_natCast, hp, e]
  unfold contrib
  rw [if_neg hzx, hf, if_pos rfl]
  omega
theorem sum_sumN {P : Nat} {f : Int → Int → Int} : ∀ l : List Int, (∀ w ∈ l, Det.sumN P (fun z => f (z : Int) w) = 0) → Det.sumN P (fun z => (l.map (f (z : Int))).sum) = 0
  | [], _ => by
    show Det.sumN P (fun _ => ([] : List Int).sum) = 0
    exact Det.sum_zero
  | a :: l, h => by
    have e : Det.sumN P (fun z => ((a :: l).map (f (z : Int))).sum) = Det.sumN P (fun z => f (z : Int) a) + Det.sumN P (fun z => (l.map (f (z : Int))).sum) := by
      rw [← Det.sum_add]
      exact Det.sum_congr fun z _ => by rw [List.map_cons, List.sum_cons]
    rw [e, h a (List.mem_cons_self ..), sum_sumN l fun w hw => h w (List.mem_cons_of_mem _ hw)]
    rfl
theorem sum_at {P : Nat} {y v : Int} (hy : 0 ≤ y ∧ y < P) : Det.sumN P (fun z => if (z : Int) = y then v else 0) = v := by
  rw [Det.sum_one (i := y.toNat) (by omega) fun l _ hl => by rw [if_neg (by omega)], if_pos (by omega)]
/-- what leaves x comes to the others -/
theorem shares_total (ok : MineOk M) (hx : 0 ≤ x ∧ x < M.places) : Det.sumN M.places.toNat (fun z => (shares M ws x).getD z 0) = 0 := by
  have e : Det.sumN M.places.toNat (fun z => (shares M ws x).getD z 0) = Det.sumN M.places.toNat (fun z => ((hits M.ways x M.ways.length).map (contrib M ws x (z : Int))).sum) := Det.sum_congr fun z _ => by
    have := shares_at (M := M) (ws := ws) (z := (z : Int)) ok hx (by omega)
    rw [Int.toNat_natCast] at this
    exact this
  rw [e]
  refine sum_sumN (f := fun z w => contrib M ws x z w) _ fun w hw => ?_
  have hf := (hits_at hw).far ok
  have hlo := ok.lo
  unfold contrib
  rw [Det.sum_add, sum_at (by omega), sum_at (by omega)]
  omega
end
end Air

set_option Elab.async false
set_option linter.all false
set_option maxRecDepth 100000
set_option maxHeartbeats 4000000
set_option exponentiation.threshold 3000
namespace Air
open PySem PySem.Spec PyProof.Rows L2 MS Law
theorem sumN_filter {keep : Nat → Bool} {g : Nat → Int} : ∀ P : Nat, Det.sumN ((List.range P).filter keep).length (fun j => g (((List.range P).filter keep).getD j 0)) = Det.sumN P (fun z => if keep z = true then g z else 0)
  | 0 => rfl
  | P + 1 => by
    have ih := sumN_filter (keep := keep) (g := g) P
    show _ = Det.sumN P _ + (if keep P = true then g P else 0)
    rw [List.range_succ, List.filter_append]
    by_cases h : keep P = true
    · rw [if_pos h, List.filter_cons, if_pos h]
      show Det.sumN (((List.range P).filter keep) ++ [P]).length (fun j => g ((((List.range P).filter keep) ++ [P]).getD j 0)) = _
      rw [List.length_append]
      show Det.sumN (((List.range P).filter keep).length) _ + g ((((List.range P).filter keep) ++ [P]).getD ((List.range P).filter keep).length 0) = _
      have e1 : Det.sumN (((List.range P).filter keep).length) (fun j => g ((((List.range P).filter keep) ++ [P]).getD j 0)) = Det.sumN (((List.range P).filter keep).length) (fun j => g (((List.range P).filter keep).getD j 0)) := Det.sum_congr fun j hj => by
        rw [List.getD_eq_getElem?_getD, List.getD_eq_getElem?_getD, List.getElem?_append_left hj]
      have e2 : (((List.range P).filter keep) ++ [P]).getD ((List.range P).filter keep).length 0 = P := by
        rw [List.getD_eq_getElem?_getD, List.getElem?_append_right (Nat.le_refl _), Nat.sub_self]
        rfl
      rw [e1, e2, ih]
    · rw [if_neg h, List.filter_cons, if_neg h]
      show Det.sumN (((List.range P).filter keep) ++ []).length (fun j => g ((((List.range P).filter keep) ++ []).getD j 0)) = _
      rw [List.append_nil, ih]
      omega
section
variable {M : Mine} {ws : List Int}
def inn (M : Mine) (i : Nat) : Int := (inner M).getD i 0
theorem inn_of {i : Nat} (h : i < (inner M).length) : (inner M)[i]? = some (inn M i) := getD_some h
theorem inn_in {i : Nat} (h : i < (inner M).length) : inn M i ∈ inner M := List.mem_of_getElem? (inn_of h)
theorem mem_inner {x : Int} : x ∈ inner M ↔ (0 ≤ x ∧ x < M.places) ∧ x ≠ M.inlet ∧ x ≠ M.outlet := by
  unfold inner
  constructor
  · intro h
    obtain ⟨i, h1, rfl⟩ := List.mem_map.mp h
    obtain ⟨h2, h3⟩ := List.mem_filter.mp h1
    have := List.mem_range.mp h2
    unfold isIn at h3
    simp only [Bool.not_eq_true', decide_eq_false_iff_not, not_or] at h3
    exact ⟨⟨by omega, by omega⟩, h3.1, h3.2⟩
  · rintro ⟨⟨h1, h2⟩, h3, h4⟩
    refine List.mem_map.mpr ⟨x.toNat, List.mem_filter.mpr ⟨List.mem_range.mpr (by omega), ?_⟩, by omega⟩
    unfold isIn
    simp only [Bool.not_eq_true', decide_eq_false_iff_not, not_or]
    exact ⟨by omega, by omega⟩
theorem inner_nodup : (inner M).Nodup := by
  unfold inner
  exact List.pairwise_map.mpr (List.Pairwise.imp (fun {a b} h => by omega) (List.Pairwise.filter _ List.nodup_range))
theorem inn_inj {i j : Nat} (hi : i < (inner M).length) (hj : j < (inner M).length) (h : inn M i = inn M j) : i = j := by
  have e1 := inn_of hi
  have e2 := inn_of hj
  rw [← h] at e2
  exact (List.getElem?_inj hi inner_nodup).mp (e1.trans e2.symm)
/-- the places are the inner ones and the two ends -/
theorem sum_inner (ok : MineOk M) (g : Int → Int) : Det.sumN M.places.toNat (fun z => g (z : Int)) = Det.sumN (inner M).length (fun j => g (inn M j)) + g M.inlet + g M.outlet := by
  have h1 : Det.sumN (inner M).length (fun j => g (inn M j)) = Det.sumN M.places.toNat (fun z => if isIn M z = true then g (z : Int) else 0) := by
    rw [← sumN_filter (keep := isIn M) (g := fun z => g (z : Int)) M.places.toNat]
    unfold inner
    rw [List.length_map]
    refine Det.sum_congr fun j hj => ?_
    unfold inn inner
    rw [List.getD_eq_getElem?_getD, List.getElem?_map, List.getD_eq_getElem?_getD, List.getElem?_eq_getElem hj]
    rfl
  have hio := ok.ends
  have hlo := ok.lo
  have h2 : Det.sumN M.places.toNat (fun z => if (z : Int) = M.inlet then g M.inlet else 0) = g M.inlet := sum_at (by have := hio.1; omega)
  have h3 : Det.sumN M.places.toNat (fun z => if (z : Int) = M.outlet then g M.outlet else 0) = g M.outlet := sum_at (by have := hio.2.1; omega)
  rw [h1, ← h2, ← h3, ← Det.sum_add, ← Det.sum_add]
  · refine Det.sum_congr fun z _ => ?_
    have hne : M.inlet ≠ M.outlet := hio.2.2
    unfold isIn
    by_cases a : (z : Int) = M.inlet
    · have b : ¬ (z : Int) = M.outlet := fun b => hne (a.symm.trans b)
      rw [if_neg (by simp [a]), if_pos a, if_neg b, a]
      omega
    · by_cases b : (z : Int) = M.outlet
      · rw [if_neg (by simp [b]), if_neg a, if_pos b, b]
        omega
      · rw [if_pos (by simp [a, b]), if_neg a, if_neg b]
        omega
theorem ent_row {i : Nat} (hi : i < (inner M).length) : (rowsOf M ws).getD i [] = rowOf M ws (inn M i) := by
  unfold rowsOf
  rw [List.getD_eq_getElem?_getD, List.getElem?_map, inn_of hi]
  rfl
theorem ent_in {i j : Nat} (hi : i < (inner M).length) (hj : j < (inner M).length) : ent (rowsOf M ws) i j = (shares M ws (inn M i)).getD (inn M j).toNat 0 := by
  unfold ent
  rw [ent_row hi]
  unfold rowOf
  rw [List.getD_eq_getElem?_getD, List.getElem?_append_left (by rw [List.length_map]; exact hj), List.getElem?_map, inn_of hj]
  rfl
theorem ent_last {i : Nat} (hi : i < (inner M).length) : ent (rowsOf M ws) i (inner M).length = -(shares M ws (inn M i)).getD M.inlet.toNat 0 := by
  unfold ent
  rw [ent_row hi]
  unfold rowOf
  rw [List.getD_eq_getElem?_getD, List.getElem?_append_right (by rw [List.length_map]; exact Nat.le_refl _), List.length_map, Nat.sub_self]
  rfl
theorem slack_is (ok : MineOk M) {i : Nat} (hi : i < (inner M).length) : Det.slack (inner M).length (ent (rowsOf M ws)) 0 i = -(shares M ws (inn M i)).getD M.outlet.toNat 0 := by
  have hx := (mem_inner.mp (inn_in hi)).1
  have h1 := shares_total (M := M) (ws := ws) ok hx
  have h2 := sum_inner ok fun z => (shares M ws (inn M i)).getD z.toNat 0
  have h3 : Det.sumN M.places.toNat (fun z => (shares M ws (inn M i)).getD ((z : Int)).toNat 0) = 0 := (Det.sum_congr fun z _ => by rw [Int.toNat_natCast]).trans h1
  rw [h3] at h2
  unfold Det.slack
  rw [ent_last hi]
  have h4 : Det.sumN (inner M).length (fun j => if j < 0 then 0 else ent (rowsOf M ws) i j) = Det.sumN (inner M).length (fun j => (shares M ws (inn M i)).getD (inn M j).toNat 0) := Det.sum_congr fun j hj => by
    rw [if_neg (Nat.not_lt_zero _), ent_in hi hj]
  rw [h4]
  omega
/-- every place is reached from the inlet -/
def Joined (M : Mine) : Prop := ∀ v, 0 ≤ v → v < M.places → Reach M.ways M.inlet v
theorem net_of (ok : MineOk M) (W : WsOk M ws) (J : Joined M) : Det.Net (inner M).length (ent (rowsOf M ws)) 0 := by
  have hin := ok.ends.1
  have hout := ok.ends.2.1
  have one : ∀ i, i < (inner M).length → 0 ≤ ent (rowsOf M ws) i (inner M).length := fun i hi => by
    obtain ⟨h1, h2, h3⟩ := mem_inner.mp (inn_in hi)
    rw [ent_last hi]
    have := shares_off (x := inn M i) (z := M.inlet) ok W h1 hin.1 (fun z => h2 z.symm)
    omega
  have other : ∀ i, i < (inner M).length → 0 ≤ Det.slack (inner M).length (ent (rowsOf M ws)) 0 i := fun i hi => by
    obtain ⟨h1, h2, h3⟩ := mem_inner.mp (inn_in hi)
    rw [slack_is ok hi]
    have := shares_off (x := inn M i) (z := M.outlet) ok W h1 hout.1 (fun z => h3 z.symm)
    omega
  refine ⟨fun i j _ hi _ hj hij => ?_, fun i _ hi => one i hi, fun i _ hi => other i hi, fun i _ hi => ?_⟩
  · rw [ent_in hi hj]
    obtain ⟨h1, _⟩ := mem_inner.mp (inn_in hi)
    obtain ⟨g1, _⟩ := mem_inner.mp (inn_in hj)
    exact shares_off ok W h1 g1.1 fun z => hij (inn_inj hi hj z.symm)
  · have key : ∀ v, Reach M.ways M.inlet v → ∀ i, i < (inner M).length → inn M i = v → Det.Rch (inner M).length (ent (rowsOf M ws)) 0 i := by
      intro v h
      induction h with
      | start =>
        intro i hi e
        exact absurd e (mem_inner.mp (inn_in hi)).2.1
      | step hr ha ih =>
        rename_i u v
        intro i hi e
        obtain ⟨h1, h2, h3⟩ := mem_inner.mp (inn_in hi)
        have ha' : Adj M.ways (inn M i) u := by rw [e]; exact ha.elim .inr .inl
        have hu : 0 ≤ u ∧ u < M.places := by
          rcases ha with h | h
          · exact (ok.ways _ h).1
          · exact (ok.ways _ h).2.1
        have huv : u ≠ inn M i := by
          rw [e]
          rcases ha with h | h
          · exact (ok.ways _ h).2.2
          · exact fun z => (ok.ways _ h).2.2 z.symm
        have hlt := shares_adj (x := inn M i) (z := u) ok W h1 hu.1 huv ha'
        by_cases c1 : u = M.inlet
        · subst c1
          exact .out (Nat.zero_le _) hi (.inl (by rw [ent_last hi]; omega))
        · by_cases c2 : u = M.outlet
          · subst c2
            exact .out (Nat.zero_le _) hi (.inr (by rw [slack_is ok hi]; omega))
          · obtain ⟨j, hj, ej⟩ := List.getElem_of_mem (mem_inner.mpr ⟨hu, c1, c2⟩)
            have ej' : inn M j = u := by
              unfold inn
              rw [List.getD_eq_getElem?_getD, List.getElem?_eq_getElem hj, ej]
              rfl
            refine .go (j := j) (Nat.zero_le _) hi (fun z => huv (by rw [← ej', z])) ?_ (ih j hj ej')
            rw [ent_in hi hj, ej']
            exact hlt
    obtain ⟨h1, _⟩ := mem_inner.mp (inn_in hi)
    exact key _ (J _ h1.1 h1.2) i hi rfl
end
end Air

set_option Elab.async false
set_option linter.all false
set_option maxRecDepth 100000
set_option maxHeartbeats 4000000
set_option exponentiation.threshold 3000
namespace Air
open PySem PySem.Spec PyProof.Rows L2 MS Law
theorem sum_abs {f : Int → Int} {B : Nat} : ∀ l : List Int, (∀ w ∈ l, (f w).natAbs ≤ B) → ((l.map f).sum).natAbs ≤ l.length * B
  | [], _ => Nat.zero_le _
  | a :: l, h => by
    have h1 := h a (List.mem_cons_self ..)
    have h2 := sum_abs l fun w hw => h w (List.mem_cons_of_mem _ hw)
    rw [List.map_cons, List.sum_cons, List.length_cons, Nat.succ_mul]
    omega
section
variable {M : Mine} {ws : List Int}
theorem shares_bits (ok : MineOk M) (W : WsOk M ws) {x z : Int} (hx : 0 ≤ x ∧ x < M.places) (hz : 0 ≤ z) : wk 28 ((shares M ws x).getD z.toNat 0) := by
  rw [shares_at ok hx hz]
  have h1 := sum_abs (f := contrib M ws x z) (B := 2 ^ 23) (hits M.ways x M.ways.length) fun w hw => by
    have hv := W.at (hits_at hw)
    have hf := ((hits_at hw).far ok).2.2
    unfold contrib
    by_cases a : z = x
    · have b : ¬ z = far M x w := fun b => hf (b.symm.trans a)
      rw [if_pos a, if_neg b]; omega
    · rw [if_neg a]
      split <;> omega
  have h2 := hits_length M.ways x M.ways.length
  have h3 := W.few
  have h4 : (hits M.ways x M.ways.length).length * 2 ^ 23 ≤ 12 * 2 ^ 23 := Nat.mul_le_mul_right _ (by omega)
  unfold wk
  omega
theorem ent_bits (ok : MineOk M) (W : WsOk M ws) : ∀ i < (inner M).length, ∀ j < (inner M).length + 1, wk 28 (ent (rowsOf M ws) i j) := fun i hi j hj => by
  have hx := (mem_inner.mp (inn_in hi)).1
  by_cases h : j = (inner M).length
  · rw [h, ent_last hi]
    exact (shares_bits ok W hx ok.ends.1.1).neg
  · rw [ent_in hi (by omega)]
    exact shares_bits ok W hx (mem_inner.mp (inn_in (show j < (inner M).length by omega))).1.1
theorem sum_ones (n : Nat) : Det.sumN n (fun _ => 1) = (n : Int) := by
  induction n with
  | zero => rfl
  | succ n ih => show Det.sumN n _ + 1 = _; rw [ih]; omega
theorem inner_six (ok : MineOk M) : (inner M).length ≤ 6 := by
  have h := sum_inner ok fun _ => 1
  rw [sum_ones, sum_ones] at h
  have := ok.hi
  omega
theorem rows_len : (rowsOf M ws).length = (inner M).length := by unfold rowsOf; rw [List.length_map]
theorem rows_row : ∀ row ∈ rowsOf M ws, row.length = (inner M).length + 1 := fun row h => by
  unfold rowsOf at h
  obtain ⟨x, _, rfl⟩ := List.mem_map.mp h
  unfold rowOf
  rw [List.length_append, List.length_map]
  rfl
theorem fold_other {z : Int} : ∀ (l : List (Int × Int)) (lv : List Int), (∀ p ∈ l, 0 ≤ p.1 ∧ p.1 ≠ z) → 0 ≤ z → (l.foldl (fun lv p => lv.set p.1.toNat p.2) lv).getD z.toNat 0 = lv.getD z.toNat 0
  | [], _, _, _ => rfl
  | p :: l, lv, h, hz => by
    have hp := h p (List.mem_cons_self ..)
    rw [List.foldl_cons, fold_other l _ (fun q hq => h q (List.mem_cons_of_mem _ hq)) hz, List.getD_eq_getElem?_getD, List.getElem?_set_ne (by omega), ← List.getD_eq_getElem?_getD]
theorem fold_put : ∀ (xs ys lv : List Int) (i : Nat), xs.Nodup → (∀ x ∈ xs, 0 ≤ x ∧ x < lv.length) → i < xs.length → i < ys.length → ((xs.zip ys).foldl (fun lv p => lv.set p.1.toNat p.2) lv).getD (xs.getD i 0).toNat 0 = ys.getD i 0
  | [], _, _, _, _, _, h, _ => absurd h (Nat.not_lt_zero _)
  | _ :: _, [], _, _, _, _, _, h => absurd h (Nat.not_lt_zero _)
  | x :: xs, y :: ys, lv, 0, nd, hb, _, _ => by
    have hx := hb x (List.mem_cons_self ..)
    show (((x, y) :: xs.zip ys).foldl _ lv).getD x.toNat 0 = y
    rw [List.foldl_cons, fold_other _ _ (fun p hp => ?_) hx.1, List.getD_eq_getElem?_getD, List.getElem?_set_self (by omega)]
    · rfl
    · have hm := (List.of_mem_zip hp).1
      refine ⟨(hb _ (List.mem_cons_of_mem _ hm)).1, fun z => ?_⟩
      exact (List.nodup_cons.mp nd).1 (z ▸ hm)
  | x :: xs, y :: ys, lv, i + 1, nd, hb, h1, h2 => by
    show (((x, y) :: xs.zip ys).foldl _ lv).getD (xs.getD i 0).toNat 0 = ys.getD i 0
    rw [List.foldl_cons]
    exact fold_put xs ys _ i (List.nodup_cons.mp nd).2 (fun x hx => by rw [List.length_set]; exact hb x (List.mem_cons_of_mem _ hx)) (by simpa using h1) (by simpa using h2)
theorem solved_len : (solved M ws).length = (inner M).length := by unfold solved fin; rw [List.length_map, runR_length, rows_len]
theorem zip_in {p : Int × Int} (h : p ∈ (inner M).zip (solved M ws)) : p.1 ∈ inner M := (List.of_mem_zip h).1
theorem laid_inlet (ok : MineOk M) : (laid M ws).getD M.inlet.toNat 0 = (fin M ws).2 := by
  unfold laid
  have h := ok.ends.1
  rw [fold_other _ _ (fun p hp => by have := mem_inner.mp (zip_in hp); exact ⟨this.1.1, this.2.1⟩) h.1, List.getD_eq_getElem?_getD, List.getElem?_set_self (by rw [List.length_replicate]; omega)]
  rfl
theorem laid_outlet (ok : MineOk M) : (laid M ws).getD M.outlet.toNat 0 = 0 := by
  unfold laid
  have h := ok.ends.2.1
  have g := ok.ends.1
  have hne : M.inlet ≠ M.outlet := ok.ends.2.2
  rw [fold_other _ _ (fun p hp => by have := mem_inner.mp (zip_in hp); exact ⟨this.1.1, this.2.2⟩) h.1, List.getD_eq_getElem?_getD, List.getElem?_set_ne (by omega), List.getElem?_replicate]
  split <;> rfl
theorem laid_inner {i : Nat} (hi : i < (inner M).length) : (laid M ws).getD (inn M i).toNat 0 = (solved M ws).getD i 0 := by
  unfold laid inn
  exact fold_put _ _ _ i inner_nodup (fun x hx => by have := (mem_inner.mp hx).1; rw [List.length_set, List.length_replicate]; omega) hi (by rw [solved_len]; exact hi)
/-- the leads of a joined mine's rows are positive -/
theorem lead_pos (ok : MineOk M) (W : WsOk M ws) (J : Joined M) : ∀ m ≤ (inner M).length, 0 < Det.D (ent (rowsOf M ws)) m := fun m hm => (Det.net_pos (net_of ok W J) _ (Nat.le_refl _)).1 m hm
theorem lead_ne (ok : MineOk M) (W : WsOk M ws) (J : Joined M) : ∀ m ≤ (inner M).length, Det.D (ent (rowsOf M ws)) m ≠ 0 := fun m hm => by have := lead_pos ok W J m hm; omega
theorem fin_is (ok : MineOk M) (W : WsOk M ws) (J : Joined M) : (fin M ws).2 = Det.D (ent (rowsOf M ws)) (inner M).length := by
  unfold fin
  rw [rows_len, (run_el rows_len rows_row _ (Nat.le_refl _)).1]
  exact (Det.el_is (lead_ne ok W J)).1
theorem solved_is {i : Nat} (hi : i < (inner M).length) : (solved M ws).getD i 0 = (Det.el (ent (rowsOf M ws)) (inner M).length).1 i (inner M).length := by
  obtain ⟨_, h2, _, h4⟩ := run_el (R := rowsOf M ws) (n := (inner M).length) rows_len rows_row _ (Nat.le_refl _)
  rw [← h4 i hi _ (Nat.lt_succ_self _)]
  unfold solved fin
  rw [rows_len, List.getD_eq_getElem?_getD, List.getElem?_map, row_some (by omega)]
  rfl
theorem lev_ok (ok : MineOk M) (W : WsOk M ws) (J : Joined M) : LevOk M ws := by
  have hn := inner_six ok
  have F := fine_of (R := rowsOf M ws) (n := (inner M).length) rows_len hn rows_row (ent_bits ok W) (net_of ok W J)
  have hf := fin_is ok W J
  have hp := lead_pos ok W J _ (Nat.le_refl _)
  have hm : (fin M ws).2 ∈ laid M ws := by
    rw [← laid_inlet ok]
    exact getD_mem (by rw [laid_len]; have := ok.ends.1; omega)
  refine ⟨W.len, by rw [rows_len]; exact F, gdiv_pos hm (by omega), gdiv_wd hm (by omega) ?_⟩
  have := (F _ (Nat.le_refl _)).wide
  unfold fin
  rw [rows_len]
  exact this
/-! the levels are those of a state -/
theorem leaving_sum (ok : MineOk M) {lv : List Int} {x : Int} (hx : 0 ≤ x ∧ x < M.places) : Det.sumN M.places.toNat (fun z => (shares M ws x).getD z 0 * lv.getD z 0) = leaving M ws lv x := by
  have e : Det.sumN M.places.toNat (fun z => (shares M ws x).getD z 0 * lv.getD z 0) = Det.sumN M.places.toNat (fun z => ((hits M.ways x M.ways.length).map fun w => contrib M ws x (z : Int) w * lv.getD z 0).sum) := Det.sum_congr fun z _ => by
    have h := shares_at (M := M) (ws := ws) (z := (z : Int)) ok hx (by omega)
    rw [Int.toNat_natCast] at h
    rw [h]
    generalize hits M.ways x M.ways.length = l
    induction l with
    | nil => simp
    | cons a l ih => rw [List.map_cons, List.map_cons, List.sum_cons, List.sum_cons, Int.add_mul, ih]
  rw [e]
  unfold leaving
  have hat : ∀ w ∈ hits M.ways x M.ways.length, At M x w := fun w hw => hits_at hw
  generalize hits M.ways x M.ways.length = l at hat
  induction l with
  | nil => exact Det.sum_zero
  | cons w l ih =>
    have e2 : Det.sumN M.places.toNat (fun z => ((w :: l).map fun w => contrib M ws x (z : Int) w * lv.getD z 0).sum) = Det.sumN M.places.toNat (fun z => contrib M ws x (z : Int) w * lv.getD z 0) + Det.sumN M.places.toNat (fun z => (l.map fun w => contrib M ws x (z : Int) w * lv.getD z 0).sum) := by
      rw [← Det.sum_add]
      exact Det.sum_congr fun z _ => by rw [List.map_cons, List.sum_cons]
    have hf := (hat w (List.mem_cons_self ..)).far ok
    have hlo := ok.lo
    have e3 : Det.sumN M.places.toNat (fun z => contrib M ws x (z : Int) w * lv.getD z 0) = ws.getD w.toNat 0 * (lv.getD x.toNat 0 - lv.getD (far M x w).toNat 0) := by
      have : Det.sumN M.places.toNat (fun z => contrib M ws x (z : Int) w * lv.getD z 0) = Det.sumN M.places.toNat (fun z => (if (z : Int) = x then wv ws w * lv.getD x.toNat 0 else 0) + if (z : Int) = far M x w then -wv ws w * lv.getD (far M x w).toNat 0 else 0) := Det.sum_congr fun z _ => by
        unfold contrib
        by_cases a : (z : Int) = x
        · have b : ¬ (z : Int) = far M x w := fun b => hf.2.2 (b.symm.trans a)
          rw [if_pos a, if_neg b, if_pos a, if_neg b, ← a, Int.toNat_natCast]
          grind
        · rw [if_neg a, if_neg a]
          by_cases b : (z : Int) = far M x w
          · rw [if_pos b, if_pos b, ← b, Int.toNat_natCast]; grind
          · rw [if_neg b, if_neg b]; grind
      rw [this, Det.sum_add, sum_at (by omega), sum_at (by omega)]
      unfold wv
      grind
    rw [e2, e3, ih fun w' hw' => hat w' (List.mem_cons_of_mem _ hw'), List.map_cons, List.sum_cons]
theorem laid_state (ok : MineOk M) (W : WsOk M ws) (J : Joined M) {x : Int} (hx : x ∈ inner M) : leaving M ws (laid M ws) x = 0 := by
  obtain ⟨i, hi, e⟩ := List.getElem_of_mem hx
  have e' : inn M i = x := by unfold inn; rw [List.getD_eq_getElem?_getD, List.getElem?_eq_getElem hi, e]; rfl
  have hb := (mem_inner.mp hx).1
  have h1 := Det.el_solves (lead_ne ok W J) hi (inner M).length
  rw [ent_last hi, e'] at h1
  have h2 := sum_inner ok fun z => (shares M ws x).getD z.toNat 0 * (laid M ws).getD z.toNat 0
  rw [laid_inlet ok, laid_outlet ok, fin_is ok W J] at h2
  have h3 : Det.sumN (inner M).length (fun j => (shares M ws x).getD (inn M j).toNat 0 * (laid M ws).getD (inn M j).toNat 0) = Det.sumN (inner M).length fun c => ent (rowsOf M ws) i c * (Det.el (ent (rowsOf M ws)) (inner M).length).1 c (inner M).length := Det.sum_congr fun c hc => by
    rw [ent_in hi hc, e', laid_inner hc, solved_is hc]
  rw [h3, ← h1] at h2
  rw [← leaving_sum ok hb, ← (Det.sum_congr fun z _ => by rw [Int.toNat_natCast] : Det.sumN M.places.toNat (fun z => (shares M ws x).getD ((z : Int)).toNat 0 * (laid M ws).getD ((z : Int)).toNat 0) = Det.sumN M.places.toNat (fun z => (shares M ws x).getD z 0 * (laid M ws).getD z 0)), h2]
  grind
end
end Air

set_option Elab.async false
set_option linter.all false
set_option maxRecDepth 100000
set_option maxHeartbeats 4000000
set_option exponentiation.threshold 3000
namespace Air
open PySem PySem.Spec PyProof.Rows L2 MS Law
/-! the common divisor again -/
theorem dvd_gfold : ∀ (ls : List Int) (d t : Int), t ∣ d → (∀ l ∈ ls, t ∣ l) → t ∣ ls.foldl (fun d l => ((Nat.gcd d.natAbs l.natAbs : Nat) : Int)) d
  | [], d, t, h, _ => h
  | a :: ls, d, t, h, k => by
    rw [List.foldl_cons]
    refine dvd_gfold ls _ t ?_ fun l hl => k l (List.mem_cons_of_mem _ hl)
    have h1 := Int.natAbs_dvd_natAbs.mpr h
    have h2 := Int.natAbs_dvd_natAbs.mpr (k a (List.mem_cons_self ..))
    exact Int.ofNat_dvd_right.mpr (Nat.dvd_gcd h1 h2)
theorem dvd_gdiv {ls : List Int} {t : Int} (h : ∀ l ∈ ls, t ∣ l) : t ∣ gdiv ls := dvd_gfold ls 0 t (Int.dvd_zero t) h
theorem gdiv_nonneg (ls : List Int) : 0 ≤ gdiv ls := gfold_nonneg ls 0 (Int.le_refl 0)
theorem dvd_antisymm_nonneg {a b : Int} (ha : 0 ≤ a) (hb : 0 ≤ b) (h1 : a ∣ b) (h2 : b ∣ a) : a = b := by
  have h3 := Nat.dvd_antisymm (Int.natAbs_dvd_natAbs.mpr h1) (Int.natAbs_dvd_natAbs.mpr h2)
  omega
theorem gdiv_scale {ls : List Int} {t : Int} (ht : 0 < t) : gdiv (ls.map fun l => t * l) = t * gdiv ls := by
  refine dvd_antisymm_nonneg (gdiv_nonneg _) (Int.mul_nonneg (by omega) (gdiv_nonneg _)) ?_ ?_
  · have h1 : t ∣ gdiv (ls.map fun l => t * l) := dvd_gdiv fun l hl => by
      obtain ⟨m, _, rfl⟩ := List.mem_map.mp hl
      exact Int.dvd_mul_right ..
    obtain ⟨g, hg⟩ := h1
    rw [hg]
    refine Int.mul_dvd_mul_left t (dvd_gdiv fun l hl => ?_)
    have h2 : t * g ∣ t * l := by
      rw [← hg]
      exact gdiv_dvd (List.mem_map.mpr ⟨l, hl, rfl⟩)
    exact Int.dvd_of_mul_dvd_mul_left (by omega) h2
  · refine dvd_gdiv fun l hl => ?_
    obtain ⟨m, hm, rfl⟩ := List.mem_map.mp hl
    exact Int.mul_dvd_mul_left t (gdiv_dvd hm)
theorem mul_without {ls : List Int} (h0 : 0 < gdiv ls) : (Air.without ls).map (fun l => gdiv ls * l) = ls := by
  have h : ∀ l ∈ ls, gdiv ls * (l / gdiv ls) = l := fun l hl => Int.mul_ediv_cancel' (gdiv_dvd hl)
  unfold Air.without
  rw [List.map_map]
  exact (List.map_congr_left h).trans (List.map_id ls)
theorem gdiv_without {ls : List Int} (h0 : 0 < gdiv ls) : gdiv (Air.without ls) = 1 := by
  have h1 := gdiv_scale (ls := Air.without ls) h0
  rw [mul_without h0] at h1
  have h2 : gdiv ls * 1 = gdiv ls * gdiv (Air.without ls) := by rw [Int.mul_one]; exact h1
  exact (Int.eq_of_mul_eq_mul_left (by omega) h2).symm
theorem without_scale {ls : List Int} {t : Int} (ht : 0 < t) : Air.without (ls.map fun l => t * l) = Air.without ls := by
  unfold Air.without
  rw [gdiv_scale ht, List.map_map]
  refine List.map_congr_left fun l _ => ?_
  show t * l / (t * gdiv ls) = l / gdiv ls
  exact Int.mul_ediv_mul_of_pos _ _ ht
/-! other widths, the same ratio -/
theorem sum_swap (f : Nat → Nat → Int) (m : Nat) : ∀ n : Nat, Det.sumN n (fun j => Det.sumN m fun l => f j l) = Det.sumN m fun l => Det.sumN n fun j => f j l
  | 0 => by
    exact (Det.sum_zero' fun l _ => rfl).symm
  | n + 1 => by
    show Det.sumN n _ + Det.sumN m _ = Det.sumN m fun l => Det.sumN n (fun j => f j l) + f n l
    rw [sum_swap f m n, ← Det.sum_add]
theorem kernel {A : Nat → Nat → Int} {n : Nat} (hD : ∀ m ≤ n, Det.D A m ≠ 0) {y : Nat → Int} (h : ∀ i < n, Det.sumN n (fun c => A i c * y c) = 0) : ∀ i < n, y i = 0 := fun i hi => by
  have V := (Det.el_is hD).2 i
  obtain ⟨c, hc⟩ := V.comb
  have h1 : Det.sumN n (fun j => (Det.el A n).1 i j * y j) = 0 := by
    have e : Det.sumN n (fun j => (Det.el A n).1 i j * y j) = Det.sumN n fun j => Det.sumN n fun l => c l * (A l j * y j) := Det.sum_congr fun j _ => by
      have := hc j
      dsimp only at this
      rw [if_pos hi, Int.sub_zero] at this
      rw [this, Int.mul_comm, ← Det.sum_mul]
      exact Det.sum_congr fun l _ => by grind
    rw [e, sum_swap]
    exact Det.sum_zero' fun l hl => by rw [Det.sum_mul, h l hl, Int.mul_zero]
  rw [Det.sum_one hi fun j hj hji => by rw [V.zero j hj hji, Int.zero_mul], V.diag hi] at h1
  exact (Int.mul_eq_zero.mp h1).resolve_left (hD n (Nat.le_refl n))
section
variable {M : Mine} {ws : List Int} {t : Int}
def times (t : Int) (ws : List Int) : List Int := ws.map fun v => t * v
theorem wv_times {w : Int} : wv (times t ws) w = t * wv ws w := by
  unfold wv times
  rw [List.getD_eq_getElem?_getD, List.getD_eq_getElem?_getD, List.getElem?_map]
  cases ws[w.toNat]? with
  | none => show (0 : Int) = t * 0; omega
  | some v => rfl
theorem contrib_times {x z w : Int} : contrib M (times t ws) x z w = t * contrib M ws x z w := by
  unfold contrib
  rw [wv_times]
  split <;> split <;> grind
theorem shares_times (ok : MineOk M) {x z : Int} (hx : 0 ≤ x ∧ x < M.places) (hz : 0 ≤ z) : (shares M (times t ws) x).getD z.toNat 0 = t * (shares M ws x).getD z.toNat 0 := by
  rw [shares_at ok hx hz, shares_at ok hx hz]
  generalize hits M.ways x M.ways.length = l
  induction l with
  | nil => simp
  | cons a l ih => rw [List.map_cons, List.map_cons, List.sum_cons, List.sum_cons, ih, contrib_times, Int.mul_add]
theorem ent_times (ok : MineOk M) {i j : Nat} (hi : i < (inner M).length) (hj : j < (inner M).length + 1) : ent (rowsOf M (times t ws)) i j = t * ent (rowsOf M ws) i j := by
  have hx := (mem_inner.mp (inn_in hi)).1
  by_cases h : j = (inner M).length
  · rw [h, ent_last hi, ent_last hi, shares_times ok hx ok.ends.1.1, Int.mul_neg]
  · rw [ent_in hi (by omega), ent_in hi (by omega), shares_times ok hx (mem_inner.mp (inn_in (show j < (inner M).length by omega))).1.1]
theorem list_ext {l m : List Int} (h : l.length = m.length) (e : ∀ i, i < l.length → l.getD i 0 = m.getD i 0) : l = m := by
  refine List.ext_getElem h fun i h1 h2 => ?_
  have := e i h1
  rw [List.getD_eq_getElem?_getD, List.getD_eq_getElem?_getD, List.getElem?_eq_getElem h1, List.getElem?_eq_getElem h2] at this
  exact this
/-- each place is an end or an inner one -/
theorem place_cases {z : Nat} (hz : z < M.places.toNat) : (z : Int) = M.inlet ∨ (z : Int) = M.outlet ∨ ∃ i, i < (inner M).length ∧ inn M i = (z : Int) := by
  by_cases a : (z : Int) = M.inlet
  · exact .inl a
  · by_cases b : (z : Int) = M.outlet
    · exact .inr (.inl b)
    · refine .inr (.inr ?_)
      obtain ⟨i, hi, e⟩ := List.getElem_of_mem (mem_inner.mpr ⟨⟨by omega, by omega⟩, a, b⟩ : (z : Int) ∈ inner M)
      exact ⟨i, hi, by unfold inn; rw [List.getD_eq_getElem?_getD, List.getElem?_eq_getElem hi, e]; rfl⟩
theorem levels_times (ok : MineOk M) (W : WsOk M ws) (W' : WsOk M (times t ws)) (J : Joined M) (ht : 0 < t) : levelsP M (times t ws) = levelsP M ws := by
  have hp := lead_pos ok W J _ (Nat.le_refl _)
  have hp' := lead_pos ok W' J _ (Nat.le_refl _)
  have f1 := fin_is ok W J
  have f2 := fin_is ok W' J
  have key : ∀ i < (inner M).length, (fin M ws).2 * (solved M (times t ws)).getD i 0 = (fin M (times t ws)).2 * (solved M ws).getD i 0 := fun i hi => by
    have := kernel (lead_ne ok W J) (y := fun c => (fin M ws).2 * (solved M (times t ws)).getD c 0 - (fin M (times t ws)).2 * (solved M ws).getD c 0) (fun i hi => by
      have s1 := Det.el_solves (lead_ne ok W J) hi (inner M).length
      have s2 := Det.el_solves (lead_ne ok W' J) hi (inner M).length
      have s2' : Det.sumN (inner M).length (fun c => ent (rowsOf M (times t ws)) i c * (Det.el (ent (rowsOf M (times t ws))) (inner M).length).1 c (inner M).length) = t * Det.sumN (inner M).length (fun c => ent (rowsOf M ws) i c * (solved M (times t ws)).getD c 0) := by
        rw [← Det.sum_mul]
        exact Det.sum_congr fun c hc => by rw [ent_times ok hi (by omega), solved_is hc]; grind
      have s1' : Det.sumN (inner M).length (fun c => ent (rowsOf M ws) i c * (Det.el (ent (rowsOf M ws)) (inner M).length).1 c (inner M).length) = Det.sumN (inner M).length (fun c => ent (rowsOf M ws) i c * (solved M ws).getD c 0) :=
        Det.sum_congr fun c hc => by rw [solved_is hc]
      rw [s2', ent_times ok hi (by omega), ← f2] at s2
      rw [s1', ← f1] at s1
      have s3 : (fin M (times t ws)).2 * ent (rowsOf M ws) i (inner M).length = Det.sumN (inner M).length (fun c => ent (rowsOf M ws) i c * (solved M (times t ws)).getD c 0) := by
        refine Int.eq_of_mul_eq_mul_left (show t ≠ 0 by omega) ?_
        rw [← s2]; grind
      have e : Det.sumN (inner M).length (fun c => ent (rowsOf M ws) i c * ((fin M ws).2 * (solved M (times t ws)).getD c 0 - (fin M (times t ws)).2 * (solved M ws).getD c 0)) = (fin M ws).2 * Det.sumN (inner M).length (fun c => ent (rowsOf M ws) i c * (solved M (times t ws)).getD c 0) + -(fin M (times t ws)).2 * Det.sumN (inner M).length (fun c => ent (rowsOf M ws) i c * (solved M ws).getD c 0) := by
        rw [← Det.sum_mul, ← Det.sum_mul, ← Det.sum_add]
        exact Det.sum_congr fun c _ => by grind
      rw [e, ← s1, ← s3]
      grind) i hi
    (try dsimp only at this)
    omega
  have same : (laid M (times t ws)).map (fun l => (fin M ws).2 * l) = (laid M ws).map (fun l => (fin M (times t ws)).2 * l) := by
    refine list_ext (by rw [List.length_map, List.length_map, laid_len, laid_len]) fun z hz => ?_
    rw [List.length_map, laid_len] at hz
    rw [getD_map (by rw [laid_len]; exact hz), getD_map (by rw [laid_len]; exact hz)]
    rcases place_cases (M := M) hz with h | h | ⟨i, hi, h⟩
    · have e1 := laid_inlet (ws := ws) ok
      have e2 := laid_inlet (ws := times t ws) ok
      rw [← h, Int.toNat_natCast] at e1 e2
      rw [e1, e2, Int.mul_comm]
    · have e1 := laid_outlet (ws := ws) ok
      have e2 := laid_outlet (ws := times t ws) ok
      rw [← h, Int.toNat_natCast] at e1 e2
      rw [e1, e2, Int.mul_zero, Int.mul_zero]
    · have e1 := laid_inner (ws := ws) hi
      have e2 := laid_inner (ws := times t ws) hi
      rw [h, Int.toNat_natCast] at e1 e2
      rw [e1, e2]
      exact key i hi
  unfold levelsP
  rw [← without_scale (ls := laid M (times t ws)) (t := (fin M ws).2) (by omega), same, without_scale (by omega)]
end
end Air

set_option Elab.async false
set_option linter.all false
set_option maxRecDepth 100000
set_option maxHeartbeats 4000000
set_option exponentiation.threshold 3000
namespace Air
open PySem PySem.Spec PyProof.Rows L2 MS Law
theorem sum_append_one (l : List Int) (x : Int) : (l ++ [x]).sum = l.sum + x := by
  rw [List.sum_append]; simp
theorem sum_filter {keep : Nat → Bool} {f : Int → Int} : ∀ n : Nat, ((((List.range n).filter keep).map fun (i : Nat) => (i : Int)).map f).sum = Det.sumN n fun i => if keep i = true then f (i : Int) else 0
  | 0 => rfl
  | n + 1 => by
    show _ = Det.sumN n (fun i => if keep i = true then f (i : Int) else 0) + (if keep n = true then f (n : Int) else 0)
    rw [← sum_filter (keep := keep) (f := f) n, List.range_succ, List.filter_append]
    by_cases h : keep n = true
    · rw [if_pos h, List.filter_cons, if_pos h, List.map_append, List.map_append]
      show (_ ++ [f (n : Int)]).sum = _
      rw [sum_append_one]
    · rw [if_neg h, List.filter_cons, if_neg h]
      show ((((List.range n).filter keep ++ []).map _).map f).sum = _
      rw [List.append_nil]; omega
def way (M : Mine) (i : Nat) : Int × Int := M.ways.getD i (0, 0)
theorem way_of {M : Mine} {i : Nat} (h : i < M.ways.length) : M.ways[i]? = some (way M i) := by
  unfold way
  rw [List.getD_eq_getElem?_getD, List.getElem?_eq_getElem h]; rfl
/-- what the law's own sum tells of the air out of a place -/
def outN (M : Mine) (air : List Int) (x : Int) : Int := Det.sumN M.ways.length fun i => air.getD i 0 * ((if (way M i).1 = x then 1 else 0) - (if (way M i).2 = x then 1 else 0))
theorem airs_at {M : Mine} {ws lv : List Int} {i : Nat} (h : i < M.ways.length) : (airs M ws lv).getD i 0 = ws.getD i 0 * (lv.getD (way M i).1.toNat 0 - lv.getD (way M i).2.toNat 0) := by
  unfold airs
  rw [List.getD_eq_getElem?_getD, List.getElem?_mapIdx, way_of h]
  rfl
theorem leaving_out {M : Mine} {ws lv : List Int} {x : Int} (ok : MineOk M) : leaving M ws lv x = outN M (airs M ws lv) x := by
  unfold leaving hits outN
  rw [sum_filter]
  refine Det.sum_congr fun i hi => ?_
  have hp := way_of hi
  have hne := (ok.ways _ (List.mem_of_getElem? hp)).2.2
  rw [airs_at hi, Int.toNat_natCast]
  have ht : touch M.ways x i = decide ((way M i).1 = x ∨ (way M i).2 = x) := by unfold touch; rw [hp]
  have hf : far M x (i : Int) = if x = (way M i).1 then (way M i).2 else (way M i).1 := by unfold far; rw [Int.toNat_natCast, hp]
  rw [ht, hf]
  generalize way M i = p at hne
  by_cases a : p.1 = x
  · have b : ¬ p.2 = x := fun b => hne (a.trans b.symm)
    rw [if_pos (by simp [a]), if_pos a.symm, if_pos a, if_neg b, ← a]
    grind
  · by_cases b : p.2 = x
    · rw [if_pos (by simp [b]), if_neg (fun z => a z.symm), if_neg a, if_pos b, ← b]
      grind
    · rw [if_neg (by simp [a, b]), if_neg a, if_neg b]
      grind
theorem out_total {M : Mine} (ok : MineOk M) (air : List Int) : Det.sumN M.places.toNat (fun z => outN M air (z : Int)) = 0 := by
  unfold outN
  rw [sum_swap (fun z i => air.getD i 0 * ((if (way M i).1 = (z : Int) then 1 else 0) - (if (way M i).2 = (z : Int) then 1 else 0)))]
  refine Det.sum_zero' fun i hi => ?_
  obtain ⟨hp1, hp2, _⟩ := ok.ways _ (List.mem_of_getElem? (way_of hi))
  have hlo := ok.lo
  rw [Det.sum_mul]
  have e : Det.sumN M.places.toNat (fun z => ((if (way M i).1 = (z : Int) then 1 else 0) - (if (way M i).2 = (z : Int) then 1 else 0) : Int)) = Det.sumN M.places.toNat (fun z => (if (z : Int) = (way M i).1 then 1 else 0)) + -Det.sumN M.places.toNat (fun z => (if (z : Int) = (way M i).2 then 1 else 0)) := by
    rw [← Det.sum_neg, ← Det.sum_add]
    refine Det.sum_congr fun z _ => ?_
    by_cases a : (way M i).1 = (z : Int) <;> by_cases b : (way M i).2 = (z : Int) <;> simp [a, b, eq_comm] <;> omega
  rw [e, sum_at (by omega), sum_at (by omega)]
  omega
section
variable {M : Mine} {ws : List Int}
theorem leaving_levels (ok : MineOk M) (h0 : 0 < gdiv (laid M ws)) {x : Int} (hx : 0 ≤ x ∧ x < M.places) : leaving M ws (laid M ws) x = gdiv (laid M ws) * leaving M ws (levelsP M ws) x := by
  rw [← leaving_sum ok hx, ← leaving_sum ok hx, ← Det.sum_mul]
  refine Det.sum_congr fun z hz => ?_
  have e : (laid M ws).getD z 0 = gdiv (laid M ws) * (levelsP M ws).getD z 0 := by
    have := mul_without h0
    have h2 : (laid M ws).getD z 0 = ((Air.without (laid M ws)).map fun l => gdiv (laid M ws) * l).getD z 0 := by rw [this]
    rw [h2, getD_map (by unfold Air.without; rw [List.length_map, laid_len]; exact hz)]
    rfl
  rw [e]; grind
/-- the told levels are those of a state -/
theorem levels_state (ok : MineOk M) (W : WsOk M ws) (J : Joined M) {x : Int} (hx : x ∈ inner M) : leaving M ws (levelsP M ws) x = 0 := by
  have L := lev_ok ok W J
  have h1 := leaving_levels ok L.pos (mem_inner.mp hx).1
  rw [laid_state ok W J hx] at h1
  have := L.pos
  rcases Int.mul_eq_zero.mp h1.symm with h | h
  · omega
  · exact h
theorem levels_at {i : Nat} (hi : i < M.places.toNat) : (levelsP M ws).getD i 0 = (laid M ws).getD i 0 / gdiv (laid M ws) := by
  unfold levelsP Air.without
  rw [getD_map (by rw [laid_len]; exact hi)]
theorem levels_outlet (ok : MineOk M) : (levelsP M ws).getD M.outlet.toNat 0 = 0 := by
  have := ok.ends.2.1
  rw [levels_at (by omega), laid_outlet ok, Int.zero_ediv]
theorem levels_top (ok : MineOk M) (W : WsOk M ws) (J : Joined M) : 0 < (levelsP M ws).getD M.inlet.toNat 0 := by
  have L := lev_ok ok W J
  have h := ok.ends.1
  have hp := lead_pos ok W J _ (Nat.le_refl _)
  rw [levels_at (by omega), laid_inlet ok, fin_is ok W J]
  have hd : gdiv (laid M ws) ∣ (fin M ws).2 := by
    rw [← laid_inlet ok]
    exact gdiv_dvd (getD_mem (by rw [laid_len]; omega))
  rw [fin_is ok W J] at hd
  exact Int.ediv_pos_of_pos_of_dvd hp (Int.le_of_lt L.pos) hd
theorem levels_gdiv (ok : MineOk M) (W : WsOk M ws) (J : Joined M) : gdiv (levelsP M ws) = 1 := gdiv_without (lev_ok ok W J).pos
/-- as much arrives at the outlet as leaves the inlet -/
theorem ends_same (ok : MineOk M) (W : WsOk M ws) (J : Joined M) : leaving M ws (levelsP M ws) M.inlet = -leaving M ws (levelsP M ws) M.outlet := by
  have h1 := out_total ok (airs M ws (levelsP M ws))
  have h2 := sum_inner ok fun z => outN M (airs M ws (levelsP M ws)) z
  rw [h1, Det.sum_zero' fun j hj => by rw [← leaving_out ok, levels_state ok W J (inn_in hj)]] at h2
  rw [leaving_out ok, leaving_out ok]
  omega
/-- how long the told levels are -/
theorem laid_bits (ok : MineOk M) (W : WsOk M ws) (J : Joined M) : ∀ z ∈ laid M ws, wk 1855 z := fun z hz => by
  obtain ⟨i, hi, e⟩ := List.getElem_of_mem hz
  have hi' : i < M.places.toNat := by rw [← laid_len (M := M) (ws := ws)]; exact hi
  have ez : z = (laid M ws).getD i 0 := by rw [List.getD_eq_getElem?_getD, List.getElem?_eq_getElem hi, e]; rfl
  have hn := inner_six ok
  obtain ⟨b1, b2⟩ := el_bits (ent_bits ok W) (inner M).length (Nat.le_refl _)
  have hb : bits (inner M).length ≤ 1855 := by
    have : ∀ k ≤ 6, bits k ≤ 1855 := by decide
    exact this _ hn
  rw [ez]
  rcases place_cases (M := M) hi' with h | h | ⟨j, hj, h⟩
  · have e1 := laid_inlet (ws := ws) ok
    rw [← h, Int.toNat_natCast] at e1
    rw [e1, fin_is ok W J, ← (Det.el_is (lead_ne ok W J)).1]
    exact b2.mono hb
  · have e1 := laid_outlet (ws := ws) ok
    rw [← h, Int.toNat_natCast] at e1
    rw [e1]
    unfold wk; exact Nat.two_pow_pos _
  · have e1 := laid_inner (ws := ws) hj
    rw [h, Int.toNat_natCast] at e1
    rw [e1, solved_is hj]
    exact (b1 j hj _ (Nat.lt_succ_self _)).mono hb
theorem levels_bits (ok : MineOk M) (W : WsOk M ws) (J : Joined M) : ∀ z ∈ levelsP M ws, wk 1855 z := fun z hz => by
  unfold levelsP Air.without at hz
  obtain ⟨l, hl, rfl⟩ := List.mem_map.mp hz
  exact wk_div (laid_bits ok W J l hl)
theorem air_ok (ok : MineOk M) (W : WsOk M ws) (J : Joined M) : AirOk M ws where
  toLevOk := lev_ok ok W J
  wsw := fun z hz => by
    have := W.pos z hz
    exact wd_small (by omega)
  lvw := fun z hz => (levels_bits ok W J z hz).wd (by decide)
  top := levels_top ok W J
end
end Air

set_option Elab.async false
set_option linter.all false
set_option maxRecDepth 100000
set_option maxHeartbeats 4000000
namespace Air
open PySem PySem.Spec PyProof.Rows L2 MS Law
/-! one width changed: what the whole air does -/
section
variable (M : Mine)
/-- the fall along way i -/
def fall (x : Int → Int) (i : Nat) : Int := x (way M i).1 - x (way M i).2
def form (u : Nat → Int) (x y : Int → Int) : Int := Det.sumN M.ways.length fun i => u i * (fall M x i * fall M y i)
/-- x is a state for the widths u, L leaves the inlet, s is the fall from the inlet to the outlet -/
structure IsSt (u : Nat → Int) (x : Int → Int) (L s : Int) : Prop where
  bal : ∀ y : Int → Int, form M u x y = L * (y M.inlet - y M.outlet)
  top : x M.inlet - x M.outlet = s
variable {M}
theorem form_comm {u : Nat → Int} {x y : Int → Int} : form M u x y = form M u y x := Det.sum_congr fun i _ => by (try dsimp only); rw [Int.mul_comm (fall M x i)]
theorem form_lin {u : Nat → Int} {x y z : Int → Int} {s t : Int} : form M u x (fun p => s * y p + t * z p) = s * form M u x y + t * form M u x z := by
  unfold form
  rw [← Det.sum_mul, ← Det.sum_mul, ← Det.sum_add]
  refine Det.sum_congr fun i _ => ?_
  unfold fall
  grind
theorem form_more {u v : Nat → Int} {x y : Int → Int} {k : Nat} {d : Int} (hk : k < M.ways.length) (h : ∀ i < M.ways.length, v i = u i + if i = k then d else 0) : form M v x y = form M u x y + d * (fall M x k * fall M y k) := by
  unfold form
  have e : Det.sumN M.ways.length (fun i => v i * (fall M x i * fall M y i)) = Det.sumN M.ways.length (fun i => u i * (fall M x i * fall M y i) + if i = k then d * (fall M x i * fall M y i) else 0) := Det.sum_congr fun i hi => by
    (try dsimp only)
    rw [h i hi]
    split <;> grind
  have e2 : Det.sumN M.ways.length (fun i => if i = k then d * (fall M x i * fall M y i) else 0) = d * (fall M x k * fall M y k) := by
    rw [Det.sum_one hk fun l _ hl => by rw [if_neg hl], if_pos rfl]
  rw [e, Det.sum_add, e2]
theorem sumN_nonneg {n : Nat} {f : Nat → Int} (h : ∀ i < n, 0 ≤ f i) : 0 ≤ Det.sumN n f := by
  induction n with
  | zero => exact Int.le_refl 0
  | succ n ih =>
    show 0 ≤ Det.sumN n f + f n
    have h1 := ih fun i hi => h i (by omega)
    have h2 := h n (by omega)
    omega
theorem sumN_zero_of {n : Nat} {f : Nat → Int} (h : ∀ i < n, 0 ≤ f i) (h0 : Det.sumN n f = 0) : ∀ i < n, f i = 0 := by
  induction n with
  | zero => intro i hi; exact absurd hi (Nat.not_lt_zero _)
  | succ n ih =>
    intro i hi
    have e : Det.sumN n f + f n = 0 := h0
    have h1 := sumN_nonneg (n := n) (f := f) fun i hi => h i (by omega)
    have h2 := h n (by omega)
    by_cases hin : i = n
    · subst hin; omega
    · exact ih (fun i hi => h i (by omega)) (by omega) i (by omega)
theorem sq_nonneg (a : Int) : 0 ≤ a * a := by
  rcases Int.le_total 0 a with h | h
  · exact Int.mul_nonneg h h
  · have := Int.mul_nonneg_of_nonpos_of_nonpos h h; exact this
theorem form_nonneg {u : Nat → Int} {x : Int → Int} (hu : ∀ i < M.ways.length, 0 ≤ u i) : 0 ≤ form M u x x := sumN_nonneg fun i hi => Int.mul_nonneg (hu i hi) (sq_nonneg _)
variable {u v : Nat → Int} {x z : Int → Int} {L L' s s' d : Int} {k : Nat}
/-- the changed way tells the change of the whole -/
theorem recip (hk : k < M.ways.length) (h : ∀ i < M.ways.length, v i = u i + if i = k then d else 0) (hx : IsSt M u x L s) (hz : IsSt M v z L' s') : L' * s - L * s' = d * (fall M x k * fall M z k) := by
  have h1 := hx.bal z
  have h2 := hz.bal x
  rw [form_comm, form_more hk h] at h2
  rw [h1, hz.top, hx.top] at h2
  omega
theorem diff_form (hk : k < M.ways.length) (h : ∀ i < M.ways.length, v i = u i + if i = k then d else 0) (hx : IsSt M u x L s) (hz : IsSt M v z L' s') :
    form M v (fun p => s * z p + -s' * x p) (fun p => s * z p + -s' * x p) = -s' * (d * (fall M x k * (s * fall M z k - s' * fall M x k))) ∧ form M u (fun p => s * z p + -s' * x p) (fun p => s * z p + -s' * x p) = -s * (d * (fall M z k * (s * fall M z k - s' * fall M x k))) := by
  have ends : (s * z M.inlet + -s' * x M.inlet) - (s * z M.outlet + -s' * x M.outlet) = 0 := by
    have h1 := hx.top
    have h2 := hz.top
    have : (s * z M.inlet + -s' * x M.inlet) - (s * z M.outlet + -s' * x M.outlet) = s * (z M.inlet - z M.outlet) - s' * (x M.inlet - x M.outlet) := by grind
    rw [this, h1, h2]; grind
  have e1 := hz.bal fun p => s * z p + -s' * x p
  have e2 := hx.bal fun p => s * z p + -s' * x p
  (try dsimp only at e1 e2)
  rw [ends, Int.mul_zero] at e1 e2
  have ef : fall M (fun p => s * z p + -s' * x p) k = s * fall M z k - s' * fall M x k := by unfold fall; grind
  have m1 := form_more (x := x) (y := fun p => s * z p + -s' * x p) hk h
  have m2 := form_more (x := z) (y := fun p => s * z p + -s' * x p) hk h
  rw [ef, e2] at m1
  rw [ef, e1] at m2
  constructor
  · rw [form_lin, form_comm (y := z), form_comm (y := x), e1, m1]; grind
  · rw [form_lin, form_comm (y := z), form_comm (y := x), e2]
    have : form M u z (fun p => s * z p + -s' * x p) = -(d * (fall M z k * (s * fall M z k - s' * fall M x k))) := by omega
    rw [this]; grind
/-- narrower: the air in the way keeps its direction or stops it alone -/
theorem narrower (hk : k < M.ways.length) (h : ∀ i < M.ways.length, v i = u i + if i = k then d else 0) (hx : IsSt M u x L s) (hz : IsSt M v z L' s') (hv : ∀ i < M.ways.length, 0 ≤ v i) (hs : 0 < s) (hs' : 0 < s') (hd : d < 0) :
    s' * (fall M x k * fall M x k) ≤ s * (fall M x k * fall M z k) := by
  have h1 := form_nonneg (M := M) (x := fun p => s * z p + -s' * x p) hv
  rw [(diff_form hk h hx hz).1] at h1
  have h2 : -s' * (d * (fall M x k * (s * fall M z k - s' * fall M x k))) = (s' * -d) * (s * (fall M x k * fall M z k) - s' * (fall M x k * fall M x k)) := by grind
  rw [h2] at h1
  have h3 : 0 < s' * -d := Int.mul_pos hs' (by omega)
  have := Det.nonneg_of_mul (x := s * (fall M x k * fall M z k) - s' * (fall M x k * fall M x k)) h3 (by rw [Int.mul_comm]; exact h1)
  omega
/-- wider: likewise -/
theorem wider (hk : k < M.ways.length) (h : ∀ i < M.ways.length, v i = u i + if i = k then d else 0) (hx : IsSt M u x L s) (hz : IsSt M v z L' s') (hu : ∀ i < M.ways.length, 0 ≤ u i) (hs : 0 < s) (hs' : 0 < s') (hd : 0 < d) :
    s * (fall M z k * fall M z k) ≤ s' * (fall M x k * fall M z k) := by
  have h1 := form_nonneg (M := M) (x := fun p => s * z p + -s' * x p) hu
  rw [(diff_form hk h hx hz).2] at h1
  have h2 : -s * (d * (fall M z k * (s * fall M z k - s' * fall M x k))) = (s * d) * (s' * (fall M x k * fall M z k) - s * (fall M z k * fall M z k)) := by grind
  rw [h2] at h1
  have h3 : 0 < s * d := Int.mul_pos hs hd
  have := Det.nonneg_of_mul (x := s' * (fall M x k * fall M z k) - s * (fall M z k * fall M z k)) h3 (by rw [Int.mul_comm]; exact h1)
  omega
end
end Air

set_option Elab.async false
set_option linter.all false
set_option maxRecDepth 100000
set_option maxHeartbeats 4000000
namespace Air
open PySem PySem.Spec PyProof.Rows L2 MS Law
section
variable {M : Mine} {ws : List Int}
theorem sum_pick {P : Nat} {y : Int} {f : Int → Int} (hy : 0 ≤ y ∧ y < P) : Det.sumN P (fun z => (if (z : Int) = y then 1 else 0) * f (z : Int)) = f y := by
  rw [Det.sum_one (i := y.toNat) (by omega) fun l _ hl => by rw [if_neg (by omega), Int.zero_mul]]
  rw [if_pos (by omega), show ((y.toNat : Nat) : Int) = y by omega, Int.one_mul]
theorem out_form (ok : MineOk M) (air : List Int) (y : Int → Int) : Det.sumN M.places.toNat (fun z => outN M air (z : Int) * y (z : Int)) = Det.sumN M.ways.length fun i => air.getD i 0 * fall M y i := by
  have e : Det.sumN M.places.toNat (fun z => outN M air (z : Int) * y (z : Int)) = Det.sumN M.places.toNat fun z => Det.sumN M.ways.length fun i => air.getD i 0 * (((if (way M i).1 = (z : Int) then 1 else 0) - (if (way M i).2 = (z : Int) then 1 else 0)) * y (z : Int)) := Det.sum_congr fun z _ => by
    unfold outN
    rw [Int.mul_comm, ← Det.sum_mul]
    exact Det.sum_congr fun i _ => by grind
  rw [e, sum_swap]
  refine Det.sum_congr fun i hi => ?_
  obtain ⟨hp1, hp2, _⟩ := ok.ways _ (List.mem_of_getElem? (way_of hi))
  rw [Det.sum_mul]
  congr 1
  have hlo := ok.lo
  have e2 : Det.sumN M.places.toNat (fun z => (((if (way M i).1 = (z : Int) then 1 else 0) - (if (way M i).2 = (z : Int) then 1 else 0)) * y (z : Int) : Int)) = Det.sumN M.places.toNat (fun z => (if (z : Int) = (way M i).1 then 1 else 0) * y (z : Int)) + -Det.sumN M.places.toNat (fun z => (if (z : Int) = (way M i).2 then 1 else 0) * y (z : Int)) := by
    rw [← Det.sum_neg, ← Det.sum_add]
    refine Det.sum_congr fun z _ => ?_
    by_cases a : (way M i).1 = (z : Int) <;> by_cases b : (way M i).2 = (z : Int) <;> simp [a, b, eq_comm] <;> omega
  rw [e2, sum_pick (by omega), sum_pick (by omega)]
  unfold fall
  omega
def wdt (ws : List Int) (i : Nat) : Int := ws.getD i 0
def lvl (lv : List Int) (p : Int) : Int := lv.getD p.toNat 0
/-- the told levels are a state in this sense, too -/
theorem isSt_levels (ok : MineOk M) (W : WsOk M ws) (J : Joined M) : IsSt M (wdt ws) (lvl (levelsP M ws)) (leaving M ws (levelsP M ws) M.inlet) ((levelsP M ws).getD M.inlet.toNat 0) where
  top := by
    unfold lvl
    rw [levels_outlet ok, Int.sub_zero]
  bal := fun y => by
    have h1 := out_form ok (airs M ws (levelsP M ws)) y
    have h2 := sum_inner ok fun z => outN M (airs M ws (levelsP M ws)) z * y z
    have hin : Det.sumN (inner M).length (fun j => outN M (airs M ws (levelsP M ws)) (inn M j) * y (inn M j)) = 0 := Det.sum_zero' fun j hj => by rw [← leaving_out ok, levels_state ok W J (inn_in hj), Int.zero_mul]
    have h3 := ends_same ok W J
    rw [h1, hin, ← leaving_out ok, ← leaving_out ok] at h2
    have h4 : form M (wdt ws) (lvl (levelsP M ws)) y = Det.sumN M.ways.length fun i => (airs M ws (levelsP M ws)).getD i 0 * fall M y i := Det.sum_congr fun i hi => by
      rw [airs_at hi]
      unfold wdt fall lvl
      grind
    refine (h4.trans h2).trans ?_
    generalize leaving M ws (levelsP M ws) M.inlet = a at h3 ⊢
    generalize leaving M ws (levelsP M ws) M.outlet = b at h3 ⊢
    have : b = -a := by omega
    subst this
    grind
/-- what falls along no way of a joined mine is the same everywhere -/
theorem flat_of (ok : MineOk M) (J : Joined M) {y : Int → Int} (h : ∀ i < M.ways.length, fall M y i = 0) : ∀ v, 0 ≤ v → v < M.places → y v = y M.inlet := by
  have key : ∀ v, Reach M.ways M.inlet v → y v = y M.inlet := fun v hr => by
    induction hr with
    | start => rfl
    | @step a b _ ha ih =>
      have : y b = y a := by
        rcases ha with hm | hm
        · obtain ⟨i, hi, e⟩ := List.getElem_of_mem hm
          have h1 := h i hi
          unfold fall way at h1
          rw [List.getD_eq_getElem?_getD, List.getElem?_eq_getElem hi, e] at h1
          have h1 : y a - y b = 0 := h1
          omega
        · obtain ⟨i, hi, e⟩ := List.getElem_of_mem hm
          have h1 := h i hi
          unfold fall way at h1
          rw [List.getD_eq_getElem?_getD, List.getElem?_eq_getElem hi, e] at h1
          have h1 : y b - y a = 0 := h1
          omega
      rw [this, ih]
  exact fun v h0 h1 => key v (J v h0 h1)
/-- wider: no air in the way afterwards, none before -/
theorem still_before {u v : Nat → Int} {x z : Int → Int} {L L' s s' d : Int} {k : Nat} (ok : MineOk M) (J : Joined M) (hk : k < M.ways.length) (h : ∀ i < M.ways.length, v i = u i + if i = k then d else 0) (hx : IsSt M u x L s) (hz : IsSt M v z L' s') (hu : ∀ i < M.ways.length, 0 < u i) (hs' : 0 < s') (h0 : fall M z k = 0) : fall M x k = 0 := by
  have h1 := (diff_form hk h hx hz).2
  rw [h0, Int.zero_mul, Int.mul_zero, Int.mul_zero] at h1
  have h2 := sumN_zero_of (fun i hi => Int.mul_nonneg (by have := hu i hi; omega) (sq_nonneg (fall M (fun p => s * z p + -s' * x p) i))) h1
  have h3 : fall M (fun p => s * z p + -s' * x p) k = 0 := by
    have h4 := h2 k hk
    have := hu k hk
    rcases Int.mul_eq_zero.mp h4 with h5 | h5
    · omega
    · rcases Int.mul_eq_zero.mp h5 with h6 | h6 <;> exact h6
  have e : fall M (fun p => s * z p + -s' * x p) k = s * fall M z k - s' * fall M x k := by unfold fall; grind
  rw [e, h0, Int.mul_zero] at h3
  have : s' * fall M x k = 0 := by omega
  rcases Int.mul_eq_zero.mp this with h5 | h5
  · omega
  · exact h5
end
end Air

set_option Elab.async false
set_option linter.all false
set_option maxRecDepth 100000
set_option maxHeartbeats 4000000
namespace Air
open PySem PySem.Spec PyProof.Rows L2 MS Law
/-! fractions compared -/
theorem gcd_parts {a b : Int} (h : 0 < b) : 0 < gcdI a b ∧ gcdI a b * (a / gcdI a b) = a ∧ gcdI a b * (b / gcdI a b) = b := by
  have h1 := gcdI_pos (a := a) h
  have h2 : gcdI a b ∣ a := by
    unfold gcdI
    exact Int.dvd_natAbs.mp (Int.natCast_dvd_natCast.mpr (Nat.gcd_dvd_left _ _))
  have h3 : gcdI a b ∣ b := by
    unfold gcdI
    exact Int.dvd_natAbs.mp (Int.natCast_dvd_natCast.mpr (Nat.gcd_dvd_right _ _))
  exact ⟨h1, Int.mul_ediv_cancel' h2, Int.mul_ediv_cancel' h3⟩
theorem num_zero {a b : Int} (h : 0 < b) : a / gcdI a b = 0 ↔ a = 0 := by
  obtain ⟨h1, h2, _⟩ := gcd_parts (a := a) h
  constructor
  · intro e; rw [e, Int.mul_zero] at h2; omega
  · intro e; rw [e]; exact Int.zero_ediv _
theorem frac_lt {a b a' b' : Int} (hb : 0 < b) (hb' : 0 < b') : (a / gcdI a b) * (b' / gcdI a' b') < (a' / gcdI a' b') * (b / gcdI a b) ↔ a * b' < a' * b := by
  obtain ⟨h1, h2, h3⟩ := gcd_parts (a := a) hb
  obtain ⟨h1', h2', h3'⟩ := gcd_parts (a := a') hb'
  generalize gcdI a b = g at *
  generalize gcdI a' b' = g' at *
  generalize a / g = n at *
  generalize b / g = p at *
  generalize a' / g' = n' at *
  generalize b' / g' = p' at *
  have e1 : a * b' = (g * g') * (n * p') := by rw [← h2, ← h3']; grind
  have e2 : a' * b = (g * g') * (n' * p) := by rw [← h2', ← h3]; grind
  rw [e1, e2]
  exact (Int.mul_lt_mul_left (Int.mul_pos h1 h1')).symm
theorem frac_same {a b a' b' : Int} (hb : 0 < b) (hb' : 0 < b') : frac a b = frac a' b' ↔ a * b' = a' * b := by
  constructor
  · intro e
    unfold frac at e
    obtain ⟨h1, h2, h3⟩ := gcd_parts (a := a) hb
    obtain ⟨h1', h2', h3'⟩ := gcd_parts (a := a') hb'
    simp only [List.cons.injEq, and_true] at e
    obtain ⟨e1, e2⟩ := e
    generalize gcdI a b = g at *
    generalize gcdI a' b' = g' at *
    generalize a / g = n at *
    generalize b / g = p at *
    generalize a' / g' = n' at *
    generalize b' / g' = p' at *
    subst e1 e2
    rw [← h2, ← h2', ← h3, ← h3']
    grind
  · intro e
    have scale : ∀ {x y t : Int}, 0 < t → frac (t * x) (t * y) = frac x y := fun {x y t} ht => by
      have g : gcdI (t * x) (t * y) = t * gcdI x y := by
        unfold gcdI
        rw [Int.natAbs_mul, Int.natAbs_mul, Nat.gcd_mul_left, Int.natCast_mul, Int.natAbs_of_nonneg (Int.le_of_lt ht)]
      unfold frac
      rw [g, Int.mul_ediv_mul_of_pos _ _ ht, Int.mul_ediv_mul_of_pos _ _ ht]
    rw [← scale (x := a) (y := b) hb', ← scale (x := a') (y := b') hb]
    rw [Int.mul_comm b' a, e, Int.mul_comm b a', Int.mul_comm b' b]
/-! one way wider, one way shut -/
section
variable {M : Mine} {ws ws' : List Int} {k : Nat} {d : Int}
theorem lt_of_air {fx fz L L' s s' : Int} (h1 : s * (fz * fz) ≤ s' * (fx * fz)) (h2 : L' * s - L * s' = d * (fx * fz)) (hs : 0 < s) (hs' : 0 < s') (hd : 0 < d) (hz : fz ≠ 0) : L * s' < L' * s := by
  have p1 : 0 < fz * fz := by
    rcases Int.lt_or_gt_of_ne hz with h | h
    · exact Int.mul_pos_of_neg_of_neg h h
    · exact Int.mul_pos h h
  have p2 : 0 < s * (fz * fz) := Int.mul_pos hs p1
  have p3 : 0 < fx * fz := by
    have p4 : 0 < s' * (fx * fz) := by omega
    exact Det.pos_of_mul hs' (by rw [Int.mul_comm]; exact p4)
  have p5 : 0 < d * (fx * fz) := Int.mul_pos hd p3
  omega
theorem wider_told (ok : MineOk M) (W : WsOk M ws) (W' : WsOk M ws') (J : Joined M) (hk : k < M.ways.length) (h : ∀ i < M.ways.length, wdt ws' i = wdt ws i + if i = k then d else 0) (hd : 0 < d) :
    (fall M (lvl (levelsP M ws)) k ≠ 0 → leaving M ws (levelsP M ws) M.inlet * (levelsP M ws').getD M.inlet.toNat 0 < leaving M ws' (levelsP M ws') M.inlet * (levelsP M ws).getD M.inlet.toNat 0) ∧
    (fall M (lvl (levelsP M ws)) k = 0 → leaving M ws (levelsP M ws) M.inlet * (levelsP M ws').getD M.inlet.toNat 0 = leaving M ws' (levelsP M ws') M.inlet * (levelsP M ws).getD M.inlet.toNat 0) := by
  have hx := isSt_levels ok W J
  have hz := isSt_levels ok W' J
  have hs := levels_top ok W J
  have hs' := levels_top ok W' J
  have hu : ∀ i < M.ways.length, 0 < wdt ws i := fun i hi => by
    have := W.pos (ws.getD i 0) (getD_mem (by rw [W.len]; exact hi))
    unfold wdt
    omega
  have r := recip hk h hx hz
  refine ⟨fun hf => ?_, fun hf => ?_⟩
  · have hz0 : fall M (lvl (levelsP M ws')) k ≠ 0 := fun e => hf (still_before ok J hk h hx hz hu hs' e)
    exact lt_of_air (wider hk h hx hz (fun i hi => Int.le_of_lt (hu i hi)) hs hs' hd) r hs hs' hd hz0
  · rw [hf, Int.zero_mul, Int.mul_zero] at r
    omega
theorem sumN_erase {f : Nat → Int} {k : Nat} (h0 : f k = 0) : ∀ n, k ≤ n → Det.sumN (n + 1) f = Det.sumN n fun i => f (if i < k then i else i + 1)
  | 0, h => by
    have : k = 0 := by omega
    subst this
    show Det.sumN 0 f + f 0 = 0
    rw [h0]
    rfl
  | n + 1, h => by
    show Det.sumN (n + 1) f + f (n + 1) = (Det.sumN n fun i => f (if i < k then i else i + 1)) + f (if n < k then n else n + 1)
    by_cases hk : k = n + 1
    · subst hk
      rw [h0, if_pos (by omega)]
      have : Det.sumN (n + 1) f = Det.sumN n f + f n := rfl
      rw [this]
      have e : Det.sumN n f = Det.sumN n fun i => f (if i < n + 1 then i else i + 1) := Det.sum_congr fun i hi => by rw [if_pos (by omega)]
      rw [e]; omega
    · rw [sumN_erase h0 n (by omega), if_neg (by omega)]
/-- the mine without way k -/
def shutM (M : Mine) (k : Nat) : Mine := { M with ways := M.ways.eraseIdx k }
theorem way_shut (M : Mine) (k i : Nat) : way (shutM M k) i = way M (if i < k then i else i + 1) := by
  unfold way shutM
  show (M.ways.eraseIdx k).getD i (0, 0) = _
  rw [List.getD_eq_getElem?_getD, List.getD_eq_getElem?_getD, List.getElem?_eraseIdx]
  split <;> rfl
theorem wdt_shut (ws : List Int) (k i : Nat) : wdt (ws.eraseIdx k) i = wdt ws (if i < k then i else i + 1) := by
  unfold wdt
  rw [List.getD_eq_getElem?_getD, List.getD_eq_getElem?_getD, List.getElem?_eraseIdx]
  split <;> rfl
theorem form_shut {x y : Int → Int} (hk : k < M.ways.length) : form M (fun i => if i = k then 0 else wdt ws i) x y = form (shutM M k) (wdt (ws.eraseIdx k)) x y := by
  unfold form
  obtain ⟨n, hn⟩ : ∃ n, M.ways.length = n + 1 := ⟨M.ways.length - 1, by omega⟩
  have hl : (shutM M k).ways.length = n := by
    show (M.ways.eraseIdx k).length = n
    rw [List.length_eraseIdx_of_lt hk]; omega
  rw [hn, hl, sumN_erase (k := k) (by (try dsimp only); rw [if_pos rfl, Int.zero_mul]) n (by omega)]
  refine Det.sum_congr fun i hi => ?_
  (try dsimp only)
  rw [if_neg (by split <;> omega), wdt_shut]
  unfold fall
  rw [way_shut]
theorem isSt_shut (ok : MineOk (shutM M k)) (W : WsOk (shutM M k) (ws.eraseIdx k)) (J : Joined (shutM M k)) (hk : k < M.ways.length) :
    IsSt M (fun i => if i = k then 0 else wdt ws i) (lvl (levelsP (shutM M k) (ws.eraseIdx k))) (leaving (shutM M k) (ws.eraseIdx k) (levelsP (shutM M k) (ws.eraseIdx k)) M.inlet) ((levelsP (shutM M k) (ws.eraseIdx k)).getD M.inlet.toNat 0) where
  bal := fun y => by
    rw [form_shut hk]
    exact (isSt_levels ok W J).bal y
  top := (isSt_levels ok W J).top
theorem shut_told (ok : MineOk M) (W : WsOk M ws) (J : Joined M) (ok' : MineOk (shutM M k)) (W' : WsOk (shutM M k) (ws.eraseIdx k)) (J' : Joined (shutM M k)) (hk : k < M.ways.length) :
    (fall M (lvl (levelsP M ws)) k ≠ 0 → leaving (shutM M k) (ws.eraseIdx k) (levelsP (shutM M k) (ws.eraseIdx k)) M.inlet * (levelsP M ws).getD M.inlet.toNat 0 < leaving M ws (levelsP M ws) M.inlet * (levelsP (shutM M k) (ws.eraseIdx k)).getD M.inlet.toNat 0) ∧
    (fall M (lvl (levelsP M ws)) k = 0 → leaving (shutM M k) (ws.eraseIdx k) (levelsP (shutM M k) (ws.eraseIdx k)) M.inlet * (levelsP M ws).getD M.inlet.toNat 0 = leaving M ws (levelsP M ws) M.inlet * (levelsP (shutM M k) (ws.eraseIdx k)).getD M.inlet.toNat 0) := by
  have hx := isSt_levels ok W J
  have hz := isSt_shut ok' W' J' hk
  have hs := levels_top ok W J
  have hs' : 0 < (levelsP (shutM M k) (ws.eraseIdx k)).getD M.inlet.toNat 0 := levels_top ok' W' J'
  have hu : ∀ i < M.ways.length, 0 < wdt ws i := fun i hi => by
    have := W.pos (ws.getD i 0) (getD_mem (by rw [W.len]; exact hi))
    unfold wdt
    omega
  have h : ∀ i < M.ways.length, (fun i => if i = k then 0 else wdt ws i) i = wdt ws i + if i = k then -wdt ws k else 0 := fun i hi => by
    (try dsimp only)
    by_cases e : i = k
    · subst e; rw [if_pos rfl, if_pos rfl]; omega
    · rw [if_neg e, if_neg e]; omega
  have r := recip hk h hx hz
  have hd : -wdt ws k < 0 := by have := hu k hk; omega
  have nr := narrower hk h hx hz (fun i hi => by (try dsimp only); split; exact Int.le_refl 0; exact Int.le_of_lt (hu i hi)) hs hs' hd
  generalize fall M (lvl (levelsP M ws)) k = fx at *
  generalize fall M (lvl (levelsP (shutM M k) (ws.eraseIdx k))) k = fz at *
  refine ⟨fun hf => ?_, fun hf => ?_⟩
  · have p1 : 0 < fx * fx := by
      rcases Int.lt_or_gt_of_ne hf with h | h
      · exact Int.mul_pos_of_neg_of_neg h h
      · exact Int.mul_pos h h
    have p2 := Int.mul_pos hs' p1
    have p3 : 0 < fx * fz := Det.pos_of_mul hs (by rw [Int.mul_comm]; omega)
    have p4 := Int.mul_pos (a := wdt ws k) (hu k hk) p3
    have p5 : -wdt ws k * (fx * fz) = -(wdt ws k * (fx * fz)) := Int.neg_mul _ _
    omega
  · rw [hf, Int.zero_mul, Int.mul_zero] at r
    omega
end
end Air

set_option Elab.async false
set_option linter.all false
set_option maxRecDepth 100000
set_option maxHeartbeats 4000000
set_option exponentiation.threshold 3000
namespace Air
open PySem PySem.Spec PyProof.Rows L2 MS Law
def Wks (l : List Int) : Prop := ∀ z ∈ l, wk 1910 z
theorem wd_gcd {a b : Int} (ha : wd a) (hb : wd b) : wd (gcdI a b) := by
  unfold gcdI wd at *
  rw [Int.natAbs_natCast]
  by_cases h : b.natAbs = 0
  · rw [h, Nat.gcd_zero_right]; exact ha
  · exact Nat.lt_of_le_of_lt (Nat.gcd_le_right _ (by omega)) hb
theorem frac_wks {a b : Int} (ha : wk 1910 a) (hb : wk 1910 b) : Wks (frac a b) := fun z hz => by
  unfold frac at hz
  simp only [List.mem_cons, List.not_mem_nil, or_false] at hz
  rcases hz with rfl | rfl
  · exact wk_div ha
  · exact wk_div hb
theorem sumN_abs {n : Nat} {f : Nat → Int} {B : Nat} (h : ∀ i < n, (f i).natAbs ≤ B) : (Det.sumN n f).natAbs ≤ n * B := by
  induction n with
  | zero => exact Nat.zero_le _
  | succ n ih =>
    show (Det.sumN n f + f n).natAbs ≤ _
    have h1 := ih fun i hi => h i (by omega)
    have h2 := h n (by omega)
    rw [Nat.succ_mul]
    omega
section
variable {M : Mine} {ws : List Int}
theorem airs_bits (ok : MineOk M) (W : WsOk M ws) (J : Joined M) : ∀ z ∈ airs M ws (levelsP M ws), wk 1879 z := fun z hz => by
  obtain ⟨i, hi, e⟩ := List.getElem_of_mem hz
  have hi' : i < M.ways.length := by unfold airs at hi; rw [List.length_mapIdx] at hi; exact hi
  have ez : z = (airs M ws (levelsP M ws)).getD i 0 := by rw [List.getD_eq_getElem?_getD, List.getElem?_eq_getElem hi, e]; rfl
  obtain ⟨k1, k2⟩ := way_lt ok (levelsP_len (M := M) (ws := ws)) (List.mem_of_getElem? (way_of hi'))
  have hw := W.pos (ws.getD i 0) (Air.getD_mem (by have := W.len; omega))
  have h1 := levels_bits ok W J _ (Air.getD_mem (l := levelsP M ws) (i := (way M i).1.toNat) (by omega))
  have h2 := levels_bits ok W J _ (Air.getD_mem (l := levelsP M ws) (i := (way M i).2.toNat) (by omega))
  rw [ez, airs_at hi']
  exact wk.mono (wk.mul (k := 23) (by unfold wk; omega) (h1.sub h2)) (by decide)
theorem out_bits (ok : MineOk M) (W : WsOk M ws) (J : Joined M) (x : Int) : wk 1885 (outN M (airs M ws (levelsP M ws)) x) := by
  have h := sumN_abs (n := M.ways.length) (B := 2 ^ 1879) (f := fun i => (airs M ws (levelsP M ws)).getD i 0 * ((if (way M i).1 = x then 1 else 0) - (if (way M i).2 = x then 1 else 0))) fun i hi => by
    have h1 : wk 1879 ((airs M ws (levelsP M ws)).getD i 0) := airs_bits ok W J _ (Air.getD_mem (by unfold airs; rw [List.length_mapIdx]; exact hi))
    unfold wk at h1
    rw [Int.natAbs_mul]
    have h2 : (((if (way M i).1 = x then 1 else 0) - (if (way M i).2 = x then 1 else 0) : Int)).natAbs ≤ 1 := by split <;> split <;> decide
    calc _ ≤ ((airs M ws (levelsP M ws)).getD i 0).natAbs * 1 := Nat.mul_le_mul_left _ h2
      _ ≤ 2 ^ 1879 := by omega
  have h4 : M.ways.length * 2 ^ 1879 ≤ 12 * 2 ^ 1879 := Nat.mul_le_mul_right _ W.few
  unfold wk outN
  have e : (2 : Nat) ^ 1885 = 64 * 2 ^ 1879 := by rw [← Nat.pow_add (a := 2) (m := 6)]
  omega
end
theorem reach_trans {ws : List (Int × Int)} {s u v : Int} (h : Reach ws s u) (g : Reach ws u v) : Reach ws s v := by
  induction g with
  | start => exact h
  | step _ a ih => exact .step ih a
theorem reach_symm {ws : List (Int × Int)} {s v : Int} (h : Reach ws s v) : Reach ws v s := by
  induction h with
  | start => exact .start
  | step _ a ih => exact reach_trans (.step .start (a.elim .inr .inl)) ih
theorem reach_zero {n : Int} {ws : List (Int × Int)} (T : Tree n ws) : ∀ (k : Nat) (v : Int), v.toNat ≤ k → 0 ≤ v → v < n → Reach ws 0 v
  | 0, v, h, h0, _ => by
    have : v = 0 := by omega
    subst this
    exact .start
  | k + 1, v, h, h0, h1 => by
    by_cases hv : v = 0
    · subst hv; exact .start
    · obtain ⟨y, hy0, hy1, ha⟩ := T v (by omega) h1
      exact .step (reach_zero T k y (by omega) hy0 (by omega)) (ha.elim .inr .inl)
theorem joined_of {M : Mine} (ok : MineOk M) (T : Tree M.places M.ways) : Joined M := fun v h0 h1 =>
  reach_trans (reach_symm (reach_zero T _ M.inlet (Nat.le_refl _) ok.ends.1.1 ok.ends.1.2)) (reach_zero T _ v (Nat.le_refl _) h0 h1)
/-- the last loop: what both tell of some levels -/
theorem toPy_pairs {S : Store} {n : Nat} : ∀ ws : List (Int × Int), (ws.map Law.pairD).mapM (toPy S (n + 2)) = some (ws.map fun w => PyData.tuple [.int w.1, .int w.2])
  | [] => rfl
  | w :: ws => by
    rw [List.map_cons, List.mapM_cons, toPy_pairs ws]
    rfl

/-! comparisons -/
theorem ge_neB {S : Store} {Q : D → Store → Prop} {a b : Bool} (h : Q (.bl (a != b)) S) : GE (fNe (.bl a) (.bl b) S) Q := by
  refine ge_eq (x := .bl (a != b)) (S' := S) ?_ h
  cases a <;> cases b <;> rfl
theorem ge_eqB {S : Store} {Q : D → Store → Prop} {a b : Bool} (h : Q (.bl (a == b)) S) : GE (fEq (.bl a) (.bl b) S) Q := by
  refine ge_eq (x := .bl (a == b)) (S' := S) ?_ h
  cases a <;> cases b <;> rfl
theorem pairs_lay : ∀ ws : List (Int × Int), PyData.canLayAll0 (ws.map fun w => PyData.tuple [.int w.1, .int w.2]) = true ∧ PyData.depthAll (ws.map fun w => PyData.tuple [.int w.1, .int w.2]) ≤ 1
  | [] => ⟨rfl, Nat.zero_le _⟩
  | w :: ws => by
    obtain ⟨h1, h2⟩ := pairs_lay ws
    refine ⟨?_, ?_⟩
    · show (PyData.canLay0 (.tuple [.int w.1, .int w.2]) && PyData.canLayAll0 (ws.map fun w => PyData.tuple [.int w.1, .int w.2])) = true
      rw [h1]; rfl
    · show max (PyData.depth (.tuple [.int w.1, .int w.2])) (PyData.depthAll (ws.map fun w => PyData.tuple [.int w.1, .int w.2])) ≤ 1
      have : PyData.depth (.tuple [.int w.1, .int w.2]) = 1 := rfl
      rw [this]; omega
theorem shaped_pairs (ws : List (Int × Int)) : SeqAt.shaped (.tuple (ws.map fun w => PyData.tuple [.int w.1, .int w.2])) = true := by
  obtain ⟨l1, l2⟩ := pairs_lay ws
  unfold SeqAt.shaped
  rw [Bool.and_eq_true, decide_eq_true_eq]
  refine ⟨l1, ?_⟩
  show PyData.depthAll (ws.map fun w => PyData.tuple [.int w.1, .int w.2]) + 1 ≤ 64
  omega
theorem ge_neNo {S : Store} {Q : D → Store → Prop} {ws : List (Int × Int)} (h : Q (.bl (!ws.isEmpty)) S) : GE (fNe (.tup (ws.map Law.pairD)) (.tup []) S) Q := by
  have e : toPy S 64 (.tup (ws.map Law.pairD)) = some (.tuple (ws.map fun w => PyData.tuple [.int w.1, .int w.2])) := by
    show (((ws.map Law.pairD).mapM (toPy S 63)).map PyData.tuple) = _
    rw [toPy_pairs (n := 61)]
    rfl
  refine ge_eq (x := .bl (!ws.isEmpty)) (S' := S) ?_ h
  show ((toPy S 64 (.tup (ws.map Law.pairD))).bind fun p => (toPy S 64 (.tup [])).bind fun q => if SeqAt.shaped p && SeqAt.shaped q then some (D.bl (not (PyData.eqv p q)), S) else none) = _
  rw [e]
  show (if SeqAt.shaped (.tuple (ws.map fun w => PyData.tuple [.int w.1, .int w.2])) && true then some (D.bl (not (PyData.eqv (.tuple (ws.map fun w => PyData.tuple [.int w.1, .int w.2])) (.tuple []))), S) else none) = _
  rw [shaped_pairs]
  cases ws <;> rfl
theorem at_mapI {f : Int → D} {l : List Int} {i : Int} (h0 : 0 ≤ i) (h1 : i < l.length) : L2.atI (l.map f) i = some (f (l.getD i.toNat 0)) := by
  obtain ⟨k, rfl⟩ : ∃ k : Nat, i = (k : Int) := ⟨i.toNat, by omega⟩
  refine L2.atI_nat ?_
  have hk : k < l.length := by omega
  rw [List.getElem?_map, List.getElem?_eq_getElem hk, Int.toNat_natCast, List.getD_eq_getElem?_getD, List.getElem?_eq_getElem hk]
  rfl
/-- as many places found as there are: the mine is joined -/
theorem joined_found {M : Mine} {l : List Int} (ok : MineOk M) (f : Found M.ways M.inlet M.places l) (h : (l.length : Int) = M.places) : Joined M := fun v h0 h1 => by
  by_cases hv : v ∈ l
  · exact f.rc v hv
  · have hlo := ok.lo
    have h2 := nodup_bound (l := v :: l) (n := M.places) (by omega) (List.nodup_cons.mpr ⟨hv, f.nd⟩) fun x hx => by
      rcases List.mem_cons.mp hx with rfl | hx
      · exact ⟨h0, h1⟩
      · exact f.bd x hx
    rw [List.length_cons] at h2
    omega
/-- a joined mine has a way -/
theorem ways_some {M : Mine} (ok : MineOk M) (J : Joined M) : 1 ≤ M.ways.length := by
  cases h : M.ways with
  | cons w l => simp
  | nil =>
    exfalso
    have hr := J M.outlet ok.ends.2.1.1 ok.ends.2.1.2
    have ne := ok.ends.2.2
    rw [h] at hr
    generalize M.outlet = v at hr ne
    cases hr with
    | start => exact ne rfl
    | step _ ha => rcases ha with ha | ha <;> cases ha
end Air

set_option Elab.async false
set_option linter.all false
set_option maxRecDepth 100000
set_option maxHeartbeats 4000000
namespace Air
open PySem PySem.Spec PyProof.Rows L2 MS Law
/-! balanced levels: slopes, and air along them -/
theorem sgn_iff {a b s : Int} : sgn a b = s ↔ (s = 0 ∧ a = b) ∨ (s = 1 ∧ b < a) ∨ (s = -1 ∧ a < b) := by
  unfold sgn
  split
  · constructor
    · intro h; exact .inl ⟨h.symm, by assumption⟩
    · rintro (⟨h, _⟩ | ⟨_, h⟩ | ⟨_, h⟩) <;> omega
  · split
    · constructor
      · intro h; exact .inr (.inl ⟨h.symm, by assumption⟩)
      · rintro (⟨_, h⟩ | ⟨h, _⟩ | ⟨_, h⟩) <;> omega
    · constructor
      · intro h; exact .inr (.inr ⟨h.symm, by omega⟩)
      · rintro (⟨_, h⟩ | ⟨_, h⟩ | ⟨h, _⟩) <;> omega
theorem sgn_neg {a b s : Int} (h : sgn a b = s) : sgn b a = -s := by
  rw [sgn_iff] at h ⊢
  omega
theorem filter_lt {α : Type} {P Q : α → Bool} {a : α} : ∀ {l : List α}, (∀ x ∈ l, P x = true → Q x = true) → a ∈ l → Q a = true → P a = false → (l.filter P).length < (l.filter Q).length
  | [], _, h, _, _ => absurd h List.not_mem_nil
  | b :: l, hi, ha, hq, hp => by
    have le : ∀ l : List α, (∀ x ∈ l, P x = true → Q x = true) → (l.filter P).length ≤ (l.filter Q).length := fun l hi => by
      induction l with
      | nil => exact Nat.le_refl _
      | cons c l ih =>
        have h1 := ih fun x hx => hi x (List.mem_cons_of_mem _ hx)
        have h2 := hi c List.mem_cons_self
        rw [List.filter_cons, List.filter_cons]
        cases hpc : P c with
        | true => rw [h2 hpc]; simpa using h1
        | false =>
          cases hqc : Q c with
          | true => simp; omega
          | false => simpa using h1
    rw [List.filter_cons, List.filter_cons]
    rcases List.mem_cons.mp ha with rfl | ha
    · rw [hq, hp]
      have := le l fun x hx => hi x (List.mem_cons_of_mem _ hx)
      simp; omega
    · have h1 := filter_lt (fun x hx => hi x (List.mem_cons_of_mem _ hx)) ha hq hp
      have h2 := hi b List.mem_cons_self
      cases hpb : P b with
      | true => rw [h2 hpb]; simpa using h1
      | false =>
        cases hqb : Q b with
        | true => simp; omega
        | false => simpa using h1
section
variable (M : Mine) (lv : List Int)
def toward (x s : Int) : Option Int := (hits M.ways x M.ways.length).find? fun w => decide (sgn (lvl lv (far M x w)) (lvl lv x) = s)
def cnt (x s : Int) : Nat := ((List.range M.places.toNat).filter fun (p : Nat) => decide (sgn (lvl lv (p : Int)) (lvl lv x) = s)).length
def slopeF (s : Int) : Nat → Int → List Int
  | 0, _ => []
  | n + 1, x => match toward M lv x s with
    | none => []
    | some w => w :: slopeF s n (far M x w)
def endF (s : Int) : Nat → Int → Int
  | 0, x => x
  | n + 1, x => match toward M lv x s with
    | none => x
    | some w => endF s n (far M x w)
def slope (s x : Int) : List Int := slopeF M lv s (cnt M lv x s + 1) x
def slopeEnd (s x : Int) : Int := endF M lv s (cnt M lv x s + 1) x
/-- what one unit in way u, down its slope, brings out of x -/
def uo (x u : Int) : Int := sgn (lvl lv (way M u.toNat).1) (lvl lv (way M u.toNat).2) * ((if (way M u.toNat).1 = x then 1 else 0) - (if (way M u.toNat).2 = x then 1 else 0))
end
section
variable {M : Mine} {lv : List Int} {s x w : Int}
theorem toward_at (ok : MineOk M) (h : toward M lv x s = some w) : ∃ (i : Nat) (p : Int × Int), w = (i : Int) ∧ i < M.ways.length ∧ M.ways[i]? = some p ∧ way M i = p ∧ ((p.1 = x ∧ far M x w = p.2) ∨ (p.2 = x ∧ far M x w = p.1)) ∧ sgn (lvl lv (far M x w)) (lvl lv x) = s := by
  have h1 := List.find?_some h
  have h2 := List.mem_of_find?_eq_some h
  obtain ⟨i, p, rfl, hi, hp, ho⟩ := mem_hits h2
  have hw : way M i = p := by have := way_of hi; rw [hp] at this; exact (Option.some.inj this).symm
  have hne := (ok.ways p (List.mem_of_getElem? hp)).2.2
  refine ⟨i, p, rfl, hi, hp, hw, ?_, of_decide_eq_true h1⟩
  unfold far
  rw [Int.toNat_natCast, hp]
  (try dsimp only)
  rcases ho with ho | ho
  · exact .inl ⟨ho, by rw [if_pos ho.symm]⟩
  · exact .inr ⟨ho, by rw [if_neg fun z => hne (by rw [← z, ho])]⟩
theorem far_range (ok : MineOk M) (h : toward M lv x s = some w) : 0 ≤ far M x w ∧ far M x w < M.places := by
  obtain ⟨i, p, rfl, hi, hp, hw, ho, hs⟩ := toward_at ok h
  have hk := ok.ways p (List.mem_of_getElem? hp)
  rcases ho with ⟨_, e⟩ | ⟨_, e⟩ <;> rw [e]
  · exact hk.2.1
  · exact hk.1
/-- and back -/
theorem toward_back (ok : MineOk M) (h : toward M lv x s = some w) : (toward M lv (far M x w) (-s)).isSome = true := by
  obtain ⟨i, p, rfl, hi, hp, hw, ho, hs⟩ := toward_at ok h
  have hne := (ok.ways p (List.mem_of_getElem? hp)).2.2
  unfold toward
  rw [List.find?_isSome]
  refine ⟨(i : Int), hits_mem hp ?_, decide_eq_true ?_⟩
  · rcases ho with ⟨_, e⟩ | ⟨_, e⟩ <;> rw [e]
    · exact .inr rfl
    · exact .inl rfl
  · have e2 : far M (far M x (i : Int)) (i : Int) = x := by
      have : ∀ z, far M z (i : Int) = if z = p.1 then p.2 else p.1 := fun z => by unfold far; rw [Int.toNat_natCast, hp]
      rcases ho with ⟨h1, e⟩ | ⟨h1, e⟩ <;> rw [e, this]
      · rw [if_neg fun z => hne z.symm, h1]
      · rw [if_pos rfl, h1]
    rw [e2]
    exact sgn_neg hs
theorem cnt_lt (ok : MineOk M) (hs1 : s = 1 ∨ s = -1) (h : toward M lv x s = some w) : cnt M lv (far M x w) s < cnt M lv x s := by
  have hr := far_range ok h
  obtain ⟨i, p, _, _, _, _, _, hs⟩ := toward_at ok h
  generalize far M x w = y at hr hs ⊢
  unfold cnt
  have ey : ((y.toNat : Nat) : Int) = y := by omega
  refine filter_lt (a := y.toNat) (fun q _ hq => ?_) (List.mem_range.mpr (by omega)) ?_ ?_
  · have hq := of_decide_eq_true hq
    refine decide_eq_true ?_
    rw [sgn_iff] at hq hs ⊢
    omega
  · (try dsimp only)
    rw [ey]
    exact decide_eq_true hs
  · (try dsimp only)
    rw [ey]
    refine decide_eq_false fun z => ?_
    rw [sgn_iff] at z
    omega
theorem slopeF_same (ok : MineOk M) (hs1 : s = 1 ∨ s = -1) : ∀ (n m : Nat) (x : Int), cnt M lv x s < n → cnt M lv x s < m → slopeF M lv s n x = slopeF M lv s m x ∧ endF M lv s n x = endF M lv s m x
  | 0, _, _, h, _ => absurd h (Nat.not_lt_zero _)
  | _ + 1, 0, _, _, h => absurd h (Nat.not_lt_zero _)
  | n + 1, m + 1, x, h1, h2 => by
    unfold slopeF endF
    cases e : toward M lv x s with
    | none => exact ⟨rfl, rfl⟩
    | some w =>
      have := cnt_lt ok hs1 e
      obtain ⟨q1, q2⟩ := slopeF_same ok hs1 n m (far M x w) (by omega) (by omega)
      exact ⟨by show w :: _ = w :: _; rw [q1], q2⟩
theorem slope_none (h : toward M lv x s = none) : slope M lv s x = [] ∧ slopeEnd M lv s x = x := by
  unfold slope slopeEnd slopeF endF
  rw [h]
  exact ⟨rfl, rfl⟩
theorem slope_some (ok : MineOk M) (hs1 : s = 1 ∨ s = -1) (h : toward M lv x s = some w) : slope M lv s x = w :: slope M lv s (far M x w) ∧ slopeEnd M lv s x = slopeEnd M lv s (far M x w) := by
  have := cnt_lt ok hs1 h
  obtain ⟨q1, q2⟩ := slopeF_same ok hs1 (cnt M lv x s) (cnt M lv (far M x w) s + 1) (far M x w) this (by omega)
  refine ⟨?_, ?_⟩
  · show slopeF M lv s (cnt M lv x s + 1) x = w :: slopeF M lv s (cnt M lv (far M x w) s + 1) (far M x w)
    rw [← q1]
    show (match toward M lv x s with
      | none => []
      | some w => w :: slopeF M lv s (cnt M lv x s) (far M x w)) = _
    rw [h]
  · show endF M lv s (cnt M lv x s + 1) x = endF M lv s (cnt M lv (far M x w) s + 1) (far M x w)
    rw [← q2]
    show (match toward M lv x s with
      | none => x
      | some w => endF M lv s (cnt M lv x s) (far M x w)) = _
    rw [h]
/-- a way of a slope, as a unit -/
theorem uo_toward (ok : MineOk M) (hs1 : s = 1 ∨ s = -1) (h : toward M lv x s = some w) (z : Int) : uo M lv z w = s * ((if far M x w = z then 1 else 0) - (if x = z then 1 else 0)) := by
  obtain ⟨i, p, rfl, hi, hp, hw, ho, hs⟩ := toward_at ok h
  unfold uo
  rw [Int.toNat_natCast, hw]
  rcases ho with ⟨h1, e⟩ | ⟨h1, e⟩
  · rw [e] at hs ⊢
    rw [h1, sgn_neg hs]
    grind
  · rw [e] at hs ⊢
    rw [h1, hs]
theorem ind_slope (ok : MineOk M) (hs1 : s = 1 ∨ s = -1) {Pv : Int → List Int → Int → Prop} (h0 : ∀ x, toward M lv x s = none → Pv x [] x)
    (hs : ∀ x w l y, toward M lv x s = some w → Pv (far M x w) l y → Pv x (w :: l) y) : ∀ (n : Nat) (x : Int), cnt M lv x s < n → Pv x (slope M lv s x) (slopeEnd M lv s x)
  | 0, _, h => absurd h (Nat.not_lt_zero _)
  | n + 1, x, h => by
    cases e : toward M lv x s with
    | none =>
      obtain ⟨q1, q2⟩ := slope_none e
      rw [q1, q2]
      exact h0 x e
    | some w =>
      obtain ⟨q1, q2⟩ := slope_some ok hs1 e
      have := cnt_lt ok hs1 e
      rw [q1, q2]
      exact hs x w _ _ e (ind_slope ok hs1 h0 hs n _ (by omega))
theorem slope_sum (ok : MineOk M) (hs1 : s = 1 ∨ s = -1) (x z : Int) : ((slope M lv s x).map (uo M lv z)).sum = s * ((if slopeEnd M lv s x = z then 1 else 0) - (if x = z then 1 else 0)) := by
  refine ind_slope ok hs1 (Pv := fun x l y => (l.map (uo M lv z)).sum = s * ((if y = z then 1 else 0) - (if x = z then 1 else 0))) (fun x _ => ?_) (fun x w l y h ih => ?_) _ x (Nat.lt_succ_self _)
  · (try dsimp only)
    simp
  · (try dsimp only at ih ⊢)
    rw [List.map_cons, List.sum_cons, ih, uo_toward ok hs1 h]
    grind
theorem slope_end (ok : MineOk M) (hs1 : s = 1 ∨ s = -1) (x : Int) : toward M lv (slopeEnd M lv s x) s = none ∧ ((toward M lv x (-s)).isSome = true → (toward M lv (slopeEnd M lv s x) (-s)).isSome = true) := by
  refine ind_slope ok hs1 (Pv := fun x l y => toward M lv y s = none ∧ ((toward M lv x (-s)).isSome = true → (toward M lv y (-s)).isSome = true)) (fun x h => ⟨h, fun z => z⟩) (fun x w l y h ih => ⟨ih.1, fun _ => ih.2 (toward_back ok h)⟩) _ x (Nat.lt_succ_self _)
theorem slope_len (ok : MineOk M) (hs1 : s = 1 ∨ s = -1) (x : Int) : (slope M lv s x).length ≤ cnt M lv x s := by
  refine ind_slope ok hs1 (Pv := fun x l y => l.length ≤ cnt M lv x s) (fun x h => Nat.zero_le _) (fun x w l y h ih => ?_) _ x (Nat.lt_succ_self _)
  have := cnt_lt ok hs1 h
  show l.length + 1 ≤ _
  omega
theorem cnt_le (ok : MineOk M) (x s : Int) : cnt M lv x s ≤ 8 := by
  unfold cnt
  have h1 := List.length_filter_le (fun (p : Nat) => decide (sgn (lvl lv (p : Int)) (lvl lv x) = s)) (List.range M.places.toNat)
  rw [List.length_range] at h1
  have := ok.hi
  omega
theorem slope_mem (ok : MineOk M) (hs1 : s = 1 ∨ s = -1) (x : Int) : ∀ u ∈ slope M lv s x, 0 ≤ u ∧ u < M.ways.length := by
  refine ind_slope ok hs1 (Pv := fun x l y => ∀ u ∈ l, 0 ≤ u ∧ u < M.ways.length) (fun x h u hu => absurd hu List.not_mem_nil) (fun x w l y h ih u hu => ?_) _ x (Nat.lt_succ_self _)
  rcases List.mem_cons.mp hu with rfl | hu
  · obtain ⟨i, p, rfl, hi, _⟩ := toward_at ok h
    omega
  · exact ih u hu
end
end Air

set_option Elab.async false
set_option linter.all false
set_option maxRecDepth 100000
set_option maxHeartbeats 4000000
namespace Air
open PySem PySem.Spec PyProof.Rows L2 MS Law
section
variable (M : Mine) (lv : List Int)
def balancedB : Bool := decide (lvl lv M.outlet < lvl lv M.inlet) && (inner M).all fun x => (toward M lv x 1).isSome == (toward M lv x (-1)).isSome
/-- the way of one unit through way i, with the slopes up and down -/
def hiLo (i : Nat) : Int × Int := if sgn (lvl lv (way M i).1) (lvl lv (way M i).2) = 1 then way M i else ((way M i).2, (way M i).1)
def pathOf (i : Nat) : List Int := if sgn (lvl lv (way M i).1) (lvl lv (way M i).2) = 0 then [] else slope M lv 1 (hiLo M lv i).1 ++ [(i : Int)] ++ slope M lv (-1) (hiLo M lv i).2
def allP (n : Nat) : List Int := (List.range n).flatMap (pathOf M lv)
def bumps (P a : List Int) : List Int := P.foldl (fun a u => bump a u 1) a
def airP : List Int := bumps (allP M lv M.ways.length) (List.replicate M.ways.length 0)
end
section
variable {M : Mine} {lv : List Int}
theorem balanced_at (b : balancedB M lv = true) {x : Int} (hx : x ∈ inner M) : (toward M lv x 1).isSome = (toward M lv x (-1)).isSome := by
  unfold balancedB at b
  rw [Bool.and_eq_true, List.all_eq_true] at b
  exact eq_of_beq (b.2 x hx)
/-- the ends of a way lead to one another -/
theorem way_toward_ (ok : MineOk M) {i : Nat} (hi : i < M.ways.length) {x y s : Int} (hxy : (x, y) = way M i ∨ (y, x) = way M i) (h : sgn (lvl lv y) (lvl lv x) = s) : (toward M lv x s).isSome = true := by
  have hp := way_of hi
  have hne := (ok.ways _ (List.mem_of_getElem? hp)).2.2
  unfold toward
  rw [List.find?_isSome]
  have hf : ∀ z, far M z (i : Int) = if z = (way M i).1 then (way M i).2 else (way M i).1 := fun z => by unfold far; rw [Int.toNat_natCast, hp]
  rcases hxy with e | e
  · refine ⟨(i : Int), hits_mem hp (.inl (by rw [← e])), decide_eq_true ?_⟩
    rw [hf, ← e, if_pos rfl]
    exact h
  · refine ⟨(i : Int), hits_mem hp (.inr (by rw [← e])), decide_eq_true ?_⟩
    rw [← e] at hne
    rw [hf, ← e, if_neg (show ¬ x = y from fun z => hne z.symm)]
    exact h
theorem path_sum (ok : MineOk M) (b : balancedB M lv = true) {i : Nat} (hi : i < M.ways.length) {z : Int} (hz : z ∈ inner M) : ((pathOf M lv i).map (uo M lv z)).sum = 0 := by
  unfold pathOf
  split
  · rfl
  · rename_i h0
    have hb := balanced_at b hz
    have main : ∀ hl : Int × Int, (hl = way M i ∨ hl = ((way M i).2, (way M i).1)) → sgn (lvl lv hl.1) (lvl lv hl.2) = 1 → uo M lv z (i : Int) = (if hl.1 = z then 1 else 0) - (if hl.2 = z then 1 else 0) →
        ((slope M lv 1 hl.1 ++ [(i : Int)] ++ slope M lv (-1) hl.2).map (uo M lv z)).sum = 0 := fun hl he h1 hu => by
      have t1 : (toward M lv hl.1 (-1)).isSome = true := way_toward_ ok hi (x := hl.1) (y := hl.2) (by rcases he with e | e <;> rw [e] <;> simp) (sgn_neg h1)
      have t2 : (toward M lv hl.2 1).isSome = true := way_toward_ ok hi (x := hl.2) (y := hl.1) (by rcases he with e | e <;> rw [e] <;> simp) h1
      have e1 := slope_end ok (.inl rfl) (s := 1) hl.1 (lv := lv)
      have e2 := slope_end ok (.inr rfl) (s := -1) hl.2 (lv := lv)
      have n1 : slopeEnd M lv 1 hl.1 ≠ z := fun e => by
        have h3 := e1.2 t1
        rw [e] at e1 h3
        rw [e1.1, h3] at hb
        cases hb
      have n2 : slopeEnd M lv (-1) hl.2 ≠ z := fun e => by
        have h3 := e2.2 t2
        rw [e] at e2 h3
        rw [show (- -1 : Int) = 1 from rfl] at h3
        rw [e2.1, h3] at hb
        cases hb
      rw [List.map_append, List.map_append, List.sum_append, List.sum_append, slope_sum ok (.inl rfl), slope_sum ok (.inr rfl), if_neg n1, if_neg n2, List.map_cons, List.map_nil, List.sum_cons, List.sum_nil, hu]
      grind
    unfold hiLo
    have us : uo M lv z (i : Int) = sgn (lvl lv (way M i).1) (lvl lv (way M i).2) * ((if (way M i).1 = z then 1 else 0) - (if (way M i).2 = z then 1 else 0)) := by unfold uo; rw [Int.toNat_natCast]
    by_cases h1 : sgn (lvl lv (way M i).1) (lvl lv (way M i).2) = 1
    · rw [if_pos h1]
      refine main _ (.inl rfl) h1 ?_
      rw [us, h1, Int.one_mul]
    · rw [if_neg h1]
      have h2 : sgn (lvl lv (way M i).1) (lvl lv (way M i).2) = -1 := by
        have : ∀ s, sgn (lvl lv (way M i).1) (lvl lv (way M i).2) = s → s = 0 ∨ s = 1 ∨ s = -1 := fun s hs => by rw [sgn_iff] at hs; omega
        rcases this _ rfl with h | h | h
        · exact absurd h h0
        · exact absurd h h1
        · exact h
      refine main _ (.inr rfl) (by have := sgn_neg h2; simpa using this) ?_
      rw [us, h2]
      (try dsimp only)
      grind
theorem bumps_len {P a : List Int} : (bumps P a).length = a.length := by
  unfold bumps
  induction P generalizing a with
  | nil => rfl
  | cons u P ih => rw [List.foldl_cons, ih, bump_length]
theorem bump_get {a : List Int} {u v : Int} {i : Nat} (hu : 0 ≤ u ∧ u < a.length) : (bump a u v).getD i 0 = a.getD i 0 + if (i : Int) = u then v else 0 := by
  unfold bump
  rw [List.getD_eq_getElem?_getD, List.getElem?_set]
  by_cases h : u.toNat = i
  · rw [if_pos h, if_pos (by omega), if_pos (by omega)]
    subst h
    rfl
  · rw [if_neg h, if_neg (by omega), List.getD_eq_getElem?_getD, Int.add_zero]
theorem bumps_at : ∀ {P a : List Int} {i : Nat}, (∀ u ∈ P, 0 ≤ u ∧ u < a.length) → (bumps P a).getD i 0 = a.getD i 0 + ((P.filter fun u => decide (u = (i : Int))).length : Int)
  | [], a, i, _ => by show a.getD i 0 = _; simp
  | u :: P, a, i, h => by
    show (bumps P (bump a u 1)).getD i 0 = _
    rw [bumps_at (fun v hv => by rw [bump_length]; exact h v (List.mem_cons_of_mem _ hv)), bump_get (h u List.mem_cons_self), List.filter_cons]
    by_cases e : u = (i : Int)
    · rw [if_pos e.symm, decide_eq_true e, if_pos rfl, List.length_cons]
      omega
    · rw [if_neg (fun z => e z.symm), decide_eq_false e, if_neg Bool.false_ne_true]
      omega
theorem bumps_sum {n : Nat} {g : Nat → Int} : ∀ {P a : List Int}, a.length = n → (∀ u ∈ P, 0 ≤ u ∧ u < n) → Det.sumN n (fun i => (bumps P a).getD i 0 * g i) = Det.sumN n (fun i => a.getD i 0 * g i) + (P.map fun u => g u.toNat).sum
  | [], a, _, _ => by show Det.sumN n (fun i => a.getD i 0 * g i) = _; simp
  | u :: P, a, hl, h => by
    have hu := h u List.mem_cons_self
    show Det.sumN n (fun i => (bumps P (bump a u 1)).getD i 0 * g i) = _
    rw [bumps_sum (by rw [bump_length]; exact hl) fun v hv => h v (List.mem_cons_of_mem _ hv)]
    have e1 : Det.sumN n (fun i => (bump a u 1).getD i 0 * g i) = Det.sumN n (fun i => a.getD i 0 * g i + (if i = u.toNat then g u.toNat else 0)) := Det.sum_congr fun i hi => by
      (try dsimp only)
      rw [bump_get (by omega)]
      by_cases e : (i : Int) = u
      · have e2 : i = u.toNat := by omega
        rw [if_pos e, if_pos e2, ← e2]; grind
      · rw [if_neg e, if_neg (by omega)]; grind
    have e3 : Det.sumN n (fun i => if i = u.toNat then g u.toNat else 0) = g u.toNat := by
      rw [Det.sum_one (i := u.toNat) (by omega) fun l _ hl => by rw [if_neg hl], if_pos rfl]
    rw [e1, Det.sum_add, e3, List.map_cons, List.sum_cons]
    omega
theorem allP_mem (ok : MineOk M) {n : Nat} (hn : n ≤ M.ways.length) : ∀ u ∈ allP M lv n, 0 ≤ u ∧ u < M.ways.length := fun u hu => by
  unfold allP at hu
  obtain ⟨i, hi, hu⟩ := List.mem_flatMap.mp hu
  have hi := List.mem_range.mp hi
  unfold pathOf at hu
  split at hu
  · cases hu
  · rcases List.mem_append.mp hu with hu | hu
    · rcases List.mem_append.mp hu with hu | hu
      · exact slope_mem ok (.inl rfl) _ u hu
      · rw [List.mem_singleton.mp hu]; omega
    · exact slope_mem ok (.inr rfl) _ u hu
theorem allP_sum (ok : MineOk M) (b : balancedB M lv = true) {z : Int} (hz : z ∈ inner M) : ∀ n, n ≤ M.ways.length → ((allP M lv n).map (uo M lv z)).sum = 0
  | 0, _ => rfl
  | n + 1, h => by
    unfold allP
    rw [List.range_succ, List.flatMap_append, List.map_append, List.sum_append]
    have h1 := allP_sum ok b hz n (by omega)
    unfold allP at h1
    rw [h1, List.flatMap_cons, List.flatMap_nil, List.append_nil, path_sum ok b (by omega) hz]
    rfl
theorem path_len (ok : MineOk M) (i : Nat) : (pathOf M lv i).length ≤ 17 := by
  unfold pathOf
  split
  · exact Nat.zero_le _
  · rw [List.length_append, List.length_append, List.length_singleton]
    have h1 := slope_len ok (.inl rfl) (s := 1) (lv := lv) (hiLo M lv i).1
    have h2 := slope_len ok (.inr rfl) (s := -1) (lv := lv) (hiLo M lv i).2
    have h3 := cnt_le ok (lv := lv) (hiLo M lv i).1 1
    have h4 := cnt_le ok (lv := lv) (hiLo M lv i).2 (-1)
    omega
theorem allP_len (ok : MineOk M) : ∀ n, (allP M lv n).length ≤ 17 * n
  | 0 => Nat.le_refl _
  | n + 1 => by
    unfold allP
    rw [List.range_succ, List.flatMap_append, List.length_append, List.flatMap_cons, List.flatMap_nil, List.append_nil]
    have h1 := allP_len ok n
    unfold allP at h1
    have h2 := path_len ok (lv := lv) n
    omega
theorem airP_len : (airP M lv).length = M.ways.length := by unfold airP; rw [bumps_len, List.length_replicate]
theorem airP_bd (ok : MineOk M) {i : Nat} (hi : i < M.ways.length) : 0 ≤ (airP M lv).getD i 0 ∧ (airP M lv).getD i 0 ≤ 17 * M.ways.length ∧ (sgn (lvl lv (way M i).1) (lvl lv (way M i).2) ≠ 0 → 1 ≤ (airP M lv).getD i 0) := by
  have e : (airP M lv).getD i 0 = (((allP M lv M.ways.length).filter fun u => decide (u = (i : Int))).length : Int) := by
    unfold airP
    rw [bumps_at fun u hu => by rw [List.length_replicate]; exact allP_mem ok (Nat.le_refl _) u hu]
    have : (List.replicate M.ways.length (0 : Int)).getD i 0 = 0 := by rw [List.getD_eq_getElem?_getD, List.getElem?_replicate]; split <;> rfl
    rw [this, Int.zero_add]
  rw [e]
  have h1 := List.length_filter_le (fun u => decide (u = (i : Int))) (allP M lv M.ways.length)
  have h2 := allP_len ok (lv := lv) M.ways.length
  refine ⟨by omega, by omega, fun hs => ?_⟩
  have hm : (i : Int) ∈ (allP M lv M.ways.length).filter fun u => decide (u = (i : Int)) := by
    refine List.mem_filter.mpr ⟨List.mem_flatMap.mpr ⟨i, List.mem_range.mpr hi, ?_⟩, decide_eq_true rfl⟩
    unfold pathOf
    rw [if_neg hs]
    exact List.mem_append_left _ (List.mem_append_right _ (List.mem_singleton.mpr rfl))
  have := List.length_pos_of_mem hm
  omega
end
end Air

set_option Elab.async false
set_option linter.all false
set_option maxRecDepth 100000
set_option maxHeartbeats 4000000
namespace Air
open PySem PySem.Spec PyProof.Rows L2 MS Law
def absI (i : Int) : Int := if i < 0 then -i else i
def lcmI (c d : Int) : Int := ((Nat.lcm c.natAbs d.natAbs : Nat) : Int)
def lcmStep (c d : Int) : Int := if 0 < d then lcmI c d else c
def commonP (ds : List Int) : Int := ds.foldl lcmStep 1
section
variable (M : Mine) (lv : List Int)
def dropsP : List Int := M.ways.map fun p => absI (lvl lv p.1 - lvl lv p.2)
def widthsP : List Int := (dropsP M lv).mapIdx fun i d => if 0 < d then (airP M lv).getD i 0 * commonP (dropsP M lv) / d else 1
end
theorem lcm_pos {c d : Int} (hc : 0 < c) (hd : 0 < d) : 0 < lcmI c d ∧ c ∣ lcmI c d ∧ d ∣ lcmI c d ∧ lcmI c d ≤ c * d := by
  unfold lcmI
  have h1 := Nat.lcm_pos (m := c.natAbs) (n := d.natAbs) (by omega) (by omega)
  refine ⟨by omega, ?_, ?_, ?_⟩
  · exact Int.natAbs_dvd.mp (Int.natCast_dvd_natCast.mpr (Nat.dvd_lcm_left _ _))
  · exact Int.natAbs_dvd.mp (Int.natCast_dvd_natCast.mpr (Nat.dvd_lcm_right _ _))
  · have h2 : Nat.lcm c.natAbs d.natAbs ≤ c.natAbs * d.natAbs := by
      unfold Nat.lcm
      exact Nat.div_le_self _ _
    have h3 : ((c.natAbs * d.natAbs : Nat) : Int) = c * d := by
      rw [Int.natCast_mul, Int.natAbs_of_nonneg (by omega), Int.natAbs_of_nonneg (by omega)]
    rw [← h3]
    exact Int.ofNat_le.mpr h2
theorem common_fold : ∀ (ds : List Int) (c : Int), 0 < c → (∀ d ∈ ds, d ≤ 10000) → 0 < ds.foldl lcmStep c ∧ c ∣ ds.foldl lcmStep c ∧ (∀ d ∈ ds, 0 < d → d ∣ ds.foldl lcmStep c) ∧ ds.foldl lcmStep c ≤ c * 10000 ^ ds.length
  | [], c, hc, _ => ⟨hc, Int.dvd_refl _, fun d h => absurd h List.not_mem_nil, by simp⟩
  | d :: ds, c, hc, h => by
    rw [List.foldl_cons]
    have hd := h d List.mem_cons_self
    have hpow : (1 : Int) ≤ 10000 ^ ds.length := by
      have := Int.pow_pos (n := 10000) (m := ds.length) (by decide)
      omega
    unfold lcmStep
    split
    · rename_i h0
      obtain ⟨l1, l2, l3, l4⟩ := lcm_pos hc h0
      obtain ⟨q1, q2, q3, q4⟩ := common_fold ds (lcmI c d) l1 fun x hx => h x (List.mem_cons_of_mem _ hx)
      refine ⟨q1, Int.dvd_trans l2 q2, fun x hx hx0 => ?_, ?_⟩
      · rcases List.mem_cons.mp hx with rfl | hx
        · exact Int.dvd_trans l3 q2
        · exact q3 x hx hx0
      · refine Int.le_trans q4 ?_
        have h5 : lcmI c d ≤ c * 10000 := Int.le_trans l4 (Int.mul_le_mul_of_nonneg_left hd (by omega))
        have h6 := Int.mul_le_mul_of_nonneg_right h5 (show (0 : Int) ≤ 10000 ^ ds.length by omega)
        rw [List.length_cons, Int.pow_succ]
        refine Int.le_trans h6 (Int.le_of_eq ?_)
        grind
    · rename_i h0
      obtain ⟨q1, q2, q3, q4⟩ := common_fold ds c hc fun x hx => h x (List.mem_cons_of_mem _ hx)
      refine ⟨q1, q2, fun x hx hx0 => ?_, ?_⟩
      · rcases List.mem_cons.mp hx with rfl | hx
        · exact absurd hx0 h0
        · exact q3 x hx hx0
      · refine Int.le_trans q4 (Int.mul_le_mul_of_nonneg_left ?_ (by omega))
        rw [List.length_cons, Int.pow_succ]
        omega
section
variable {M : Mine} {lv : List Int}
theorem dropsP_len : (dropsP M lv).length = M.ways.length := by unfold dropsP; rw [List.length_map]
theorem dropsP_at {i : Nat} (hi : i < M.ways.length) : (dropsP M lv).getD i 0 = absI (lvl lv (way M i).1 - lvl lv (way M i).2) := by
  unfold dropsP
  rw [List.getD_eq_getElem?_getD, List.getElem?_map, way_of hi]
  rfl
theorem widthsP_len : (widthsP M lv).length = M.ways.length := by unfold widthsP; rw [List.length_mapIdx, dropsP_len]
theorem widthsP_at {i : Nat} (hi : i < M.ways.length) : (widthsP M lv).getD i 0 = if 0 < (dropsP M lv).getD i 0 then (airP M lv).getD i 0 * commonP (dropsP M lv) / (dropsP M lv).getD i 0 else 1 := by
  unfold widthsP
  have hl : i < (dropsP M lv).length := by rw [dropsP_len]; exact hi
  have e : (dropsP M lv).getD i 0 = (dropsP M lv)[i] := by rw [List.getD_eq_getElem?_getD, List.getElem?_eq_getElem hl]; rfl
  rw [e, List.getD_eq_getElem?_getD, List.getElem?_mapIdx, List.getElem?_eq_getElem hl]
  rfl
theorem abs_sgn (a b : Int) : a - b = sgn a b * absI (a - b) ∧ (0 < absI (a - b) ↔ sgn a b ≠ 0) ∧ 0 ≤ absI (a - b) := by
  have h : ∀ s, sgn a b = s → a - b = s * absI (a - b) ∧ (0 < absI (a - b) ↔ s ≠ 0) ∧ 0 ≤ absI (a - b) := fun s hs => by
    rw [sgn_iff] at hs
    unfold absI
    rcases hs with ⟨rfl, h⟩ | ⟨rfl, h⟩ | ⟨rfl, h⟩
    · rw [if_neg (by omega)]; omega
    · rw [if_neg (by omega)]; omega
    · rw [if_pos (by omega)]; omega
  exact h _ rfl
/-- what the widths are to do -/
theorem widths_bd (ok : MineOk M) (few : M.ways.length ≤ 12) (small : ∀ d ∈ dropsP M lv, d ≤ 10000) {i : Nat} (hi : i < M.ways.length) : 1 ≤ (widthsP M lv).getD i 0 ∧ (widthsP M lv).getD i 0 ≤ 10 ^ 60 ∧
    (widthsP M lv).getD i 0 * (lvl lv (way M i).1 - lvl lv (way M i).2) = commonP (dropsP M lv) * ((airP M lv).getD i 0 * sgn (lvl lv (way M i).1) (lvl lv (way M i).2)) := by
  obtain ⟨c1, _, c3, c4⟩ := common_fold (dropsP M lv) 1 (by decide) small
  obtain ⟨a1, a2, a3⟩ := airP_bd ok (lv := lv) hi
  obtain ⟨s1, s2, s3⟩ := abs_sgn (lvl lv (way M i).1) (lvl lv (way M i).2)
  rw [widthsP_at hi]
  have hmem : (dropsP M lv).getD i 0 ∈ dropsP M lv := Air.getD_mem (by rw [dropsP_len]; exact hi)
  have hd := c3 _ hmem
  rw [dropsP_at hi] at hd ⊢
  have hcb : (dropsP M lv).foldl lcmStep 1 ≤ 10 ^ 48 := by
    refine Int.le_trans c4 ?_
    rw [Int.one_mul, dropsP_len]
    have : (10000 : Int) ^ M.ways.length ≤ 10000 ^ 12 := by exact_mod_cast Nat.pow_le_pow_right (n := 10000) (by decide) few
    exact Int.le_trans this (by decide)
  show _ ∧ _ ∧ _
  change 0 < commonP (dropsP M lv) at c1
  change commonP (dropsP M lv) ≤ 10 ^ 48 at hcb
  change 0 < absI (lvl lv (way M i).1 - lvl lv (way M i).2) → absI (lvl lv (way M i).1 - lvl lv (way M i).2) ∣ commonP (dropsP M lv) at hd
  generalize commonP (dropsP M lv) = c at *
  generalize (airP M lv).getD i 0 = a at *
  split
  · rename_i h0
    obtain ⟨q, hq⟩ := hd h0
    have a1' := a3 (s2.mp h0)
    generalize absI (lvl lv (way M i).1 - lvl lv (way M i).2) = dd at *
    subst hq
    have e : a * (dd * q) / dd = a * q := by
      rw [show a * (dd * q) = dd * (a * q) by grind]
      exact Int.mul_ediv_cancel_left _ (by omega)
    have hq0 : 1 ≤ q := by
      have := Det.pos_of_mul h0 (by rw [Int.mul_comm]; exact c1)
      omega
    have hqc : q ≤ dd * q := by
      have := Int.mul_le_mul_of_nonneg_right (show 1 ≤ dd by omega) (show 0 ≤ q by omega)
      omega
    rw [e]
    refine ⟨?_, ?_, ?_⟩
    · have := Int.mul_le_mul_of_nonneg_right a1' (show 0 ≤ q by omega)
      omega
    · have h1 : a * q ≤ 204 * q := Int.mul_le_mul_of_nonneg_right (by omega) (by omega)
      have h2 : 204 * q ≤ 204 * (10 ^ 48) := Int.mul_le_mul_of_nonneg_left (by omega) (by decide)
      have h3 : (204 : Int) * (10 ^ 48) ≤ 10 ^ 60 := by decide
      omega
    · rw [s1]; grind
  · rename_i h0
    refine ⟨by decide, by decide, ?_⟩
    have hs0 : sgn (lvl lv (way M i).1) (lvl lv (way M i).2) = 0 := by
      by_cases h : sgn (lvl lv (way M i).1) (lvl lv (way M i).2) = 0
      · exact h
      · exact absurd (s2.mpr h) h0
    rw [s1, hs0]
    simp
theorem widths_state (ok : MineOk M) (b : balancedB M lv = true) (few : M.ways.length ≤ 12) (small : ∀ d ∈ dropsP M lv, d ≤ 10000) {z : Int} (hz : z ∈ inner M) : leaving M (widthsP M lv) lv z = 0 := by
  rw [leaving_out ok]
  have e : outN M (airs M (widthsP M lv) lv) z = commonP (dropsP M lv) * Det.sumN M.ways.length fun i => (airP M lv).getD i 0 * uo M lv z (i : Int) := by
    unfold outN
    rw [← Det.sum_mul]
    refine Det.sum_congr fun i hi => ?_
    (try dsimp only)
    rw [airs_at hi]
    have h := (widths_bd ok few small hi).2.2
    unfold lvl at h
    rw [h]
    unfold uo lvl
    rw [Int.toNat_natCast]
    grind
  have h2 := bumps_sum (n := M.ways.length) (g := fun i => uo M lv z (i : Int)) (P := allP M lv M.ways.length) (a := List.replicate M.ways.length 0) List.length_replicate (fun u hu => allP_mem ok (Nat.le_refl _) u hu)
  have h3 : ((allP M lv M.ways.length).map fun u => uo M lv z ((u.toNat : Nat) : Int)) = (allP M lv M.ways.length).map (uo M lv z) := List.map_congr_left fun u hu => by
    have := allP_mem ok (Nat.le_refl _) u hu
    rw [show ((u.toNat : Nat) : Int) = u by omega]
  have h4 : Det.sumN M.ways.length (fun i => (List.replicate M.ways.length (0 : Int)).getD i 0 * uo M lv z (i : Int)) = 0 := Det.sum_zero' fun i hi => by
    have : (List.replicate M.ways.length (0 : Int)).getD i 0 = 0 := by rw [List.getD_eq_getElem?_getD, List.getElem?_replicate]; split <;> rfl
    rw [this, Int.zero_mul]
  rw [h3, h4, allP_sum ok b hz _ (Nat.le_refl _)] at h2
  rw [e]
  unfold airP
  rw [h2]
  simp
end
end Air

set_option Elab.async false
set_option linter.all false
set_option maxRecDepth 100000
set_option maxHeartbeats 4000000
namespace K05
open PySem PySem.Spec PyProof.Rows L2 MS Law Air
abbrev N_way_toward : List Str := ["mine", "levels", "x", "side", "w"]
def M_way_toward : MStm :=
  (mSeq (mFor (mItems (mCall F_ways_at (mCons (mVar 0) (mCons (mVar 2) mNil)))) (mName 4) (mIfS (mB (mBin fEq (mCall F_sign_between (mCons (mVar 1) (mCons (mCall F_far_end (mCons (mVar 0) (mCons (mVar 4) (mCons (mVar 2) mNil)))) (mCons (mVar 2) mNil)))) (mVar 3))) (mRet (mVar 4)) mNx))
    (mRet (mC .non)))
def F_way_toward : DCall := den 4 5 M_way_toward
-- level 2, params ['mine', 'levels', 'x', 'side'], calls ['far_end', 'sign_between', 'ways_at']

abbrev N_is_balanced : List Str := ["mine", "levels", "x", "_", "inlet", "outlet", "has_higher", "has_lower"]
def M_is_balanced : MStm :=
  (mSeq (mAsg (mVar 0) (mgTup (mgCons (mName 3) (mgCons (mName 3) (mgCons (mName 4) (mgCons (mName 5) mgNil)))) 4))
    (mSeq (mIfS (mB (mBin fLe (mBin fIx (mVar 1) (mVar 4)) (mBin fIx (mVar 1) (mVar 5)))) (mRet (mC (.bl false))) mNx)
    (mSeq (mFor (mItems (mCall F_inner_places (mCons (mVar 0) mNil))) (mName 2) (mSeq (mAsg (mBin fIsNot (mCall F_way_toward (mCons (mVar 0) (mCons (mVar 1) (mCons (mVar 2) (mCons (mC (.int 1)) mNil))))) (mC .non)) (mName 6))
    (mSeq (mAsg (mBin fIsNot (mCall F_way_toward (mCons (mVar 0) (mCons (mVar 1) (mCons (mVar 2) (mCons (mC (.int (-1))) mNil))))) (mC .non)) (mName 7))
    (mIfS (mB (mBin fNe (mVar 6) (mVar 7))) (mRet (mC (.bl false))) mNx))))
    (mRet (mC (.bl true))))))
def F_is_balanced : DCall := den 2 8 M_is_balanced
-- level 3, params ['mine', 'levels'], calls ['inner_places', 'way_toward']

abbrev N_slope_from : List Str := ["mine", "levels", "x", "side", "slope", "at", "w"]
def M_slope_from : MStm :=
  (mSeq (mAsg (mLst mNil) (mName 4))
    (mSeq (mAsg (mVar 2) (mName 5))
    (mSeq (mAsg (mCall F_way_toward (mCons (mVar 0) (mCons (mVar 1) (mCons (mVar 5) (mCons (mVar 3) mNil))))) (mName 6))
    (mSeq (whileN (mB (mBin fIsNot (mVar 6) (mC .non))) (mSeq (mDrop (mApp (mVar 4) (mCons (mVar 6) mNil)))
    (mSeq (mAsg (mCall F_far_end (mCons (mVar 0) (mCons (mVar 6) (mCons (mVar 5) mNil)))) (mName 5))
    (mAsg (mCall F_way_toward (mCons (mVar 0) (mCons (mVar 1) (mCons (mVar 5) (mCons (mVar 3) mNil))))) (mName 6)))) 100)
    (mRet (mVar 4))))))
def F_slope_from : DCall := den 4 7 M_slope_from
-- level 3, params ['mine', 'levels', 'x', 'side'], calls ['far_end', 'way_toward']

abbrev N_air_along_slopes : List Str := ["mine", "levels", "ways", "air", "w", "sign", "a", "b", "used", "high", "low"]
def M_air_along_slopes : MStm :=
  (mSeq (mAsg (mBin fIx (mVar 0) (mC (.int 1))) (mName 2))
    (mSeq (mAsg (mBin fMulW (mLst (mCons (mC (.int 0)) mNil)) (mCall cLen (mCons (mVar 2) mNil))) (mName 3))
    (mSeq (mFor (mEnum (mCons (mVar 2) mNil)) (mgTup (mgCons (mName 4) (mgCons (mgTup (mgCons (mName 6) (mgCons (mName 7) mgNil)) 2) mgNil)) 2) (mSeq (mAsg (mCall F_sign_between (mCons (mVar 1) (mCons (mVar 6) (mCons (mVar 7) mNil)))) (mName 5))
    (mIfS (mB (mBin fNe (mVar 5) (mC (.int 0)))) (mSeq (mAsg (mIf (mB (mBin fEq (mVar 5) (mC (.int 1)))) (mTup (mCons (mVar 6) (mCons (mVar 7) mNil))) (mTup (mCons (mVar 7) (mCons (mVar 6) mNil)))) (mgTup (mgCons (mName 9) (mgCons (mName 10) mgNil)) 2))
    (mFor (mItems (mBin fAdd (mBin fAdd (mCall F_slope_from (mCons (mVar 0) (mCons (mVar 1) (mCons (mVar 9) (mCons (mC (.int 1)) mNil))))) (mLst (mCons (mVar 4) mNil))) (mCall F_slope_from (mCons (mVar 0) (mCons (mVar 1) (mCons (mVar 10) (mCons (mC (.int (-1))) mNil))))))) (mName 8) (mAugS (fI fun i j => i + j) (mVar 3) (mVar 8) (mC (.int 1))))) mNx)))
    (mRet (mVar 3)))))
def F_air_along_slopes : DCall := den 2 11 M_air_along_slopes
-- level 4, params ['mine', 'levels'], calls ['sign_between', 'slope_from']

abbrev N_widths_for : List Str := ["mine", "levels", "ways", "air", "drops", "common", "drop", "a", "b", "w"]
def M_widths_for : MStm :=
  (mSeq (mAsg (mBin fIx (mVar 0) (mC (.int 1))) (mName 2))
    (mSeq (mAsg (mCall F_air_along_slopes (mCons (mVar 0) (mCons (mVar 1) mNil))) (mName 3))
    (mSeq (mAsg (mLc (mItems (mVar 2)) (mgTup (mgCons (mName 7) (mgCons (mName 8) mgNil)) 2) mYes (mCall cAbs (mCons (mBin fSub (mBin fIx (mVar 1) (mVar 7)) (mBin fIx (mVar 1) (mVar 8))) mNil)) [7, 8]) (mName 4))
    (mSeq (mAsg (mC (.int 1)) (mName 5))
    (mSeq (mFor (mItems (mVar 4)) (mName 6) (mIfS (mB (mBin fGt (mVar 6) (mC (.int 0)))) (mAsg (mCall cLcm (mCons (mVar 5) (mCons (mVar 6) mNil))) (mName 5)) mNx))
    (mRet (mCall cTuple (mCons (mLc (mEnum (mCons (mVar 4) mNil)) (mgTup (mgCons (mName 9) (mgCons (mName 6) mgNil)) 2) mYes (mIf (mB (mBin fGt (mVar 6) (mC (.int 0)))) (mBin fDivW (mBin fMulW (mBin fIx (mVar 3) (mVar 9)) (mVar 5)) (mVar 6)) (mC (.int 1))) [9, 6]) mNil))))))))
def F_widths_for : DCall := den 2 10 M_widths_for
-- level 5, params ['mine', 'levels'], calls ['air_along_slopes']

abbrev N_law_whole : List Str := ["value", "low", "high"]
def M_law_whole : MStm :=
  (mRet (mAndV (mIsi (mVar 0) "int") (mAndV (mNotV (mIsi (mVar 0) "bool")) (mChain fLe fLe (mVar 1) (mVar 0) (mVar 2)))))
def F_law_whole : DCall := den 3 3 M_law_whole
-- level 1, params ['value', 'low', 'high'], calls []

abbrev N_law_at : List Str := ["rows", "place", "thing"]
def M_law_at : MStm :=
  (mRet (mBin fAdd (mBin fAdd (mSl (mVar 0) mNoPart (mPart (mVar 1))) (mTup (mCons (mVar 2) mNil))) (mSl (mVar 0) (mPart (mBin fAdd (mVar 1) (mC (.int 1)))) mNoPart)))
def F_law_at : DCall := den 3 3 M_law_at
-- level 1, params ['rows', 'place', 'thing'], calls []

abbrev N_law_inner : List Str := ["mine", "x"]
def M_law_inner : MStm :=
  (mRet (mLc (mRange1 (mCons (mBin fIx (mVar 0) (mC (.int 0))) mNil)) (mName 1) (mB (mBin (fIn true) (mVar 1) (mSl (mVar 0) (mPart (mC (.int 2))) mNoPart))) (mVar 1) [1]))
def F_law_inner : DCall := den 1 2 M_law_inner
-- level 1, params ['mine'], calls []

abbrev N_law_sign : List Str := ["number"]
def M_law_sign : MStm :=
  (mRet (mBin fSub (mCall cInt (mCons (mBin fGt (mVar 0) (mC (.int 0))) mNil)) (mCall cInt (mCons (mBin fLt (mVar 0) (mC (.int 0))) mNil))))
def F_law_sign : DCall := den 1 1 M_law_sign
-- level 1, params ['number'], calls []

abbrev N_law_widths : List Str := ["pen", "mine", "top", "way"]
def M_law_widths : MStm :=
  (mSeq (mAsg (mCall F_law_one_of (mCons (mVar 0) (mCons (mLst (mCons (mC (.int 1)) (mCons (mC (.int 2)) (mCons (mC (.int 3)) (mCons (mC (.int 9)) (mCons (mBin fPow (mC (.int 10)) (mC (.int 6))) mNil)))))) mNil))) (mName 2))
    (mRet (mCall cTuple (mCons (mLc (mItems (mBin fIx (mVar 1) (mC (.int 1)))) (mName 3) mYes (mBin fAdd (mC (.int 1)) (mCall F_law_draw (mCons (mVar 0) (mCons (mVar 2) mNil)))) [3]) mNil))))
def F_law_widths : DCall := den 2 4 M_law_widths
-- level 4, params ['pen', 'mine'], calls ['_law_draw', '_law_one_of']

abbrev N_law_is_balanced : List Str := ["mine", "levels", "x", "sides", "one", "other", "far"]
def M_law_is_balanced : MStm :=
  (mSeq (mIfS (mB (mBin fLe (mBin fIx (mVar 1) (mBin fIx (mVar 0) (mC (.int 2)))) (mBin fIx (mVar 1) (mBin fIx (mVar 0) (mC (.int 3)))))) (mRet (mC (.bl false))) mNx)
    (mSeq (mFor (mItems (mCall F_law_inner (mCons (mVar 0) mNil))) (mName 2) (mSeq (mAsg (mLst mNil) (mName 3))
    (mSeq (mFor (mItems (mBin fIx (mVar 0) (mC (.int 1)))) (mgTup (mgCons (mName 4) (mgCons (mName 5) mgNil)) 2) (mIfS (mB (mBin (fIn false) (mVar 2) (mTup (mCons (mVar 4) (mCons (mVar 5) mNil))))) (mSeq (mAsg (mIf (mB (mBin fEq (mVar 4) (mVar 2))) (mVar 5) (mVar 4)) (mName 6))
    (mDrop (mApp (mVar 3) (mCons (mCall F_law_sign (mCons (mBin fSub (mBin fIx (mVar 1) (mVar 6)) (mBin fIx (mVar 1) (mVar 2))) mNil)) mNil)))) mNx))
    (mIfS (mB (mBin fNe (mBin (fIn false) (mC (.int 1)) (mVar 3)) (mBin (fIn false) (mNeg (mC (.int 1))) (mVar 3)))) (mRet (mC (.bl false))) mNx))))
    (mRet (mC (.bl true)))))
def F_law_is_balanced : DCall := den 2 7 M_law_is_balanced
-- level 2, params ['mine', 'levels'], calls ['_law_inner', '_law_sign']

abbrev N_law_is_state : List Str := ["mine", "widths", "levels", "come", "at", "way", "air", "x"]
def M_law_is_state : MStm :=
  (mSeq (mIfS (mB (mBin fLe (mBin fIx (mVar 2) (mBin fIx (mVar 0) (mC (.int 2)))) (mBin fIx (mVar 2) (mBin fIx (mVar 0) (mC (.int 3)))))) (mRet (mC (.bl false))) mNx)
    (mSeq (mAsg (mBin fMulW (mLst (mCons (mC (.int 0)) mNil)) (mBin fIx (mVar 0) (mC (.int 0)))) (mName 3))
    (mSeq (mFor (mEnum (mCons (mBin fIx (mVar 0) (mC (.int 1))) mNil)) (mgTup (mgCons (mName 4) (mgCons (mName 5) mgNil)) 2) (mSeq (mAsg (mBin fMulW (mBin fIx (mVar 1) (mVar 4)) (mBin fSub (mBin fIx (mVar 2) (mBin fIx (mVar 5) (mC (.int 0)))) (mBin fIx (mVar 2) (mBin fIx (mVar 5) (mC (.int 1)))))) (mName 6))
    (mSeq (mAsg (mBin fSub (mBin fIx (mVar 3) (mBin fIx (mVar 5) (mC (.int 0)))) (mVar 6)) (mgSub (mVar 3) (mBin fIx (mVar 5) (mC (.int 0)))))
    (mAsg (mBin fAdd (mBin fIx (mVar 3) (mBin fIx (mVar 5) (mC (.int 1)))) (mVar 6)) (mgSub (mVar 3) (mBin fIx (mVar 5) (mC (.int 1))))))))
    (mRet (mBin fEq (mLc (mItems (mCall F_law_inner (mCons (mVar 0) mNil))) (mName 7) (mB (mBin fNe (mBin fIx (mVar 3) (mVar 7)) (mC (.int 0)))) (mVar 7) [7]) (mLst mNil))))))
def F_law_is_state : DCall := den 3 8 M_law_is_state
-- level 2, params ['mine', 'widths', 'levels'], calls ['_law_inner']

abbrev N_law_is_tuple : List Str := ["value", "many"]
def M_law_is_tuple : MStm :=
  (mRet (mAndV (mIsi (mVar 0) "tuple") (mBin fEq (mCall cLen (mCons (mVar 0) mNil)) (mVar 1))))
def F_law_is_tuple : DCall := den 2 2 M_law_is_tuple
-- level 1, params ['value', 'many'], calls []

abbrev N_law_stretched : List Str := ["pen", "levels", "level", "steps", "here"]
def M_law_stretched : MStm :=
  (mSeq (mAsg (mTup (mCons mDNewK (mCons (mCall F_law_one_of (mCons (mVar 0) (mCons (mLst (mCons (mC (.int 0)) (mCons (mNeg (mC (.int 5))) (mCons (mNeg (mC (.int 800))) (mCons (mC (.int 2500)) mNil))))) mNil))) mNil))) (mgTup (mgCons (mName 3) (mgCons (mName 4) mgNil)) 2))
    (mSeq (mFor (mItems (mSortSet (mCons (mVar 1) mNil))) (mName 2) (mSeq (mAsg (mVar 4) (mgDict (mVar 3) (mVar 2)))
    (mAsg (mBin fAdd (mBin fAdd (mVar 4) (mC (.int 1))) (mCall F_law_draw (mCons (mVar 0) (mCons (mCall F_law_one_of (mCons (mVar 0) (mCons (mLst (mCons (mC (.int 1)) (mCons (mC (.int 2)) (mCons (mC (.int 7)) (mCons (mC (.int 100)) (mCons (mC (.int 1000)) mNil)))))) mNil))) mNil)))) (mName 4))))
    (mRet (mCall cTuple (mCons (mLc (mItems (mVar 1)) (mName 2) mYes (mBin fIxD (mVar 3) (mVar 2)) [2]) mNil)))))
def F_law_stretched : DCall := den 2 5 M_law_stretched
-- level 4, params ['pen', 'levels'], calls ['_law_draw', '_law_one_of']

abbrev N_law_right : List Str := ["mine", "levels", "is_due", "before", "widths", "width"]
def M_law_right : MStm :=
  (mSeq (mPar 2 3 (mCons (mCall F_law_is_balanced (mCons (mVar 0) (mCons (mVar 1) mNil))) (mCons (mCall cRepr (mCons (mTup (mCons (mVar 0) (mCons (mVar 1) mNil))) mNil)) mNil)))
    (mSeq (mIfS (mB (mBin fNe (mCall cRepr (mCons (mCall F_is_balanced (mCons (mVar 0) (mCons (mVar 1) mNil))) mNil)) (mCall cRepr (mCons (mVar 2) mNil)))) (mRet (mC (.bl false))) mNx)
    (mSeq (mIfS (mAnd (mB (mVar 2)) (mAnd (mB (mBin fLt (mBin fSub (mCall cMaxA (mCons (mVar 1) mNil)) (mCall cMinA (mCons (mVar 1) mNil))) (mBin fPow (mC (.int 10)) (mC (.int 4))))) (mB (mBin fLt (mCall cMaxA (mCons (mVar 1) mNil)) (mBin fPow (mC (.int 10)) (mC (.int 4))))))) (mSeq (mAsg (mCall F_widths_for (mCons (mVar 0) (mCons (mVar 1) mNil))) (mName 4))
    (mSeq (mIfS (mNot (mB (mCall F_law_is_tuple (mCons (mVar 4) (mCons (mCall cLen (mCons (mBin fIx (mVar 0) (mC (.int 1))) mNil)) mNil))))) (mRet (mC (.bl false))) mNx)
    (mSeq (mIfS (mB (mBin fNe (mLc (mItems (mVar 4)) (mName 5) (mNot (mB (mCall F_law_whole (mCons (mVar 5) (mCons (mC (.int 1)) (mCons (mBin fPow (mC (.int 10)) (mC (.int 60))) mNil)))))) (mC (.int 1)) [5]) (mLst mNil))) (mRet (mC (.bl false))) mNx)
    (mIfS (mNot (mB (mCall F_law_is_state (mCons (mVar 0) (mCons (mVar 4) (mCons (mVar 1) mNil)))))) (mRet (mC (.bl false))) mNx)))) mNx)
    (mRet (mBin fEq (mCall cRepr (mCons (mTup (mCons (mVar 0) (mCons (mVar 1) mNil))) mNil)) (mVar 3))))))
def F_law_right : DCall := den 2 6 M_law_right
-- level 6, params ['mine', 'levels'], calls ['_law_is_balanced', '_law_is_state', '_law_is_tuple', '_law_whole', 'is_balanced', 'widths_for']

abbrev N_law : List Str := ["script", "pen", "turn", "mine", "lap", "levels", "x"]
def M_law : MStm :=
  (mSeq (mAsg (mCall F_law_pen (mCons (mVar 0) mNil)) (mName 1))
    (mSeq (mFor (mRange1 (mCons (mCall cMax (mCons (mC (.int 2)) (mCons (mCall cMin (mCons (mC (.int 5)) (mCons (mCall cLen (mCons (mVar 0) mNil)) mNil))) mNil))) mNil)) (mName 2) (mSeq (mAsg (mCall F_law_mine (mCons (mVar 1) (mCons (mBin fAdd (mC (.int 2)) (mCall F_law_draw (mCons (mVar 1) (mCons (mC (.int 7)) mNil)))) (mCons (mC (.int 12)) mNil)))) (mName 3))
    (mSeq (mFor (mRange1 (mCons (mC (.int 4)) mNil)) (mName 4) (mSeq (mAsg (mCall cTuple (mCons (mLc (mRange1 (mCons (mBin fIx (mVar 3) (mC (.int 0))) mNil)) (mName 6) mYes (mCall F_law_draw (mCons (mVar 1) (mCons (mCall F_law_one_of (mCons (mVar 1) (mCons (mLst (mCons (mC (.int 2)) (mCons (mC (.int 3)) (mCons (mC (.int 4)) mNil)))) mNil))) mNil))) [6]) mNil)) (mName 5))
    (mIfS (mNot (mB (mCall F_law_right (mCons (mVar 3) (mCons (mVar 5) mNil))))) (mRet (mC (.bl false))) mNx)))
    (mSeq (mAsg (mCall F_levels_for (mCons (mVar 3) (mCons (mCall F_law_widths (mCons (mVar 1) (mCons (mVar 3) mNil))) mNil))) (mName 5))
    (mSeq (mIfS (mOr (mNot (mB (mCall F_law_right (mCons (mVar 3) (mCons (mVar 5) mNil))))) (mNot (mB (mCall F_law_right (mCons (mVar 3) (mCons (mCall F_law_stretched (mCons (mVar 1) (mCons (mVar 5) mNil))) mNil)))))) (mRet (mC (.bl false))) mNx)
    (mIfS (mNot (mB (mCall F_law_right (mCons (mVar 3) (mCons (mCall F_law_at (mCons (mVar 5) (mCons (mCall F_law_draw (mCons (mVar 1) (mCons (mBin fIx (mVar 3) (mC (.int 0))) mNil))) (mCons (mCall F_law_one_of (mCons (mVar 1) (mCons (mVar 5) mNil))) mNil)))) mNil))))) (mRet (mC (.bl false))) mNx))))))
    (mRet (mC (.bl true)))))
def F_law : DCall := den 1 7 M_law
-- level 7, params ['script'], calls ['_law_at', '_law_draw', '_law_mine', '_law_one_of', '_law_pen', '_law_right', '_law_stretched', '_law_widths', 'levels_for']


end K05

set_option Elab.async false
set_option linter.all false
set_option maxRecDepth 100000
set_option maxHeartbeats 4000000
set_option exponentiation.threshold 3000
namespace K05
open PySem PySem.Spec PyProof.Rows L2 MS Law Air
local macro_rules | `(tactic| walk_at "st") => `(tactic| first
  | with_reducible refine gs_seq ?_ | with_reducible refine gs_asg ?_ | with_reducible refine gs_ret ?_ | with_reducible refine gs_retN ?_ | with_reducible refine gs_drop ?_ | with_reducible refine gs_if ?_ | with_reducible refine gs_par ?_ | with_reducible refine gs_for ?_ | with_reducible refine gs_nx ?_
  | with_reducible refine ge_cons ?_ | with_reducible refine ge_nil ?_ | with_reducible refine ge_c ?_ | with_reducible refine ge_bin ?_ | with_reducible refine ge_call ?_
  | ((with_reducible refine ge_var (d := ?d) ?h ?_); case h => exact rfl)
  | ((with_reducible refine gs_aug (d := ?d) ?h ?_); case h => exact rfl)
  | (with_reducible refine ge_tup ?_) | (with_reducible refine ge_lst ?_) | with_reducible refine ge_B ?_ | with_reducible refine ge_and ?_ | with_reducible refine ge_or ?_ | with_reducible refine ge_not ?_ | with_reducible refine ge_if ?_ | with_reducible refine ge_andV ?_ | with_reducible refine ge_orV ?_ | with_reducible refine ge_notV ?_ | with_reducible refine ge_neg ?_
  | with_reducible refine ge_sl ?_ | with_reducible refine ge_noPart ?_ | with_reducible refine ge_part ?_ | with_reducible refine ge_revT ?_ | with_reducible refine ge_app ?_ | with_reducible refine ge_lc ?_ | with_reducible refine ge_chain ?_
  | with_reducible refine gi_items ?_ | with_reducible refine gi_range1 ?_ | with_reducible refine gi_range2 ?_ | with_reducible refine gi_enum ?_
  | with_reducible refine gt_name ?_ | with_reducible refine gt_nil ?_ | with_reducible refine gt_cons ?_ | with_reducible refine gt_tup rfl ?_ | with_reducible refine gt_sub ?_
  | with_reducible refine ge_fI ?_ | with_reducible refine ge_sub ?_ | with_reducible refine ge_add ?_ | with_reducible refine ge_lt ?_ | with_reducible refine ge_le ?_ | with_reducible refine ge_gt ?_ | with_reducible refine ge_ge ?_ | with_reducible refine ge_eqI ?_ | with_reducible refine ge_neI ?_ | with_reducible refine ge_eqS ?_ | with_reducible refine ge_neS ?_
  | with_reducible refine ge_int ?_ | with_reducible refine ge_min ?_ | with_reducible refine ge_max ?_ | with_reducible refine ge_abs ?_ | with_reducible refine ge_slT ?_
  | with_reducible refine then_nx ?_ | with_reducible refine then_rt ?_
  | ((with_reducible refine ge_ixL (ds := ?ds) (d := ?dd) ?hl ?he ?_); (case hl => first | exact lat_lst (by assumption) | exact lat_fz (by assumption)); (case he => first | exact at0 | exact at1 | exact at2 | exact at3))
  | ((with_reducible refine ge_ixT (d := ?dd) ?he ?_); (case he => first | exact at0 | exact at1 | exact at2 | exact at3))
  | ((with_reducible refine ge_len (ds := ?ds) ?hl ?_); (case hl => first | exact lat_lst (by assumption) | exact lat_fz (by assumption) | exact rfl))
  | ((with_reducible refine ge_mod ?hc ?_); (case hc => first | assumption | decide | omega))
  | ((with_reducible refine ge_div ?hc ?hd ?_); (case hc => first | assumption | decide | omega); (case hd => first | assumption | decide | omega))
  | ((with_reducible refine ge_mul ?hc ?_); (case hc => first | assumption | exact i64_left rfl | exact i64_right rfl))
  | ((with_reducible refine ge_pow ?hc ?_); (case hc => decide))
  | with_reducible refine ge_isN ?_ | with_reducible refine ge_isNotN ?_ | with_reducible refine ge_dnewK ?_ | with_reducible refine ge_dnewT ?_ | with_reducible refine ge_sortSet ?_ | with_reducible refine gt_dictk ?_ | with_reducible refine gs_augS ?_ | with_reducible refine then_ct ?_ | with_reducible refine gs_ct ?_ | with_reducible refine then_bk ?_ | with_reducible refine gs_bk ?_
  | (with_reducible refine ⟨_, rfl, ?_⟩) | (with_reducible refine ⟨_, _, rfl, ?_⟩))
local macro_rules | `(tactic| walk_at "stp") => `(tactic| repeat (first | walk_at "st" | refine ⟨Nat.le_of_ble_eq_true rfl, ?_⟩))

/-- a place, or none -/
def optD : Option Int → D
  | some w => .int w
  | none => .non
theorem toward_gives {S : Store} {M : Mine} {lv : List Int} {x s : Int} (ok : MineOk M) (hz : M.ways.length ≤ 1000) (hl : lv.length = M.places.toNat) (hx : 0 ≤ x ∧ x < M.places) :
    GE (F_way_toward [mineD M, .tup (lv.map D.int), .int x, .int s] S) fun d S' => d = optD (toward M lv x s) ∧ All S S' := by
  refine ge_den rfl ?_
  unfold M_way_toward
  refine gs_seq (gs_for (gi_items (ge_call (ge_cons (ge_var rfl (ge_cons (ge_var rfl (ge_nil ?_))))))))
  refine (ways_at_gives hz).mono ?_
  rintro _ S1 ⟨rfl, a1⟩
  refine .inl ⟨_, rfl, ?_⟩
  have hlo := ok.lo
  have hh := fun w (h : w ∈ hits M.ways x M.ways.length) => mem_hits h
  have ht : toward M lv x s = (hits M.ways x M.ways.length).find? (fun w => decide (sgn (lvl lv (far M x w)) (lvl lv x) = s)) := rfl
  generalize hits M.ways x M.ways.length = l at hh ht
  refine gs_forR _ (fun i ρ S' => ∃ x4 : Option D, ρ = [some (mineD M), some (.tup (lv.map D.int)), some (.int x), some (.int s), x4] ∧ All S S' ∧ (l.take i).find? (fun w => decide (sgn (lvl lv (far M x w)) (lvl lv x) = s)) = none) ⟨none, rfl, a1, rfl⟩ ?_ ?_
  · rintro k d ρ S2 hd ⟨x4, rfl, a2, hno⟩
    rw [List.getElem?_map] at hd
    obtain ⟨w, hw, rfl⟩ := Option.map_eq_some_iff.mp hd
    obtain ⟨i, p, rfl, hi, hp, ho⟩ := hh w (List.mem_of_getElem? hw)
    have hf : far M x (i : Int) = if x = p.1 then p.2 else p.1 := by unfold far; rw [Int.toNat_natCast, hp]
    have hr := end_ok ok hp x
    refine ⟨rfl, ?_⟩
    walk_at "stp"
    refine (far_end_gives hp).mono ?_
    rintro _ S3 ⟨rfl, rfl⟩
    rw [← hf] at hr ⊢
    walk_at "stp"
    refine (sign_gives (lv := lv) (by omega) (by omega)).mono ?_
    rintro _ S3 ⟨rfl, rfl⟩
    walk_at "stp"
    have hsp : l = l.take k ++ (i : Int) :: l.drop (k + 1) := by
      have hk := (List.getElem?_eq_some_iff.mp hw).1
      have e : l[k] = (i : Int) := by rw [List.getElem?_eq_getElem hk] at hw; exact Option.some.inj hw
      rw [← e, List.getElem_cons_drop]
      exact (List.take_append_drop k l).symm
    refine ⟨fun c => ?_, fun c => ?_⟩
    · have c : sgn (lvl lv (far M x (i : Int))) (lvl lv x) = s := of_decide_eq_true c
      walk_at "stp"
      refine ⟨?_, a2⟩
      rw [ht, hsp, List.find?_append, hno, Option.none_or, List.find?_cons]
      simp only [c, decide_true]
      rfl
    · have c : ¬ sgn (lvl lv (far M x (i : Int))) (lvl lv x) = s := of_decide_eq_false c
      refine gs_nx ⟨_, rfl, a2, ?_⟩
      rw [List.take_add_one, hw, List.find?_append, hno, Option.none_or]
      show ([(i : Int)] : List Int).find? _ = none
      rw [List.find?_cons]
      simp only [c, decide_false]
      rfl
  · rintro ρ S2 ⟨x4, rfl, a2, hno⟩
    refine ⟨rfl, then_nx (gs_ret (ge_c ⟨?_, a2⟩))⟩
    rw [List.length_map, List.take_length] at hno
    rw [ht, hno]
    rfl
theorem bal_gives {S : Store} {M : Mine} {lv : List Int} (ok : MineOk M) (hz : M.ways.length ≤ 1000) (hl : lv.length = M.places.toNat) :
    GE (F_is_balanced [mineD M, .tup (lv.map D.int)] S) fun d S' => d = .bl (balancedB M lv) ∧ All S S' := by
  refine ge_den rfl ?_
  unfold M_is_balanced
  have hi := ok.ends.1
  have ho := ok.ends.2.1
  have hlo := ok.lo
  refine gs_seq (gs_asg (ge_var (d := mineD M) rfl (gt_tup (ds := [.int M.places, .tup (M.ways.map Law.pairD), .int M.inlet, .int M.outlet]) rfl ?_)))
  walk_at "stp"
  refine ge_ixT (at_ints hi.1 (by omega)) ?_
  walk_at "stp"
  refine ge_ixT (at_ints ho.1 (by omega)) ?_
  walk_at "stp"
  refine ⟨fun c => ?_, fun c => ?_⟩
  · have c := of_decide_eq_true c
    walk_at "stp"
    refine ⟨?_, .refl⟩
    unfold balancedB lvl
    rw [decide_eq_false (by omega)]
    rfl
  · have c := of_decide_eq_false c
    have c' : lvl lv M.outlet < lvl lv M.inlet := by unfold lvl; omega
    walk_at "stp"
    refine (inner_gives ok).mono ?_
    rintro _ S1 ⟨rfl, a1⟩
    refine .inl ⟨_, rfl, ?_⟩
    have hm := fun x (h : x ∈ inner M) => inner_mem h
    have hb : balancedB M lv = (inner M).all fun x => (toward M lv x 1).isSome == (toward M lv x (-1)).isSome := by
      unfold balancedB
      rw [decide_eq_true c', Bool.true_and]
    rw [hb]
    generalize inner M = l at hm
    refine gs_forR _ (fun i ρ S' => ∃ x2 x6 x7 : Option D, ρ = [some (mineD M), some (.tup (lv.map D.int)), x2, some (.tup (M.ways.map Law.pairD)), some (.int M.inlet), some (.int M.outlet), x6, x7] ∧ All S S' ∧ ((l.take i).all fun x => (toward M lv x 1).isSome == (toward M lv x (-1)).isSome) = true) ⟨none, none, none, rfl, a1, rfl⟩ ?_ ?_
    · rintro k d ρ S2 hd ⟨x2, x6, x7, rfl, a2, hall⟩
      rw [List.getElem?_map] at hd
      obtain ⟨x, hx, rfl⟩ := Option.map_eq_some_iff.mp hd
      have hxr := hm x (List.mem_of_getElem? hx)
      refine ⟨rfl, ?_⟩
      walk_at "stp"
      refine (toward_gives ok hz hl hxr).mono ?_
      rintro _ S3 ⟨rfl, a3⟩
      walk_at "stp"
      refine (toward_gives ok hz hl hxr).mono ?_
      rintro _ S4 ⟨rfl, a4⟩
      walk_at "stp"
      have en : ∀ o, (!(optD o).isNon) = o.isSome := fun o => by cases o <;> rfl
      rw [en, en]
      refine ge_neB ?_
      walk_at "stp"
      have a5 := (a2.trans a3).trans a4
      refine ⟨fun c => ?_, fun c => ?_⟩
      · walk_at "stp"
        refine ⟨?_, a5⟩
        congr 1
        refine (Bool.eq_false_iff.mpr fun z => ?_).symm
        have := List.all_eq_true.mp z x (List.mem_of_getElem? hx)
        rw [eq_of_beq this] at c
        simp at c
      · refine gs_nx ⟨_, _, _, rfl, a5, ?_⟩
        rw [List.take_add_one, hx, List.all_append, hall]
        have : ((toward M lv x 1).isSome == (toward M lv x (-1)).isSome) = true := by
          revert c
          cases (toward M lv x 1).isSome <;> cases (toward M lv x (-1)).isSome <;> simp
        simp [this]
    · rintro ρ S2 ⟨x2, x6, x7, rfl, a2, hall⟩
      refine ⟨rfl, then_nx (gs_ret (ge_c ⟨?_, a2⟩))⟩
      rw [List.length_map, List.take_length] at hall
      rw [hall]
end K05

set_option Elab.async false
set_option linter.all false
set_option maxRecDepth 100000
set_option maxHeartbeats 4000000
set_option exponentiation.threshold 3000
namespace K05
open PySem PySem.Spec PyProof.Rows L2 MS Law Air
local macro_rules | `(tactic| walk_at "st") => `(tactic| first
  | with_reducible refine gs_seq ?_ | with_reducible refine gs_asg ?_ | with_reducible refine gs_ret ?_ | with_reducible refine gs_retN ?_ | with_reducible refine gs_drop ?_ | with_reducible refine gs_if ?_ | with_reducible refine gs_par ?_ | with_reducible refine gs_for ?_ | with_reducible refine gs_nx ?_
  | with_reducible refine ge_cons ?_ | with_reducible refine ge_nil ?_ | with_reducible refine ge_c ?_ | with_reducible refine ge_bin ?_ | with_reducible refine ge_call ?_
  | ((with_reducible refine ge_var (d := ?d) ?h ?_); case h => exact rfl)
  | ((with_reducible refine gs_aug (d := ?d) ?h ?_); case h => exact rfl)
  | (with_reducible refine ge_tup ?_) | (with_reducible refine ge_lst ?_) | with_reducible refine ge_B ?_ | with_reducible refine ge_and ?_ | with_reducible refine ge_or ?_ | with_reducible refine ge_not ?_ | with_reducible refine ge_if ?_ | with_reducible refine ge_andV ?_ | with_reducible refine ge_orV ?_ | with_reducible refine ge_notV ?_ | with_reducible refine ge_neg ?_
  | with_reducible refine ge_sl ?_ | with_reducible refine ge_noPart ?_ | with_reducible refine ge_part ?_ | with_reducible refine ge_revT ?_ | with_reducible refine ge_app ?_ | with_reducible refine ge_lc ?_ | with_reducible refine ge_chain ?_
  | with_reducible refine gi_items ?_ | with_reducible refine gi_range1 ?_ | with_reducible refine gi_range2 ?_ | with_reducible refine gi_enum ?_
  | with_reducible refine gt_name ?_ | with_reducible refine gt_nil ?_ | with_reducible refine gt_cons ?_ | with_reducible refine gt_tup rfl ?_ | with_reducible refine gt_sub ?_
  | with_reducible refine ge_fI ?_ | with_reducible refine ge_sub ?_ | with_reducible refine ge_add ?_ | with_reducible refine ge_lt ?_ | with_reducible refine ge_le ?_ | with_reducible refine ge_gt ?_ | with_reducible refine ge_ge ?_ | with_reducible refine ge_eqI ?_ | with_reducible refine ge_neI ?_ | with_reducible refine ge_eqS ?_ | with_reducible refine ge_neS ?_
  | with_reducible refine ge_int ?_ | with_reducible refine ge_min ?_ | with_reducible refine ge_max ?_ | with_reducible refine ge_abs ?_ | with_reducible refine ge_slT ?_
  | with_reducible refine then_nx ?_ | with_reducible refine then_rt ?_
  | ((with_reducible refine ge_ixL (ds := ?ds) (d := ?dd) ?hl ?he ?_); (case hl => first | exact lat_lst (by assumption) | exact lat_fz (by assumption)); (case he => first | exact at0 | exact at1 | exact at2 | exact at3))
  | ((with_reducible refine ge_ixT (d := ?dd) ?he ?_); (case he => first | exact at0 | exact at1 | exact at2 | exact at3))
  | ((with_reducible refine ge_len (ds := ?ds) ?hl ?_); (case hl => first | exact lat_lst (by assumption) | exact lat_fz (by assumption) | exact rfl))
  | ((with_reducible refine ge_mod ?hc ?_); (case hc => first | assumption | decide | omega))
  | ((with_reducible refine ge_div ?hc ?hd ?_); (case hc => first | assumption | decide | omega); (case hd => first | assumption | decide | omega))
  | ((with_reducible refine ge_mul ?hc ?_); (case hc => first | assumption | exact i64_left rfl | exact i64_right rfl))
  | ((with_reducible refine ge_pow ?hc ?_); (case hc => decide))
  | with_reducible refine ge_isN ?_ | with_reducible refine ge_isNotN ?_ | with_reducible refine ge_dnewK ?_ | with_reducible refine ge_dnewT ?_ | with_reducible refine ge_sortSet ?_ | with_reducible refine gt_dictk ?_ | with_reducible refine gs_augS ?_ | with_reducible refine then_ct ?_ | with_reducible refine gs_ct ?_ | with_reducible refine then_bk ?_ | with_reducible refine gs_bk ?_
  | (with_reducible refine ⟨_, rfl, ?_⟩) | (with_reducible refine ⟨_, _, rfl, ?_⟩))
local macro_rules | `(tactic| walk_at "stp") => `(tactic| repeat (first | walk_at "st" | refine ⟨Nat.le_of_ble_eq_true rfl, ?_⟩))

theorem slope_gives {S : Store} {M : Mine} {lv : List Int} {x s : Int} (ok : MineOk M) (hz : M.ways.length ≤ 1000) (hl : lv.length = M.places.toNat) (hx : 0 ≤ x ∧ x < M.places) (hs1 : s = 1 ∨ s = -1) :
    GE (F_slope_from [mineD M, .tup (lv.map D.int), .int x, .int s] S) fun d S' => ∃ q, d = .lr q ∧ S.length ≤ q ∧ S'[q]? = some (.lst ((slope M lv s x).map D.int)) ∧ All S S' := by
  refine ge_den rfl ?_
  unfold M_slope_from
  walk_at "stp"
  refine (toward_gives (S := S ++ [MO.lst []]) (x := x) (s := s) ok hz hl hx).mono ?_
  rintro _ S1 ⟨rfl, a1⟩
  have l1 : S1[S.length]? = some (.lst (([] : List Int).map D.int)) := a1 _ _ get_new
  have a1' : All S S1 := All.trans .app a1
  generalize hq : S.length = q at l1 ⊢
  walk_at "stp"
  refine gs_while (fun m ρ S' => ∃ (at_ : Int) (acc : List Int), ρ = [some (mineD M), some (.tup (lv.map D.int)), some (.int x), some (.int s), some (.lr q), some (.int at_), some (optD (toward M lv at_ s))] ∧
      S'[q]? = some (.lst (acc.map D.int)) ∧ All S S' ∧ (0 ≤ at_ ∧ at_ < M.places) ∧ acc ++ slope M lv s at_ = slope M lv s x ∧ m = cnt M lv at_ s) ?_ 100 (cnt M lv x s) _ _ (by have := cnt_le ok (lv := lv) x s; omega)
    ⟨x, [], rfl, l1, a1', hx, rfl, rfl⟩
  rintro m ρ S2 ⟨at_, acc, rfl, h2, a2, hat, hacc, rfl⟩
  refine ge_B (ge_bin (ge_var rfl (ge_c (ge_isNotN ⟨_, rfl, fun c => ?_, fun c => ?_⟩))))
  · cases ht : toward M lv at_ s with
    | none => rw [ht] at c; cases c
    | some w =>
      obtain ⟨i, p, rfl, hi, hp, hw, ho, hsg⟩ := toward_at ok ht
      have hc := cnt_lt ok hs1 ht
      have hsl := (slope_some ok hs1 ht).1
      have hfr := far_range ok ht
      have hf : far M at_ (i : Int) = if at_ = p.1 then p.2 else p.1 := by unfold far; rw [Int.toNat_natCast, hp]
      have hlen : acc.length ≤ 8 := by
        have h1 := congrArg List.length hacc
        rw [List.length_append] at h1
        have h2 := slope_len ok hs1 x (lv := lv)
        have h3 := cnt_le ok (lv := lv) x s
        omega
      refine gs_seq (gs_drop (ge_app (ge_var rfl ⟨q, rfl, ⟨_, mat_lst h2⟩, ge_cons (ge_var rfl (ge_nil ⟨_, _, rfl, mat_lst h2, by rw [List.length_map]; show _ < 16777216; omega, ?_⟩))⟩)))
      have h3 : (S2.set q (.lst (acc.map D.int ++ [optD (some (i : Int))])))[q]? = some (.lst ((acc ++ [(i : Int)]).map D.int)) := by rw [get_set h2, List.map_append]; rfl
      have a3 : All S (S2.set q (.lst (acc.map D.int ++ [optD (some (i : Int))]))) := a2.wr (Nat.le_of_eq hq)
      generalize (S2.set q (.lst (acc.map D.int ++ [optD (some (i : Int))]))) = S3 at h3 a3 ⊢
      refine then_nx (gs_seq (gs_asg (ge_call (ge_cons (ge_var rfl (ge_cons (ge_var (d := .int (i : Int)) rfl (ge_cons (ge_var rfl (ge_nil ?_))))))))))
      refine (far_end_gives hp).mono ?_
      rintro _ S4 ⟨rfl, rfl⟩
      rw [← hf]
      refine gt_name (then_nx (gs_asg (ge_call (ge_cons (ge_var rfl (ge_cons (ge_var rfl (ge_cons (ge_var rfl (ge_cons (ge_var rfl (ge_nil ?_))))))))))))
      refine (toward_gives (x := far M at_ (i : Int)) (s := s) ok hz hl hfr).mono ?_
      rintro _ S5 ⟨rfl, a5⟩
      refine gt_name ⟨.inl rfl, _, hc, far M at_ (i : Int), acc ++ [(i : Int)], rfl, a5 _ _ h3, a3.trans a5, hfr, ?_, rfl⟩
      rw [← hacc, hsl, List.append_assoc]
      rfl
  · refine then_nx (gs_ret (ge_var rfl ?_))
    cases ht : toward M lv at_ s with
    | some w => rw [ht] at c; cases c
    | none =>
      have hsl := (slope_none ht).1
      rw [hsl, List.append_nil] at hacc
      exact ⟨q, rfl, Nat.le_refl _, by rw [← hacc]; exact h2, a2⟩
theorem bumps_snoc {P a : List Int} {u : Int} : bumps (P ++ [u]) a = bump (bumps P a) u 1 := by
  unfold bumps
  rw [List.foldl_append]
  rfl
/-- the loop over one unit's way -/
theorem units_gives {S : Store} {M : Mine} {P a : List Int} {q n : Nat} {QS : Fl → Ev → Store → Prop} {y1 y2 y4 y5 y6 y7 y8 y9 y10 : Option D} {S0 : Store} (hP : ∀ u ∈ P, 0 ≤ u ∧ u < a.length)
    (hq : S[q]? = some (.lst (a.map D.int))) (hn : S[n]? = some (.lst (P.map D.int))) (hqn : q ≠ n) (h0 : S0.length ≤ q) (ha : All S0 S)
    (hQ : ∀ y8 S', S'[q]? = some (.lst ((bumps P a).map D.int)) → All S0 S' → QS .nx [some (mineD M), y1, y2, some (.lr q), y4, y5, y6, y7, y8, y9, y10] S') :
    GS (forL (still n (P.map D.int)) (mName 8) (mAugS (fI fun i j => i + j) (mVar 3) (mVar 8) (mC (.int 1))) (P.map D.int) [some (mineD M), y1, y2, some (.lr q), y4, y5, y6, y7, y8, y9, y10] S) QS := by
  refine gs_forL (fun j ρ S' => ∃ y8 : Option D, ρ = [some (mineD M), y1, y2, some (.lr q), y4, y5, y6, y7, y8, y9, y10] ∧ S'[q]? = some (.lst ((bumps (P.take j) a).map D.int)) ∧ S'[n]? = some (.lst (P.map D.int)) ∧ All S0 S')
    ⟨y8, rfl, hq, hn, ha⟩ ?_ ?_
  · rintro j d ρ S1 hd ⟨y8, rfl, hq1, hn1, ha1⟩
    rw [List.getElem?_map] at hd
    obtain ⟨u, hu, rfl⟩ := Option.map_eq_some_iff.mp hd
    obtain ⟨u0, u1⟩ := hP u (List.mem_of_getElem? hu)
    have hbl := bumps_len (P := P.take j) (a := a)
    refine ⟨still_lst hn1, gt_name (gs_augS (ge_var rfl (ge_var rfl ⟨q, u, _, u.toNat, .int ((bumps (P.take j) a).getD u.toNat 0), rfl, rfl, u0, mat_lst hq1, ?_, ?_, ?_⟩)))⟩
    · rw [List.length_map, hbl]; exact ixN_of u0 u1
    · rw [List.getElem?_map, List.getElem?_eq_getElem (by omega), List.getD_eq_getElem?_getD, List.getElem?_eq_getElem (by omega)]; rfl
    · refine ge_c (ge_fI ⟨_, mat_lst hq1, rfl, .inl rfl, _, rfl, ?_, ?_, ha1.wr h0⟩)
      · rw [get_set hq1, set_ints, List.take_add_one, hu]
        show _ = some (MO.lst ((bumps (P.take j ++ [u]) a).map D.int))
        rw [bumps_snoc]
        rfl
      · rw [get_ne hqn]; exact hn1
  · rintro ρ S1 ⟨y8, rfl, hq1, hn1, ha1⟩
    rw [List.length_map, List.take_length] at hq1
    exact ⟨still_lst hn1, hQ _ _ hq1 ha1⟩
theorem airs_gives {S : Store} {M : Mine} {lv : List Int} (ok : MineOk M) (hz : M.ways.length ≤ 1000) (hl : lv.length = M.places.toNat) :
    GE (F_air_along_slopes [mineD M, .tup (lv.map D.int)] S) fun d S' => ∃ q, d = .lr q ∧ S.length ≤ q ∧ S'[q]? = some (.lst ((airP M lv).map D.int)) ∧ All S S' := by
  refine ge_den rfl ?_
  unfold M_air_along_slopes
  have hlo := ok.lo
  refine gs_seq (gs_asg (ge_bin (ge_var (d := mineD M) rfl (ge_c (ge_ixT (d := .tup (M.ways.map Law.pairD)) at1 (gt_name (then_nx ?_)))))))
  walk_at "stp"
  rw [List.length_map]
  refine ge_mulL (mat_lst get_new) (by omega) (by omega) (by rw [Int.toNat_natCast]; show 1 * _ ≤ 16777216; omega) ?_
  have er : MS.repD [D.int 0] (M.ways.length : Int) = (List.replicate M.ways.length (0 : Int)).map D.int := by
    unfold MS.repD
    rw [Int.toNat_natCast, List.map_replicate]
    generalize M.ways.length = n
    induction n with
    | zero => rfl
    | succ n ih => rw [List.replicate_succ, List.flatten_cons, ih]; rfl
  rw [er]
  have l1 : (S ++ [.lst [D.int 0]] ++ [.lst ((List.replicate M.ways.length (0 : Int)).map D.int)])[(S ++ [MO.lst [D.int 0]]).length]? = some (.lst ((List.replicate M.ways.length (0 : Int)).map D.int)) := get_new
  have a1 : All S (S ++ [.lst [D.int 0]] ++ [.lst ((List.replicate M.ways.length (0 : Int)).map D.int)]) := All.trans .app .app
  have hq : S.length ≤ (S ++ [MO.lst [D.int 0]]).length := by simp
  generalize (S ++ [.lst [D.int 0]] ++ [.lst ((List.replicate M.ways.length (0 : Int)).map D.int)]) = S1 at l1 a1 ⊢
  generalize (S ++ [MO.lst [D.int 0]]).length = q at l1 hq ⊢
  walk_at "stp"
  refine .inl ⟨_, rfl, ?_⟩
  refine gs_forL (fun i ρ S' => ∃ x4 x5 x6 x7 x8 x9 x10 : Option D, ρ = [some (mineD M), some (.tup (lv.map D.int)), some (.tup (M.ways.map Law.pairD)), some (.lr q), x4, x5, x6, x7, x8, x9, x10] ∧
      S'[q]? = some (.lst ((bumps (allP M lv i) (List.replicate M.ways.length 0)).map D.int)) ∧ All S S') ⟨_, _, _, _, _, _, _, rfl, l1, a1⟩ ?_ ?_
  · rintro i d ρ S2 hd ⟨x4, x5, x6, x7, x8, x9, x10, rfl, h2, a2⟩
    obtain ⟨x, hx, rfl⟩ := enumD_get hd
    rw [List.getElem?_map] at hx
    obtain ⟨p, hp, rfl⟩ := Option.map_eq_some_iff.mp hx
    have hi := (List.getElem?_eq_some_iff.mp hp).1
    have hw : way M i = p := by have := way_of hi; rw [hp] at this; exact (Option.some.inj this).symm
    obtain ⟨p1, p2, p3⟩ := ok.ways p (List.mem_of_getElem? hp)
    refine ⟨rfl, gt_tup (ds := [.int (i : Int), Law.pairD p]) rfl (gt_cons (gt_name (gt_cons (gt_tup (ds := [.int p.1, .int p.2]) rfl ?_))))⟩
    walk_at "stp"
    refine (sign_gives (lv := lv) (a := p.1) (b := p.2) (by omega) (by omega)).mono ?_
    rintro _ S3 ⟨rfl, rfl⟩
    walk_at "stp"
    have hsn : allP M lv (i + 1) = allP M lv i ++ pathOf M lv i := by
      unfold allP
      rw [List.range_succ, List.flatMap_append, List.flatMap_cons, List.flatMap_nil, List.append_nil]
    have hbs : bumps (allP M lv (i + 1)) (List.replicate M.ways.length 0) = bumps (pathOf M lv i) (bumps (allP M lv i) (List.replicate M.ways.length 0)) := by
      rw [hsn]; unfold bumps; rw [List.foldl_append]
    have hbl : (bumps (allP M lv i) (List.replicate M.ways.length 0)).length = M.ways.length := by rw [bumps_len, List.length_replicate]
    have hpm : ∀ u ∈ pathOf M lv i, 0 ≤ u ∧ u < M.ways.length := fun u hu => allP_mem ok (n := i + 1) hi u (by rw [hsn]; exact List.mem_append_right _ hu)
    have hes : sgn (lv.getD p.1.toNat 0) (lv.getD p.2.toNat 0) = sgn (lvl lv (way M i).1) (lvl lv (way M i).2) := by rw [hw]; rfl
    rw [hes]
    refine ⟨fun c => ?_, fun c => ?_⟩
    · have c : sgn (lvl lv (way M i).1) (lvl lv (way M i).2) ≠ 0 := by simpa using c
      have hpath : pathOf M lv i = slope M lv 1 (hiLo M lv i).1 ++ [(i : Int)] ++ slope M lv (-1) (hiLo M lv i).2 := by unfold pathOf; rw [if_neg c]
      have hhl : ((0 ≤ (hiLo M lv i).1 ∧ (hiLo M lv i).1 < M.places) ∧ (0 ≤ (hiLo M lv i).2 ∧ (hiLo M lv i).2 < M.places)) := by
        unfold hiLo
        rw [hw]
        split
        · exact ⟨p1, p2⟩
        · exact ⟨p2, p1⟩
      have main : ∀ hl' : Int × Int, hiLo M lv i = hl' → ∀ (QS : Fl → Ev → Store → Prop), (∀ y8 S', S'[q]? = some (.lst ((bumps (pathOf M lv i) (bumps (allP M lv i) (List.replicate M.ways.length 0))).map D.int)) → All S S' →
            QS .nx [some (mineD M), some (.tup (lv.map D.int)), some (.tup (M.ways.map Law.pairD)), some (.lr q), some (.int (i : Int)), some (.int (sgn (lvl lv (way M i).1) (lvl lv (way M i).2))), some (.int p.1), some (.int p.2), y8, some (.int hl'.1), some (.int hl'.2)] S') →
          GS (mFor (mItems (mBin fAdd (mBin fAdd (mCall F_slope_from (mCons (mVar 0) (mCons (mVar 1) (mCons (mVar 9) (mCons (mC (.int 1)) mNil))))) (mLst (mCons (mVar 4) mNil))) (mCall F_slope_from (mCons (mVar 0) (mCons (mVar 1) (mCons (mVar 10) (mCons (mC (.int (-1))) mNil))))))) (mName 8) (mAugS (fI fun i j => i + j) (mVar 3) (mVar 8) (mC (.int 1)))
            [some (mineD M), some (.tup (lv.map D.int)), some (.tup (M.ways.map Law.pairD)), some (.lr q), some (.int (i : Int)), some (.int (sgn (lvl lv (way M i).1) (lvl lv (way M i).2))), some (.int p.1), some (.int p.2), x8, some (.int hl'.1), some (.int hl'.2)] S3) QS := by
        intro hl' ehl QS hQ
        rw [ehl] at hhl hpath
        have z1 := slope_len ok (.inl rfl) (s := 1) (lv := lv) hl'.1
        have z2 := slope_len ok (.inr rfl) (s := -1) (lv := lv) hl'.2
        have z3 := cnt_le ok (lv := lv) hl'.1 1
        have z4 := cnt_le ok (lv := lv) hl'.2 (-1)
        refine gs_for (gi_items (ge_bin (ge_bin (ge_call (ge_cons (ge_var rfl (ge_cons (ge_var rfl (ge_cons (ge_var rfl (ge_cons (ge_c (ge_nil ?_)))))))))))))
        refine (slope_gives (S := S3) (x := hl'.1) (s := 1) ok hz hl hhl.1 (.inl rfl)).mono ?_
        rintro _ S4 ⟨q1, rfl, k1, s1, b1⟩
        refine ge_lst (ge_cons (ge_var rfl (ge_nil ⟨Nat.le_of_ble_eq_true rfl, ?_⟩)))
        refine ge_addL (mat_lst (get_app s1)) (mat_lst get_new) (by rw [List.length_map]; show _ + 1 ≤ 16777216; omega) ?_
        have b2 : All S3 (S4 ++ [.lst [D.int (i : Int)]] ++ [.lst ((slope M lv 1 hl'.1).map D.int ++ [D.int (i : Int)])]) := b1.trans (All.trans .app .app)
        have s2 : (S4 ++ [.lst [D.int (i : Int)]] ++ [.lst ((slope M lv 1 hl'.1).map D.int ++ [D.int (i : Int)])])[(S4 ++ [MO.lst [D.int (i : Int)]]).length]? = some (.lst ((slope M lv 1 hl'.1).map D.int ++ [D.int (i : Int)])) := get_new
        generalize (S4 ++ [.lst [D.int (i : Int)]] ++ [.lst ((slope M lv 1 hl'.1).map D.int ++ [D.int (i : Int)])]) = S5 at b2 s2 ⊢
        generalize (S4 ++ [MO.lst [D.int (i : Int)]]).length = q2 at s2 ⊢
        refine ge_call (ge_cons (ge_var rfl (ge_cons (ge_var rfl (ge_cons (ge_var rfl (ge_cons (ge_c (ge_nil ?_)))))))))
        refine (slope_gives (S := S5) (x := hl'.2) (s := -1) ok hz hl hhl.2 (.inr rfl)).mono ?_
        rintro _ S6 ⟨q3, rfl, k3, s3, b3⟩
        refine ge_addL (mat_lst (b3 _ _ s2)) (mat_lst s3) (by rw [List.length_append, List.length_map, List.length_map, List.length_singleton]; show _ ≤ 16777216; omega) ?_
        have es : (slope M lv 1 hl'.1).map D.int ++ [D.int (i : Int)] ++ (slope M lv (-1) hl'.2).map D.int = (pathOf M lv i).map D.int := by
          rw [hpath, List.map_append, List.map_append]; rfl
        rw [es]
        have a6 : All S (S6 ++ [.lst ((pathOf M lv i).map D.int)]) := (a2.trans b2).trans (b3.trans .app)
        have h6 : (S6 ++ [.lst ((pathOf M lv i).map D.int)])[q]? = some (.lst ((bumps (allP M lv i) (List.replicate M.ways.length 0)).map D.int)) := get_app (b3 _ _ (b2 _ _ h2))
        have hlt : q < S6.length := (List.getElem?_eq_some_iff.mp (b3 _ _ (b2 _ _ h2))).1
        refine .inr ⟨_, _, rfl, lat_lst get_new, ?_⟩
        refine units_gives (P := pathOf M lv i) (a := bumps (allP M lv i) (List.replicate M.ways.length 0)) (q := q) (n := S6.length) (S0 := S) (by rw [hbl]; exact hpm) h6 get_new (by omega) hq a6 ?_
        exact fun y8 S' h7 a7 => hQ y8 S' h7 a7
      walk_at "stp"
      refine ⟨fun c1 => ?_, fun c1 => ?_⟩
      · have c1 := of_decide_eq_true c1
        refine ge_tup (ge_cons (ge_var rfl (ge_cons (ge_var rfl (ge_nil ⟨Nat.le_of_ble_eq_true rfl, gt_tup rfl (gt_cons (gt_name (gt_cons (gt_name (gt_nil (then_nx ?_))))))⟩)))))
        refine main (p.1, p.2) (by unfold hiLo; rw [if_pos c1, hw]) _ fun y8 S' h7 a7 => ?_
        exact ⟨.inl rfl, _, _, _, _, _, _, _, rfl, by rw [hbs]; exact h7, a7⟩
      · have c1 := of_decide_eq_false c1
        refine ge_tup (ge_cons (ge_var rfl (ge_cons (ge_var rfl (ge_nil ⟨Nat.le_of_ble_eq_true rfl, gt_tup rfl (gt_cons (gt_name (gt_cons (gt_name (gt_nil (then_nx ?_))))))⟩)))))
        refine main (p.2, p.1) (by unfold hiLo; rw [if_neg c1, hw]) _ fun y8 S' h7 a7 => ?_
        exact ⟨.inl rfl, _, _, _, _, _, _, _, rfl, by rw [hbs]; exact h7, a7⟩
    · have c : sgn (lvl lv (way M i).1) (lvl lv (way M i).2) = 0 := by simpa using c
      have hpath : pathOf M lv i = [] := by unfold pathOf; rw [if_pos c]
      refine gs_nx ⟨.inl rfl, _, _, _, _, _, _, _, rfl, ?_, a2⟩
      rw [hbs, hpath]
      exact h2
  · rintro ρ S2 ⟨x4, x5, x6, x7, x8, x9, x10, rfl, h2, a2⟩
    refine ⟨rfl, then_nx (gs_ret (ge_var rfl ⟨q, rfl, hq, ?_, a2⟩))⟩
    rw [enumD_length, List.length_map] at h2
    exact h2
end K05

set_option Elab.async false
set_option linter.all false
set_option maxRecDepth 100000
set_option maxHeartbeats 4000000
set_option exponentiation.threshold 9000
namespace K05
open PySem PySem.Spec PyProof.Rows L2 MS Law Air
local macro_rules | `(tactic| walk_at "st") => `(tactic| first
  | with_reducible refine gs_seq ?_ | with_reducible refine gs_asg ?_ | with_reducible refine gs_ret ?_ | with_reducible refine gs_retN ?_ | with_reducible refine gs_drop ?_ | with_reducible refine gs_if ?_ | with_reducible refine gs_par ?_ | with_reducible refine gs_for ?_ | with_reducible refine gs_nx ?_
  | with_reducible refine ge_cons ?_ | with_reducible refine ge_nil ?_ | with_reducible refine ge_c ?_ | with_reducible refine ge_bin ?_ | with_reducible refine ge_call ?_
  | ((with_reducible refine ge_var (d := ?d) ?h ?_); case h => exact rfl)
  | ((with_reducible refine gs_aug (d := ?d) ?h ?_); case h => exact rfl)
  | (with_reducible refine ge_tup ?_) | (with_reducible refine ge_lst ?_) | with_reducible refine ge_B ?_ | with_reducible refine ge_and ?_ | with_reducible refine ge_or ?_ | with_reducible refine ge_not ?_ | with_reducible refine ge_if ?_ | with_reducible refine ge_andV ?_ | with_reducible refine ge_orV ?_ | with_reducible refine ge_notV ?_ | with_reducible refine ge_neg ?_
  | with_reducible refine ge_sl ?_ | with_reducible refine ge_noPart ?_ | with_reducible refine ge_part ?_ | with_reducible refine ge_revT ?_ | with_reducible refine ge_app ?_ | with_reducible refine ge_lc ?_ | with_reducible refine ge_chain ?_
  | with_reducible refine gi_items ?_ | with_reducible refine gi_range1 ?_ | with_reducible refine gi_range2 ?_ | with_reducible refine gi_enum ?_
  | with_reducible refine gt_name ?_ | with_reducible refine gt_nil ?_ | with_reducible refine gt_cons ?_ | with_reducible refine gt_tup rfl ?_ | with_reducible refine gt_sub ?_
  | with_reducible refine ge_fI ?_ | with_reducible refine ge_sub ?_ | with_reducible refine ge_add ?_ | with_reducible refine ge_lt ?_ | with_reducible refine ge_le ?_ | with_reducible refine ge_gt ?_ | with_reducible refine ge_ge ?_ | with_reducible refine ge_eqI ?_ | with_reducible refine ge_neI ?_ | with_reducible refine ge_eqS ?_ | with_reducible refine ge_neS ?_
  | with_reducible refine ge_int ?_ | with_reducible refine ge_min ?_ | with_reducible refine ge_max ?_ | with_reducible refine ge_abs ?_ | with_reducible refine ge_slT ?_
  | with_reducible refine then_nx ?_ | with_reducible refine then_rt ?_
  | ((with_reducible refine ge_ixL (ds := ?ds) (d := ?dd) ?hl ?he ?_); (case hl => first | exact lat_lst (by assumption) | exact lat_fz (by assumption)); (case he => first | exact at0 | exact at1 | exact at2 | exact at3))
  | ((with_reducible refine ge_ixT (d := ?dd) ?he ?_); (case he => first | exact at0 | exact at1 | exact at2 | exact at3))
  | ((with_reducible refine ge_len (ds := ?ds) ?hl ?_); (case hl => first | exact lat_lst (by assumption) | exact lat_fz (by assumption) | exact rfl))
  | ((with_reducible refine ge_mod ?hc ?_); (case hc => first | assumption | decide | omega))
  | ((with_reducible refine ge_div ?hc ?hd ?_); (case hc => first | assumption | decide | omega); (case hd => first | assumption | decide | omega))
  | ((with_reducible refine ge_mul ?hc ?_); (case hc => first | assumption | exact i64_left rfl | exact i64_right rfl))
  | ((with_reducible refine ge_pow ?hc ?_); (case hc => decide))
  | with_reducible refine ge_isN ?_ | with_reducible refine ge_isNotN ?_ | with_reducible refine ge_dnewK ?_ | with_reducible refine ge_dnewT ?_ | with_reducible refine ge_sortSet ?_ | with_reducible refine gt_dictk ?_ | with_reducible refine gs_augS ?_ | with_reducible refine then_ct ?_ | with_reducible refine gs_ct ?_ | with_reducible refine then_bk ?_ | with_reducible refine gs_bk ?_
  | (with_reducible refine ⟨_, rfl, ?_⟩) | (with_reducible refine ⟨_, _, rfl, ?_⟩))
local macro_rules | `(tactic| walk_at "stp") => `(tactic| repeat (first | walk_at "st" | refine ⟨Nat.le_of_ble_eq_true rfl, ?_⟩))

theorem small_wd {i : Int} (h0 : 0 ≤ i) (h1 : i ≤ 10 ^ 48) : wd i := by
  unfold wd
  have : (10 : Nat) ^ 48 < 2 ^ 2000 := by decide
  omega
theorem log_small {i : Int} (h0 : 0 < i) (h1 : i ≤ 10 ^ 48) : i.natAbs.log2 < 2000 := by
  have h := small_wd (Int.le_of_lt h0) h1
  unfold wd at h
  exact (Nat.log2_lt (by omega)).mpr h

theorem widths_gives_ {S : Store} {M : Mine} {lv : List Int} (ok : MineOk M) (few : M.ways.length ≤ 12) (hl : lv.length = M.places.toNat) (small : ∀ d ∈ dropsP M lv, d ≤ 10000) :
    GE (F_widths_for [mineD M, .tup (lv.map D.int)] S) fun d S' => d = widthsD (widthsP M lv) ∧ All S S' := by
  have hz : M.ways.length ≤ 1000 := by omega
  have hlo := ok.lo
  refine ge_den rfl ?_
  unfold M_widths_for
  refine gs_seq (gs_asg (ge_bin (ge_var (d := mineD M) rfl (ge_c (ge_ixT (d := .tup (M.ways.map Law.pairD)) at1 (gt_name (then_nx ?_)))))))
  refine gs_seq (gs_asg (ge_call (ge_cons (ge_var rfl (ge_cons (ge_var rfl (ge_nil ?_)))))))
  refine (airs_gives (S := S) (lv := lv) ok hz hl).mono ?_
  rintro _ S1 ⟨q, rfl, hq, h1, a1⟩
  refine gt_name (then_nx (gs_seq (gs_asg (ge_lc (gi_items (ge_var rfl (.inl ⟨_, rfl, ?_⟩)))))))
  obtain ⟨S2, e2, b2, h2⟩ := lc_map (ok := always) (g := mgTup (mgCons (mName 7) (mgCons (mName 8) mgNil)) 2) (e := mCall cAbs (mCons (mBin fSub (mBin fIx (mVar 1) (mVar 7)) (mBin fIx (mVar 1) (mVar 8))) mNil)) (S := S1) (ds := M.ways.map Law.pairD) (ys := (dropsP M lv).map D.int)
    (ρw := [some (mineD M), some (.tup (lv.map D.int)), some (.tup (M.ways.map Law.pairD)), some (.lr q), none, none, none, none, none, none]) (by rw [List.length_map, List.length_map, dropsP_len]) (by rw [List.length_map]; omega) (fun _ _ => rfl) (fun i x y S' hx hy hS => by
      rw [List.getElem?_map] at hx hy
      obtain ⟨p, hp, rfl⟩ := Option.map_eq_some_iff.mp hx
      obtain ⟨z, hz', rfl⟩ := Option.map_eq_some_iff.mp hy
      unfold dropsP at hz'
      rw [List.getElem?_map, hp] at hz'
      cases hz'
      obtain ⟨p1, p2, p3⟩ := ok.ways p (List.mem_of_getElem? hp)
      refine gt_tup (ds := [.int p.1, .int p.2]) rfl (gt_cons (gt_name (gt_cons (gt_name (gt_nil ⟨rfl, ?_⟩)))))
      refine ge_call (ge_cons (ge_bin (ge_bin (ge_var rfl (ge_var rfl (ge_ixT (at_ints p1.1 (by omega)) ?_))))))
      refine ge_bin (ge_var rfl (ge_var rfl (ge_ixT (at_ints p2.1 (by omega)) (ge_sub (ge_nil (ge_abs ⟨rfl, .refl⟩)))))))
  refine ⟨S2, e2, gt_name (then_nx ?_)⟩
  have c0 := common_fold (dropsP M lv) 1 (by decide) small
  refine gs_seq (gs_asg (ge_c (gt_name (then_nx ?_))))
  refine gs_seq (gs_for (gi_items (ge_var rfl (.inr ⟨S1.length, _, rfl, lat_lst h2, ?_⟩))))
  have hbd : ∀ i ≤ (dropsP M lv).length, 0 < ((dropsP M lv).take i).foldl lcmStep 1 ∧ ((dropsP M lv).take i).foldl lcmStep 1 ≤ 10 ^ 48 := fun i hi => by
    obtain ⟨q1, _, _, q4⟩ := common_fold ((dropsP M lv).take i) 1 (by decide) fun d hd => small d (List.mem_of_mem_take hd)
    refine ⟨q1, Int.le_trans q4 ?_⟩
    rw [Int.one_mul, List.length_take, Nat.min_eq_left hi]
    have : (10000 : Int) ^ i ≤ 10000 ^ 12 := by exact_mod_cast Nat.pow_le_pow_right (n := 10000) (by decide) (by rw [dropsP_len] at hi; omega)
    exact Int.le_trans this (by decide)
  refine gs_forL (fun i ρ S' => ∃ x6 : Option D, ρ = [some (mineD M), some (.tup (lv.map D.int)), some (.tup (M.ways.map Law.pairD)), some (.lr q), some (.lr S1.length), some (.int (((dropsP M lv).take i).foldl lcmStep 1)), x6, none, none, none] ∧ S' = S2)
    ⟨none, rfl, rfl⟩ ?_ ?_
  · rintro i d ρ S3 hd ⟨x6, rfl, rfl⟩
    rw [List.getElem?_map] at hd
    obtain ⟨z, hz', rfl⟩ := Option.map_eq_some_iff.mp hd
    have hi := (List.getElem?_eq_some_iff.mp hz').1
    refine ⟨still_lst h2, ?_⟩
    walk_at "stp"
    have hst : ((dropsP M lv).take (i + 1)).foldl lcmStep 1 = lcmStep (((dropsP M lv).take i).foldl lcmStep 1) z := by
      rw [List.take_add_one, hz', List.foldl_append]; rfl
    obtain ⟨k1, k2⟩ := hbd i (by omega)
    refine ⟨fun c => ?_, fun c => ?_⟩
    · have c := of_decide_eq_true c
      have zs := small z (List.mem_of_getElem? hz')
      walk_at "stp"
      refine ge_lcm (log_small k1 k2) (log_small c (Int.le_trans zs (by decide))) ?_
      walk_at "stp"
      refine ⟨.inl rfl, some (.int z), ?_, rfl⟩
      rw [hst]
      unfold lcmStep
      rw [if_pos c]
      rfl
    · have c := of_decide_eq_false c
      refine gs_nx ⟨.inl rfl, some (.int z), ?_, rfl⟩
      rw [hst]
      unfold lcmStep
      rw [if_neg c]
      rfl
  · rintro ρ S3 ⟨x6, rfl, rfl⟩
    rw [List.length_map, List.take_length]
    refine ⟨still_lst h2, then_nx (gs_ret (ge_call (ge_cons (ge_lc (gi_enum (ge_cons (ge_var rfl (ge_nil (.inr ⟨S1.length, _, rfl, lat_lst h2, ?_⟩)))))))))⟩
    obtain ⟨S4, e4, b4, h4⟩ := lc_map (ok := still S1.length ((dropsP M lv).map D.int)) (g := mgTup (mgCons (mName 9) (mgCons (mName 6) mgNil)) 2) (e := mIf (mB (mBin fGt (mVar 6) (mC (.int 0)))) (mBin fDivW (mBin fMulW (mBin fIx (mVar 3) (mVar 9)) (mVar 5)) (mVar 6)) (mC (.int 1))) (S := S3) (ds := enumD ((dropsP M lv).map D.int)) (ys := (widthsP M lv).map D.int)
      (ρw := [some (mineD M), some (.tup (lv.map D.int)), some (.tup (M.ways.map Law.pairD)), some (.lr q), some (.lr S1.length), some (.int (commonP (dropsP M lv))), none, none, none, none]) (by rw [List.length_map, enumD_length, List.length_map, widthsP_len, dropsP_len]) (by rw [enumD_length, List.length_map, dropsP_len]; omega) (fun S' h => still_lst (h _ _ h2)) (fun i x y S' hx hy hS => by
        obtain ⟨x', hx', rfl⟩ := enumD_get hx
        rw [List.getElem?_map] at hx' hy
        obtain ⟨z, hz', rfl⟩ := Option.map_eq_some_iff.mp hx'
        obtain ⟨v, hv, rfl⟩ := Option.map_eq_some_iff.mp hy
        have hi : i < M.ways.length := by have := (List.getElem?_eq_some_iff.mp hz').1; rwa [dropsP_len] at this
        have ev : v = (widthsP M lv).getD i 0 := by rw [List.getD_eq_getElem?_getD, hv]; rfl
        have ez : (dropsP M lv).getD i 0 = z := by rw [List.getD_eq_getElem?_getD, hz']; rfl
        have wa := widthsP_at (lv := lv) hi
        rw [ez] at wa
        obtain ⟨a1', a2', a3'⟩ := airP_bd ok (lv := lv) hi
        obtain ⟨k1, k2⟩ := hbd _ (Nat.le_refl _)
        rw [List.take_length] at k1 k2
        have zs := small z (List.mem_of_getElem? hz')
        have hq' : S'[q]? = some (.lst ((airP M lv).map D.int)) := hS _ _ (b2 _ _ h1)
        refine gt_tup (ds := [.int (i : Int), .int z]) rfl (gt_cons (gt_name (gt_cons (gt_name (gt_nil ⟨rfl, ?_⟩)))))
        refine ge_if (ge_B (ge_bin (ge_var rfl (ge_c (ge_gt ⟨_, rfl, fun c => ?_, fun c => ?_⟩)))))
        · have c := of_decide_eq_true c
          refine ge_bin (ge_bin (ge_bin (ge_var rfl (ge_var rfl (ge_ixL (lat_lst hq') (at_ints (by omega) (by rw [airP_len]; omega)) ?_)))))
          rw [Int.toNat_natCast]
          refine ge_var rfl (ge_mulW ((small_wd a1' (by omega)).narrow (small_wd (Int.le_of_lt k1) k2)) (ge_var rfl (ge_divW c (small_wd (Int.le_of_lt c) (by omega)) ⟨?_, .refl⟩)))
          rw [ev, wa, if_pos c]
        · have c := of_decide_eq_false c
          refine ge_c ⟨?_, .refl⟩
          rw [ev, wa, if_neg c])
    exact ⟨S4, e4, ge_nil (ge_tuple (lat_lst h4) ⟨rfl, (a1.trans b2).trans b4⟩)⟩
end K05

set_option Elab.async false
set_option linter.all false
set_option maxRecDepth 100000
set_option maxHeartbeats 4000000
set_option exponentiation.threshold 9000
namespace K05
open PySem PySem.Spec PyProof.Rows L2 MS Law Air
local macro_rules | `(tactic| walk_at "st") => `(tactic| first
  | with_reducible refine gs_seq ?_ | with_reducible refine gs_asg ?_ | with_reducible refine gs_ret ?_ | with_reducible refine gs_retN ?_ | with_reducible refine gs_drop ?_ | with_reducible refine gs_if ?_ | with_reducible refine gs_par ?_ | with_reducible refine gs_for ?_ | with_reducible refine gs_nx ?_
  | with_reducible refine ge_cons ?_ | with_reducible refine ge_nil ?_ | with_reducible refine ge_c ?_ | with_reducible refine ge_bin ?_ | with_reducible refine ge_call ?_
  | ((with_reducible refine ge_var (d := ?d) ?h ?_); case h => exact rfl)
  | ((with_reducible refine gs_aug (d := ?d) ?h ?_); case h => exact rfl)
  | (with_reducible refine ge_tup ?_) | (with_reducible refine ge_lst ?_) | with_reducible refine ge_B ?_ | with_reducible refine ge_and ?_ | with_reducible refine ge_or ?_ | with_reducible refine ge_not ?_ | with_reducible refine ge_if ?_ | with_reducible refine ge_andV ?_ | with_reducible refine ge_orV ?_ | with_reducible refine ge_notV ?_ | with_reducible refine ge_neg ?_
  | with_reducible refine ge_sl ?_ | with_reducible refine ge_noPart ?_ | with_reducible refine ge_part ?_ | with_reducible refine ge_revT ?_ | with_reducible refine ge_app ?_ | with_reducible refine ge_lc ?_ | with_reducible refine ge_chain ?_
  | with_reducible refine gi_items ?_ | with_reducible refine gi_range1 ?_ | with_reducible refine gi_range2 ?_ | with_reducible refine gi_enum ?_
  | with_reducible refine gt_name ?_ | with_reducible refine gt_nil ?_ | with_reducible refine gt_cons ?_ | with_reducible refine gt_tup rfl ?_ | with_reducible refine gt_sub ?_
  | with_reducible refine ge_fI ?_ | with_reducible refine ge_sub ?_ | with_reducible refine ge_add ?_ | with_reducible refine ge_lt ?_ | with_reducible refine ge_le ?_ | with_reducible refine ge_gt ?_ | with_reducible refine ge_ge ?_ | with_reducible refine ge_eqI ?_ | with_reducible refine ge_neI ?_ | with_reducible refine ge_eqS ?_ | with_reducible refine ge_neS ?_
  | with_reducible refine ge_int ?_ | with_reducible refine ge_min ?_ | with_reducible refine ge_max ?_ | with_reducible refine ge_abs ?_ | with_reducible refine ge_slT ?_
  | with_reducible refine then_nx ?_ | with_reducible refine then_rt ?_
  | ((with_reducible refine ge_ixL (ds := ?ds) (d := ?dd) ?hl ?he ?_); (case hl => first | exact lat_lst (by assumption) | exact lat_fz (by assumption)); (case he => first | exact at0 | exact at1 | exact at2 | exact at3))
  | ((with_reducible refine ge_ixT (d := ?dd) ?he ?_); (case he => first | exact at0 | exact at1 | exact at2 | exact at3))
  | ((with_reducible refine ge_len (ds := ?ds) ?hl ?_); (case hl => first | exact lat_lst (by assumption) | exact lat_fz (by assumption) | exact rfl))
  | ((with_reducible refine ge_mod ?hc ?_); (case hc => first | assumption | decide | omega))
  | ((with_reducible refine ge_div ?hc ?hd ?_); (case hc => first | assumption | decide | omega); (case hd => first | assumption | decide | omega))
  | ((with_reducible refine ge_mul ?hc ?_); (case hc => first | assumption | exact i64_left rfl | exact i64_right rfl))
  | ((with_reducible refine ge_pow ?hc ?_); (case hc => decide))
  | with_reducible refine ge_isN ?_ | with_reducible refine ge_isNotN ?_ | with_reducible refine ge_dnewK ?_ | with_reducible refine ge_dnewT ?_ | with_reducible refine ge_sortSet ?_ | with_reducible refine gt_dictk ?_ | with_reducible refine gs_augS ?_ | with_reducible refine then_ct ?_ | with_reducible refine gs_ct ?_ | with_reducible refine then_bk ?_ | with_reducible refine gs_bk ?_
  | (with_reducible refine ⟨_, rfl, ?_⟩) | (with_reducible refine ⟨_, _, rfl, ?_⟩))
local macro_rules | `(tactic| walk_at "stp") => `(tactic| repeat (first | walk_at "st" | refine ⟨Nat.le_of_ble_eq_true rfl, ?_⟩))
theorem sign_law {S : Store} {n : Int} : GE (F_law_sign [.int n] S) fun d S' => d = .int (sgn n 0) ∧ S' = S := by
  refine ge_den rfl ?_
  unfold M_law_sign
  refine gs_ret (ge_bin (ge_call (ge_cons (ge_bin (ge_var rfl (ge_c (ge_gt (ge_nil (ge_intB (ge_call (ge_cons (ge_bin (ge_var rfl (ge_c (ge_lt (ge_nil (ge_intB (ge_sub ⟨?_, rfl⟩))))))))))))))))))
  unfold sgn
  by_cases h1 : 0 < n <;> by_cases h2 : n < 0 <;> by_cases h3 : n = 0 <;> simp [h1, h2, h3] <;> omega
theorem sgn_sub (x y : Int) : sgn (x - y) 0 = sgn x y := by
  unfold sgn
  by_cases h1 : x = y
  · rw [if_pos h1, if_pos (by omega)]
  · rw [if_neg h1, if_neg (by omega)]
    by_cases h2 : y < x
    · rw [if_pos h2, if_pos (by omega)]
    · rw [if_neg h2, if_neg (by omega)]

theorem inner_law {S : Store} {M : Mine} (ok : MineOk M) : GE (F_law_inner [mineD M] S) fun d S' => ∃ q, d = .lr q ∧ S.length ≤ q ∧ S'[q]? = some (.lst ((inner M).map D.int)) ∧ All S S' := by
  refine ge_den rfl ?_
  unfold M_law_inner
  have hlo := ok.lo
  have hhi := ok.hi
  refine gs_ret (ge_lc (gi_range1 (ge_cons (ge_bin (ge_var (d := mineD M) rfl (ge_c (ge_ixT (d := .int M.places) at0 (ge_nil ⟨M.places, rfl, r62_of (by omega) (by omega), ?_⟩))))))))
  have hlen : (rangeD 0 M.places.toNat).length = M.places.toNat := rangeD_length
  obtain ⟨S', e, h1, h2⟩ := lc_pick (ok := always) (g := mName 1) (t := mB (mBin (fIn true) (mVar 1) (mSl (mVar 0) (mPart (mC (.int 2))) mNoPart))) (e := mVar 1) (S := S)
    (ρw := [some (mineD M), none]) (ds := rangeD 0 M.places.toNat) (isIn M) (fun i => .int (i : Int)) (by rw [hlen]; omega) (fun _ _ => rfl) (fun i x S' hx ha => by
      obtain ⟨rfl, hi⟩ := range_int hx
      rw [Int.zero_add]
      refine gt_name ⟨rfl, ?_⟩
      refine ge_B (ge_bin (ge_var rfl (ge_sl (ge_var (d := mineD M) rfl (ge_part (ge_c ⟨2, rfl, ge_noPart (ge_slT ?_)⟩))))))
      refine ge_in (ds := [.int M.inlet, .int M.outlet]) rfl rfl ?_
      refine ⟨_, rfl, ?_, rfl, fun _ => ge_var rfl ⟨rfl, .refl⟩⟩
      show (!inD (.int (i : Int)) [.int M.inlet, .int M.outlet]) = isIn M i
      rw [inD_pair]
      unfold isIn
      congr 1
      exact decide_eq_decide.mpr ⟨fun h => h.elim (fun z => .inl z.symm) fun z => .inr z.symm, fun h => h.elim (fun z => .inl z.symm) fun z => .inr z.symm⟩)
  refine ⟨S', e, S.length, rfl, Nat.le_refl _, ?_, h1⟩
  rw [h2, hlen]
  unfold inner
  rw [List.map_map]
  rfl

def stateB (M : Mine) (ws lv : List Int) : Bool := decide (lv.getD M.outlet.toNat 0 < lv.getD M.inlet.toNat 0) && (inner M).all fun x => decide (leaving M ws lv x = 0)
structure LvOk (M : Mine) (ws lv : List Int) : Prop where
  wl : ws.length = M.ways.length
  ll : lv.length = M.places.toNat
  ww : Wds ws
  lw : Wds lv

theorem ge_eqNil {S : Store} {n m : Nat} {ns : List Int} {Q : D → Store → Prop} (h1 : lat S n = some (ns.map D.int)) (h2 : lat S m = some []) (h : Q (.bl ns.isEmpty) S) : GE (fEq (.lr n) (.lr m) S) Q := by
  have e1 : toPy S 64 (.lr n) = some (.list (ns.map PyData.int)) := by
    show ((lat S n).bind fun ds => (ds.mapM (toPy S 63)).map PyData.list) = _
    rw [h1]
    show ((ns.map D.int).mapM (toPy S 63)).map PyData.list = _
    rw [toPy_ints (n := 62)]
    rfl
  have e2 : toPy S 64 (.lr m) = some (.list []) := by
    show ((lat S m).bind fun ds => (ds.mapM (toPy S 63)).map PyData.list) = _
    rw [h2]
    rfl
  have s1 : SeqAt.shaped (.list (ns.map PyData.int)) = true := by
    obtain ⟨l1, l2⟩ := ints_lay ns
    unfold SeqAt.shaped
    rw [Bool.and_eq_true, decide_eq_true_eq]
    refine ⟨l1, ?_⟩
    show PyData.depthAll (ns.map PyData.int) + 1 ≤ 64
    omega
  refine ge_eq (x := .bl ns.isEmpty) (S' := S) ?_ h
  show ((toPy S 64 (.lr n)).bind fun p => (toPy S 64 (.lr m)).bind fun q => if SeqAt.shaped p && SeqAt.shaped q then some (D.bl (id (PyData.eqv p q)), S) else none) = _
  rw [e1, e2]
  show (if SeqAt.shaped (.list (ns.map PyData.int)) && true then some (D.bl (id (PyData.eqv (.list (ns.map PyData.int)) (.list []))), S) else none) = _
  rw [s1]
  cases ns <;> rfl
/-- what came to z with the first i ways -/
def comeN (M : Mine) (ws lv : List Int) (i : Nat) (z : Int) : Int := Det.sumN i fun j => (airs M ws lv).getD j 0 * ((if (way M j).2 = z then 1 else 0) - (if (way M j).1 = z then 1 else 0))
theorem come_out {M : Mine} {ws lv : List Int} {z : Int} : comeN M ws lv M.ways.length z = -outN M (airs M ws lv) z := by
  unfold comeN outN
  rw [← Det.sum_neg]
  exact Det.sum_congr fun i _ => by grind
theorem law_state_gives {S : Store} {M : Mine} {ws lv : List Int} (ok : MineOk M) (hz : M.ways.length ≤ 1000) (L : LvOk M ws lv) : GE (F_law_is_state [mineD M, widthsD ws, .tup (lv.map D.int)] S) fun d S' => d = .bl (stateB M ws lv) ∧ All S S' := by
  refine ge_den rfl ?_
  unfold M_law_is_state
  have hi := ok.ends.1
  have ho := ok.ends.2.1
  have hll := L.ll
  have hlo := ok.lo
  have hhi := ok.hi
  refine gs_seq (gs_if (ge_B (ge_bin (ge_bin (ge_var rfl (ge_bin (ge_var (d := mineD M) rfl (ge_c (ge_ixT (d := .int M.inlet) at2 (ge_ixT (at_ints hi.1 (by omega)) ?_))))))))))
  refine ge_bin (ge_var rfl (ge_bin (ge_var (d := mineD M) rfl (ge_c (ge_ixT (d := .int M.outlet) at3 (ge_ixT (at_ints ho.1 (by omega)) (ge_le ⟨_, rfl, fun hc => ?_, fun hc => ?_⟩)))))))
  · have h := of_decide_eq_true hc
    refine gs_ret (ge_c ⟨?_, .refl⟩)
    unfold stateB
    rw [decide_eq_false (by omega)]
    rfl
  · have h := of_decide_eq_false hc
    refine gs_nx (then_nx ?_)
    refine gs_seq (gs_asg (ge_bin (ge_lst (ge_cons (ge_c (ge_nil ⟨Nat.le_of_ble_eq_true rfl, ?_⟩))))))
    refine ge_bin (ge_var (d := mineD M) rfl (ge_c (ge_ixT (d := .int M.places) at0 ?_)))
    refine ge_mulL (ds := [.int 0]) (mat_lst get_new) (by omega) (by omega) (by show _ ≤ 16777216; simp; omega) (gt_name (then_nx ?_))
    have hrep : repD [.int 0] M.places = (List.replicate M.places.toNat (0 : Int)).map D.int := by
      unfold repD
      rw [List.map_replicate]
      generalize M.places.toNat = k
      induction k with
      | zero => rfl
      | succ k ih => rw [List.replicate_succ, List.replicate_succ, List.flatten_cons, ih]; rfl
    rw [hrep]
    have h0 : (S ++ [MO.lst [D.int 0]] ++ [.lst ((List.replicate M.places.toNat (0 : Int)).map D.int)])[(S ++ [MO.lst [D.int 0]]).length]? = some (.lst ((List.replicate M.places.toNat (0 : Int)).map D.int)) := get_new
    have ha0 : All S (S ++ [MO.lst [D.int 0]] ++ [.lst ((List.replicate M.places.toNat (0 : Int)).map D.int)]) := All.app.trans .app
    have hq0 : S.length ≤ (S ++ [MO.lst [D.int 0]]).length := by rw [List.length_append]; omega
    generalize (S ++ [MO.lst [D.int 0]] ++ [.lst ((List.replicate M.places.toNat (0 : Int)).map D.int)]) = S0 at h0 ha0 ⊢
    generalize (S ++ [MO.lst [D.int 0]]).length = q at h0 hq0 ⊢
    refine gs_seq (gs_for (gi_enum (ge_cons (ge_bin (ge_var (d := mineD M) rfl (ge_c (ge_ixT (d := .tup (M.ways.map Law.pairD)) at1 (ge_nil (.inl ⟨_, rfl, ?_⟩)))))))))
    refine gs_forL (fun i ρ S' => ∃ (x4 x5 x6 : Option D) (c : List Int), ρ = [some (mineD M), some (widthsD ws), some (.tup (lv.map D.int)), some (.lr q), x4, x5, x6, none] ∧ All S S' ∧ S'[q]? = some (.lst (c.map D.int)) ∧ c.length = M.places.toNat ∧ ∀ z, 0 ≤ z → z < M.places → c.getD z.toNat 0 = comeN M ws lv i z)
      ⟨none, none, none, _, rfl, ha0, h0, List.length_replicate, fun z hz0 hz1 => ?_⟩ ?_ ?_
    · show _ = (0 : Int)
      rw [List.getD_eq_getElem?_getD, List.getElem?_replicate]
      split <;> rfl
    · rintro i d ρ S1 hd ⟨x4, x5, x6, c, rfl, a1, hc1, hcl, hcz⟩
      refine ⟨rfl, ?_⟩
      obtain ⟨d', e1, rfl⟩ := enumD_get hd
      rw [List.getElem?_map] at e1
      obtain ⟨p, hp, rfl⟩ := Option.map_eq_some_iff.mp e1
      have hil := (List.getElem?_eq_some_iff.mp hp).1
      have hiw : (i : Int) < ws.length := by have := L.wl; omega
      obtain ⟨⟨p10, p11⟩, ⟨p20, p21⟩, pne⟩ := ok.ways p (List.mem_of_getElem? hp)
      have hair : (airs M ws lv).getD i 0 = ws.getD i 0 * (lv.getD p.1.toNat 0 - lv.getD p.2.toNat 0) := by
        rw [airs_at hil]
        have : way M i = p := by unfold way; rw [List.getD_eq_getElem?_getD, hp]; rfl
        rw [this]
      have hway : way M i = p := by unfold way; rw [List.getD_eq_getElem?_getD, hp]; rfl
      refine gt_tup rfl (gt_cons (gt_name (gt_cons (gt_name (gt_nil ?_)))))
      refine gs_seq (gs_asg (ge_bin (ge_bin (ge_var rfl (ge_var rfl (ge_ixT (at_ints (by omega) hiw) ?_))))))
      refine ge_bin (ge_bin (ge_var rfl (ge_bin (ge_var (d := Law.pairD p) rfl (ge_c (ge_ixT (d := .int p.1) at0 (ge_ixT (at_ints p10 (by omega)) ?_)))))))
      refine ge_bin (ge_var rfl (ge_bin (ge_var (d := Law.pairD p) rfl (ge_c (ge_ixT (d := .int p.2) at1 (ge_ixT (at_ints p20 (by omega)) (ge_sub ?_)))))))
      refine ge_mulW (wd_diff (L.ww _ (Air.getD_mem (by omega))) (L.lw _ (Air.getD_mem (by omega))) (L.lw _ (Air.getD_mem (by omega)))) ?_
      rw [Int.toNat_natCast, ← hair]
      generalize (airs M ws lv).getD i 0 = air at hair
      refine gt_name (then_nx (gs_seq (gs_asg (ge_bin (ge_bin (ge_var rfl (ge_bin (ge_var (d := Law.pairD p) rfl (ge_c (ge_ixT (d := .int p.1) at0 (ge_ixL (lat_lst hc1) (at_ints p10 (by omega)) (ge_var rfl (ge_sub ?_)))))))))))))
      refine gt_sub (ge_var rfl (ge_bin (ge_var (d := Law.pairD p) rfl (ge_c (ge_ixT (d := .int p.1) at0 ⟨q, p.1, _, p.1.toNat, rfl, rfl, mat_lst hc1, by rw [List.length_map]; exact ixN_of p10 (by omega), then_nx ?_⟩)))))
      rw [set_ints, Int.sub_eq_add_neg]
      have hc2 : (S1.set q (.lst ((bump c p.1 (-air)).map D.int)))[q]? = some (.lst ((bump c p.1 (-air)).map D.int)) := get_set hc1
      have a2 : All S (S1.set q (.lst ((bump c p.1 (-air)).map D.int))) := a1.wr hq0
      have eb : c.set p.1.toNat (c.getD p.1.toNat 0 + -air) = bump c p.1 (-air) := rfl
      rw [eb]
      generalize S1.set q (.lst ((bump c p.1 (-air)).map D.int)) = S2 at hc2 a2 ⊢
      have hbl : (bump c p.1 (-air)).length = M.places.toNat := by rw [bump_length, hcl]
      refine gs_asg (ge_bin (ge_bin (ge_var rfl (ge_bin (ge_var (d := Law.pairD p) rfl (ge_c (ge_ixT (d := .int p.2) at1 (ge_ixL (lat_lst hc2) (at_ints p20 (by omega)) (ge_var rfl (ge_add ?_))))))))))
      refine gt_sub (ge_var rfl (ge_bin (ge_var (d := Law.pairD p) rfl (ge_c (ge_ixT (d := .int p.2) at1 ⟨q, p.2, _, p.2.toNat, rfl, rfl, mat_lst hc2, by rw [List.length_map]; exact ixN_of p20 (by omega), .inl rfl, some (.int (i : Int)), some (Law.pairD p), some (.int air), bump (bump c p.1 (-air)) p.2 air, rfl, a2.wr hq0, ?_, by rw [bump_length, hbl], fun z hz0 hz1 => ?_⟩)))))
      · rw [set_ints]; exact get_set hc2
      · rw [bump_at (by omega) hz0, bump_at (by omega) hz0, hcz z hz0 hz1]
        show _ = comeN M ws lv i z + (airs M ws lv).getD i 0 * ((if (way M i).2 = z then 1 else 0) - (if (way M i).1 = z then 1 else 0))
        rw [hway, airs_at hil, hway, ← hair]
        by_cases c1 : z = p.1
        · have c2 : ¬ z = p.2 := fun c2 => pne (c1.symm.trans c2)
          rw [if_pos c1, if_neg c2, if_neg (fun y => c2 y.symm), if_pos c1.symm]; grind
        · by_cases c2 : z = p.2
          · rw [if_neg c1, if_pos c2, if_pos c2.symm, if_neg (fun y => c1 y.symm)]; grind
          · rw [if_neg c1, if_neg c2, if_neg (fun y => c2 y.symm), if_neg (fun y => c1 y.symm)]; grind
    · rintro ρ S1 ⟨x4, x5, x6, c, rfl, a1, hc1, hcl, hcz⟩
      have hen : (enumD (M.ways.map Law.pairD)).length = M.ways.length := by rw [enumD_length, List.length_map]
      refine ⟨rfl, then_nx ?_⟩
      refine gs_ret (ge_bin (ge_lc (gi_items (ge_call (ge_cons (ge_var rfl (ge_nil ?_)))))))
      refine (inner_law ok).mono ?_
      rintro _ S2 ⟨r, rfl, hr, e2, a2⟩
      refine .inr ⟨r, _, rfl, lat_lst e2, ?_⟩
      have hkeep : ∀ i, i < (inner M).length → c.getD (inn M i).toNat 0 = -leaving M ws lv (inn M i) := fun i hi => by
        have hx := (mem_inner.mp (inn_in hi)).1
        have h1 := hcz (inn M i) hx.1 hx.2
        rw [show ((enumD (M.ways.map Law.pairD)), always).1.length = M.ways.length from hen, come_out, ← leaving_out ok] at h1
        exact h1
      obtain ⟨S3, e3, a3, h3⟩ := lc_pick (ok := still r ((inner M).map D.int)) (g := mName 7) (t := mB (mBin fNe (mBin fIx (mVar 3) (mVar 7)) (mC (.int 0)))) (e := mVar 7) (S := S2) (ds := (inner M).map D.int)
        (ρw := [some (mineD M), some (widthsD ws), some (.tup (lv.map D.int)), some (.lr q), x4, x5, x6, none]) (fun i => !decide (leaving M ws lv (inn M i) = 0)) (fun i => .int (inn M i)) (by rw [List.length_map]; have := inner_six ok; omega) (fun S' h => still_lst (h _ _ e2)) (fun i x S' hx ha => by
          rw [List.getElem?_map] at hx
          obtain ⟨u, hu, rfl⟩ := Option.map_eq_some_iff.mp hx
          have hi' := (List.getElem?_eq_some_iff.mp hu).1
          have eu : inn M i = u := by unfold inn; rw [List.getD_eq_getElem?_getD, hu]; rfl
          have hub := (mem_inner.mp (List.mem_of_getElem? hu)).1
          have hk := hkeep i hi'
          rw [eu] at hk
          refine gt_name ⟨rfl, ?_⟩
          refine ge_B (ge_bin (ge_bin (ge_var rfl (ge_var rfl (ge_ixL (lat_lst (ha _ _ (a2 _ _ hc1))) (at_ints hub.1 (by omega)) (ge_c (ge_neI ⟨_, rfl, ?_, rfl, fun _ => ge_var rfl ⟨by rw [eu], .refl⟩⟩)))))))
          (try dsimp only)
          rw [hk, eu]
          congr 1
          exact decide_eq_decide.mpr ⟨fun y => by omega, fun y => by omega⟩)
      refine ⟨S3, e3, ge_lst (ge_nil ⟨Nat.zero_le _, ?_⟩)⟩
      have hmap : (((List.range ((inner M).map D.int).length).filter fun i => !decide (leaving M ws lv (inn M i) = 0)).map fun i => D.int (inn M i)) = (((List.range (inner M).length).filter fun i => !decide (leaving M ws lv (inn M i) = 0)).map (inn M)).map D.int := by
        rw [List.length_map, List.map_map]; rfl
      rw [hmap] at h3
      refine ge_eqNil (lat_lst (get_app h3)) (lat_lst get_new) ⟨?_, ((a1.trans a2).trans a3).trans .app⟩
      unfold stateB
      rw [decide_eq_true (by omega), Bool.true_and]
      congr 1
      rw [List.isEmpty_map, Bool.eq_iff_iff, List.isEmpty_iff, List.filter_eq_nil_iff, List.all_eq_true]
      constructor
      · intro h x hx
        obtain ⟨i, hi, e⟩ := List.getElem_of_mem hx
        have ex : inn M i = x := by unfold inn; rw [List.getD_eq_getElem?_getD, List.getElem?_eq_getElem hi, e]; rfl
        have := h i (List.mem_range.mpr hi)
        rw [ex] at this
        simpa using this
      · intro h i hi
        have := h _ (inn_in (List.mem_range.mp hi))
        simpa using this

theorem keep_at {p n : Nat} {S S' : Store} {x : MO} (k : Keeps p S S') (hn : n ≠ p) (h : S[n]? = some x) : S'[n]? = some x := k.at_ n x hn h
theorem widths_gives {S : Store} {M : Mine} {p g : Nat} (h : Pen S p g) (hz : M.ways.length ≤ 1000) : GE (F_law_widths [.lr p, mineD M] S) fun d S' => ∃ ws : List Int, d = widthsD ws ∧ ws.length = M.ways.length ∧ (∀ v ∈ ws, 1 ≤ v ∧ v ≤ 1000000) ∧ Pen S' p g := by
  refine ge_den rfl ?_
  unfold M_law_widths
  obtain ⟨l1, l2⟩ := h.lt
  refine gs_seq (gs_asg (ge_call (ge_cons (ge_var rfl (ge_cons (ge_lst (ge_cons (ge_c (ge_cons (ge_c (ge_cons (ge_c (ge_cons (ge_c (ge_cons (ge_bin (ge_c (ge_c (ge_pow (by decide) (ge_nil ⟨Nat.le_of_ble_eq_true rfl, ge_nil ?_⟩))))))))))))))))))))
  refine (one_of_gives (h.app) get_new (by omega) (Nat.le_of_ble_eq_true rfl) (by show 5 < 1073741824; decide)).mono ?_
  rintro d S1 ⟨hm, hp1, k1⟩
  have hb : ∃ b : Int, d = .int b ∧ 1 ≤ b ∧ b ≤ 1000000 := by
    simp only [List.mem_cons, List.not_mem_nil, or_false] at hm
    rcases hm with rfl | rfl | rfl | rfl | rfl
    · exact ⟨1, rfl, by decide, by decide⟩
    · exact ⟨2, rfl, by decide, by decide⟩
    · exact ⟨3, rfl, by decide, by decide⟩
    · exact ⟨9, rfl, by decide, by decide⟩
    · exact ⟨_, rfl, by decide, by decide⟩
  obtain ⟨b, rfl, hb1, hb2⟩ := hb
  refine gt_name (then_nx (gs_ret (ge_call (ge_cons (ge_lc (gi_items (ge_bin (ge_var (d := mineD M) rfl (ge_c (ge_ixT (d := .tup (M.ways.map Law.pairD)) at1 (.inl ⟨_, rfl, ?_⟩)))))))))))
  have hlt := hp1.lt
  obtain ⟨S2, e, hp2, ws, hl, hws, hn⟩ : ∃ S', lcL always (mName 3) mYes (mBin fAdd (mC (.int 1)) (mCall F_law_draw (mCons (mVar 0) (mCons (mVar 2) mNil)))) [some (.lr p), some (mineD M), some (.int b), none] S1.length (M.ways.map Law.pairD) (S1 ++ [.lst []]) = some S' ∧
      (Pen S' p g ∧ ∃ ws : List Int, ws.length = M.ways.length ∧ (∀ v ∈ ws, 1 ≤ v ∧ v ≤ 1000000) ∧ S'[S1.length]? = some (.lst (ws.map D.int))) := by
    refine lc_by (fun i S' => Pen S' p g ∧ ∃ ws : List Int, ws.length = i ∧ (∀ v ∈ ws, 1 ≤ v ∧ v ≤ 1000000) ∧ S'[S1.length]? = some (.lst (ws.map D.int))) ⟨hp1.app, [], rfl, fun x hx => absurd hx List.not_mem_nil, get_new⟩ (fun i d S2 hd ⟨hp2, ws, hl, hs, hn⟩ => ⟨rfl, ?_⟩) fun S2 h => ⟨rfl, by rw [List.length_map] at h; exact h⟩
    have hi := (List.getElem?_eq_some_iff.mp hd).1
    rw [List.length_map] at hi
    refine gt_name ⟨true, S2, rfl, fun _ => ?_, fun z => (by cases z)⟩
    refine ge_bin (ge_c (ge_call (ge_cons (ge_var rfl (ge_cons (ge_var rfl (ge_nil ?_)))))))
    refine (draw_gives hp2 hb1 (by omega)).mono ?_
    rintro _ S3 ⟨n, rfl, hn0, hn1, hp3, k3⟩
    have hn3 := keep_at k3 (by omega) hn
    refine ge_add ⟨_, mat_lst hn3, by rw [List.length_map]; show _ < 16777216; omega, hp3.other (by omega) (by omega), ws ++ [1 + n], by rw [List.length_append, hl]; rfl, fun x hx => ?_, ?_⟩
    · rcases List.mem_append.mp hx with hx | hx
      · exact hs x hx
      · rw [List.mem_singleton.mp hx]; exact ⟨by omega, by omega⟩
    · rw [get_set hn3, List.map_append]; rfl
  exact ⟨S2, e, ge_nil (ge_tuple (lat_lst hn) ⟨ws, rfl, hl, hws, hp2⟩)⟩

theorem cut_to {α : Type} {f : α → D} {lv : List α} {p : Int} (h0 : 0 ≤ p) (h1 : p ≤ lv.length) : MS.cutD (lv.map f) none (some p) = (lv.take p.toNat).map f := by
  unfold MS.cutD HT.sIx
  (try dsimp only)
  rw [if_neg (show ¬ p < 0 by omega)]
  show ((lv.map f).drop 0).take (min p.toNat (lv.map f).length - 0) = _
  rw [List.drop_zero, List.length_map, Nat.sub_zero, ← List.map_take]
  congr 1
  rw [show min p.toNat lv.length = p.toNat by omega]
theorem cut_from {α : Type} {f : α → D} {lv : List α} {p : Int} (h0 : 0 ≤ p) (h1 : p < lv.length) : MS.cutD (lv.map f) (some (p + 1)) none = (lv.drop (p.toNat + 1)).map f := by
  unfold MS.cutD HT.sIx
  (try dsimp only)
  rw [if_neg (show ¬ p + 1 < 0 by omega)]
  show ((lv.map f).drop (min (p + 1).toNat (lv.map f).length)).take ((lv.map f).length - min (p + 1).toNat (lv.map f).length) = _
  rw [List.length_map, show min (p + 1).toNat lv.length = p.toNat + 1 by omega, ← List.map_drop, ← List.map_take]
  congr 1
  exact List.take_of_length_le (by rw [List.length_drop]; exact Nat.le_refl _)

theorem at_gives {S : Store} {lv : List Int} {p t : Int} (h0 : 0 ≤ p) (h1 : p < lv.length) (hz : lv.length ≤ 1000) : GE (F_law_at [.tup (lv.map D.int), .int p, .int t] S) fun d S' => d = .tup ((lv.set p.toNat t).map D.int) ∧ S' = S := by
  refine ge_den rfl ?_
  unfold M_law_at
  have c1 : MS.cutD (lv.map D.int) none (some p) = (lv.take p.toNat).map D.int := cut_to h0 (by omega)
  have c2 : MS.cutD (lv.map D.int) (some (p + 1)) none = (lv.drop (p.toNat + 1)).map D.int := cut_from h0 h1
  refine gs_ret (ge_bin (ge_bin (ge_sl (ge_var rfl (ge_noPart (ge_part (ge_var rfl ⟨_, rfl, ge_slT ?_⟩)))))))
  rw [c1]
  refine ge_tup (ge_cons (ge_var rfl (ge_nil ⟨Nat.le_of_ble_eq_true rfl, ge_addT (by rw [List.length_map, List.length_take]; show _ ≤ 16777216; simp; omega) ?_⟩)))
  refine ge_sl (ge_var rfl (ge_part (ge_bin (ge_var rfl (ge_c (ge_add ⟨_, rfl, ge_noPart (ge_slT ?_)⟩))))))
  rw [c2]
  refine ge_addT (by rw [List.length_append, List.length_map, List.length_map, List.length_take, List.length_drop]; show _ ≤ 16777216; simp; omega) ⟨?_, rfl⟩
  rw [List.set_eq_take_append_cons_drop, if_pos (by omega)]
  simp

theorem law_bal_gives {S : Store} {M : Mine} {lv : List Int} (ok : MineOk M) (hz : M.ways.length ≤ 1000) (hl : lv.length = M.places.toNat) :
    GE (F_law_is_balanced [mineD M, .tup (lv.map D.int)] S) fun d S' => d = .bl (balancedB M lv) ∧ All S S' := by
  refine ge_den rfl ?_
  unfold M_law_is_balanced
  have hi := ok.ends.1
  have ho := ok.ends.2.1
  have hlo := ok.lo
  refine gs_seq (gs_if (ge_B (ge_bin (ge_bin (ge_var rfl (ge_bin (ge_var (d := mineD M) rfl (ge_c (ge_ixT (d := .int M.inlet) at2 (ge_ixT (at_ints hi.1 (by omega)) ?_))))))))))
  refine ge_bin (ge_var rfl (ge_bin (ge_var (d := mineD M) rfl (ge_c (ge_ixT (d := .int M.outlet) at3 (ge_ixT (at_ints ho.1 (by omega)) ?_))))))
  refine ge_le ⟨_, rfl, fun c => ?_, fun c => ?_⟩
  · have c := of_decide_eq_true c
    walk_at "stp"
    refine ⟨?_, .refl⟩
    unfold balancedB lvl
    rw [decide_eq_false (by omega)]
    rfl
  · have c := of_decide_eq_false c
    have c' : lvl lv M.outlet < lvl lv M.inlet := by unfold lvl; omega
    refine gs_nx (then_nx (gs_seq (gs_for (gi_items (ge_call (ge_cons (ge_var rfl (ge_nil ?_))))))))
    refine (inner_law ok).mono ?_
    rintro _ S1 ⟨q, rfl, hq, h1, a1⟩
    refine .inr ⟨q, _, rfl, lat_lst h1, ?_⟩
    have hm := fun x (h : x ∈ inner M) => inner_mem h
    have hb : balancedB M lv = (inner M).all fun x => (toward M lv x 1).isSome == (toward M lv x (-1)).isSome := by
      unfold balancedB
      rw [decide_eq_true c', Bool.true_and]
    rw [hb]
    generalize inner M = l at hm h1
    refine gs_forR _ (fun i ρ S' => ∃ x2 x3 x4 x5 x6 : Option D, ρ = [some (mineD M), some (.tup (lv.map D.int)), x2, x3, x4, x5, x6] ∧ All S1 S' ∧ ((l.take i).all fun x => (toward M lv x 1).isSome == (toward M lv x (-1)).isSome) = true) ⟨none, none, none, none, none, rfl, .refl, rfl⟩ ?_ ?_
    · rintro k d ρ S2 hd ⟨x2, x3, x4, x5, x6, rfl, a2, hall⟩
      rw [List.getElem?_map] at hd
      obtain ⟨x, hx, rfl⟩ := Option.map_eq_some_iff.mp hd
      have hxr := hm x (List.mem_of_getElem? hx)
      refine ⟨still_lst (a2 _ _ h1), gt_name (gs_seq (gs_asg (ge_lst (ge_nil ⟨Nat.zero_le _, gt_name (then_nx ?_)⟩))))⟩
      refine gs_seq (gs_for (gi_items (ge_bin (ge_var (d := mineD M) rfl (ge_c (ge_ixT (d := .tup (M.ways.map Law.pairD)) at1 (.inl ⟨_, rfl, ?_⟩)))))))
      have l1 : (S2 ++ [.lst []])[S2.length]? = some (.lst (((hits M.ways x 0).map fun w => sgn (lvl lv (far M x w)) (lvl lv x)).map D.int)) := get_new
      have b1 : All S2 (S2 ++ [MO.lst []]) := .app
      generalize hr : S2.length = r at l1 ⊢
      have hr : S2.length ≤ r := Nat.le_of_eq hr
      generalize (S2 ++ [MO.lst []]) = S3 at l1 b1 ⊢
      refine gs_forL (fun i ρ S' => ∃ x4 x5 x6 : Option D, ρ = [some (mineD M), some (.tup (lv.map D.int)), some (.int x), some (.lr r), x4, x5, x6] ∧ S'[r]? = some (.lst (((hits M.ways x i).map fun w => sgn (lvl lv (far M x w)) (lvl lv x)).map D.int)) ∧ All S2 S') ⟨_, _, _, rfl, l1, b1⟩ ?_ ?_
      · rintro i d ρ S4 hd ⟨x4, x5, x6, rfl, h4, a4⟩
        rw [List.getElem?_map] at hd
        obtain ⟨p, hp, rfl⟩ := Option.map_eq_some_iff.mp hd
        have hil := (List.getElem?_eq_some_iff.mp hp).1
        obtain ⟨p1, p2, p3⟩ := ok.ways p (List.mem_of_getElem? hp)
        have hf : far M x (i : Int) = if x = p.1 then p.2 else p.1 := by unfold far; rw [Int.toNat_natCast, hp]
        have hle := hits_length M.ways x i
        refine ⟨rfl, gt_tup (ds := [.int p.1, .int p.2]) rfl (gt_cons (gt_name (gt_cons (gt_name (gt_nil ?_)))))⟩
        refine gs_if (ge_B (ge_bin (ge_var rfl (ge_tup (ge_cons (ge_var rfl (ge_cons (ge_var rfl (ge_nil ⟨Nat.le_of_ble_eq_true rfl, ge_in (ds := [.int p.1, .int p.2]) rfl rfl ?_⟩)))))))))
        have ht : touch M.ways x i = decide (p.1 = x ∨ p.2 = x) := by unfold touch; rw [hp]
        rw [inD_pair]
        refine ⟨_, rfl, fun c1 => ?_, fun c1 => ?_⟩
        · have c1 : p.1 = x ∨ p.2 = x := of_decide_eq_true c1
          have hef : (if p.1 = x then p.2 else p.1) = far M x (i : Int) := by
            rw [hf]
            by_cases e : p.1 = x
            · rw [if_pos e, if_pos e.symm]
            · rw [if_neg e, if_neg fun z => e z.symm]
          have hfr : 0 ≤ far M x (i : Int) ∧ far M x (i : Int) < M.places := by rw [hf]; split <;> assumption
          have go : ∀ (y : Int), y = far M x (i : Int) → ∀ (QS : Fl → Ev → Store → Prop), QS .nx [some (mineD M), some (.tup (lv.map D.int)), some (.int x), some (.lr r), some (.int p.1), some (.int p.2), some (.int y)] (S4.set r (.lst (((hits M.ways x i).map fun w => sgn (lvl lv (far M x w)) (lvl lv x)).map D.int ++ [.int (sgn (lvl lv (far M x (i : Int))) (lvl lv x))]))) →
              GS (mDrop (mApp (mVar 3) (mCons (mCall F_law_sign (mCons (mBin fSub (mBin fIx (mVar 1) (mVar 6)) (mBin fIx (mVar 1) (mVar 2))) mNil)) mNil)) [some (mineD M), some (.tup (lv.map D.int)), some (.int x), some (.lr r), some (.int p.1), some (.int p.2), some (.int y)] S4) QS := by
            intro y ey QS hQ
            refine gs_drop (ge_app (ge_var rfl ⟨r, rfl, ⟨_, mat_lst h4⟩, ?_⟩))
            subst ey
            refine ge_cons (ge_call (ge_cons (ge_bin (ge_bin (ge_var rfl (ge_var rfl (ge_ixT (at_ints hfr.1 (by omega)) ?_)))))))
            refine ge_bin (ge_var rfl (ge_var rfl (ge_ixT (at_ints hxr.1 (by omega)) (ge_sub (ge_nil ?_)))))
            refine sign_law.mono ?_
            rintro _ S5 ⟨rfl, rfl⟩
            refine ge_nil ⟨_, _, rfl, mat_lst h4, by rw [List.length_map, List.length_map]; show _ < 16777216; omega, ?_⟩
            rw [sgn_sub]
            exact hQ
          refine gs_seq (gs_asg (ge_if (ge_B (ge_bin (ge_var rfl (ge_var rfl (ge_eqI ⟨_, rfl, fun c2 => ?_, fun c2 => ?_⟩)))))))
          · have c2 := of_decide_eq_true c2
            rw [if_pos c2] at hef
            refine ge_var rfl (gt_name (then_nx ?_))
            refine go _ hef _ ?_
            refine ⟨.inl rfl, _, _, _, rfl, ?_, a4.wr hr⟩
            rw [get_set h4, hits_succ, ht, if_pos (decide_eq_true c1), List.map_append, List.map_append]
            rfl
          · have c2 := of_decide_eq_false c2
            rw [if_neg c2] at hef
            refine ge_var rfl (gt_name (then_nx ?_))
            refine go _ hef _ ?_
            refine ⟨.inl rfl, _, _, _, rfl, ?_, a4.wr hr⟩
            rw [get_set h4, hits_succ, ht, if_pos (decide_eq_true c1), List.map_append, List.map_append]
            rfl
        · have c1 : ¬ (p.1 = x ∨ p.2 = x) := of_decide_eq_false c1
          refine gs_nx ⟨.inl rfl, _, _, _, rfl, ?_, a4⟩
          rw [hits_succ, ht, if_neg (by rw [decide_eq_false c1]; exact Bool.false_ne_true)]
          exact h4
      · rintro ρ S4 ⟨x4, x5, x6, rfl, h4, a4⟩
        refine ⟨rfl, then_nx ?_⟩
        rw [List.length_map] at h4
        have some_iff : ∀ s, (toward M lv x s).isSome = decide (s ∈ (hits M.ways x M.ways.length).map fun w => sgn (lvl lv (far M x w)) (lvl lv x)) := fun s => by
          unfold toward
          rw [Bool.eq_iff_iff, List.find?_isSome, decide_eq_true_eq, List.mem_map]
          constructor
          · rintro ⟨w, h5, h6⟩; exact ⟨w, h5, of_decide_eq_true h6⟩
          · rintro ⟨w, h5, h6⟩; exact ⟨w, h5, decide_eq_true h6⟩
        refine gs_if (ge_B (ge_bin (ge_bin (ge_c (ge_var rfl (ge_in (lat_lst h4) (by rw [flat_ints]; rfl) ?_))))))
        refine ge_bin (ge_neg (ge_c ⟨1, rfl, ge_var rfl (ge_in (lat_lst h4) (by rw [flat_ints]; rfl) (ge_neB ?_))⟩))
        rw [inD_ints, inD_ints, if_neg Bool.false_ne_true, if_neg Bool.false_ne_true, ← some_iff, ← some_iff]
        have a5 := a2.trans a4
        refine ⟨_, rfl, fun c1 => ?_, fun c1 => ?_⟩
        · walk_at "stp"
          refine ⟨?_, a1.trans a5⟩
          congr 1
          refine (Bool.eq_false_iff.mpr fun z => ?_).symm
          have := List.all_eq_true.mp z x (List.mem_of_getElem? hx)
          rw [eq_of_beq this] at c1
          simp at c1
        · refine gs_nx ⟨_, _, _, _, _, rfl, a5, ?_⟩
          rw [List.take_add_one, hx, List.all_append, hall]
          have : ((toward M lv x 1).isSome == (toward M lv x (-1)).isSome) = true := by
            revert c1
            cases (toward M lv x 1).isSome <;> cases (toward M lv x (-1)).isSome <;> simp
          simp [this]
    · rintro ρ S2 ⟨x2, x3, x4, x5, x6, rfl, a2, hall⟩
      refine ⟨still_lst (a2 _ _ h1), then_nx (gs_ret (ge_c ⟨?_, a1.trans a2⟩))⟩
      rw [List.length_map, List.take_length] at hall
      rw [hall]
end K05

set_option Elab.async false
set_option linter.all false
set_option maxRecDepth 100000
set_option maxHeartbeats 4000000
set_option exponentiation.threshold 9000
namespace K05
open PySem PySem.Spec PyProof.Rows L2 MS Law Air
local macro_rules | `(tactic| walk_at "st") => `(tactic| first
  | with_reducible refine gs_seq ?_ | with_reducible refine gs_asg ?_ | with_reducible refine gs_ret ?_ | with_reducible refine gs_retN ?_ | with_reducible refine gs_drop ?_ | with_reducible refine gs_if ?_ | with_reducible refine gs_par ?_ | with_reducible refine gs_for ?_ | with_reducible refine gs_nx ?_
  | with_reducible refine ge_cons ?_ | with_reducible refine ge_nil ?_ | with_reducible refine ge_c ?_ | with_reducible refine ge_bin ?_ | with_reducible refine ge_call ?_
  | ((with_reducible refine ge_var (d := ?d) ?h ?_); case h => exact rfl)
  | ((with_reducible refine gs_aug (d := ?d) ?h ?_); case h => exact rfl)
  | (with_reducible refine ge_tup ?_) | (with_reducible refine ge_lst ?_) | with_reducible refine ge_B ?_ | with_reducible refine ge_and ?_ | with_reducible refine ge_or ?_ | with_reducible refine ge_not ?_ | with_reducible refine ge_if ?_ | with_reducible refine ge_andV ?_ | with_reducible refine ge_orV ?_ | with_reducible refine ge_notV ?_ | with_reducible refine ge_neg ?_
  | with_reducible refine ge_sl ?_ | with_reducible refine ge_noPart ?_ | with_reducible refine ge_part ?_ | with_reducible refine ge_revT ?_ | with_reducible refine ge_app ?_ | with_reducible refine ge_lc ?_ | with_reducible refine ge_chain ?_
  | with_reducible refine gi_items ?_ | with_reducible refine gi_range1 ?_ | with_reducible refine gi_range2 ?_ | with_reducible refine gi_enum ?_
  | with_reducible refine gt_name ?_ | with_reducible refine gt_nil ?_ | with_reducible refine gt_cons ?_ | with_reducible refine gt_tup rfl ?_ | with_reducible refine gt_sub ?_
  | with_reducible refine ge_fI ?_ | with_reducible refine ge_sub ?_ | with_reducible refine ge_add ?_ | with_reducible refine ge_lt ?_ | with_reducible refine ge_le ?_ | with_reducible refine ge_gt ?_ | with_reducible refine ge_ge ?_ | with_reducible refine ge_eqI ?_ | with_reducible refine ge_neI ?_ | with_reducible refine ge_eqS ?_ | with_reducible refine ge_neS ?_
  | with_reducible refine ge_int ?_ | with_reducible refine ge_min ?_ | with_reducible refine ge_max ?_ | with_reducible refine ge_abs ?_ | with_reducible refine ge_slT ?_
  | with_reducible refine then_nx ?_ | with_reducible refine then_rt ?_
  | ((with_reducible refine ge_ixL (ds := ?ds) (d := ?dd) ?hl ?he ?_); (case hl => first | exact lat_lst (by assumption) | exact lat_fz (by assumption)); (case he => first | exact at0 | exact at1 | exact at2 | exact at3))
  | ((with_reducible refine ge_ixT (d := ?dd) ?he ?_); (case he => first | exact at0 | exact at1 | exact at2 | exact at3))
  | ((with_reducible refine ge_len (ds := ?ds) ?hl ?_); (case hl => first | exact lat_lst (by assumption) | exact lat_fz (by assumption) | exact rfl))
  | ((with_reducible refine ge_mod ?hc ?_); (case hc => first | assumption | decide | omega))
  | ((with_reducible refine ge_div ?hc ?hd ?_); (case hc => first | assumption | decide | omega); (case hd => first | assumption | decide | omega))
  | ((with_reducible refine ge_mul ?hc ?_); (case hc => first | assumption | exact i64_left rfl | exact i64_right rfl))
  | ((with_reducible refine ge_pow ?hc ?_); (case hc => decide))
  | with_reducible refine ge_isN ?_ | with_reducible refine ge_isNotN ?_ | with_reducible refine ge_dnewK ?_ | with_reducible refine ge_dnewT ?_ | with_reducible refine ge_sortSet ?_ | with_reducible refine gt_dictk ?_ | with_reducible refine gs_augS ?_ | with_reducible refine then_ct ?_ | with_reducible refine gs_ct ?_ | with_reducible refine then_bk ?_ | with_reducible refine gs_bk ?_
  | (with_reducible refine ⟨_, rfl, ?_⟩) | (with_reducible refine ⟨_, _, rfl, ?_⟩))
local macro_rules | `(tactic| walk_at "stp") => `(tactic| repeat (first | walk_at "st" | refine ⟨Nat.le_of_ble_eq_true rfl, ?_⟩))

theorem whole_gives {S : Store} {v lo hi : Int} (h1 : lo ≤ v) (h2 : v ≤ hi) : GE (F_law_whole [.int v, .int lo, .int hi] S) fun d S' => d = .bl true ∧ S' = S := by
  refine ge_den rfl ?_
  unfold M_law_whole
  refine gs_ret (ge_andV (ge_isi (ge_var rfl ⟨rfl, true, kit_ii, ?_⟩)))
  refine ⟨_, rfl, fun _ => ?_, fun z => by cases z⟩
  refine ge_andV (ge_notV (ge_isi (ge_var rfl ⟨rfl, false, kit_ib, _, rfl, ?_⟩)))
  refine ⟨_, rfl, fun _ => ?_, fun z => by cases z⟩
  refine ge_chain (ge_var rfl (ge_var rfl (ge_le ⟨_, rfl, fun _ => ge_var rfl (ge_le ?_), fun z => absurd h1 (of_decide_eq_false z)⟩)))
  rw [decide_eq_true h2]
  exact ⟨rfl, rfl⟩
theorem tuple_gives {S : Store} {ds : List D} {n : Int} (hn : n = ds.length) : GE (F_law_is_tuple [.tup ds, .int n] S) fun d S' => d = .bl true ∧ S' = S := by
  refine ge_den rfl ?_
  unfold M_law_is_tuple
  refine gs_ret (ge_andV (ge_isi (ge_var rfl ⟨rfl, true, kit_tt, ?_⟩)))
  refine ⟨_, rfl, fun _ => ?_, fun z => by cases z⟩
  refine ge_bin (ge_call (ge_cons (ge_var rfl (ge_nil (ge_len (ds := ds) rfl (ge_var rfl (ge_eqI ?_)))))))
  rw [decide_eq_true hn.symm]
  exact ⟨rfl, rfl⟩
theorem smw_ints : ∀ {l : List Int}, Wks l → smwAll (l.map PyData.int) = true
  | [], _ => rfl
  | a :: l, h => by
    rw [List.map_cons]
    show (decide (a.natAbs < 2 ^ 1910) && smwAll (l.map PyData.int)) = true
    rw [decide_eq_true (show a.natAbs < 2 ^ 1910 from h a (List.mem_cons_self ..)), smw_ints fun z hz => h z (List.mem_cons_of_mem _ hz)]
    rfl
theorem wtw_ints : ∀ l : List Int, wtwAll (l.map PyData.int) = 644 * l.length
  | [] => rfl
  | a :: l => by
    rw [List.map_cons]
    show 642 + 2 + wtwAll (l.map PyData.int) = _
    rw [wtw_ints l, List.length_cons]; omega
theorem depth_ints (l : List Int) : PyData.depthAll (l.map PyData.int) = 0 := (ints_lay l).2

def pairP (w : Int × Int) : PyData := .tuple [.int w.1, .int w.2]
theorem smw_pairs {n : Int} (hn : n ≤ 8) : ∀ ws : List (Int × Int), (∀ w ∈ ws, WayOk n w) → smwAll (ws.map pairP) = true ∧ wtwAll (ws.map pairP) = 1293 * ws.length ∧ PyData.depthAll (ws.map pairP) ≤ 1
  | [], _ => ⟨rfl, rfl, Nat.zero_le _⟩
  | w :: ws, h => by
    obtain ⟨h1, h2, h3⟩ := smw_pairs hn ws fun x hx => h x (List.mem_cons_of_mem _ hx)
    obtain ⟨a, b, _⟩ := h w List.mem_cons_self
    have sm : ∀ i : Int, 0 ≤ i → i < 8 → smw (.int i) = true := fun i i0 i1 => by
      show decide (i.natAbs < 2 ^ 1910) = true
      refine decide_eq_true (Nat.lt_of_lt_of_le (show i.natAbs < 2 ^ 3 by omega) (Nat.pow_le_pow_right (by decide) (by decide)))
    refine ⟨?_, ?_, ?_⟩
    · show (smw (pairP w) && smwAll (ws.map pairP)) = true
      rw [h1]
      show ((smw (.int w.1) && (smw (.int w.2) && true)) && true) = true
      rw [sm w.1 (by omega) (by omega), sm w.2 (by omega) (by omega)]
      rfl
    · show wtw (pairP w) + 2 + wtwAll (ws.map pairP) = _
      rw [h2, List.length_cons]
      show (642 + 2 + (642 + 2 + 0) + 3) + 2 + _ = _
      omega
    · show max (PyData.depth (pairP w)) (PyData.depthAll (ws.map pairP)) ≤ 1
      have : PyData.depth (pairP w) = 1 := rfl
      omega
def mineP (M : Mine) : PyData := .tuple [.int M.places, .tuple (M.ways.map pairP), .int M.inlet, .int M.outlet]
theorem toPy_both {S : Store} {M : Mine} {lv : List Int} : toPy S 64 (.tup [mineD M, .tup (lv.map D.int)]) = some (.tuple [mineP M, .tuple (lv.map PyData.int)]) := by
  have e1 : (M.ways.map Law.pairD).mapM (toPy S 61) = some (M.ways.map pairP) := toPy_pairs (n := 59) _
  have e2 : (lv.map D.int).mapM (toPy S 62) = some (lv.map PyData.int) := toPy_ints (n := 61) _
  show (([mineD M, .tup (lv.map D.int)] : List D).mapM (toPy S 63)).map PyData.tuple = _
  have e3 : toPy S 63 (mineD M) = some (mineP M) := by
    show (([D.int M.places, .tup (M.ways.map Law.pairD), .int M.inlet, .int M.outlet] : List D).mapM (toPy S 62)).map PyData.tuple = _
    have e4 : toPy S 62 (.tup (M.ways.map Law.pairD)) = some (.tuple (M.ways.map pairP)) := by
      show ((M.ways.map Law.pairD).mapM (toPy S 61)).map PyData.tuple = _
      rw [e1]; rfl
    rw [List.mapM_cons, List.mapM_cons, e4]
    rfl
  have e5 : toPy S 63 (.tup (lv.map D.int)) = some (.tuple (lv.map PyData.int)) := by
    show ((lv.map D.int).mapM (toPy S 62)).map PyData.tuple = _
    rw [e2]; rfl
  rw [List.mapM_cons, List.mapM_cons, e3, e5]
  rfl
theorem ok_both {M : Mine} {lv : List Int} (ok : MineOk M) (few : M.ways.length ≤ 12) (hl : lv.length ≤ 1000) (hw : Wks lv) : okShow (.tuple [mineP M, .tuple (lv.map PyData.int)]) = true := by
  obtain ⟨h1, h2, h3⟩ := smw_pairs ok.hi M.ways ok.ways
  have hi := ok.ends.1
  have ho := ok.ends.2.1
  have hh := ok.hi
  have hlo := ok.lo
  have sm : ∀ i : Int, 0 ≤ i → i ≤ 8 → smw (.int i) = true := fun i i0 i1 => by
    show decide (i.natAbs < 2 ^ 1910) = true
    refine decide_eq_true (Nat.lt_of_lt_of_le (show i.natAbs < 2 ^ 4 by omega) (Nat.pow_le_pow_right (by decide) (by decide)))
  have hd0 : ∀ l : List Int, PyData.depthAll (l.map PyData.int) = 0 := fun l => (ints_lay l).2
  refine okShow_wide ?_ ?_ ?_
  · show ((smw (.int M.places) && (smwAll (M.ways.map pairP) && (smw (.int M.inlet) && (smw (.int M.outlet) && true)))) && (smwAll (lv.map PyData.int) && true)) = true
    rw [sm _ (by omega) hh, h1, sm M.inlet hi.1 (by omega), sm M.outlet ho.1 (by omega), smw_ints hw]
    rfl
  · show max (max (PyData.depth (.int M.places)) (max (PyData.depthAll (M.ways.map pairP) + 1) (max 0 (max 0 0))) + 1) (max (PyData.depthAll (lv.map PyData.int) + 1) 0) + 1 ≤ 64
    rw [hd0]
    have : PyData.depth (.int M.places) = 0 := rfl
    omega
  · show ((642 + 2 + ((wtwAll (M.ways.map pairP) + 3) + 2 + (642 + 2 + (642 + 2 + 0))) + 3) + 2 + ((wtwAll (lv.map PyData.int) + 3) + 2 + 0)) + 3 ≤ 16777216
    rw [h2, wtw_ints]
    omega
theorem ge_reprBoth {S : Store} {Q : D → Store → Prop} {M : Mine} {lv : List Int} (ok : MineOk M) (few : M.ways.length ≤ 12) (hl : lv.length ≤ 1000) (hw : Wks lv) (h : Q (.str (PyData.tuple [mineP M, .tuple (lv.map PyData.int)]).shown) S) : GE (cRepr [.tup [mineD M, .tup (lv.map D.int)]] S) Q := ge_repr toPy_both (ok_both ok few hl hw) h
theorem ge_reprBool {S : Store} {Q : D → Store → Prop} {b : Bool} (h : Q (.str (PyData.bool b).shown) S) : GE (cRepr [.bl b] S) Q := ge_repr rfl (okShow_wide rfl (by show 0 ≤ 64; decide) (by show 642 ≤ 16777216; decide)) h
end K05

set_option Elab.async false
set_option linter.all false
set_option maxRecDepth 100000
set_option maxHeartbeats 4000000
set_option exponentiation.threshold 9000
namespace K05
open PySem PySem.Spec PyProof.Rows L2 MS Law Air
local macro_rules | `(tactic| walk_at "st") => `(tactic| first
  | with_reducible refine gs_seq ?_ | with_reducible refine gs_asg ?_ | with_reducible refine gs_ret ?_ | with_reducible refine gs_retN ?_ | with_reducible refine gs_drop ?_ | with_reducible refine gs_if ?_ | with_reducible refine gs_par ?_ | with_reducible refine gs_for ?_ | with_reducible refine gs_nx ?_
  | with_reducible refine ge_cons ?_ | with_reducible refine ge_nil ?_ | with_reducible refine ge_c ?_ | with_reducible refine ge_bin ?_ | with_reducible refine ge_call ?_
  | ((with_reducible refine ge_var (d := ?d) ?h ?_); case h => exact rfl)
  | ((with_reducible refine gs_aug (d := ?d) ?h ?_); case h => exact rfl)
  | (with_reducible refine ge_tup ?_) | (with_reducible refine ge_lst ?_) | with_reducible refine ge_B ?_ | with_reducible refine ge_and ?_ | with_reducible refine ge_or ?_ | with_reducible refine ge_not ?_ | with_reducible refine ge_if ?_ | with_reducible refine ge_andV ?_ | with_reducible refine ge_orV ?_ | with_reducible refine ge_notV ?_ | with_reducible refine ge_neg ?_
  | with_reducible refine ge_sl ?_ | with_reducible refine ge_noPart ?_ | with_reducible refine ge_part ?_ | with_reducible refine ge_revT ?_ | with_reducible refine ge_app ?_ | with_reducible refine ge_lc ?_ | with_reducible refine ge_chain ?_
  | with_reducible refine gi_items ?_ | with_reducible refine gi_range1 ?_ | with_reducible refine gi_range2 ?_ | with_reducible refine gi_enum ?_
  | with_reducible refine gt_name ?_ | with_reducible refine gt_nil ?_ | with_reducible refine gt_cons ?_ | with_reducible refine gt_tup rfl ?_ | with_reducible refine gt_sub ?_
  | with_reducible refine ge_fI ?_ | with_reducible refine ge_sub ?_ | with_reducible refine ge_add ?_ | with_reducible refine ge_lt ?_ | with_reducible refine ge_le ?_ | with_reducible refine ge_gt ?_ | with_reducible refine ge_ge ?_ | with_reducible refine ge_eqI ?_ | with_reducible refine ge_neI ?_ | with_reducible refine ge_eqS ?_ | with_reducible refine ge_neS ?_
  | with_reducible refine ge_int ?_ | with_reducible refine ge_min ?_ | with_reducible refine ge_max ?_ | with_reducible refine ge_abs ?_ | with_reducible refine ge_slT ?_
  | with_reducible refine then_nx ?_ | with_reducible refine then_rt ?_
  | ((with_reducible refine ge_ixL (ds := ?ds) (d := ?dd) ?hl ?he ?_); (case hl => first | exact lat_lst (by assumption) | exact lat_fz (by assumption)); (case he => first | exact at0 | exact at1 | exact at2 | exact at3))
  | ((with_reducible refine ge_ixT (d := ?dd) ?he ?_); (case he => first | exact at0 | exact at1 | exact at2 | exact at3))
  | ((with_reducible refine ge_len (ds := ?ds) ?hl ?_); (case hl => first | exact lat_lst (by assumption) | exact lat_fz (by assumption) | exact rfl))
  | ((with_reducible refine ge_mod ?hc ?_); (case hc => first | assumption | decide | omega))
  | ((with_reducible refine ge_div ?hc ?hd ?_); (case hc => first | assumption | decide | omega); (case hd => first | assumption | decide | omega))
  | ((with_reducible refine ge_mul ?hc ?_); (case hc => first | assumption | exact i64_left rfl | exact i64_right rfl))
  | ((with_reducible refine ge_pow ?hc ?_); (case hc => decide))
  | with_reducible refine ge_isN ?_ | with_reducible refine ge_isNotN ?_ | with_reducible refine ge_dnewK ?_ | with_reducible refine ge_dnewT ?_ | with_reducible refine ge_sortSet ?_ | with_reducible refine gt_dictk ?_ | with_reducible refine gs_augS ?_ | with_reducible refine then_ct ?_ | with_reducible refine gs_ct ?_ | with_reducible refine then_bk ?_ | with_reducible refine gs_bk ?_
  | (with_reducible refine ⟨_, rfl, ?_⟩) | (with_reducible refine ⟨_, _, rfl, ?_⟩))
local macro_rules | `(tactic| walk_at "stp") => `(tactic| repeat (first | walk_at "st" | refine ⟨Nat.le_of_ble_eq_true rfl, ?_⟩))

theorem drops_small {M : Mine} {lv : List Int} {mx mn : Int} (ok : MineOk M) (hl : lv.length = M.places.toNat) (h1 : ∀ y ∈ lv, y ≤ mx) (h2 : ∀ y ∈ lv, mn ≤ y) (h3 : mx - mn < 10000) : ∀ d ∈ dropsP M lv, d ≤ 10000 := fun d hd => by
  unfold dropsP at hd
  obtain ⟨p, hp, rfl⟩ := List.mem_map.mp hd
  obtain ⟨p1, p2, _⟩ := ok.ways p hp
  have hlo := ok.lo
  have m1 : lvl lv p.1 ∈ lv := Air.getD_mem (by omega)
  have m2 : lvl lv p.2 ∈ lv := Air.getD_mem (by omega)
  have := h1 _ m1
  have := h1 _ m2
  have := h2 _ m1
  have := h2 _ m2
  unfold absI
  split <;> omega
theorem right_gives {S : Store} {M : Mine} {lv : List Int} (ok : MineOk M) (few : M.ways.length ≤ 12) (hl : lv.length = M.places.toNat) (hw : Wks lv) :
    GE (F_law_right [mineD M, .tup (lv.map D.int)] S) fun d S' => d = .bl true ∧ All S S' := by
  have hz : M.ways.length ≤ 1000 := by omega
  have hlo := ok.lo
  have hhi := ok.hi
  have hl8 : lv.length ≤ 1000 := by omega
  have hwd : Wds lv := fun z hz => (hw z hz).wd (by decide)
  refine ge_den rfl ?_
  unfold M_law_right
  refine gs_seq (gs_par (ge_cons (ge_call (ge_cons (ge_var rfl (ge_cons (ge_var rfl (ge_nil ?_))))))))
  refine (law_bal_gives (S := S) (lv := lv) ok hz hl).mono ?_
  rintro _ S1 ⟨rfl, a1⟩
  refine ge_cons (ge_call (ge_cons (ge_tup (ge_cons (ge_var rfl (ge_cons (ge_var rfl (ge_nil ⟨Nat.le_of_ble_eq_true rfl, ge_nil (ge_reprBoth ok few hl8 hw (ge_nil ⟨_, _, rfl, then_nx ?_⟩))⟩))))))))
  refine gs_seq (gs_if (ge_B (ge_bin (ge_call (ge_cons (ge_call (ge_cons (ge_var rfl (ge_cons (ge_var rfl (ge_nil ?_)))))))))))
  refine (bal_gives (S := S1) (lv := lv) ok hz hl).mono ?_
  rintro _ S2 ⟨rfl, a2⟩
  refine ge_nil (ge_reprBool (ge_call (ge_cons (ge_var rfl (ge_nil (ge_reprBool (ge_neS ⟨_, rfl, fun z => (by simp at z), fun _ => gs_nx (then_nx ?_)⟩)))))))
  have a12 := a1.trans a2
  have fin : ∀ (x4 x5 : Option D) (S' : Store), All S S' → GS (mRet (mBin fEq (mCall cRepr (mCons (mTup (mCons (mVar 0) (mCons (mVar 1) mNil))) mNil)) (mVar 3))
      [some (mineD M), some (.tup (lv.map D.int)), some (.bl (balancedB M lv)), some (.str (PyData.tuple [mineP M, .tuple (lv.map PyData.int)]).shown), x4, x5] S') (fun f x S' => match f with
        | .rt d => d = .bl true ∧ All S S'
        | .nx => D.non = .bl true ∧ All S S'
        | _ => False) := fun x4 x5 S' a => by
    refine gs_ret (ge_bin (ge_call (ge_cons (ge_tup (ge_cons (ge_var rfl (ge_cons (ge_var rfl (ge_nil ⟨Nat.le_of_ble_eq_true rfl, ge_nil (ge_reprBoth ok few hl8 hw (ge_var rfl (ge_eqS ?_)))⟩)))))))))
    refine ⟨?_, a⟩
    rw [decide_eq_true rfl]
  have hne : lv ≠ [] := fun e => by rw [e] at hl; have : (0 : Nat) = M.places.toNat := hl; omega
  obtain ⟨mx, hmx⟩ := maxI_some hne
  obtain ⟨mn, hmn⟩ := minI_some hne
  obtain ⟨x1, x2⟩ := maxI_spec hmx
  obtain ⟨n1, n2⟩ := minI_spec hmn
  refine gs_seq (gs_if (ge_and (ge_B (ge_var rfl ⟨_, rfl, fun hb => ?_, fun _ => ⟨fun z => (by cases z), fun _ => gs_nx (then_nx (fin _ _ _ a12))⟩⟩))))
  refine ge_and (ge_B (ge_bin (ge_bin (ge_call (ge_cons (ge_var rfl (ge_nil (ge_maxA rfl hmx ?_))))))))
  refine ge_call (ge_cons (ge_var rfl (ge_nil (ge_minA rfl hmn (ge_sub (ge_bin (ge_c (ge_c (ge_pow (by decide) (ge_lt ⟨_, rfl, fun c1 => ?_, fun _ => ⟨fun z => (by cases z), fun _ => gs_nx (then_nx (fin _ _ _ a12))⟩⟩))))))))))
  have c1 : mx - mn < 10000 := of_decide_eq_true c1
  refine ge_B (ge_bin (ge_call (ge_cons (ge_var rfl (ge_nil (ge_maxA rfl hmx (ge_bin (ge_c (ge_c (ge_pow (by decide) (ge_lt ⟨_, rfl, fun c2 => ?_, fun _ => gs_nx (then_nx (fin _ _ _ a12))⟩)))))))))))
  have small := drops_small ok hl x2 n2 c1
  refine gs_seq (gs_asg (ge_call (ge_cons (ge_var rfl (ge_cons (ge_var rfl (ge_nil ?_)))))))
  refine (widths_gives_ (S := S2) (lv := lv) ok few hl small).mono ?_
  rintro _ S3 ⟨rfl, a3⟩
  have hwl : (widthsP M lv).length = M.ways.length := widthsP_len
  have hbd : ∀ v ∈ widthsP M lv, 1 ≤ v ∧ v ≤ 10 ^ 60 := fun v hv => by
    obtain ⟨i, hi, e⟩ := List.getElem_of_mem hv
    have := widths_bd ok few small (lv := lv) (i := i) (by omega)
    rw [List.getD_eq_getElem?_getD, List.getElem?_eq_getElem hi, e] at this
    exact ⟨this.1, this.2.1⟩
  refine gt_name (then_nx (gs_seq (gs_if (ge_not (ge_B (ge_call (ge_cons (ge_var rfl (ge_cons (ge_call (ge_cons (ge_bin (ge_var (d := mineD M) rfl (ge_c (ge_ixT (d := .tup (M.ways.map Law.pairD)) at1 (ge_nil (ge_len (ds := M.ways.map Law.pairD) rfl (ge_nil ?_))))))))))))))))))
  rw [List.length_map]
  refine (tuple_gives (ds := (widthsP M lv).map D.int) (by rw [List.length_map, hwl])).mono ?_
  rintro _ S4 ⟨rfl, rfl⟩
  refine ⟨_, rfl, fun z => (by cases z), fun _ => gs_nx (then_nx ?_)⟩
  refine gs_seq (gs_if (ge_B (ge_bin (ge_lc (gi_items (ge_var (d := widthsD (widthsP M lv)) rfl (.inl ⟨_, rfl, ?_⟩)))))))
  obtain ⟨S5, e5, b5, h5⟩ : ∃ S', lcL always (mName 5) (mNot (mB (mCall F_law_whole (mCons (mVar 5) (mCons (mC (.int 1)) (mCons (mBin fPow (mC (.int 10)) (mC (.int 60))) mNil)))))) (mC (.int 1)) [some (mineD M), some (.tup (lv.map D.int)), some (.bl (balancedB M lv)), some (.str (PyData.tuple [mineP M, .tuple (lv.map PyData.int)]).shown), some (widthsD (widthsP M lv)), none] S4.length ((widthsP M lv).map D.int) (S4 ++ [.lst []]) = some S' ∧ (All S4 S' ∧ S'[S4.length]? = some (.lst [])) := by
    refine lc_by (fun i S' => All S4 S' ∧ S'[S4.length]? = some (.lst [])) ⟨.app, get_new⟩ (fun i d S6 hd ⟨b6, h6⟩ => ⟨rfl, ?_⟩) fun S6 h => ⟨rfl, h⟩
    rw [List.getElem?_map] at hd
    obtain ⟨v, hv, rfl⟩ := Option.map_eq_some_iff.mp hd
    obtain ⟨v1, v2⟩ := hbd v (List.mem_of_getElem? hv)
    refine gt_name (ge_not (ge_B (ge_call (ge_cons (ge_var rfl (ge_cons (ge_c (ge_cons (ge_bin (ge_c (ge_c (ge_pow (by decide) (ge_nil ?_)))))))))))))
    refine (whole_gives (S := S6) (v := v) (lo := 1) (hi := 10 ^ (60 : Int).toNat) v1 v2).mono ?_
    rintro _ S7 ⟨rfl, rfl⟩
    exact ⟨_, rfl, fun z => (by cases z), fun _ => ⟨b6, h6⟩⟩
  refine ⟨S5, e5, ?_⟩
  refine ge_lst (ge_nil ⟨Nat.zero_le _, ?_⟩)
  refine ge_neNil (ns := []) (lat_lst (get_app h5)) (lat_lst get_new) ⟨_, rfl, fun z => (by cases z), fun _ => gs_nx (then_nx ?_)⟩
  refine gs_if (ge_not (ge_B (ge_call (ge_cons (ge_var rfl (ge_cons (ge_var rfl (ge_cons (ge_var rfl (ge_nil ?_))))))))))
  have hst : stateB M (widthsP M lv) lv = true := by
    unfold balancedB at hb
    rw [Bool.and_eq_true] at hb
    unfold stateB
    rw [Bool.and_eq_true]
    refine ⟨hb.1, List.all_eq_true.mpr fun z hz' => decide_eq_true ?_⟩
    exact widths_state ok (by unfold balancedB; rw [Bool.and_eq_true]; exact hb) few small hz'
  refine (law_state_gives (S := S5 ++ [.lst []]) (ws := widthsP M lv) (lv := lv) ok hz ⟨hwl, hl, fun v hv => ?_, hwd⟩).mono ?_
  · obtain ⟨v1, v2⟩ := hbd v hv
    unfold wd
    have : (10 : Nat) ^ 60 < 2 ^ 2000 := by decide
    omega
  rintro _ S6 ⟨rfl, a6⟩
  rw [hst]
  refine ⟨_, rfl, fun z => (by cases z), fun _ => gs_nx (then_nx (fin _ _ _ ?_))⟩
  exact ((a12.trans a3).trans b5).trans (All.trans .app a6)
end K05

set_option Elab.async false
set_option linter.all false
set_option maxRecDepth 100000
set_option maxHeartbeats 4000000
set_option exponentiation.threshold 9000
namespace K05
open PySem PySem.Spec PyProof.Rows L2 MS Law Air
local macro_rules | `(tactic| walk_at "st") => `(tactic| first
  | with_reducible refine gs_seq ?_ | with_reducible refine gs_asg ?_ | with_reducible refine gs_ret ?_ | with_reducible refine gs_retN ?_ | with_reducible refine gs_drop ?_ | with_reducible refine gs_if ?_ | with_reducible refine gs_par ?_ | with_reducible refine gs_for ?_ | with_reducible refine gs_nx ?_
  | with_reducible refine ge_cons ?_ | with_reducible refine ge_nil ?_ | with_reducible refine ge_c ?_ | with_reducible refine ge_bin ?_ | with_reducible refine ge_call ?_
  | ((with_reducible refine ge_var (d := ?d) ?h ?_); case h => exact rfl)
  | ((with_reducible refine gs_aug (d := ?d) ?h ?_); case h => exact rfl)
  | (with_reducible refine ge_tup ?_) | (with_reducible refine ge_lst ?_) | with_reducible refine ge_B ?_ | with_reducible refine ge_and ?_ | with_reducible refine ge_or ?_ | with_reducible refine ge_not ?_ | with_reducible refine ge_if ?_ | with_reducible refine ge_andV ?_ | with_reducible refine ge_orV ?_ | with_reducible refine ge_notV ?_ | with_reducible refine ge_neg ?_
  | with_reducible refine ge_sl ?_ | with_reducible refine ge_noPart ?_ | with_reducible refine ge_part ?_ | with_reducible refine ge_revT ?_ | with_reducible refine ge_app ?_ | with_reducible refine ge_lc ?_ | with_reducible refine ge_chain ?_
  | with_reducible refine gi_items ?_ | with_reducible refine gi_range1 ?_ | with_reducible refine gi_range2 ?_ | with_reducible refine gi_enum ?_
  | with_reducible refine gt_name ?_ | with_reducible refine gt_nil ?_ | with_reducible refine gt_cons ?_ | with_reducible refine gt_tup rfl ?_ | with_reducible refine gt_sub ?_
  | with_reducible refine ge_fI ?_ | with_reducible refine ge_sub ?_ | with_reducible refine ge_add ?_ | with_reducible refine ge_lt ?_ | with_reducible refine ge_le ?_ | with_reducible refine ge_gt ?_ | with_reducible refine ge_ge ?_ | with_reducible refine ge_eqI ?_ | with_reducible refine ge_neI ?_ | with_reducible refine ge_eqS ?_ | with_reducible refine ge_neS ?_
  | with_reducible refine ge_int ?_ | with_reducible refine ge_min ?_ | with_reducible refine ge_max ?_ | with_reducible refine ge_abs ?_ | with_reducible refine ge_slT ?_
  | with_reducible refine then_nx ?_ | with_reducible refine then_rt ?_
  | ((with_reducible refine ge_ixL (ds := ?ds) (d := ?dd) ?hl ?he ?_); (case hl => first | exact lat_lst (by assumption) | exact lat_fz (by assumption)); (case he => first | exact at0 | exact at1 | exact at2 | exact at3))
  | ((with_reducible refine ge_ixT (d := ?dd) ?he ?_); (case he => first | exact at0 | exact at1 | exact at2 | exact at3))
  | ((with_reducible refine ge_len (ds := ?ds) ?hl ?_); (case hl => first | exact lat_lst (by assumption) | exact lat_fz (by assumption) | exact rfl))
  | ((with_reducible refine ge_mod ?hc ?_); (case hc => first | assumption | decide | omega))
  | ((with_reducible refine ge_div ?hc ?hd ?_); (case hc => first | assumption | decide | omega); (case hd => first | assumption | decide | omega))
  | ((with_reducible refine ge_mul ?hc ?_); (case hc => first | assumption | exact i64_left rfl | exact i64_right rfl))
  | ((with_reducible refine ge_pow ?hc ?_); (case hc => decide))
  | with_reducible refine ge_isN ?_ | with_reducible refine ge_isNotN ?_ | with_reducible refine ge_dnewK ?_ | with_reducible refine ge_dnewT ?_ | with_reducible refine ge_sortSet ?_ | with_reducible refine gt_dictk ?_ | with_reducible refine gs_augS ?_ | with_reducible refine then_ct ?_ | with_reducible refine gs_ct ?_ | with_reducible refine then_bk ?_ | with_reducible refine gs_bk ?_
  | (with_reducible refine ⟨_, rfl, ?_⟩) | (with_reducible refine ⟨_, _, rfl, ?_⟩))
local macro_rules | `(tactic| walk_at "stp") => `(tactic| repeat (first | walk_at "st" | refine ⟨Nat.le_of_ble_eq_true rfl, ?_⟩))

theorem get_other {S : Store} {n m : Nat} {x y : MO} (h : n ≠ m) (e : S[m]? = some x) : (S.set n y)[m]? = some x := by rw [get_ne h]; exact e
theorem one_tup {S : Store} {p g : Nat} {ds : List D} (h : Pen S p g) (h1 : 1 ≤ ds.length) (h2 : ds.length < 1073741824) : GE (F_law_one_of [.lr p, .tup ds] S) fun d S' => d ∈ ds ∧ Pen S' p g ∧ Keeps p S S' := by
  refine ge_den rfl ?_
  unfold M_law_one_of
  refine gs_ret (ge_bin (ge_var rfl (ge_call (ge_cons (ge_var rfl (ge_cons (ge_call (ge_cons (ge_var rfl (ge_nil (ge_len (ds := ds) rfl (ge_nil ?_))))))))))))
  refine (draw_gives h (by omega) (by omega)).mono ?_
  rintro _ S1 ⟨n, rfl, hn, hn2, h3, k1⟩
  obtain ⟨x, e, hx⟩ := atI_of hn hn2
  exact ge_ixT e ⟨hx, h3, k1⟩
theorem sortU_len : ∀ ns : List Int, (sortU ns).length ≤ ns.length
  | [] => Nat.le_refl _
  | x :: ns => by
    have h1 := sortU_len ns
    have h2 : ∀ l : List Int, (insU x l).length ≤ l.length + 1 := fun l => by
      induction l with
      | nil => exact Nat.le_refl _
      | cons y l ih =>
        unfold insU
        split
        · exact Nat.le_refl _
        · split
          · exact Nat.le_succ _
          · rw [List.length_cons, List.length_cons]; omega
    have := h2 (sortU ns)
    show (insU x (sortU ns)).length ≤ ns.length + 1
    omega
theorem stretched_gives {S : Store} {p g : Nat} {lv : List Int} (h : Pen S p g) (hl : lv.length ≤ 8) :
    GE (F_law_stretched [.lr p, .tup (lv.map D.int)] S) fun d S' => ∃ lv' : List Int, d = .tup (lv'.map D.int) ∧ lv'.length = lv.length ∧ (∀ z ∈ lv', -800 ≤ z ∧ z ≤ 20000) ∧ Pen S' p g := by
  refine ge_den rfl ?_
  unfold M_law_stretched
  obtain ⟨l1, l2⟩ := h.lt
  refine gs_seq (gs_asg (ge_tup (ge_cons (ge_dnewK (ge_cons (ge_call (ge_cons (ge_var rfl (ge_cons (ge_lst ?_))))))))))
  have hp1 : Pen (S ++ [.dk []]) p g := h.app
  have d1 : (S ++ [MO.dk []])[S.length]? = some (.dk []) := get_new
  have hlen1 : (S ++ [MO.dk []]).length = S.length + 1 := by simp
  generalize (S ++ [MO.dk []]) = S1 at hp1 d1 hlen1 ⊢
  generalize S.length = dh at l1 l2 d1 hlen1 ⊢
  refine ge_cons (ge_c (ge_cons (ge_neg (ge_c ⟨5, rfl, ge_cons (ge_neg (ge_c ⟨800, rfl, ge_cons (ge_c (ge_nil ⟨Nat.le_of_ble_eq_true rfl, ge_nil ?_⟩))⟩))⟩))))
  refine (one_of_gives (hp1.app) get_new (by omega) (Nat.le_of_ble_eq_true rfl) (by show 4 < 1073741824; decide)).mono ?_
  rintro d0 S2 ⟨hm, hp2, k2⟩
  have hb : ∃ b : Int, d0 = .int b ∧ -800 ≤ b ∧ b ≤ 2500 := by
    simp only [List.mem_cons, List.not_mem_nil, or_false] at hm
    rcases hm with rfl | rfl | rfl | rfl
    · exact ⟨0, rfl, by decide, by decide⟩
    · exact ⟨-5, rfl, by decide, by decide⟩
    · exact ⟨-800, rfl, by decide, by decide⟩
    · exact ⟨_, rfl, by decide, by decide⟩
  obtain ⟨b0, rfl, hb1, hb2⟩ := hb
  have d2 : S2[dh]? = some (.dk []) := keep_at k2 (by omega) (get_app d1)
  refine ge_nil ⟨Nat.le_of_ble_eq_true rfl, gt_tup rfl (gt_cons (gt_name (gt_cons (gt_name (gt_nil (then_nx ?_))))))⟩
  refine gs_seq (gs_for (gi_items (ge_sortSet (ge_cons (ge_var rfl (ge_nil ⟨lv, rfl, by omega, ?_⟩))))))
  have n3 : (S2 ++ [.lst ((sortU lv).map D.int)])[S2.length]? = some (.lst ((sortU lv).map D.int)) := get_new
  have hp3 : Pen (S2 ++ [.lst ((sortU lv).map D.int)]) p g := hp2.app
  have d3 : (S2 ++ [.lst ((sortU lv).map D.int)])[dh]? = some (.dk []) := get_app d2
  have hdl : dh < S2.length := (List.getElem?_eq_some_iff.mp d2).1
  obtain ⟨q1, q2⟩ := hp2.lt
  generalize (S2 ++ [.lst ((sortU lv).map D.int)]) = S3 at n3 hp3 d3 ⊢
  generalize S2.length = n at n3 hdl q1 q2 ⊢
  refine .inr ⟨n, _, rfl, lat_lst n3, ?_⟩
  have hsl := sortU_len lv
  have hall : ∀ v, v ∈ sortU lv ↔ v ∈ lv := fun v => mem_sortU
  generalize sortU lv = us at n3 hsl hall ⊢
  refine gs_forL (fun i ρ S' => ∃ (x2 : Option D) (here : Int) (kvs : List (Key × D)), ρ = [some (.lr p), some (.tup (lv.map D.int)), x2, some (.lr dh), some (.int here)] ∧ Pen S' p g ∧ S'[n]? = some (.lst (us.map D.int)) ∧ S'[dh]? = some (.dk kvs) ∧ kvs.length ≤ i ∧
      (-800 ≤ here ∧ here ≤ 2500 + 1001 * i) ∧ ∀ v ∈ us.take i, ∃ z : Int, valD kvs (Sum.inl v) = some (.int z) ∧ -800 ≤ z ∧ z ≤ 2500 + 1001 * i)
    ⟨none, b0, [], rfl, hp3, n3, d3, Nat.le_refl _, ⟨hb1, by omega⟩, fun v hv => absurd hv List.not_mem_nil⟩ ?_ ?_
  · rintro i d ρ S4 hd ⟨x2, here, kvs, rfl, hp4, n4, d4, hkl, hh, hv4⟩
    rw [List.getElem?_map] at hd
    obtain ⟨u, hu, rfl⟩ := Option.map_eq_some_iff.mp hd
    have hil := (List.getElem?_eq_some_iff.mp hu).1
    refine ⟨still_lst n4, gt_name (gs_seq (gs_asg (ge_var rfl (gt_dictk (ge_var rfl (ge_var rfl ⟨dh, kvs, Sum.inl u, rfl, d4, by show _ < 16777216; omega, rfl, then_nx ?_⟩))))))⟩
    have d5 : (S4.set dh (.dk (putD kvs (Sum.inl u) (.int here))))[dh]? = some (.dk (putD kvs (Sum.inl u) (.int here))) := get_set d4
    have n5 : (S4.set dh (.dk (putD kvs (Sum.inl u) (.int here))))[n]? = some (.lst (us.map D.int)) := get_other (by omega) n4
    have hp5 : Pen (S4.set dh (.dk (putD kvs (Sum.inl u) (.int here)))) p g := hp4.other (by omega) (by omega)
    generalize (S4.set dh (.dk (putD kvs (Sum.inl u) (.int here)))) = S5 at d5 n5 hp5 ⊢
    have hlt5 := hp5.lt
    have hdl5 : dh < S5.length := (List.getElem?_eq_some_iff.mp d5).1
    have hnl5 : n < S5.length := (List.getElem?_eq_some_iff.mp n5).1
    refine gs_asg (ge_bin (ge_bin (ge_var rfl (ge_c (ge_add (ge_call (ge_cons (ge_var rfl (ge_cons (ge_call (ge_cons (ge_var rfl (ge_cons (ge_lst ?_))))))))))))))
    refine ge_cons (ge_c (ge_cons (ge_c (ge_cons (ge_c (ge_cons (ge_c (ge_cons (ge_c (ge_nil ⟨Nat.le_of_ble_eq_true rfl, ge_nil ?_⟩))))))))))
    refine (one_of_gives (hp5.app) get_new (by omega) (Nat.le_of_ble_eq_true rfl) (by show 5 < 1073741824; decide)).mono ?_
    rintro d6 S6 ⟨hm6, hp6, k6⟩
    have hb6 : ∃ b : Int, d6 = .int b ∧ 1 ≤ b ∧ b ≤ 1000 := by
      simp only [List.mem_cons, List.not_mem_nil, or_false] at hm6
      rcases hm6 with rfl | rfl | rfl | rfl | rfl
      · exact ⟨1, rfl, by decide, by decide⟩
      · exact ⟨2, rfl, by decide, by decide⟩
      · exact ⟨7, rfl, by decide, by decide⟩
      · exact ⟨100, rfl, by decide, by decide⟩
      · exact ⟨1000, rfl, by decide, by decide⟩
    obtain ⟨b6, rfl, hb61, hb62⟩ := hb6
    have d6' := keep_at k6 (by omega) (get_app d5)
    have n6' := keep_at k6 (by omega) (get_app n5)
    refine ge_nil ?_
    refine (draw_gives hp6 (by omega) (by omega)).mono ?_
    rintro _ S7 ⟨t, rfl, ht0, ht1, hp7, k7⟩
    have d7 := keep_at k7 (by omega) d6'
    have n7 := keep_at k7 (by omega) n6'
    refine ge_add (gt_name ⟨.inl rfl, _, here + 1 + t, _, rfl, hp7, n7, d7, ?_, ⟨by omega, by omega⟩, fun v hv => ?_⟩)
    · have := putD_len (kvs := kvs) (k := Sum.inl u) (d := D.int here)
      omega
    · rw [valD_put]
      by_cases e : u = v
      · subst e
        exact ⟨here, if_pos rfl, by omega, by omega⟩
      · rw [if_neg fun z => e (Sum.inl.inj z)]
        rw [List.take_add_one, hu] at hv
        rcases List.mem_append.mp hv with hv | hv
        · obtain ⟨z, z1, z2, z3⟩ := hv4 v hv
          exact ⟨z, z1, z2, by omega⟩
        · have : v = u := by simpa using hv
          exact absurd this.symm e
  · rintro ρ S4 ⟨x2, here, kvs, rfl, hp4, n4, d4, hkl, hh, hv4⟩
    rw [List.length_map, List.take_length] at hv4
    refine ⟨still_lst n4, then_nx (gs_ret (ge_call (ge_cons (ge_lc (gi_items (ge_var rfl (.inl ⟨_, rfl, ?_⟩)))))))⟩
    have hv5 : ∀ v ∈ lv, ∃ z : Int, valD kvs (Sum.inl v) = some (.int z) ∧ -800 ≤ z ∧ z ≤ 20000 := fun v hv => by
      obtain ⟨z, z1, z2, z3⟩ := hv4 v ((hall v).mpr hv)
      exact ⟨z, z1, z2, by omega⟩
    let f : Int → Int := fun v => match valD kvs (Sum.inl v) with
      | some (.int z) => z
      | _ => 0
    have hf : ∀ v ∈ lv, valD kvs (Sum.inl v) = some (.int (f v)) ∧ -800 ≤ f v ∧ f v ≤ 20000 := fun v hv => by
      obtain ⟨z, z1, z2, z3⟩ := hv5 v hv
      have : f v = z := by show (match valD kvs (Sum.inl v) with | some (.int z) => z | _ => 0) = z; rw [z1]
      rw [this]
      exact ⟨z1, z2, z3⟩
    generalize f = f at hf
    obtain ⟨S5, e5, b5, h5⟩ := lc_map (ok := always) (g := mName 2) (e := mBin fIxD (mVar 3) (mVar 2)) (S := S4) (ds := lv.map D.int) (ys := (lv.map f).map D.int)
      (ρw := [some (.lr p), some (.tup (lv.map D.int)), none, some (.lr dh), some (.int here)]) (by rw [List.length_map, List.length_map, List.length_map]) (by rw [List.length_map]; omega) (fun _ _ => rfl) (fun i x y S' hx hy hS => by
        rw [List.getElem?_map] at hx
        obtain ⟨u, hu, rfl⟩ := Option.map_eq_some_iff.mp hx
        rw [List.getElem?_map, List.getElem?_map, hu] at hy
        cases hy
        refine gt_name ⟨rfl, ge_bin (ge_var rfl (ge_var rfl (ge_ixDk (k := Sum.inl u) (hS _ _ d4) rfl (hf u (List.mem_of_getElem? hu)).1 ⟨rfl, .refl⟩)))⟩)
    refine ⟨S5, e5, ge_nil (ge_tuple (lat_lst h5) ⟨lv.map f, rfl, by rw [List.length_map], fun z hz => ?_, b5.pen hp4⟩)⟩
    obtain ⟨v, hv, rfl⟩ := List.mem_map.mp hz
    exact (hf v hv).2
end K05

set_option Elab.async false
set_option linter.all false
set_option maxRecDepth 100000
set_option maxHeartbeats 4000000
set_option exponentiation.threshold 9000
namespace K05
open PySem PySem.Spec PyProof.Rows L2 MS Law Air
local macro_rules | `(tactic| walk_at "st") => `(tactic| first
  | with_reducible refine gs_seq ?_ | with_reducible refine gs_asg ?_ | with_reducible refine gs_ret ?_ | with_reducible refine gs_retN ?_ | with_reducible refine gs_drop ?_ | with_reducible refine gs_if ?_ | with_reducible refine gs_par ?_ | with_reducible refine gs_for ?_ | with_reducible refine gs_nx ?_
  | with_reducible refine ge_cons ?_ | with_reducible refine ge_nil ?_ | with_reducible refine ge_c ?_ | with_reducible refine ge_bin ?_ | with_reducible refine ge_call ?_
  | ((with_reducible refine ge_var (d := ?d) ?h ?_); case h => exact rfl)
  | ((with_reducible refine gs_aug (d := ?d) ?h ?_); case h => exact rfl)
  | (with_reducible refine ge_tup ?_) | (with_reducible refine ge_lst ?_) | with_reducible refine ge_B ?_ | with_reducible refine ge_and ?_ | with_reducible refine ge_or ?_ | with_reducible refine ge_not ?_ | with_reducible refine ge_if ?_ | with_reducible refine ge_andV ?_ | with_reducible refine ge_orV ?_ | with_reducible refine ge_notV ?_ | with_reducible refine ge_neg ?_
  | with_reducible refine ge_sl ?_ | with_reducible refine ge_noPart ?_ | with_reducible refine ge_part ?_ | with_reducible refine ge_revT ?_ | with_reducible refine ge_app ?_ | with_reducible refine ge_lc ?_ | with_reducible refine ge_chain ?_
  | with_reducible refine gi_items ?_ | with_reducible refine gi_range1 ?_ | with_reducible refine gi_range2 ?_ | with_reducible refine gi_enum ?_
  | with_reducible refine gt_name ?_ | with_reducible refine gt_nil ?_ | with_reducible refine gt_cons ?_ | with_reducible refine gt_tup rfl ?_ | with_reducible refine gt_sub ?_
  | with_reducible refine ge_fI ?_ | with_reducible refine ge_sub ?_ | with_reducible refine ge_add ?_ | with_reducible refine ge_lt ?_ | with_reducible refine ge_le ?_ | with_reducible refine ge_gt ?_ | with_reducible refine ge_ge ?_ | with_reducible refine ge_eqI ?_ | with_reducible refine ge_neI ?_ | with_reducible refine ge_eqS ?_ | with_reducible refine ge_neS ?_
  | with_reducible refine ge_int ?_ | with_reducible refine ge_min ?_ | with_reducible refine ge_max ?_ | with_reducible refine ge_abs ?_ | with_reducible refine ge_slT ?_
  | with_reducible refine then_nx ?_ | with_reducible refine then_rt ?_
  | ((with_reducible refine ge_ixL (ds := ?ds) (d := ?dd) ?hl ?he ?_); (case hl => first | exact lat_lst (by assumption) | exact lat_fz (by assumption)); (case he => first | exact at0 | exact at1 | exact at2 | exact at3))
  | ((with_reducible refine ge_ixT (d := ?dd) ?he ?_); (case he => first | exact at0 | exact at1 | exact at2 | exact at3))
  | ((with_reducible refine ge_len (ds := ?ds) ?hl ?_); (case hl => first | exact lat_lst (by assumption) | exact lat_fz (by assumption) | exact rfl))
  | ((with_reducible refine ge_mod ?hc ?_); (case hc => first | assumption | decide | omega))
  | ((with_reducible refine ge_div ?hc ?hd ?_); (case hc => first | assumption | decide | omega); (case hd => first | assumption | decide | omega))
  | ((with_reducible refine ge_mul ?hc ?_); (case hc => first | assumption | exact i64_left rfl | exact i64_right rfl))
  | ((with_reducible refine ge_pow ?hc ?_); (case hc => decide))
  | with_reducible refine ge_isN ?_ | with_reducible refine ge_isNotN ?_ | with_reducible refine ge_dnewK ?_ | with_reducible refine ge_dnewT ?_ | with_reducible refine ge_sortSet ?_ | with_reducible refine gt_dictk ?_ | with_reducible refine gs_augS ?_ | with_reducible refine then_ct ?_ | with_reducible refine gs_ct ?_ | with_reducible refine then_bk ?_ | with_reducible refine gs_bk ?_
  | (with_reducible refine ⟨_, rfl, ?_⟩) | (with_reducible refine ⟨_, _, rfl, ?_⟩))
local macro_rules | `(tactic| walk_at "stp") => `(tactic| repeat (first | walk_at "st" | refine ⟨Nat.le_of_ble_eq_true rfl, ?_⟩))

theorem small_wks {l : List Int} (h : ∀ z ∈ l, -20000 ≤ z ∧ z ≤ 20000) : Wks l := fun z hz => by
  have := h z hz
  unfold wk
  refine Nat.lt_of_lt_of_le (show z.natAbs < 2 ^ 15 by omega) (Nat.pow_le_pow_right (by decide) (by decide))
/-- drawn levels -/
theorem drawn_gives {S : Store} {p g : Nat} {n : Int} {x0 x2 x3 x4 x5 : Option D} (hp : Pen S p g) (hn : 0 ≤ n ∧ n ≤ 8) :
    ∃ S', lcL always (mName 6) mYes (mCall F_law_draw (mCons (mVar 1) (mCons (mCall F_law_one_of (mCons (mVar 1) (mCons (mLst (mCons (mC (.int 2)) (mCons (mC (.int 3)) (mCons (mC (.int 4)) mNil)))) mNil))) mNil))) [x0, some (.lr p), x2, x3, x4, x5, none] S.length (rangeD 0 n.toNat) (S ++ [.lst []]) = some S' ∧
      (Pen S' p g ∧ ∃ lv : List Int, lv.length = n.toNat ∧ (∀ z ∈ lv, 0 ≤ z ∧ z ≤ 4) ∧ S'[S.length]? = some (.lst (lv.map D.int))) := by
  have hlt := hp.lt
  refine lc_by (fun i S' => Pen S' p g ∧ ∃ lv : List Int, lv.length = i ∧ (∀ z ∈ lv, 0 ≤ z ∧ z ≤ 4) ∧ S'[S.length]? = some (.lst (lv.map D.int))) ⟨hp.app, [], rfl, fun z hz => absurd hz List.not_mem_nil, get_new⟩ (fun i d S2 hd ⟨hp2, lv, hl, hs, hn2⟩ => ⟨rfl, ?_⟩) fun S2 h => ⟨rfl, by rw [rangeD_length] at h; exact h⟩
  have hi := (range_int hd).2
  have hl2 := hp2.lt
  have hsl : S.length < S2.length := (List.getElem?_eq_some_iff.mp hn2).1
  refine gt_name ⟨true, S2, rfl, fun _ => ?_, fun z => (by cases z)⟩
  refine ge_call (ge_cons (ge_var rfl (ge_cons (ge_call (ge_cons (ge_var rfl (ge_cons (ge_lst (ge_cons (ge_c (ge_cons (ge_c (ge_cons (ge_c (ge_nil ⟨Nat.le_of_ble_eq_true rfl, ge_nil ?_⟩)))))))))))))))
  refine (one_of_gives (hp2.app) get_new (by omega) (Nat.le_of_ble_eq_true rfl) (by show 3 < 1073741824; decide)).mono ?_
  rintro d3 S3 ⟨hm, hp3, k3⟩
  have hb : ∃ b : Int, d3 = .int b ∧ 2 ≤ b ∧ b ≤ 4 := by
    simp only [List.mem_cons, List.not_mem_nil, or_false] at hm
    rcases hm with rfl | rfl | rfl
    · exact ⟨2, rfl, by decide, by decide⟩
    · exact ⟨3, rfl, by decide, by decide⟩
    · exact ⟨4, rfl, by decide, by decide⟩
  obtain ⟨b, rfl, hb1, hb2⟩ := hb
  have hn3 := keep_at k3 (by omega) (get_app hn2)
  refine ge_nil ?_
  refine (draw_gives hp3 (by omega) (by omega)).mono ?_
  rintro _ S4 ⟨t, rfl, ht0, ht1, hp4, k4⟩
  have hn4 := keep_at k4 (by omega) hn3
  have hs4 : S.length < S4.length := (List.getElem?_eq_some_iff.mp hn4).1
  refine ⟨_, mat_lst hn4, by rw [List.length_map]; show _ < 16777216; omega, hp4.other (by omega) (by omega), lv ++ [t], by rw [List.length_append, hl]; rfl, fun z hz => ?_, ?_⟩
  · rcases List.mem_append.mp hz with hz | hz
    · exact hs z hz
    · rw [List.mem_singleton.mp hz]; omega
  · rw [get_set hn4, List.map_append]; rfl
theorem law_gives {ns : List Int} : GE (F_law [.lr 0] [.fz (ns.map D.int)]) fun d S' => d = .bl true := by
  refine ge_den rfl ?_
  unfold M_law
  refine gs_seq (gs_asg (ge_call (ge_cons (ge_var rfl (ge_nil ?_)))))
  refine (pen_gives (S := [.fz (ns.map D.int)]) (n := 0) (ns := ns) rfl).mono ?_
  rintro _ S1 ⟨p, g, rfl, hp, ha⟩
  have h0 : S1[0]? = some (.fz (ns.map D.int)) := ha 0 _ rfl
  walk_at "stp"
  rw [List.length_map]
  have hb : ∀ z : Int, 0 ≤ z → r62 (if (if z < 5 then z else 5) > 2 then (if z < 5 then z else 5) else 2) = true := fun z hz => r62_of (by split <;> split <;> omega) (by split <;> split <;> omega)
  refine ⟨hb _ (by omega), ?_⟩
  generalize (if (if (ns.length : Int) < 5 then (ns.length : Int) else 5) > 2 then (if (ns.length : Int) < 5 then (ns.length : Int) else 5) else 2).toNat = turns
  refine gs_forL (fun i ρ S' => ∃ x2 x3 x4 x5 x6 : Option D, ρ = [some (.lr 0), some (.lr p), x2, x3, x4, x5, x6] ∧ Pen S' p g)
    ⟨none, none, none, none, none, rfl, hp⟩ ?_ ?_
  · rintro i d ρ S2 hd ⟨x2, x3, x4, x5, x6, rfl, hp2⟩
    refine ⟨rfl, ?_⟩
    refine gt_name (gs_seq (gs_asg (ge_call (ge_cons (ge_var rfl (ge_cons (ge_bin (ge_c (ge_call (ge_cons (ge_var rfl (ge_cons (ge_c (ge_nil ?_))))))))))))))
    refine (draw_gives hp2 (by decide) (by decide)).mono ?_
    rintro _ S3 ⟨n, rfl, hn0, hn1, hp3, k3⟩
    refine ge_add (ge_cons (ge_c (ge_nil ?_)))
    refine (mine_gives hp3 (by omega) (by omega) (by decide) (by decide)).mono ?_
    rintro _ S4 ⟨M, rfl, ok, hml, ht, hmm, hp4, k4⟩
    have hz : M.ways.length ≤ 1000 := by omega
    have few : M.ways.length ≤ 12 := by omega
    have J : Joined M := joined_of ok ht
    have hlo := ok.lo
    have hhi := ok.hi
    refine gt_name (then_nx (gs_seq (gs_for (gi_range1 (ge_cons (ge_c (ge_nil ⟨4, rfl, by decide, ?_⟩)))))))
    refine gs_forL (fun i ρ S' => ∃ x4 x5 x6 : Option D, ρ = [some (.lr 0), some (.lr p), some d, some (mineD M), x4, x5, x6] ∧ Pen S' p g) ⟨x4, x5, x6, rfl, hp4⟩ ?_ ?_
    · rintro i d2 ρ S5 hd2 ⟨x4, x5, x6, rfl, hp5⟩
      refine ⟨rfl, ?_⟩
      refine gt_name (gs_seq (gs_asg (ge_call (ge_cons (ge_lc (gi_range1 (ge_cons (ge_bin (ge_var (d := mineD M) rfl (ge_c (ge_ixT (d := .int M.places) at0 (ge_nil ⟨M.places, rfl, r62_of (by omega) (by omega), ?_⟩))))))))))))
      obtain ⟨S6, e6, hp6, lv, hl6, hs6, h6⟩ := drawn_gives (S := S5) (n := M.places) (x0 := some (.lr 0)) (x2 := some d) (x3 := some (mineD M)) (x4 := some d2) (x5 := x5) hp5 ⟨by omega, hhi⟩
      refine ⟨S6, e6, ge_nil (ge_tuple (lat_lst h6) (gt_name (then_nx ?_)))⟩
      refine gs_if (ge_not (ge_B (ge_call (ge_cons (ge_var rfl (ge_cons (ge_var rfl (ge_nil ?_))))))))
      refine (right_gives (S := S6) (lv := lv) ok few hl6 (small_wks fun z hz => by have := hs6 z hz; omega)).mono ?_
      rintro _ S7 ⟨rfl, a7⟩
      exact ⟨_, rfl, fun z => (by cases z), fun _ => gs_nx ⟨.inl rfl, _, _, _, rfl, a7.pen hp6⟩⟩
    rintro ρ S5 ⟨x4, x5, x6, rfl, hp5⟩
    refine ⟨rfl, then_nx ?_⟩
    refine gs_seq (gs_asg (ge_call (ge_cons (ge_var rfl (ge_cons (ge_call (ge_cons (ge_var rfl (ge_cons (ge_var rfl (ge_nil ?_)))))))))))
    refine (widths_gives hp5 hz).mono ?_
    rintro _ S6 ⟨ws, rfl, hwl, hws, hp6⟩
    have W : WsOk M ws := ⟨hwl, few, fun v hv => by have := hws v hv; omega⟩
    refine ge_nil ?_
    refine (levels_gives (S := S6) (ws := ws) ok hz (lev_ok ok W J)).mono ?_
    rintro _ S7 ⟨rfl, a7⟩
    have hp7 := a7.pen hp6
    have hl := levelsP_len (M := M) (ws := ws)
    have hbits : Wks (levelsP M ws) := fun z hz => (levels_bits ok W J z hz).mono (by decide)
    generalize levelsP M ws = lv at hl hbits ⊢
    refine gt_name (then_nx (gs_seq (gs_if (ge_or (ge_not (ge_B (ge_call (ge_cons (ge_var rfl (ge_cons (ge_var rfl (ge_nil ?_))))))))))))
    refine (right_gives (S := S7) (lv := lv) ok few hl hbits).mono ?_
    rintro _ S8 ⟨rfl, a8⟩
    refine ⟨_, rfl, fun z => (by cases z), fun _ => ?_⟩
    refine ge_not (ge_B (ge_call (ge_cons (ge_var rfl (ge_cons (ge_call (ge_cons (ge_var rfl (ge_cons (ge_var rfl (ge_nil ?_)))))))))))
    refine (stretched_gives (lv := lv) (a8.pen hp7) (by omega)).mono ?_
    rintro _ S9 ⟨lv2, rfl, hl2, hs2, hp9⟩
    refine ge_nil ?_
    refine (right_gives (S := S9) (lv := lv2) ok few (by omega) (small_wks fun z hz => by have := hs2 z hz; omega)).mono ?_
    rintro _ S10 ⟨rfl, a10⟩
    refine ⟨_, rfl, fun z => (by cases z), fun _ => gs_nx (then_nx ?_)⟩
    refine gs_if (ge_not (ge_B (ge_call (ge_cons (ge_var rfl (ge_cons (ge_call (ge_cons (ge_var rfl (ge_cons (ge_call (ge_cons (ge_var rfl (ge_cons (ge_bin (ge_var (d := mineD M) rfl (ge_c (ge_ixT (d := .int M.places) at0 (ge_nil ?_)))))))))))))))))))
    refine (draw_gives (a10.pen hp9) (by omega) (by omega)).mono ?_
    rintro _ S11 ⟨t, rfl, ht0, ht1, hp11, k11⟩
    refine ge_cons (ge_call (ge_cons (ge_var rfl (ge_cons (ge_var rfl (ge_nil ?_))))))
    refine (one_tup (ds := lv.map D.int) hp11 (by rw [List.length_map]; omega) (by rw [List.length_map]; omega)).mono ?_
    rintro d12 S12 ⟨hm, hp12, k12⟩
    obtain ⟨u, hu, rfl⟩ := List.mem_map.mp hm
    refine ge_nil ?_
    refine (at_gives (lv := lv) (p := t) (t := u) ht0 (by omega) (by omega)).mono ?_
    rintro _ S13 ⟨rfl, rfl⟩
    refine ge_nil ?_
    refine (right_gives (S := S13) (lv := lv.set t.toNat u) ok few (by rw [List.length_set]; exact hl) (fun z hz => ?_)).mono ?_
    · rcases List.mem_or_eq_of_mem_set hz with h | h
      · exact hbits z h
      · rw [h]; exact hbits u hu
    rintro _ S14 ⟨rfl, a14⟩
    exact ⟨_, rfl, fun z => (by cases z), fun _ => gs_nx ⟨.inl rfl, _, _, _, _, _, rfl, a14.pen hp12⟩⟩
  · rintro ρ S2 ⟨x2, x3, x4, x5, x6, rfl, hp2⟩
    refine ⟨rfl, then_nx ?_⟩
    walk_at "stp"
    rfl
theorem law_ok : LawOk 63 F_law := fun ns _ => by
  obtain ⟨d, S', e, rfl⟩ := law_gives (ns := ns)
  exact ⟨S', e⟩
end K05

set_option Elab.async false
set_option linter.all false
set_option maxRecDepth 100000
set_option maxHeartbeats 4000000
namespace K05
open PySem PySem.Spec PyProof.Rows L2 MS Law Air
def topS (i : Nat) : Stmt := PySem.Challenge.pw_windways_k05_balanced_levels_and_widths.main.body.getD i (.Pass ⟨0, 0, 0, 0⟩)
abbrev s_inner_places : Stmt := topS 2
theorem sc_inner_places : FnScope N_inner_places ["mine"] (defScope s_inner_places) := ⟨rfl, rfl, rfl, by decide +kernel, rfl, by decide +kernel, by decide +kernel⟩
abbrev s_ways_at : Stmt := topS 3
theorem sc_ways_at : FnScope N_ways_at ["mine", "x"] (defScope s_ways_at) := ⟨rfl, rfl, rfl, by decide +kernel, rfl, by decide +kernel, by decide +kernel⟩
abbrev s_far_end : Stmt := topS 4
theorem sc_far_end : FnScope N_far_end ["mine", "w", "x"] (defScope s_far_end) := ⟨rfl, rfl, rfl, by decide +kernel, rfl, by decide +kernel, by decide +kernel⟩
abbrev s_leaving_shares : Stmt := topS 7
theorem sc_leaving_shares : FnScope N_leaving_shares ["mine", "widths", "x"] (defScope s_leaving_shares) := ⟨rfl, rfl, rfl, by decide +kernel, rfl, by decide +kernel, by decide +kernel⟩
abbrev s_cleared_row : Stmt := topS 9
theorem sc_cleared_row : FnScope N_cleared_row ["row", "lead", "k", "before"] (defScope s_cleared_row) := ⟨rfl, rfl, rfl, by decide +kernel, rfl, by decide +kernel, by decide +kernel⟩
abbrev s_solve_rows : Stmt := topS 8
theorem sc_solve_rows : FnScope N_solve_rows ["rows"] (defScope s_solve_rows) := ⟨rfl, rfl, rfl, by decide +kernel, rfl, by decide +kernel, by decide +kernel⟩
abbrev s_without_divisor : Stmt := topS 10
theorem sc_without_divisor : FnScope N_without_divisor ["levels"] (defScope s_without_divisor) := ⟨rfl, rfl, rfl, by decide +kernel, rfl, by decide +kernel, by decide +kernel⟩
abbrev s_levels_for : Stmt := topS 6
theorem sc_levels_for : FnScope N_levels_for ["mine", "widths"] (defScope s_levels_for) := ⟨rfl, rfl, rfl, by decide +kernel, rfl, by decide +kernel, by decide +kernel⟩
abbrev s_sign_between : Stmt := topS 11
theorem sc_sign_between : FnScope N_sign_between ["levels", "x", "y"] (defScope s_sign_between) := ⟨rfl, rfl, rfl, by decide +kernel, rfl, by decide +kernel, by decide +kernel⟩
abbrev s_way_toward : Stmt := topS 16
theorem sc_way_toward : FnScope N_way_toward ["mine", "levels", "x", "side"] (defScope s_way_toward) := ⟨rfl, rfl, rfl, by decide +kernel, rfl, by decide +kernel, by decide +kernel⟩
abbrev s_is_balanced : Stmt := topS 15
theorem sc_is_balanced : FnScope N_is_balanced ["mine", "levels"] (defScope s_is_balanced) := ⟨rfl, rfl, rfl, by decide +kernel, rfl, by decide +kernel, by decide +kernel⟩
abbrev s_slope_from : Stmt := topS 19
theorem sc_slope_from : FnScope N_slope_from ["mine", "levels", "x", "side"] (defScope s_slope_from) := ⟨rfl, rfl, rfl, by decide +kernel, rfl, by decide +kernel, by decide +kernel⟩
abbrev s_air_along_slopes : Stmt := topS 18
theorem sc_air_along_slopes : FnScope N_air_along_slopes ["mine", "levels"] (defScope s_air_along_slopes) := ⟨rfl, rfl, rfl, by decide +kernel, rfl, by decide +kernel, by decide +kernel⟩
abbrev s_widths_for : Stmt := topS 17
theorem sc_widths_for : FnScope N_widths_for ["mine", "levels"] (defScope s_widths_for) := ⟨rfl, rfl, rfl, by decide +kernel, rfl, by decide +kernel, by decide +kernel⟩
abbrev s_law_pen : Stmt := topS 21
theorem sc_law_pen : FnScope N_law_pen ["script"] (defScope s_law_pen) := ⟨rfl, rfl, rfl, by decide +kernel, rfl, by decide +kernel, by decide +kernel⟩
abbrev s_law_fresh : Stmt := topS 22
theorem sc_law_fresh : FnScope N_law_fresh ["pen"] (defScope s_law_fresh) := ⟨rfl, rfl, rfl, by decide +kernel, rfl, by decide +kernel, by decide +kernel⟩
abbrev s_law_draw : Stmt := topS 23
theorem sc_law_draw : FnScope N_law_draw ["pen", "bound"] (defScope s_law_draw) := ⟨rfl, rfl, rfl, by decide +kernel, rfl, by decide +kernel, by decide +kernel⟩
abbrev s_law_one_of : Stmt := topS 24
theorem sc_law_one_of : FnScope N_law_one_of ["pen", "some"] (defScope s_law_one_of) := ⟨rfl, rfl, rfl, by decide +kernel, rfl, by decide +kernel, by decide +kernel⟩
abbrev s_law_whole : Stmt := topS 25
theorem sc_law_whole : FnScope N_law_whole ["value", "low", "high"] (defScope s_law_whole) := ⟨rfl, rfl, rfl, by decide +kernel, rfl, by decide +kernel, by decide +kernel⟩
abbrev s_law_at : Stmt := topS 26
theorem sc_law_at : FnScope N_law_at ["rows", "place", "thing"] (defScope s_law_at) := ⟨rfl, rfl, rfl, by decide +kernel, rfl, by decide +kernel, by decide +kernel⟩
abbrev s_law_two_places : Stmt := topS 27
theorem sc_law_two_places : FnScope N_law_two_places ["pen", "places"] (defScope s_law_two_places) := ⟨rfl, rfl, rfl, by decide +kernel, rfl, by decide +kernel, by decide +kernel⟩
abbrev s_law_mine : Stmt := topS 28
theorem sc_law_mine : FnScope N_law_mine ["pen", "most", "many"] (defScope s_law_mine) := ⟨rfl, rfl, rfl, by decide +kernel, rfl, by decide +kernel, by decide +kernel⟩
abbrev s_law_inner : Stmt := topS 29
theorem sc_law_inner : FnScope N_law_inner ["mine"] (defScope s_law_inner) := ⟨rfl, rfl, rfl, by decide +kernel, rfl, by decide +kernel, by decide +kernel⟩
abbrev s_law_sign : Stmt := topS 30
theorem sc_law_sign : FnScope N_law_sign ["number"] (defScope s_law_sign) := ⟨rfl, rfl, rfl, by decide +kernel, rfl, by decide +kernel, by decide +kernel⟩
abbrev s_law_widths : Stmt := topS 31
theorem sc_law_widths : FnScope N_law_widths ["pen", "mine"] (defScope s_law_widths) := ⟨rfl, rfl, rfl, by decide +kernel, rfl, by decide +kernel, by decide +kernel⟩
abbrev s_law_is_balanced : Stmt := topS 32
theorem sc_law_is_balanced : FnScope N_law_is_balanced ["mine", "levels"] (defScope s_law_is_balanced) := ⟨rfl, rfl, rfl, by decide +kernel, rfl, by decide +kernel, by decide +kernel⟩
abbrev s_law_is_state : Stmt := topS 33
theorem sc_law_is_state : FnScope N_law_is_state ["mine", "widths", "levels"] (defScope s_law_is_state) := ⟨rfl, rfl, rfl, by decide +kernel, rfl, by decide +kernel, by decide +kernel⟩
abbrev s_law_is_tuple : Stmt := topS 34
theorem sc_law_is_tuple : FnScope N_law_is_tuple ["value", "many"] (defScope s_law_is_tuple) := ⟨rfl, rfl, rfl, by decide +kernel, rfl, by decide +kernel, by decide +kernel⟩
abbrev s_law_stretched : Stmt := topS 35
theorem sc_law_stretched : FnScope N_law_stretched ["pen", "levels"] (defScope s_law_stretched) := ⟨rfl, rfl, rfl, by decide +kernel, rfl, by decide +kernel, by decide +kernel⟩
abbrev s_law_right : Stmt := topS 36
theorem sc_law_right : FnScope N_law_right ["mine", "levels"] (defScope s_law_right) := ⟨rfl, rfl, rfl, by decide +kernel, rfl, by decide +kernel, by decide +kernel⟩
abbrev s_law : Stmt := topS 37
theorem sc_law : FnScope N_law ["script"] (defScope s_law) := ⟨rfl, rfl, rfl, by decide +kernel, rfl, by decide +kernel, by decide +kernel⟩
section
variable {P : Program} {w : World} {K : PySem.W.Frag} {mg : Str → Option Value} {base : Heap}
theorem ok_inner_places {f : Addr} {fd : FuncData} (fn : Fun K "inner_places" "inner_places" s_inner_places f fd) (n_range : mg "range" = none) (n_tuple : mg "tuple" = none) : FnG P w K mg base 1 f fd ["mine"] F_inner_places := by
  refine fnG_of fn sc_inner_places fun cdv A outer s H hr hgd => ⟨M_inner_places, ?_, den_does⟩
  have hu := hr.units
  have hud := L2.hu_of hr
  have hu80 := room80 hr
  exact (mss_cons (ms_asg (mv 0) (mg_tup rfl (mgs_cons (mg_name (i := 1) sc_inner_places.nd rfl (by first | exact Or.inl rfl | exact Or.inr rfl)) (mgs_cons (mg_name (i := 2) sc_inner_places.nd rfl (by first | exact Or.inl rfl | exact Or.inr rfl)) (mgs_cons (mg_name (i := 3) sc_inner_places.nd rfl (by first | exact Or.inl rfl | exact Or.inr rfl)) (mgs_cons (mg_name (i := 4) sc_inner_places.nd rfl (by first | exact Or.inl rfl | exact Or.inr rfl)) mgs_nil))))))
    (mss_one (ms_ret (me_callTy c_tuple (by rfl) n_tuple MS.boot_tuple (ma_cons (me_lc (own := [("x", 5)]) (e := (mVar 5)) (is := [5]) rfl sc_inner_places.nd (mi_range1 (by rfl) n_range (ma_cons (mv 1) ma_nil)) (blkOk_by (own := [("x", 5)]) (N := N_inner_places) (sc := defScope s_inner_places) (by decide +kernel)) (fun _ _ _ _ _ => (mgl_name (i := 5) sc_inner_places.nd rfl (by first | exact Or.inl rfl | exact Or.inr rfl))) (fun _ _ _ _ _ => (mts_one (mt_cmp o_notIn (mv 5) (me_tup (ma_cons (mv 3) (ma_cons (mv 4) ma_nil))) (by rfl)))) (fun _ _ _ _ _ => (mv 5)) (by decide)) ma_nil)))))
theorem ok_ways_at {f : Addr} {fd : FuncData} (fn : Fun K "ways_at" "ways_at" s_ways_at f fd) (n_enumerate : mg "enumerate" = none) (n_tuple : mg "tuple" = none) : FnG P w K mg base 1 f fd ["mine", "x"] F_ways_at := by
  refine fnG_of fn sc_ways_at fun cdv A outer s H hr hgd => ⟨M_ways_at, ?_, den_does⟩
  have hu := hr.units
  have hud := L2.hu_of hr
  have hu80 := room80 hr
  exact (mss_one (ms_ret (me_callTy c_tuple (by rfl) n_tuple MS.boot_tuple (ma_cons (me_lc (own := [("w", 2), ("way", 3)]) (e := (mVar 2)) (is := [2, 3]) rfl sc_ways_at.nd (mi_enum (by rfl) n_enumerate (ma_cons (me_ix (mv 0) me_int (fun _ _ => rfl)) ma_nil)) (blkOk_by (own := [("w", 2), ("way", 3)]) (N := N_ways_at) (sc := defScope s_ways_at) (by decide +kernel)) (fun _ _ _ _ _ => (mgl_tup rfl (mgsl_cons (mgl_name (i := 2) sc_ways_at.nd rfl (by first | exact Or.inl rfl | exact Or.inr rfl)) (mgsl_cons (mgl_name (i := 3) sc_ways_at.nd rfl (by first | exact Or.inl rfl | exact Or.inr rfl)) mgsl_nil)))) (fun _ _ _ _ _ => (mts_one (mt_cmp o_in (mv 1) (mv 3) (by rfl)))) (fun _ _ _ _ _ => (mv 2)) (by decide)) ma_nil))))
theorem ok_far_end {f : Addr} {fd : FuncData} (fn : Fun K "far_end" "far_end" s_far_end f fd) : FnG P w K mg base 1 f fd ["mine", "w", "x"] F_far_end := by
  refine fnG_of fn sc_far_end fun cdv A outer s H hr hgd => ⟨M_far_end, ?_, den_does⟩
  have hu := hr.units
  have hud := L2.hu_of hr
  have hu80 := room80 hr
  exact (mss_cons (ms_asg (me_ix (me_ix (mv 0) me_int (fun _ _ => rfl)) (mv 1) (fun _ _ => rfl)) (mg_tup rfl (mgs_cons (mg_name (i := 3) sc_far_end.nd rfl (by first | exact Or.inl rfl | exact Or.inr rfl)) (mgs_cons (mg_name (i := 4) sc_far_end.nd rfl (by first | exact Or.inl rfl | exact Or.inr rfl)) mgs_nil))))
    (mss_one (ms_ret (me_ifExp (mt_cmp (o_eq hu) (mv 2) (mv 3) (nomark _)) (mv 4) (mv 3)))))
theorem ok_leaving_shares {f : Addr} {fd : FuncData} (fn : Fun K "leaving_shares" "leaving_shares" s_leaving_shares f fd) {a_far_end : Addr} {d_far_end : FuncData} (f_far_end : Fun K "far_end" "far_end" s_far_end a_far_end d_far_end) (g_far_end : FnG P w K mg base 1 a_far_end d_far_end ["mine", "w", "x"] F_far_end) (m_far_end : mg "far_end" = some (.ref a_far_end)) (b_far_end : Binds K d_far_end ["mine", "w", "x"] []) {a_ways_at : Addr} {d_ways_at : FuncData} (f_ways_at : Fun K "ways_at" "ways_at" s_ways_at a_ways_at d_ways_at) (g_ways_at : FnG P w K mg base 1 a_ways_at d_ways_at ["mine", "x"] F_ways_at) (m_ways_at : mg "ways_at" = some (.ref a_ways_at)) (b_ways_at : Binds K d_ways_at ["mine", "x"] []) : FnG P w K mg base 2 f fd ["mine", "widths", "x"] F_leaving_shares := by
  refine fnG_of fn sc_leaving_shares fun cdv A outer s H hr hgd => ⟨M_leaving_shares, ?_, den_does⟩
  have hu := hr.units
  have hud := L2.hu_of hr
  have hu80 := room80 hr
  exact (mss_cons (ms_set (i := 3) sc_leaving_shares.nd rfl (by first | exact Or.inl rfl | exact Or.inr rfl) (me_op o_mulW (me_lst (ma_cons me_int ma_nil)) (me_ix (mv 0) me_int (fun _ _ => rfl))))
    (mss_cons (ms_for PassesOwn.never rfl (mi_items (me_call (g_ways_at.mono (by decide)) hr hgd (by rfl) m_ways_at f_ways_at.kp b_ways_at (fun _ _ _ => den_len) (ma_cons (mv 0) (ma_cons (mv 2) ma_nil)))) (mg_name (i := 4) sc_leaving_shares.nd rfl (by first | exact Or.inl rfl | exact Or.inr rfl)) (mss_cons (ms_set (i := 5) sc_leaving_shares.nd rfl (by first | exact Or.inl rfl | exact Or.inr rfl) (me_call (g_far_end.mono (by decide)) hr hgd (by rfl) m_far_end f_far_end.kp b_far_end (fun _ _ _ => den_len) (ma_cons (mv 0) (ma_cons (mv 4) (ma_cons (mv 2) ma_nil)))))
    (mss_cons (ms_asg (me_op o_add (me_ix (mv 3) (mv 2) (fun _ _ => rfl)) (me_ix (mv 1) (mv 4) (fun _ _ => rfl))) (mg_sub (mv 3) (mv 2)))
    (mss_one (ms_asg (me_op o_sub (me_ix (mv 3) (mv 5) (fun _ _ => rfl)) (me_ix (mv 1) (mv 4) (fun _ _ => rfl))) (mg_sub (mv 3) (mv 5)))))))
    (mss_one (ms_ret (mv 3)))))
theorem ok_cleared_row {f : Addr} {fd : FuncData} (fn : Fun K "cleared_row" "cleared_row" s_cleared_row f fd) (n_zip : mg "zip" = none) : FnG P w K mg base 1 f fd ["row", "lead", "k", "before"] F_cleared_row := by
  refine fnG_of fn sc_cleared_row fun cdv A outer s H hr hgd => ⟨M_cleared_row, ?_, den_does⟩
  have hu := hr.units
  have hud := L2.hu_of hr
  have hu80 := room80 hr
  exact (mss_one (ms_ret (me_lc (own := [("here", 4), ("there", 5)]) (e := (mBin fDivW (mBin fSub (mBin fMulW (mBin fIx (mVar 1) (mVar 2)) (mVar 4)) (mBin fMulW (mBin fIx (mVar 0) (mVar 2)) (mVar 5))) (mVar 3))) (is := [4, 5]) rfl sc_cleared_row.nd (mi_zip (by rfl) n_zip (ma_cons (mv 0) (ma_cons (mv 1) ma_nil))) (blkOk_by (own := [("here", 4), ("there", 5)]) (N := N_cleared_row) (sc := defScope s_cleared_row) (by decide +kernel)) (fun _ _ _ _ _ => (mgl_tup rfl (mgsl_cons (mgl_name (i := 4) sc_cleared_row.nd rfl (by first | exact Or.inl rfl | exact Or.inr rfl)) (mgsl_cons (mgl_name (i := 5) sc_cleared_row.nd rfl (by first | exact Or.inl rfl | exact Or.inr rfl)) mgsl_nil)))) (fun _ _ _ _ _ => mts_nil) (fun _ _ _ _ _ => (me_op o_divW (me_op o_sub (me_op o_mulW (me_ix (mv 1) (mv 2) (fun _ _ => rfl)) (mv 4)) (me_op o_mulW (me_ix (mv 0) (mv 2) (fun _ _ => rfl)) (mv 5))) (mv 3))) (by decide))))
theorem ok_solve_rows {f : Addr} {fd : FuncData} (fn : Fun K "solve_rows" "solve_rows" s_solve_rows f fd) {a_cleared_row : Addr} {d_cleared_row : FuncData} (f_cleared_row : Fun K "cleared_row" "cleared_row" s_cleared_row a_cleared_row d_cleared_row) (g_cleared_row : FnG P w K mg base 1 a_cleared_row d_cleared_row ["row", "lead", "k", "before"] F_cleared_row) (m_cleared_row : mg "cleared_row" = some (.ref a_cleared_row)) (b_cleared_row : Binds K d_cleared_row ["row", "lead", "k", "before"] []) (n_enumerate : mg "enumerate" = none) (n_len : mg "len" = none) (n_range : mg "range" = none) : FnG P w K mg base 2 f fd ["rows"] F_solve_rows := by
  refine fnG_of fn sc_solve_rows fun cdv A outer s H hr hgd => ⟨M_solve_rows, ?_, den_does⟩
  have hu := hr.units
  have hud := L2.hu_of hr
  have hu80 := room80 hr
  exact (mss_cons (ms_set (i := 1) sc_solve_rows.nd rfl (by first | exact Or.inl rfl | exact Or.inr rfl) me_int)
    (mss_cons (ms_set (i := 2) sc_solve_rows.nd rfl (by first | exact Or.inl rfl | exact Or.inr rfl) (me_callB c_len (by rfl) n_len MS.boot_len (ma_cons (mv 0) ma_nil)))
    (mss_cons (ms_for PassesOwn.never rfl (mi_range1 (by rfl) n_range (ma_cons (mv 2) ma_nil)) (mg_name (i := 3) sc_solve_rows.nd rfl (by first | exact Or.inl rfl | exact Or.inr rfl)) (mss_cons (ms_set (i := 4) sc_solve_rows.nd rfl (by first | exact Or.inl rfl | exact Or.inr rfl) (me_ix (mv 0) (mv 3) (fun _ _ => rfl)))
    (mss_cons (ms_setLc (j := 0) (own := [("i", 6), ("row", 5)]) (e := (mIf (mB (mBin fEq (mVar 6) (mVar 3))) (mVar 5) (mCall F_cleared_row (mCons (mVar 5) (mCons (mVar 4) (mCons (mVar 3) (mCons (mVar 1) mNil))))))) (is := [6, 5]) rfl sc_solve_rows.nd rfl rfl (sw_true rfl rfl rfl (by decide +kernel)) (mi_enum (by rfl) n_enumerate (ma_cons (mv 0) ma_nil)) (blkOk_by (own := [("i", 6), ("row", 5)]) (N := N_solve_rows) (sc := defScope s_solve_rows) (by decide +kernel)) (fun _ _ _ _ _ => (mgl_tup rfl (mgsl_cons (mgl_name (i := 6) sc_solve_rows.nd rfl (by first | exact Or.inl rfl | exact Or.inr rfl)) (mgsl_cons (mgl_name (i := 5) sc_solve_rows.nd rfl (by first | exact Or.inl rfl | exact Or.inr rfl)) mgsl_nil)))) (fun _ _ _ _ _ => mts_nil) (fun _ _ _ _ _ => (me_ifExp (mt_cmp (o_eq hu) (mv 6) (mv 3) (nomark _)) (mv 5) (me_call (g_cleared_row.mono (by decide)) hr hgd (by rfl) m_cleared_row f_cleared_row.kp b_cleared_row (fun _ _ _ => den_len) (ma_cons (mv 5) (ma_cons (mv 4) (ma_cons (mv 3) (ma_cons (mv 1) ma_nil))))))) (by decide))
    (mss_one (ms_set (i := 1) sc_solve_rows.nd rfl (by first | exact Or.inl rfl | exact Or.inr rfl) (me_ix (mv 4) (mv 3) (fun _ _ => rfl)))))))
    (mss_one (ms_ret (me_tup (ma_cons (mv 1) (ma_cons (me_lc (own := [("row", 5)]) (e := (mBin fIx (mVar 5) (mNeg (mC (.int 1))))) (is := [5]) rfl sc_solve_rows.nd (mi_items (mv 0)) (blkOk_by (own := [("row", 5)]) (N := N_solve_rows) (sc := defScope s_solve_rows) (by decide +kernel)) (fun _ _ _ _ _ => (mgl_name (i := 5) sc_solve_rows.nd rfl (by first | exact Or.inl rfl | exact Or.inr rfl))) (fun _ _ _ _ _ => mts_nil) (fun _ _ _ _ _ => (me_ix (mv 5) (me_neg me_int) (fun _ _ => rfl))) (by decide)) ma_nil))))))))
theorem ok_without_divisor {f : Addr} {fd : FuncData} (fn : Fun K "without_divisor" "without_divisor" s_without_divisor f fd) (n_tuple : mg "tuple" = none) (i_gcd : mg "gcd" = some (.builtin "math.gcd")) : FnG P w K mg base 1 f fd ["levels"] F_without_divisor := by
  refine fnG_of fn sc_without_divisor fun cdv A outer s H hr hgd => ⟨M_without_divisor, ?_, den_does⟩
  have hu := hr.units
  have hud := L2.hu_of hr
  have hu80 := room80 hr
  exact (mss_cons (ms_set (i := 1) sc_without_divisor.nd rfl (by first | exact Or.inl rfl | exact Or.inr rfl) me_int)
    (mss_cons (ms_for PassesOwn.never rfl (mi_items (mv 0)) (mg_name (i := 2) sc_without_divisor.nd rfl (by first | exact Or.inl rfl | exact Or.inr rfl)) (mss_one (ms_set (i := 1) sc_without_divisor.nd rfl (by first | exact Or.inl rfl | exact Or.inr rfl) (me_callI c_gcd (by rfl) i_gcd (ma_cons (mv 1) (ma_cons (mv 2) ma_nil))))))
    (mss_one (ms_ret (me_callTy c_tuple (by rfl) n_tuple MS.boot_tuple (ma_cons (me_lc (own := [("level", 2)]) (e := (mBin fDivW (mVar 2) (mVar 1))) (is := [2]) rfl sc_without_divisor.nd (mi_items (mv 0)) (blkOk_by (own := [("level", 2)]) (N := N_without_divisor) (sc := defScope s_without_divisor) (by decide +kernel)) (fun _ _ _ _ _ => (mgl_name (i := 2) sc_without_divisor.nd rfl (by first | exact Or.inl rfl | exact Or.inr rfl))) (fun _ _ _ _ _ => mts_nil) (fun _ _ _ _ _ => (me_op o_divW (mv 2) (mv 1))) (by decide)) ma_nil))))))
theorem ok_levels_for {f : Addr} {fd : FuncData} (fn : Fun K "levels_for" "levels_for" s_levels_for f fd) {a_inner_places : Addr} {d_inner_places : FuncData} (f_inner_places : Fun K "inner_places" "inner_places" s_inner_places a_inner_places d_inner_places) (g_inner_places : FnG P w K mg base 1 a_inner_places d_inner_places ["mine"] F_inner_places) (m_inner_places : mg "inner_places" = some (.ref a_inner_places)) (b_inner_places : Binds K d_inner_places ["mine"] []) {a_leaving_shares : Addr} {d_leaving_shares : FuncData} (f_leaving_shares : Fun K "leaving_shares" "leaving_shares" s_leaving_shares a_leaving_shares d_leaving_shares) (g_leaving_shares : FnG P w K mg base 2 a_leaving_shares d_leaving_shares ["mine", "widths", "x"] F_leaving_shares) (m_leaving_shares : mg "leaving_shares" = some (.ref a_leaving_shares)) (b_leaving_shares : Binds K d_leaving_shares ["mine", "widths", "x"] []) {a_solve_rows : Addr} {d_solve_rows : FuncData} (f_solve_rows : Fun K "solve_rows" "solve_rows" s_solve_rows a_solve_rows d_solve_rows) (g_solve_rows : FnG P w K mg base 2 a_solve_rows d_solve_rows ["rows"] F_solve_rows) (m_solve_rows : mg "solve_rows" = some (.ref a_solve_rows)) (b_solve_rows : Binds K d_solve_rows ["rows"] []) {a_without_divisor : Addr} {d_without_divisor : FuncData} (f_without_divisor : Fun K "without_divisor" "without_divisor" s_without_divisor a_without_divisor d_without_divisor) (g_without_divisor : FnG P w K mg base 1 a_without_divisor d_without_divisor ["levels"] F_without_divisor) (m_without_divisor : mg "without_divisor" = some (.ref a_without_divisor)) (b_without_divisor : Binds K d_without_divisor ["levels"] []) (n_zip : mg "zip" = none) : FnG P w K mg base 3 f fd ["mine", "widths"] F_levels_for := by
  refine fnG_of fn sc_levels_for fun cdv A outer s H hr hgd => ⟨M_levels_for, ?_, den_does⟩
  have hu := hr.units
  have hud := L2.hu_of hr
  have hu80 := room80 hr
  exact (mss_cons (ms_asg (mv 0) (mg_tup rfl (mgs_cons (mg_name (i := 6) sc_levels_for.nd rfl (by first | exact Or.inl rfl | exact Or.inr rfl)) (mgs_cons (mg_name (i := 7) sc_levels_for.nd rfl (by first | exact Or.inl rfl | exact Or.inr rfl)) (mgs_cons (mg_name (i := 8) sc_levels_for.nd rfl (by first | exact Or.inl rfl | exact Or.inr rfl)) (mgs_cons (mg_name (i := 7) sc_levels_for.nd rfl (by first | exact Or.inl rfl | exact Or.inr rfl)) mgs_nil))))))
    (mss_cons (ms_set (i := 2) sc_levels_for.nd rfl (by first | exact Or.inl rfl | exact Or.inr rfl) (me_call (g_inner_places.mono (by decide)) hr hgd (by rfl) m_inner_places f_inner_places.kp b_inner_places (fun _ _ _ => den_len) (ma_cons (mv 0) ma_nil)))
    (mss_cons (ms_set (i := 3) sc_levels_for.nd rfl (by first | exact Or.inl rfl | exact Or.inr rfl) (me_lst ma_nil))
    (mss_cons (ms_for PassesOwn.never rfl (mi_items (mv 2)) (mg_name (i := 4) sc_levels_for.nd rfl (by first | exact Or.inl rfl | exact Or.inr rfl)) (mss_cons (ms_set (i := 9) sc_levels_for.nd rfl (by first | exact Or.inl rfl | exact Or.inr rfl) (me_call (g_leaving_shares.mono (by decide)) hr hgd (by rfl) m_leaving_shares f_leaving_shares.kp b_leaving_shares (fun _ _ _ => den_len) (ma_cons (mv 0) (ma_cons (mv 1) (ma_cons (mv 4) ma_nil)))))
    (mss_one (ms_expr (me_app (mv 3) (ma_cons (me_op o_add (me_lc (own := [("z", 13)]) (e := (mBin fIx (mVar 9) (mVar 13))) (is := [13]) rfl sc_levels_for.nd (mi_items (mv 2)) (blkOk_by (own := [("z", 13)]) (N := N_levels_for) (sc := defScope s_levels_for) (by decide +kernel)) (fun _ _ _ _ _ => (mgl_name (i := 13) sc_levels_for.nd rfl (by first | exact Or.inl rfl | exact Or.inr rfl))) (fun _ _ _ _ _ => mts_nil) (fun _ _ _ _ _ => (me_ix (mv 9) (mv 13) (fun _ _ => rfl))) (by decide)) (me_lst (ma_cons (me_neg (me_ix (mv 9) (mv 8) (fun _ _ => rfl))) ma_nil))) ma_nil))))))
    (mss_cons (ms_asg (me_call (g_solve_rows.mono (by decide)) hr hgd (by rfl) m_solve_rows f_solve_rows.kp b_solve_rows (fun _ _ _ => den_len) (ma_cons (mv 3) ma_nil)) (mg_tup rfl (mgs_cons (mg_name (i := 10) sc_levels_for.nd rfl (by first | exact Or.inl rfl | exact Or.inr rfl)) (mgs_cons (mg_name (i := 11) sc_levels_for.nd rfl (by first | exact Or.inl rfl | exact Or.inr rfl)) mgs_nil))))
    (mss_cons (ms_set (i := 5) sc_levels_for.nd rfl (by first | exact Or.inl rfl | exact Or.inr rfl) (me_op o_mulW (me_lst (ma_cons me_int ma_nil)) (mv 6)))
    (mss_cons (ms_asg (mv 10) (mg_sub (mv 5) (mv 8)))
    (mss_cons (ms_for PassesOwn.never rfl (mi_zip (by rfl) n_zip (ma_cons (mv 2) (ma_cons (mv 11) ma_nil))) (mg_tup rfl (mgs_cons (mg_name (i := 4) sc_levels_for.nd rfl (by first | exact Or.inl rfl | exact Or.inr rfl)) (mgs_cons (mg_name (i := 12) sc_levels_for.nd rfl (by first | exact Or.inl rfl | exact Or.inr rfl)) mgs_nil))) (mss_one (ms_asg (mv 12) (mg_sub (mv 5) (mv 4)))))
    (mss_one (ms_ret (me_call (g_without_divisor.mono (by decide)) hr hgd (by rfl) m_without_divisor f_without_divisor.kp b_without_divisor (fun _ _ _ => den_len) (ma_cons (mv 5) ma_nil))))))))))))
theorem ok_sign_between {f : Addr} {fd : FuncData} (fn : Fun K "sign_between" "sign_between" s_sign_between f fd) : FnG P w K mg base 1 f fd ["levels", "x", "y"] F_sign_between := by
  refine fnG_of fn sc_sign_between fun cdv A outer s H hr hgd => ⟨M_sign_between, ?_, den_does⟩
  have hu := hr.units
  have hud := L2.hu_of hr
  have hu80 := room80 hr
  exact (mss_cons (ms_if (mt_cmp (o_eq hu) (me_ix (mv 0) (mv 1) (fun _ _ => rfl)) (me_ix (mv 0) (mv 2) (fun _ _ => rfl)) (nomark _)) (mss_one (ms_ret me_int)) mss_nil)
    (mss_one (ms_ret (me_ifExp (mt_cmp o_gt (me_ix (mv 0) (mv 1) (fun _ _ => rfl)) (me_ix (mv 0) (mv 2) (fun _ _ => rfl)) (nomark _)) me_int (me_neg me_int)))))
theorem ok_way_toward {f : Addr} {fd : FuncData} (fn : Fun K "way_toward" "way_toward" s_way_toward f fd) {a_far_end : Addr} {d_far_end : FuncData} (f_far_end : Fun K "far_end" "far_end" s_far_end a_far_end d_far_end) (g_far_end : FnG P w K mg base 1 a_far_end d_far_end ["mine", "w", "x"] F_far_end) (m_far_end : mg "far_end" = some (.ref a_far_end)) (b_far_end : Binds K d_far_end ["mine", "w", "x"] []) {a_sign_between : Addr} {d_sign_between : FuncData} (f_sign_between : Fun K "sign_between" "sign_between" s_sign_between a_sign_between d_sign_between) (g_sign_between : FnG P w K mg base 1 a_sign_between d_sign_between ["levels", "x", "y"] F_sign_between) (m_sign_between : mg "sign_between" = some (.ref a_sign_between)) (b_sign_between : Binds K d_sign_between ["levels", "x", "y"] []) {a_ways_at : Addr} {d_ways_at : FuncData} (f_ways_at : Fun K "ways_at" "ways_at" s_ways_at a_ways_at d_ways_at) (g_ways_at : FnG P w K mg base 1 a_ways_at d_ways_at ["mine", "x"] F_ways_at) (m_ways_at : mg "ways_at" = some (.ref a_ways_at)) (b_ways_at : Binds K d_ways_at ["mine", "x"] []) : FnG P w K mg base 2 f fd ["mine", "levels", "x", "side"] F_way_toward := by
  refine fnG_of fn sc_way_toward fun cdv A outer s H hr hgd => ⟨M_way_toward, ?_, den_does⟩
  have hu := hr.units
  have hud := L2.hu_of hr
  have hu80 := room80 hr
  exact (mss_cons (ms_for PassesOwn.never rfl (mi_items (me_call (g_ways_at.mono (by decide)) hr hgd (by rfl) m_ways_at f_ways_at.kp b_ways_at (fun _ _ _ => den_len) (ma_cons (mv 0) (ma_cons (mv 2) ma_nil)))) (mg_name (i := 4) sc_way_toward.nd rfl (by first | exact Or.inl rfl | exact Or.inr rfl)) (mss_one (ms_if (mt_cmp (o_eq hu) (me_call (g_sign_between.mono (by decide)) hr hgd (by rfl) m_sign_between f_sign_between.kp b_sign_between (fun _ _ _ => den_len) (ma_cons (mv 1) (ma_cons (me_call (g_far_end.mono (by decide)) hr hgd (by rfl) m_far_end f_far_end.kp b_far_end (fun _ _ _ => den_len) (ma_cons (mv 0) (ma_cons (mv 4) (ma_cons (mv 2) ma_nil)))) (ma_cons (mv 2) ma_nil)))) (mv 3) (nomark _)) (mss_one (ms_ret (mv 4))) mss_nil)))
    (mss_one (ms_ret me_non)))
theorem ok_is_balanced {f : Addr} {fd : FuncData} (fn : Fun K "is_balanced" "is_balanced" s_is_balanced f fd) {a_inner_places : Addr} {d_inner_places : FuncData} (f_inner_places : Fun K "inner_places" "inner_places" s_inner_places a_inner_places d_inner_places) (g_inner_places : FnG P w K mg base 1 a_inner_places d_inner_places ["mine"] F_inner_places) (m_inner_places : mg "inner_places" = some (.ref a_inner_places)) (b_inner_places : Binds K d_inner_places ["mine"] []) {a_way_toward : Addr} {d_way_toward : FuncData} (f_way_toward : Fun K "way_toward" "way_toward" s_way_toward a_way_toward d_way_toward) (g_way_toward : FnG P w K mg base 2 a_way_toward d_way_toward ["mine", "levels", "x", "side"] F_way_toward) (m_way_toward : mg "way_toward" = some (.ref a_way_toward)) (b_way_toward : Binds K d_way_toward ["mine", "levels", "x", "side"] []) {t_HIGHER : Tok} (k_HIGHER : mg "HIGHER" = some (.int (1) t_HIGHER)) {t_LOWER : Tok} (k_LOWER : mg "LOWER" = some (.int (-1) t_LOWER)) : FnG P w K mg base 3 f fd ["mine", "levels"] F_is_balanced := by
  refine fnG_of fn sc_is_balanced fun cdv A outer s H hr hgd => ⟨M_is_balanced, ?_, den_does⟩
  have hu := hr.units
  have hud := L2.hu_of hr
  have hu80 := room80 hr
  exact (mss_cons (ms_asg (mv 0) (mg_tup rfl (mgs_cons (mg_name (i := 3) sc_is_balanced.nd rfl (by first | exact Or.inl rfl | exact Or.inr rfl)) (mgs_cons (mg_name (i := 3) sc_is_balanced.nd rfl (by first | exact Or.inl rfl | exact Or.inr rfl)) (mgs_cons (mg_name (i := 4) sc_is_balanced.nd rfl (by first | exact Or.inl rfl | exact Or.inr rfl)) (mgs_cons (mg_name (i := 5) sc_is_balanced.nd rfl (by first | exact Or.inl rfl | exact Or.inr rfl)) mgs_nil))))))
    (mss_cons (ms_if (mt_cmp o_le (me_ix (mv 1) (mv 4) (fun _ _ => rfl)) (me_ix (mv 1) (mv 5) (fun _ _ => rfl)) (nomark _)) (mss_one (ms_ret me_bl)) mss_nil)
    (mss_cons (ms_for PassesOwn.never rfl (mi_items (me_call (g_inner_places.mono (by decide)) hr hgd (by rfl) m_inner_places f_inner_places.kp b_inner_places (fun _ _ _ => den_len) (ma_cons (mv 0) ma_nil))) (mg_name (i := 2) sc_is_balanced.nd rfl (by first | exact Or.inl rfl | exact Or.inr rfl)) (mss_cons (ms_set (i := 6) sc_is_balanced.nd rfl (by first | exact Or.inl rfl | exact Or.inr rfl) (me_cmp o_isNotN (me_call (g_way_toward.mono (by decide)) hr hgd (by rfl) m_way_toward f_way_toward.kp b_way_toward (fun _ _ _ => den_len) (ma_cons (mv 0) (ma_cons (mv 1) (ma_cons (mv 2) (ma_cons (me_globI (by rfl) k_HIGHER) ma_nil))))) me_non (nomark _)))
    (mss_cons (ms_set (i := 7) sc_is_balanced.nd rfl (by first | exact Or.inl rfl | exact Or.inr rfl) (me_cmp o_isNotN (me_call (g_way_toward.mono (by decide)) hr hgd (by rfl) m_way_toward f_way_toward.kp b_way_toward (fun _ _ _ => den_len) (ma_cons (mv 0) (ma_cons (mv 1) (ma_cons (mv 2) (ma_cons (me_globI (by rfl) k_LOWER) ma_nil))))) me_non (nomark _)))
    (mss_one (ms_if (mt_cmp (o_ne hu) (mv 6) (mv 7) (nomark _)) (mss_one (ms_ret me_bl)) mss_nil)))))
    (mss_one (ms_ret me_bl)))))
theorem ok_slope_from {f : Addr} {fd : FuncData} (fn : Fun K "slope_from" "slope_from" s_slope_from f fd) {a_far_end : Addr} {d_far_end : FuncData} (f_far_end : Fun K "far_end" "far_end" s_far_end a_far_end d_far_end) (g_far_end : FnG P w K mg base 1 a_far_end d_far_end ["mine", "w", "x"] F_far_end) (m_far_end : mg "far_end" = some (.ref a_far_end)) (b_far_end : Binds K d_far_end ["mine", "w", "x"] []) {a_way_toward : Addr} {d_way_toward : FuncData} (f_way_toward : Fun K "way_toward" "way_toward" s_way_toward a_way_toward d_way_toward) (g_way_toward : FnG P w K mg base 2 a_way_toward d_way_toward ["mine", "levels", "x", "side"] F_way_toward) (m_way_toward : mg "way_toward" = some (.ref a_way_toward)) (b_way_toward : Binds K d_way_toward ["mine", "levels", "x", "side"] []) : FnG P w K mg base 3 f fd ["mine", "levels", "x", "side"] F_slope_from := by
  refine fnG_of fn sc_slope_from fun cdv A outer s H hr hgd => ⟨M_slope_from, ?_, den_does⟩
  have hu := hr.units
  have hud := L2.hu_of hr
  have hu80 := room80 hr
  exact (mss_cons (ms_set (i := 4) sc_slope_from.nd rfl (by first | exact Or.inl rfl | exact Or.inr rfl) (me_lst ma_nil))
    (mss_cons (ms_set (i := 5) sc_slope_from.nd rfl (by first | exact Or.inl rfl | exact Or.inr rfl) (mv 2))
    (mss_cons (ms_set (i := 6) sc_slope_from.nd rfl (by first | exact Or.inl rfl | exact Or.inr rfl) (me_call (g_way_toward.mono (by decide)) hr hgd (by rfl) m_way_toward f_way_toward.kp b_way_toward (fun _ _ _ => den_len) (ma_cons (mv 0) (ma_cons (mv 1) (ma_cons (mv 5) (ma_cons (mv 3) ma_nil))))))
    (mss_cons (ms_while 100 PassesOwn.never (mt_cmp o_isNotN (mv 6) me_non (nomark _)) (mss_cons (ms_expr (me_app (mv 4) (ma_cons (mv 6) ma_nil)))
    (mss_cons (ms_set (i := 5) sc_slope_from.nd rfl (by first | exact Or.inl rfl | exact Or.inr rfl) (me_call (g_far_end.mono (by decide)) hr hgd (by rfl) m_far_end f_far_end.kp b_far_end (fun _ _ _ => den_len) (ma_cons (mv 0) (ma_cons (mv 6) (ma_cons (mv 5) ma_nil)))))
    (mss_one (ms_set (i := 6) sc_slope_from.nd rfl (by first | exact Or.inl rfl | exact Or.inr rfl) (me_call (g_way_toward.mono (by decide)) hr hgd (by rfl) m_way_toward f_way_toward.kp b_way_toward (fun _ _ _ => den_len) (ma_cons (mv 0) (ma_cons (mv 1) (ma_cons (mv 5) (ma_cons (mv 3) ma_nil))))))))))
    (mss_one (ms_ret (mv 4)))))))
theorem ok_air_along_slopes {f : Addr} {fd : FuncData} (fn : Fun K "air_along_slopes" "air_along_slopes" s_air_along_slopes f fd) {a_sign_between : Addr} {d_sign_between : FuncData} (f_sign_between : Fun K "sign_between" "sign_between" s_sign_between a_sign_between d_sign_between) (g_sign_between : FnG P w K mg base 1 a_sign_between d_sign_between ["levels", "x", "y"] F_sign_between) (m_sign_between : mg "sign_between" = some (.ref a_sign_between)) (b_sign_between : Binds K d_sign_between ["levels", "x", "y"] []) {a_slope_from : Addr} {d_slope_from : FuncData} (f_slope_from : Fun K "slope_from" "slope_from" s_slope_from a_slope_from d_slope_from) (g_slope_from : FnG P w K mg base 3 a_slope_from d_slope_from ["mine", "levels", "x", "side"] F_slope_from) (m_slope_from : mg "slope_from" = some (.ref a_slope_from)) (b_slope_from : Binds K d_slope_from ["mine", "levels", "x", "side"] []) (n_enumerate : mg "enumerate" = none) (n_len : mg "len" = none) {t_HIGHER : Tok} (k_HIGHER : mg "HIGHER" = some (.int (1) t_HIGHER)) {t_LOWER : Tok} (k_LOWER : mg "LOWER" = some (.int (-1) t_LOWER)) : FnG P w K mg base 4 f fd ["mine", "levels"] F_air_along_slopes := by
  refine fnG_of fn sc_air_along_slopes fun cdv A outer s H hr hgd => ⟨M_air_along_slopes, ?_, den_does⟩
  have hu := hr.units
  have hud := L2.hu_of hr
  have hu80 := room80 hr
  exact (mss_cons (ms_set (i := 2) sc_air_along_slopes.nd rfl (by first | exact Or.inl rfl | exact Or.inr rfl) (me_ix (mv 0) me_int (fun _ _ => rfl)))
    (mss_cons (ms_set (i := 3) sc_air_along_slopes.nd rfl (by first | exact Or.inl rfl | exact Or.inr rfl) (me_op o_mulW (me_lst (ma_cons me_int ma_nil)) (me_callB c_len (by rfl) n_len MS.boot_len (ma_cons (mv 2) ma_nil))))
    (mss_cons (ms_for PassesOwn.never rfl (mi_enum (by rfl) n_enumerate (ma_cons (mv 2) ma_nil)) (mg_tup rfl (mgs_cons (mg_name (i := 4) sc_air_along_slopes.nd rfl (by first | exact Or.inl rfl | exact Or.inr rfl)) (mgs_cons (mg_tup rfl (mgs_cons (mg_name (i := 6) sc_air_along_slopes.nd rfl (by first | exact Or.inl rfl | exact Or.inr rfl)) (mgs_cons (mg_name (i := 7) sc_air_along_slopes.nd rfl (by first | exact Or.inl rfl | exact Or.inr rfl)) mgs_nil))) mgs_nil))) (mss_cons (ms_set (i := 5) sc_air_along_slopes.nd rfl (by first | exact Or.inl rfl | exact Or.inr rfl) (me_call (g_sign_between.mono (by decide)) hr hgd (by rfl) m_sign_between f_sign_between.kp b_sign_between (fun _ _ _ => den_len) (ma_cons (mv 1) (ma_cons (mv 6) (ma_cons (mv 7) ma_nil)))))
    (mss_one (ms_if (mt_cmp (o_ne hu) (mv 5) me_int (nomark _)) (mss_cons (ms_asg (me_ifExp (mt_cmp (o_eq hu) (mv 5) me_int (nomark _)) (me_tup (ma_cons (mv 6) (ma_cons (mv 7) ma_nil))) (me_tup (ma_cons (mv 7) (ma_cons (mv 6) ma_nil)))) (mg_tup rfl (mgs_cons (mg_name (i := 9) sc_air_along_slopes.nd rfl (by first | exact Or.inl rfl | exact Or.inr rfl)) (mgs_cons (mg_name (i := 10) sc_air_along_slopes.nd rfl (by first | exact Or.inl rfl | exact Or.inr rfl)) mgs_nil))))
    (mss_one (ms_for PassesOwn.never rfl (mi_items (me_op o_add (me_op o_add (me_call (g_slope_from.mono (by decide)) hr hgd (by rfl) m_slope_from f_slope_from.kp b_slope_from (fun _ _ _ => den_len) (ma_cons (mv 0) (ma_cons (mv 1) (ma_cons (mv 9) (ma_cons (me_globI (by rfl) k_HIGHER) ma_nil))))) (me_lst (ma_cons (mv 4) ma_nil))) (me_call (g_slope_from.mono (by decide)) hr hgd (by rfl) m_slope_from f_slope_from.kp b_slope_from (fun _ _ _ => den_len) (ma_cons (mv 0) (ma_cons (mv 1) (ma_cons (mv 10) (ma_cons (me_globI (by rfl) k_LOWER) ma_nil))))))) (mg_name (i := 8) sc_air_along_slopes.nd rfl (by first | exact Or.inl rfl | exact Or.inr rfl)) (mss_one (ms_augS (mv 3) (mv 8) me_int i_add))))) mss_nil))))
    (mss_one (ms_ret (mv 3))))))
theorem ok_widths_for {f : Addr} {fd : FuncData} (fn : Fun K "widths_for" "widths_for" s_widths_for f fd) {a_air_along_slopes : Addr} {d_air_along_slopes : FuncData} (f_air_along_slopes : Fun K "air_along_slopes" "air_along_slopes" s_air_along_slopes a_air_along_slopes d_air_along_slopes) (g_air_along_slopes : FnG P w K mg base 4 a_air_along_slopes d_air_along_slopes ["mine", "levels"] F_air_along_slopes) (m_air_along_slopes : mg "air_along_slopes" = some (.ref a_air_along_slopes)) (b_air_along_slopes : Binds K d_air_along_slopes ["mine", "levels"] []) (n_abs : mg "abs" = none) (n_enumerate : mg "enumerate" = none) (n_tuple : mg "tuple" = none) (i_lcm : mg "lcm" = some (.builtin "math.lcm")) : FnG P w K mg base 5 f fd ["mine", "levels"] F_widths_for := by
  refine fnG_of fn sc_widths_for fun cdv A outer s H hr hgd => ⟨M_widths_for, ?_, den_does⟩
  have hu := hr.units
  have hud := L2.hu_of hr
  have hu80 := room80 hr
  exact (mss_cons (ms_set (i := 2) sc_widths_for.nd rfl (by first | exact Or.inl rfl | exact Or.inr rfl) (me_ix (mv 0) me_int (fun _ _ => rfl)))
    (mss_cons (ms_set (i := 3) sc_widths_for.nd rfl (by first | exact Or.inl rfl | exact Or.inr rfl) (me_call (g_air_along_slopes.mono (by decide)) hr hgd (by rfl) m_air_along_slopes f_air_along_slopes.kp b_air_along_slopes (fun _ _ _ => den_len) (ma_cons (mv 0) (ma_cons (mv 1) ma_nil))))
    (mss_cons (ms_setLc (j := 4) (own := [("a", 7), ("b", 8)]) (e := (mCall cAbs (mCons (mBin fSub (mBin fIx (mVar 1) (mVar 7)) (mBin fIx (mVar 1) (mVar 8))) mNil))) (is := [7, 8]) rfl sc_widths_for.nd rfl rfl (sw_true rfl rfl rfl (by decide +kernel)) (mi_items (mv 2)) (blkOk_by (own := [("a", 7), ("b", 8)]) (N := N_widths_for) (sc := defScope s_widths_for) (by decide +kernel)) (fun _ _ _ _ _ => (mgl_tup rfl (mgsl_cons (mgl_name (i := 7) sc_widths_for.nd rfl (by first | exact Or.inl rfl | exact Or.inr rfl)) (mgsl_cons (mgl_name (i := 8) sc_widths_for.nd rfl (by first | exact Or.inl rfl | exact Or.inr rfl)) mgsl_nil)))) (fun _ _ _ _ _ => mts_nil) (fun _ _ _ _ _ => (me_callB c_abs (by rfl) n_abs MS.boot_abs (ma_cons (me_op o_sub (me_ix (mv 1) (mv 7) (fun _ _ => rfl)) (me_ix (mv 1) (mv 8) (fun _ _ => rfl))) ma_nil))) (by decide))
    (mss_cons (ms_set (i := 5) sc_widths_for.nd rfl (by first | exact Or.inl rfl | exact Or.inr rfl) me_int)
    (mss_cons (ms_for PassesOwn.never rfl (mi_items (mv 4)) (mg_name (i := 6) sc_widths_for.nd rfl (by first | exact Or.inl rfl | exact Or.inr rfl)) (mss_one (ms_if (mt_cmp o_gt (mv 6) me_int (nomark _)) (mss_one (ms_set (i := 5) sc_widths_for.nd rfl (by first | exact Or.inl rfl | exact Or.inr rfl) (me_callI c_lcm (by rfl) i_lcm (ma_cons (mv 5) (ma_cons (mv 6) ma_nil))))) mss_nil)))
    (mss_one (ms_ret (me_callTy c_tuple (by rfl) n_tuple MS.boot_tuple (ma_cons (me_lc (own := [("w", 9), ("drop", 6)]) (e := (mIf (mB (mBin fGt (mVar 6) (mC (.int 0)))) (mBin fDivW (mBin fMulW (mBin fIx (mVar 3) (mVar 9)) (mVar 5)) (mVar 6)) (mC (.int 1)))) (is := [9, 6]) rfl sc_widths_for.nd (mi_enum (by rfl) n_enumerate (ma_cons (mv 4) ma_nil)) (blkOk_by (own := [("w", 9), ("drop", 6)]) (N := N_widths_for) (sc := defScope s_widths_for) (by decide +kernel)) (fun _ _ _ _ _ => (mgl_tup rfl (mgsl_cons (mgl_name (i := 9) sc_widths_for.nd rfl (by first | exact Or.inl rfl | exact Or.inr rfl)) (mgsl_cons (mgl_name (i := 6) sc_widths_for.nd rfl (by first | exact Or.inl rfl | exact Or.inr rfl)) mgsl_nil)))) (fun _ _ _ _ _ => mts_nil) (fun _ _ _ _ _ => (me_ifExp (mt_cmp o_gt (mv 6) me_int (nomark _)) (me_op o_divW (me_op o_mulW (me_ix (mv 3) (mv 9) (fun _ _ => rfl)) (mv 5)) (mv 6)) me_int)) (by decide)) ma_nil)))))))))
theorem ok_law_pen {f : Addr} {fd : FuncData} (fn : Fun K "_law_pen" "_law_pen" s_law_pen f fd) (n_list : mg "list" = none) : FnG P w K mg base 1 f fd ["script"] F_law_pen := by
  refine fnG_of fn sc_law_pen fun cdv A outer s H hr hgd => ⟨M_law_pen, ?_, den_does⟩
  have hu := hr.units
  have hud := L2.hu_of hr
  have hu80 := room80 hr
  exact (mss_one (ms_ret (me_lst (ma_cons (me_callTy c_list (by rfl) n_list MS.boot_list (ma_cons (me_slice (mv 0) mp_none (mp_some me_int)) ma_nil)) (ma_cons me_int (ma_cons me_int ma_nil))))))
theorem ok_law_fresh {f : Addr} {fd : FuncData} (fn : Fun K "_law_fresh" "_law_fresh" s_law_fresh f fd) (n_int : mg "int" = none) (n_len : mg "len" = none) (n_range : mg "range" = none) : FnG P w K mg base 1 f fd ["pen"] F_law_fresh := by
  refine fnG_of fn sc_law_fresh fun cdv A outer s H hr hgd => ⟨M_law_fresh, ?_, den_does⟩
  have hu := hr.units
  have hud := L2.hu_of hr
  have hu80 := room80 hr
  exact (mss_cons (ms_par (i := 6) (j := 7) rfl sc_law_fresh.nd rfl rfl (by decide) rfl rfl (ma_cons (me_ix (mv 0) me_int (fun _ _ => rfl)) (ma_cons (me_ix (mv 0) me_int (fun _ _ => rfl)) ma_nil)))
    (mss_cons (ms_asg (me_op o_add (mv 6) me_int) (mg_sub (mv 0) me_int))
    (mss_cons (ms_set (i := 1) sc_law_fresh.nd rfl (by first | exact Or.inl rfl | exact Or.inr rfl) (me_ifExp (mt_cmp (o_ne hu) (mv 7) (me_lst ma_nil) (nomark _)) (me_ix (mv 7) (me_op o_mod (me_callTy c_int (by rfl) n_int MS.boot_int (ma_cons (mv 6) ma_nil)) (me_callB c_len (by rfl) n_len MS.boot_len (ma_cons (mv 7) ma_nil))) (fun _ _ => rfl)) me_int))
    (mss_cons (ms_if (MW.mt (mw_and (mt_cmp o_lt (mv 6) (me_callB c_len (by rfl) n_len MS.boot_len (ma_cons (mv 7) ma_nil)) (nomark _)) (mw_and1 (mt_cmp o_ge (mv 1) (me_op o_pow me_int me_int) (nomark _))))) (mss_one (ms_ret (me_op o_sub (mv 1) (me_op o_pow me_int me_int)))) mss_nil)
    (mss_cons (ms_set (i := 2) sc_law_fresh.nd rfl (by first | exact Or.inl rfl | exact Or.inr rfl) me_int)
    (mss_cons (ms_set (i := 3) sc_law_fresh.nd rfl (by first | exact Or.inl rfl | exact Or.inr rfl) (me_op o_mod (me_callTy c_int (by rfl) n_int MS.boot_int (ma_cons (me_op o_add (me_op o_add (me_op o_mul (mv 1) me_int) (me_op o_mul me_int (mv 6))) me_int) ma_nil)) (mv 2)))
    (mss_cons (ms_set (i := 4) sc_law_fresh.nd rfl (by first | exact Or.inl rfl | exact Or.inr rfl) (mv 3))
    (mss_cons (ms_for PassesOwn.never rfl (mi_range1 (by rfl) n_range (ma_cons me_int ma_nil)) (mg_name (i := 5) sc_law_fresh.nd rfl (by first | exact Or.inl rfl | exact Or.inr rfl)) (mss_cons (ms_set (i := 3) sc_law_fresh.nd rfl (by first | exact Or.inl rfl | exact Or.inr rfl) (me_op o_mod (me_callTy c_int (by rfl) n_int MS.boot_int (ma_cons (me_op o_add (me_op o_add (me_op o_mul (mv 3) (mv 3)) (me_op o_mul (me_op o_mul me_int (me_op o_add (mv 5) me_int)) (me_op o_add (mv 6) me_int))) (mv 1)) ma_nil)) (mv 2)))
    (mss_one (ms_set (i := 4) sc_law_fresh.nd rfl (by first | exact Or.inl rfl | exact Or.inr rfl) (me_op o_add (me_op o_mul (mv 4) (mv 2)) (mv 3))))))
    (mss_one (ms_ret (mv 4)))))))))))
theorem ok_law_draw {f : Addr} {fd : FuncData} (fn : Fun K "_law_draw" "_law_draw" s_law_draw f fd) {a_law_fresh : Addr} {d_law_fresh : FuncData} (f_law_fresh : Fun K "_law_fresh" "_law_fresh" s_law_fresh a_law_fresh d_law_fresh) (g_law_fresh : FnG P w K mg base 1 a_law_fresh d_law_fresh ["pen"] F_law_fresh) (m_law_fresh : mg "_law_fresh" = some (.ref a_law_fresh)) (b_law_fresh : Binds K d_law_fresh ["pen"] []) (n_int : mg "int" = none) : FnG P w K mg base 2 f fd ["pen", "bound"] F_law_draw := by
  refine fnG_of fn sc_law_draw fun cdv A outer s H hr hgd => ⟨M_law_draw, ?_, den_does⟩
  have hu := hr.units
  have hud := L2.hu_of hr
  have hu80 := room80 hr
  exact (mss_cons (ms_if (mt_cmp o_lt (me_ix (mv 0) me_int (fun _ _ => rfl)) (mv 1) (nomark _)) (mss_one (ms_asg (me_call (g_law_fresh.mono (by decide)) hr hgd (by rfl) m_law_fresh f_law_fresh.kp b_law_fresh (fun _ _ _ => den_len) (ma_cons (mv 0) ma_nil)) (mg_sub (mv 0) me_int))) mss_nil)
    (mss_cons (ms_set (i := 2) sc_law_draw.nd rfl (by first | exact Or.inl rfl | exact Or.inr rfl) (me_op o_mod (me_callTy c_int (by rfl) n_int MS.boot_int (ma_cons (me_ix (mv 0) me_int (fun _ _ => rfl)) ma_nil)) (mv 1)))
    (mss_cons (ms_asg (me_op o_div (me_callTy c_int (by rfl) n_int MS.boot_int (ma_cons (me_ix (mv 0) me_int (fun _ _ => rfl)) ma_nil)) (mv 1)) (mg_sub (mv 0) me_int))
    (mss_one (ms_ret (mv 2))))))
theorem ok_law_one_of {f : Addr} {fd : FuncData} (fn : Fun K "_law_one_of" "_law_one_of" s_law_one_of f fd) {a_law_draw : Addr} {d_law_draw : FuncData} (f_law_draw : Fun K "_law_draw" "_law_draw" s_law_draw a_law_draw d_law_draw) (g_law_draw : FnG P w K mg base 2 a_law_draw d_law_draw ["pen", "bound"] F_law_draw) (m_law_draw : mg "_law_draw" = some (.ref a_law_draw)) (b_law_draw : Binds K d_law_draw ["pen", "bound"] []) (n_len : mg "len" = none) : FnG P w K mg base 3 f fd ["pen", "some"] F_law_one_of := by
  refine fnG_of fn sc_law_one_of fun cdv A outer s H hr hgd => ⟨M_law_one_of, ?_, den_does⟩
  have hu := hr.units
  have hud := L2.hu_of hr
  have hu80 := room80 hr
  exact (mss_one (ms_ret (me_ix (mv 1) (me_call (g_law_draw.mono (by decide)) hr hgd (by rfl) m_law_draw f_law_draw.kp b_law_draw (fun _ _ _ => den_len) (ma_cons (mv 0) (ma_cons (me_callB c_len (by rfl) n_len MS.boot_len (ma_cons (mv 1) ma_nil)) ma_nil))) (fun _ _ => rfl))))
theorem ok_law_whole {f : Addr} {fd : FuncData} (fn : Fun K "_law_whole" "_law_whole" s_law_whole f fd) (n_bool : mg "bool" = none) (n_int : mg "int" = none) (n_isinstance : mg "isinstance" = none) : FnG P w K mg base 1 f fd ["value", "low", "high"] F_law_whole := by
  refine fnG_of fn sc_law_whole fun cdv A outer s H hr hgd => ⟨M_law_whole, ?_, den_does⟩
  have hu := hr.units
  have hud := L2.hu_of hr
  have hu80 := room80 hr
  exact (mss_one (ms_ret (me_and (me_isi (T := "int") (by rfl) n_isinstance (by rfl) n_int MS.boot_int (mv 0)) (me_and (me_not (me_isi (T := "bool") (by rfl) n_isinstance (by rfl) n_bool MS.boot_bool (mv 0))) (me_one (me_chain o_le o_le (mv 1) (mv 0) (mv 2)))))))
theorem ok_law_at {f : Addr} {fd : FuncData} (fn : Fun K "_law_at" "_law_at" s_law_at f fd) : FnG P w K mg base 1 f fd ["rows", "place", "thing"] F_law_at := by
  refine fnG_of fn sc_law_at fun cdv A outer s H hr hgd => ⟨M_law_at, ?_, den_does⟩
  have hu := hr.units
  have hud := L2.hu_of hr
  have hu80 := room80 hr
  exact (mss_one (ms_ret (me_op o_add (me_op o_add (me_slice (mv 0) mp_none (mp_some (mv 1))) (me_tup (ma_cons (mv 2) ma_nil))) (me_slice (mv 0) (mp_some (me_op o_add (mv 1) me_int)) mp_none))))
theorem ok_law_two_places {f : Addr} {fd : FuncData} (fn : Fun K "_law_two_places" "_law_two_places" s_law_two_places f fd) {a_law_draw : Addr} {d_law_draw : FuncData} (f_law_draw : Fun K "_law_draw" "_law_draw" s_law_draw a_law_draw d_law_draw) (g_law_draw : FnG P w K mg base 2 a_law_draw d_law_draw ["pen", "bound"] F_law_draw) (m_law_draw : mg "_law_draw" = some (.ref a_law_draw)) (b_law_draw : Binds K d_law_draw ["pen", "bound"] []) (n_int : mg "int" = none) : FnG P w K mg base 3 f fd ["pen", "places"] F_law_two_places := by
  refine fnG_of fn sc_law_two_places fun cdv A outer s H hr hgd => ⟨M_law_two_places, ?_, den_does⟩
  have hu := hr.units
  have hud := L2.hu_of hr
  have hu80 := room80 hr
  exact (mss_cons (ms_set (i := 2) sc_law_two_places.nd rfl (by first | exact Or.inl rfl | exact Or.inr rfl) (me_call (g_law_draw.mono (by decide)) hr hgd (by rfl) m_law_draw f_law_draw.kp b_law_draw (fun _ _ _ => den_len) (ma_cons (mv 0) (ma_cons (mv 1) ma_nil))))
    (mss_one (ms_ret (me_tup (ma_cons (mv 2) (ma_cons (me_op o_mod (me_callTy c_int (by rfl) n_int MS.boot_int (ma_cons (me_op o_add (me_op o_add (mv 2) me_int) (me_call (g_law_draw.mono (by decide)) hr hgd (by rfl) m_law_draw f_law_draw.kp b_law_draw (fun _ _ _ => den_len) (ma_cons (mv 0) (ma_cons (me_op o_sub (mv 1) me_int) ma_nil)))) ma_nil)) (mv 1)) ma_nil))))))
theorem ok_law_mine {f : Addr} {fd : FuncData} (fn : Fun K "_law_mine" "_law_mine" s_law_mine f fd) {a_law_draw : Addr} {d_law_draw : FuncData} (f_law_draw : Fun K "_law_draw" "_law_draw" s_law_draw a_law_draw d_law_draw) (g_law_draw : FnG P w K mg base 2 a_law_draw d_law_draw ["pen", "bound"] F_law_draw) (m_law_draw : mg "_law_draw" = some (.ref a_law_draw)) (b_law_draw : Binds K d_law_draw ["pen", "bound"] []) {a_law_one_of : Addr} {d_law_one_of : FuncData} (f_law_one_of : Fun K "_law_one_of" "_law_one_of" s_law_one_of a_law_one_of d_law_one_of) (g_law_one_of : FnG P w K mg base 3 a_law_one_of d_law_one_of ["pen", "some"] F_law_one_of) (m_law_one_of : mg "_law_one_of" = some (.ref a_law_one_of)) (b_law_one_of : Binds K d_law_one_of ["pen", "some"] []) {a_law_two_places : Addr} {d_law_two_places : FuncData} (f_law_two_places : Fun K "_law_two_places" "_law_two_places" s_law_two_places a_law_two_places d_law_two_places) (g_law_two_places : FnG P w K mg base 3 a_law_two_places d_law_two_places ["pen", "places"] F_law_two_places) (m_law_two_places : mg "_law_two_places" = some (.ref a_law_two_places)) (b_law_two_places : Binds K d_law_two_places ["pen", "places"] []) (n_len : mg "len" = none) (n_min : mg "min" = none) (n_range : mg "range" = none) (n_tuple : mg "tuple" = none) : FnG P w K mg base 4 f fd ["pen", "most", "many"] F_law_mine := by
  refine fnG_of fn sc_law_mine fun cdv A outer s H hr hgd => ⟨M_law_mine, ?_, den_does⟩
  have hu := hr.units
  have hud := L2.hu_of hr
  have hu80 := room80 hr
  exact (mss_cons (ms_set (i := 3) sc_law_mine.nd rfl (by first | exact Or.inl rfl | exact Or.inr rfl) (me_call (g_law_one_of.mono (by decide)) hr hgd (by rfl) m_law_one_of f_law_one_of.kp b_law_one_of (fun _ _ _ => den_len) (ma_cons (mv 0) (ma_cons (me_lst (ma_cons me_int (ma_cons me_int (ma_cons (mv 1) (ma_cons (mv 1) (ma_cons (me_op o_add me_int (me_call (g_law_draw.mono (by decide)) hr hgd (by rfl) m_law_draw f_law_draw.kp b_law_draw (fun _ _ _ => den_len) (ma_cons (mv 0) (ma_cons (me_op o_sub (mv 1) me_int) ma_nil)))) ma_nil)))))) ma_nil))))
    (mss_cons (ms_par (i := 3) (j := 6) rfl sc_law_mine.nd rfl rfl (by decide) rfl rfl (ma_cons (me_callB (c_min rfl) (by rfl) n_min MS.boot_min (ma_cons (mv 3) (ma_cons (me_op o_add (mv 2) me_int) ma_nil))) (ma_cons (me_lst ma_nil) ma_nil)))
    (mss_cons (ms_for PassesOwn.never rfl (mi_range2 (by rfl) n_range (ma_cons me_int (ma_cons (mv 3) ma_nil))) (mg_name (i := 4) sc_law_mine.nd rfl (by first | exact Or.inl rfl | exact Or.inr rfl)) (mss_cons (ms_set (i := 7) sc_law_mine.nd rfl (by first | exact Or.inl rfl | exact Or.inr rfl) (me_tup (ma_cons (mv 4) (ma_cons (me_call (g_law_draw.mono (by decide)) hr hgd (by rfl) m_law_draw f_law_draw.kp b_law_draw (fun _ _ _ => den_len) (ma_cons (mv 0) (ma_cons (mv 4) ma_nil))) ma_nil))))
    (mss_one (ms_expr (me_app (mv 6) (ma_cons (me_ifExp (mt_cmp (o_eq hu) (me_call (g_law_draw.mono (by decide)) hr hgd (by rfl) m_law_draw f_law_draw.kp b_law_draw (fun _ _ _ => den_len) (ma_cons (mv 0) (ma_cons me_int ma_nil))) me_int (nomark _)) (mv 7) (me_revT (mv 7))) ma_nil))))))
    (mss_cons (ms_for PassesOwn.never rfl (mi_range1 (by rfl) n_range (ma_cons (me_call (g_law_draw.mono (by decide)) hr hgd (by rfl) m_law_draw f_law_draw.kp b_law_draw (fun _ _ _ => den_len) (ma_cons (mv 0) (ma_cons (me_op o_add (me_op o_sub (mv 2) (me_callB c_len (by rfl) n_len MS.boot_len (ma_cons (mv 6) ma_nil))) me_int) ma_nil))) ma_nil)) (mg_name (i := 5) sc_law_mine.nd rfl (by first | exact Or.inl rfl | exact Or.inr rfl)) (mss_one (ms_expr (me_app (mv 6) (ma_cons (me_call (g_law_two_places.mono (by decide)) hr hgd (by rfl) m_law_two_places f_law_two_places.kp b_law_two_places (fun _ _ _ => den_len) (ma_cons (mv 0) (ma_cons (mv 3) ma_nil))) ma_nil)))))
    (mss_cons (ms_asg (me_call (g_law_two_places.mono (by decide)) hr hgd (by rfl) m_law_two_places f_law_two_places.kp b_law_two_places (fun _ _ _ => den_len) (ma_cons (mv 0) (ma_cons (mv 3) ma_nil))) (mg_tup rfl (mgs_cons (mg_name (i := 8) sc_law_mine.nd rfl (by first | exact Or.inl rfl | exact Or.inr rfl)) (mgs_cons (mg_name (i := 9) sc_law_mine.nd rfl (by first | exact Or.inl rfl | exact Or.inr rfl)) mgs_nil))))
    (mss_one (ms_ret (me_tup (ma_cons (mv 3) (ma_cons (me_callTy c_tuple (by rfl) n_tuple MS.boot_tuple (ma_cons (mv 6) ma_nil)) (ma_cons (mv 8) (ma_cons (mv 9) ma_nil))))))))))))
theorem ok_law_inner {f : Addr} {fd : FuncData} (fn : Fun K "_law_inner" "_law_inner" s_law_inner f fd) (n_range : mg "range" = none) : FnG P w K mg base 1 f fd ["mine"] F_law_inner := by
  refine fnG_of fn sc_law_inner fun cdv A outer s H hr hgd => ⟨M_law_inner, ?_, den_does⟩
  have hu := hr.units
  have hud := L2.hu_of hr
  have hu80 := room80 hr
  exact (mss_one (ms_ret (me_lc (own := [("x", 1)]) (e := (mVar 1)) (is := [1]) rfl sc_law_inner.nd (mi_range1 (by rfl) n_range (ma_cons (me_ix (mv 0) me_int (fun _ _ => rfl)) ma_nil)) (blkOk_by (own := [("x", 1)]) (N := N_law_inner) (sc := defScope s_law_inner) (by decide +kernel)) (fun _ _ _ _ _ => (mgl_name (i := 1) sc_law_inner.nd rfl (by first | exact Or.inl rfl | exact Or.inr rfl))) (fun _ _ _ _ _ => (mts_one (mt_cmp o_notIn (mv 1) (me_slice (mv 0) (mp_some me_int) mp_none) (by rfl)))) (fun _ _ _ _ _ => (mv 1)) (by decide))))
theorem ok_law_sign {f : Addr} {fd : FuncData} (fn : Fun K "_law_sign" "_law_sign" s_law_sign f fd) (n_int : mg "int" = none) : FnG P w K mg base 1 f fd ["number"] F_law_sign := by
  refine fnG_of fn sc_law_sign fun cdv A outer s H hr hgd => ⟨M_law_sign, ?_, den_does⟩
  have hu := hr.units
  have hud := L2.hu_of hr
  have hu80 := room80 hr
  exact (mss_one (ms_ret (me_op o_sub (me_callTy c_int (by rfl) n_int MS.boot_int (ma_cons (me_cmp o_gt (mv 0) me_int (nomark _)) ma_nil)) (me_callTy c_int (by rfl) n_int MS.boot_int (ma_cons (me_cmp o_lt (mv 0) me_int (nomark _)) ma_nil)))))
theorem ok_law_widths {f : Addr} {fd : FuncData} (fn : Fun K "_law_widths" "_law_widths" s_law_widths f fd) {a_law_draw : Addr} {d_law_draw : FuncData} (f_law_draw : Fun K "_law_draw" "_law_draw" s_law_draw a_law_draw d_law_draw) (g_law_draw : FnG P w K mg base 2 a_law_draw d_law_draw ["pen", "bound"] F_law_draw) (m_law_draw : mg "_law_draw" = some (.ref a_law_draw)) (b_law_draw : Binds K d_law_draw ["pen", "bound"] []) {a_law_one_of : Addr} {d_law_one_of : FuncData} (f_law_one_of : Fun K "_law_one_of" "_law_one_of" s_law_one_of a_law_one_of d_law_one_of) (g_law_one_of : FnG P w K mg base 3 a_law_one_of d_law_one_of ["pen", "some"] F_law_one_of) (m_law_one_of : mg "_law_one_of" = some (.ref a_law_one_of)) (b_law_one_of : Binds K d_law_one_of ["pen", "some"] []) (n_tuple : mg "tuple" = none) : FnG P w K mg base 4 f fd ["pen", "mine"] F_law_widths := by
  refine fnG_of fn sc_law_widths fun cdv A outer s H hr hgd => ⟨M_law_widths, ?_, den_does⟩
  have hu := hr.units
  have hud := L2.hu_of hr
  have hu80 := room80 hr
  exact (mss_cons (ms_set (i := 2) sc_law_widths.nd rfl (by first | exact Or.inl rfl | exact Or.inr rfl) (me_call (g_law_one_of.mono (by decide)) hr hgd (by rfl) m_law_one_of f_law_one_of.kp b_law_one_of (fun _ _ _ => den_len) (ma_cons (mv 0) (ma_cons (me_lst (ma_cons me_int (ma_cons me_int (ma_cons me_int (ma_cons me_int (ma_cons (me_op o_pow me_int me_int) ma_nil)))))) ma_nil))))
    (mss_one (ms_ret (me_callTy c_tuple (by rfl) n_tuple MS.boot_tuple (ma_cons (me_lc (own := [("way", 3)]) (e := (mBin fAdd (mC (.int 1)) (mCall F_law_draw (mCons (mVar 0) (mCons (mVar 2) mNil))))) (is := [3]) rfl sc_law_widths.nd (mi_items (me_ix (mv 1) me_int (fun _ _ => rfl))) (blkOk_by (own := [("way", 3)]) (N := N_law_widths) (sc := defScope s_law_widths) (by decide +kernel)) (fun _ _ _ _ _ => (mgl_name (i := 3) sc_law_widths.nd rfl (by first | exact Or.inl rfl | exact Or.inr rfl))) (fun _ _ _ _ _ => mts_nil) (fun _ _ _ _ _ => (me_op o_add me_int (me_call (g_law_draw.mono (by decide)) hr hgd (by rfl) m_law_draw f_law_draw.kp b_law_draw (fun _ _ _ => den_len) (ma_cons (mv 0) (ma_cons (mv 2) ma_nil))))) (by decide)) ma_nil)))))
theorem ok_law_is_balanced {f : Addr} {fd : FuncData} (fn : Fun K "_law_is_balanced" "_law_is_balanced" s_law_is_balanced f fd) {a_law_inner : Addr} {d_law_inner : FuncData} (f_law_inner : Fun K "_law_inner" "_law_inner" s_law_inner a_law_inner d_law_inner) (g_law_inner : FnG P w K mg base 1 a_law_inner d_law_inner ["mine"] F_law_inner) (m_law_inner : mg "_law_inner" = some (.ref a_law_inner)) (b_law_inner : Binds K d_law_inner ["mine"] []) {a_law_sign : Addr} {d_law_sign : FuncData} (f_law_sign : Fun K "_law_sign" "_law_sign" s_law_sign a_law_sign d_law_sign) (g_law_sign : FnG P w K mg base 1 a_law_sign d_law_sign ["number"] F_law_sign) (m_law_sign : mg "_law_sign" = some (.ref a_law_sign)) (b_law_sign : Binds K d_law_sign ["number"] []) : FnG P w K mg base 2 f fd ["mine", "levels"] F_law_is_balanced := by
  refine fnG_of fn sc_law_is_balanced fun cdv A outer s H hr hgd => ⟨M_law_is_balanced, ?_, den_does⟩
  have hu := hr.units
  have hud := L2.hu_of hr
  have hu80 := room80 hr
  exact (mss_cons (ms_if (mt_cmp o_le (me_ix (mv 1) (me_ix (mv 0) me_int (fun _ _ => rfl)) (fun _ _ => rfl)) (me_ix (mv 1) (me_ix (mv 0) me_int (fun _ _ => rfl)) (fun _ _ => rfl)) (nomark _)) (mss_one (ms_ret me_bl)) mss_nil)
    (mss_cons (ms_for PassesOwn.never rfl (mi_items (me_call (g_law_inner.mono (by decide)) hr hgd (by rfl) m_law_inner f_law_inner.kp b_law_inner (fun _ _ _ => den_len) (ma_cons (mv 0) ma_nil))) (mg_name (i := 2) sc_law_is_balanced.nd rfl (by first | exact Or.inl rfl | exact Or.inr rfl)) (mss_cons (ms_set (i := 3) sc_law_is_balanced.nd rfl (by first | exact Or.inl rfl | exact Or.inr rfl) (me_lst ma_nil))
    (mss_cons (ms_for PassesOwn.never rfl (mi_items (me_ix (mv 0) me_int (fun _ _ => rfl))) (mg_tup rfl (mgs_cons (mg_name (i := 4) sc_law_is_balanced.nd rfl (by first | exact Or.inl rfl | exact Or.inr rfl)) (mgs_cons (mg_name (i := 5) sc_law_is_balanced.nd rfl (by first | exact Or.inl rfl | exact Or.inr rfl)) mgs_nil))) (mss_one (ms_if (mt_cmp o_in (mv 2) (me_tup (ma_cons (mv 4) (ma_cons (mv 5) ma_nil))) (by rfl)) (mss_cons (ms_set (i := 6) sc_law_is_balanced.nd rfl (by first | exact Or.inl rfl | exact Or.inr rfl) (me_ifExp (mt_cmp (o_eq hu) (mv 4) (mv 2) (nomark _)) (mv 5) (mv 4)))
    (mss_one (ms_expr (me_app (mv 3) (ma_cons (me_call (g_law_sign.mono (by decide)) hr hgd (by rfl) m_law_sign f_law_sign.kp b_law_sign (fun _ _ _ => den_len) (ma_cons (me_op o_sub (me_ix (mv 1) (mv 6) (fun _ _ => rfl)) (me_ix (mv 1) (mv 2) (fun _ _ => rfl))) ma_nil)) ma_nil))))) mss_nil)))
    (mss_one (ms_if (mt_cmp (o_ne hu) (me_cmp o_in me_int (mv 3) (by rfl)) (me_cmp o_in (me_neg me_int) (mv 3) (by rfl)) (nomark _)) (mss_one (ms_ret me_bl)) mss_nil)))))
    (mss_one (ms_ret me_bl))))
theorem ok_law_is_state {f : Addr} {fd : FuncData} (fn : Fun K "_law_is_state" "_law_is_state" s_law_is_state f fd) {a_law_inner : Addr} {d_law_inner : FuncData} (f_law_inner : Fun K "_law_inner" "_law_inner" s_law_inner a_law_inner d_law_inner) (g_law_inner : FnG P w K mg base 1 a_law_inner d_law_inner ["mine"] F_law_inner) (m_law_inner : mg "_law_inner" = some (.ref a_law_inner)) (b_law_inner : Binds K d_law_inner ["mine"] []) (n_enumerate : mg "enumerate" = none) : FnG P w K mg base 2 f fd ["mine", "widths", "levels"] F_law_is_state := by
  refine fnG_of fn sc_law_is_state fun cdv A outer s H hr hgd => ⟨M_law_is_state, ?_, den_does⟩
  have hu := hr.units
  have hud := L2.hu_of hr
  have hu80 := room80 hr
  exact (mss_cons (ms_if (mt_cmp o_le (me_ix (mv 2) (me_ix (mv 0) me_int (fun _ _ => rfl)) (fun _ _ => rfl)) (me_ix (mv 2) (me_ix (mv 0) me_int (fun _ _ => rfl)) (fun _ _ => rfl)) (nomark _)) (mss_one (ms_ret me_bl)) mss_nil)
    (mss_cons (ms_set (i := 3) sc_law_is_state.nd rfl (by first | exact Or.inl rfl | exact Or.inr rfl) (me_op o_mulW (me_lst (ma_cons me_int ma_nil)) (me_ix (mv 0) me_int (fun _ _ => rfl))))
    (mss_cons (ms_for PassesOwn.never rfl (mi_enum (by rfl) n_enumerate (ma_cons (me_ix (mv 0) me_int (fun _ _ => rfl)) ma_nil)) (mg_tup rfl (mgs_cons (mg_name (i := 4) sc_law_is_state.nd rfl (by first | exact Or.inl rfl | exact Or.inr rfl)) (mgs_cons (mg_name (i := 5) sc_law_is_state.nd rfl (by first | exact Or.inl rfl | exact Or.inr rfl)) mgs_nil))) (mss_cons (ms_set (i := 6) sc_law_is_state.nd rfl (by first | exact Or.inl rfl | exact Or.inr rfl) (me_op o_mulW (me_ix (mv 1) (mv 4) (fun _ _ => rfl)) (me_op o_sub (me_ix (mv 2) (me_ix (mv 5) me_int (fun _ _ => rfl)) (fun _ _ => rfl)) (me_ix (mv 2) (me_ix (mv 5) me_int (fun _ _ => rfl)) (fun _ _ => rfl)))))
    (mss_cons (ms_asg (me_op o_sub (me_ix (mv 3) (me_ix (mv 5) me_int (fun _ _ => rfl)) (fun _ _ => rfl)) (mv 6)) (mg_sub (mv 3) (me_ix (mv 5) me_int (fun _ _ => rfl))))
    (mss_one (ms_asg (me_op o_add (me_ix (mv 3) (me_ix (mv 5) me_int (fun _ _ => rfl)) (fun _ _ => rfl)) (mv 6)) (mg_sub (mv 3) (me_ix (mv 5) me_int (fun _ _ => rfl))))))))
    (mss_one (ms_ret (me_cmp (o_eq hu) (me_lc (own := [("x", 7)]) (e := (mVar 7)) (is := [7]) rfl sc_law_is_state.nd (mi_items (me_call (g_law_inner.mono (by decide)) hr hgd (by rfl) m_law_inner f_law_inner.kp b_law_inner (fun _ _ _ => den_len) (ma_cons (mv 0) ma_nil))) (blkOk_by (own := [("x", 7)]) (N := N_law_is_state) (sc := defScope s_law_is_state) (by decide +kernel)) (fun _ _ _ _ _ => (mgl_name (i := 7) sc_law_is_state.nd rfl (by first | exact Or.inl rfl | exact Or.inr rfl))) (fun _ _ _ _ _ => (mts_one (mt_cmp (o_ne hu) (me_ix (mv 3) (mv 7) (fun _ _ => rfl)) me_int (nomark _)))) (fun _ _ _ _ _ => (mv 7)) (by decide)) (me_lst ma_nil) (nomark _)))))))
theorem ok_law_is_tuple {f : Addr} {fd : FuncData} (fn : Fun K "_law_is_tuple" "_law_is_tuple" s_law_is_tuple f fd) (n_isinstance : mg "isinstance" = none) (n_len : mg "len" = none) (n_tuple : mg "tuple" = none) : FnG P w K mg base 1 f fd ["value", "many"] F_law_is_tuple := by
  refine fnG_of fn sc_law_is_tuple fun cdv A outer s H hr hgd => ⟨M_law_is_tuple, ?_, den_does⟩
  have hu := hr.units
  have hud := L2.hu_of hr
  have hu80 := room80 hr
  exact (mss_one (ms_ret (me_and (me_isi (T := "tuple") (by rfl) n_isinstance (by rfl) n_tuple MS.boot_tuple (mv 0)) (me_one (me_cmp (o_eq hu) (me_callB c_len (by rfl) n_len MS.boot_len (ma_cons (mv 0) ma_nil)) (mv 1) (nomark _))))))
theorem ok_law_stretched {f : Addr} {fd : FuncData} (fn : Fun K "_law_stretched" "_law_stretched" s_law_stretched f fd) {a_law_draw : Addr} {d_law_draw : FuncData} (f_law_draw : Fun K "_law_draw" "_law_draw" s_law_draw a_law_draw d_law_draw) (g_law_draw : FnG P w K mg base 2 a_law_draw d_law_draw ["pen", "bound"] F_law_draw) (m_law_draw : mg "_law_draw" = some (.ref a_law_draw)) (b_law_draw : Binds K d_law_draw ["pen", "bound"] []) {a_law_one_of : Addr} {d_law_one_of : FuncData} (f_law_one_of : Fun K "_law_one_of" "_law_one_of" s_law_one_of a_law_one_of d_law_one_of) (g_law_one_of : FnG P w K mg base 3 a_law_one_of d_law_one_of ["pen", "some"] F_law_one_of) (m_law_one_of : mg "_law_one_of" = some (.ref a_law_one_of)) (b_law_one_of : Binds K d_law_one_of ["pen", "some"] []) (n_set : mg "set" = none) (n_sorted : mg "sorted" = none) (n_tuple : mg "tuple" = none) : FnG P w K mg base 4 f fd ["pen", "levels"] F_law_stretched := by
  refine fnG_of fn sc_law_stretched fun cdv A outer s H hr hgd => ⟨M_law_stretched, ?_, den_does⟩
  have hu := hr.units
  have hud := L2.hu_of hr
  have hu80 := room80 hr
  exact (mss_cons (ms_asg (me_tup (ma_cons me_dnewK (ma_cons (me_call (g_law_one_of.mono (by decide)) hr hgd (by rfl) m_law_one_of f_law_one_of.kp b_law_one_of (fun _ _ _ => den_len) (ma_cons (mv 0) (ma_cons (me_lst (ma_cons me_int (ma_cons (me_neg me_int) (ma_cons (me_neg me_int) (ma_cons me_int ma_nil))))) ma_nil))) ma_nil))) (mg_tup rfl (mgs_cons (mg_name (i := 3) sc_law_stretched.nd rfl (by first | exact Or.inl rfl | exact Or.inr rfl)) (mgs_cons (mg_name (i := 4) sc_law_stretched.nd rfl (by first | exact Or.inl rfl | exact Or.inr rfl)) mgs_nil))))
    (mss_cons (ms_for PassesOwn.never rfl (mi_items (me_sortSet rfl (by rfl) n_sorted (by rfl) n_set (ma_cons (mv 1) ma_nil))) (mg_name (i := 2) sc_law_stretched.nd rfl (by first | exact Or.inl rfl | exact Or.inr rfl)) (mss_cons (ms_asg (mv 4) (mg_dict hud (mv 3) (mv 2)))
    (mss_one (ms_set (i := 4) sc_law_stretched.nd rfl (by first | exact Or.inl rfl | exact Or.inr rfl) (me_op o_add (me_op o_add (mv 4) me_int) (me_call (g_law_draw.mono (by decide)) hr hgd (by rfl) m_law_draw f_law_draw.kp b_law_draw (fun _ _ _ => den_len) (ma_cons (mv 0) (ma_cons (me_call (g_law_one_of.mono (by decide)) hr hgd (by rfl) m_law_one_of f_law_one_of.kp b_law_one_of (fun _ _ _ => den_len) (ma_cons (mv 0) (ma_cons (me_lst (ma_cons me_int (ma_cons me_int (ma_cons me_int (ma_cons me_int (ma_cons me_int ma_nil)))))) ma_nil))) ma_nil))))))))
    (mss_one (ms_ret (me_callTy c_tuple (by rfl) n_tuple MS.boot_tuple (ma_cons (me_lc (own := [("level", 2)]) (e := (mBin fIxD (mVar 3) (mVar 2))) (is := [2]) rfl sc_law_stretched.nd (mi_items (mv 1)) (blkOk_by (own := [("level", 2)]) (N := N_law_stretched) (sc := defScope s_law_stretched) (by decide +kernel)) (fun _ _ _ _ _ => (mgl_name (i := 2) sc_law_stretched.nd rfl (by first | exact Or.inl rfl | exact Or.inr rfl))) (fun _ _ _ _ _ => mts_nil) (fun _ _ _ _ _ => (me_ixD hud (mv 3) (mv 2) (fun _ _ => rfl) (fun _ _ => rfl))) (by decide)) ma_nil))))))
theorem ok_law_right {f : Addr} {fd : FuncData} (fn : Fun K "_law_right" "_law_right" s_law_right f fd) {a_law_is_balanced : Addr} {d_law_is_balanced : FuncData} (f_law_is_balanced : Fun K "_law_is_balanced" "_law_is_balanced" s_law_is_balanced a_law_is_balanced d_law_is_balanced) (g_law_is_balanced : FnG P w K mg base 2 a_law_is_balanced d_law_is_balanced ["mine", "levels"] F_law_is_balanced) (m_law_is_balanced : mg "_law_is_balanced" = some (.ref a_law_is_balanced)) (b_law_is_balanced : Binds K d_law_is_balanced ["mine", "levels"] []) {a_law_is_state : Addr} {d_law_is_state : FuncData} (f_law_is_state : Fun K "_law_is_state" "_law_is_state" s_law_is_state a_law_is_state d_law_is_state) (g_law_is_state : FnG P w K mg base 2 a_law_is_state d_law_is_state ["mine", "widths", "levels"] F_law_is_state) (m_law_is_state : mg "_law_is_state" = some (.ref a_law_is_state)) (b_law_is_state : Binds K d_law_is_state ["mine", "widths", "levels"] []) {a_law_is_tuple : Addr} {d_law_is_tuple : FuncData} (f_law_is_tuple : Fun K "_law_is_tuple" "_law_is_tuple" s_law_is_tuple a_law_is_tuple d_law_is_tuple) (g_law_is_tuple : FnG P w K mg base 1 a_law_is_tuple d_law_is_tuple ["value", "many"] F_law_is_tuple) (m_law_is_tuple : mg "_law_is_tuple" = some (.ref a_law_is_tuple)) (b_law_is_tuple : Binds K d_law_is_tuple ["value", "many"] []) {a_law_whole : Addr} {d_law_whole : FuncData} (f_law_whole : Fun K "_law_whole" "_law_whole" s_law_whole a_law_whole d_law_whole) (g_law_whole : FnG P w K mg base 1 a_law_whole d_law_whole ["value", "low", "high"] F_law_whole) (m_law_whole : mg "_law_whole" = some (.ref a_law_whole)) (b_law_whole : Binds K d_law_whole ["value", "low", "high"] []) {a_is_balanced : Addr} {d_is_balanced : FuncData} (f_is_balanced : Fun K "is_balanced" "is_balanced" s_is_balanced a_is_balanced d_is_balanced) (g_is_balanced : FnG P w K mg base 3 a_is_balanced d_is_balanced ["mine", "levels"] F_is_balanced) (m_is_balanced : mg "is_balanced" = some (.ref a_is_balanced)) (b_is_balanced : Binds K d_is_balanced ["mine", "levels"] []) {a_widths_for : Addr} {d_widths_for : FuncData} (f_widths_for : Fun K "widths_for" "widths_for" s_widths_for a_widths_for d_widths_for) (g_widths_for : FnG P w K mg base 5 a_widths_for d_widths_for ["mine", "levels"] F_widths_for) (m_widths_for : mg "widths_for" = some (.ref a_widths_for)) (b_widths_for : Binds K d_widths_for ["mine", "levels"] []) (n_len : mg "len" = none) (n_max : mg "max" = none) (n_min : mg "min" = none) (n_repr : mg "repr" = none) : FnG P w K mg base 6 f fd ["mine", "levels"] F_law_right := by
  refine fnG_of fn sc_law_right fun cdv A outer s H hr hgd => ⟨M_law_right, ?_, den_does⟩
  have hu := hr.units
  have hud := L2.hu_of hr
  have hu80 := room80 hr
  exact (mss_cons (ms_par (i := 2) (j := 3) rfl sc_law_right.nd rfl rfl (by decide) rfl rfl (ma_cons (me_call (g_law_is_balanced.mono (by decide)) hr hgd (by rfl) m_law_is_balanced f_law_is_balanced.kp b_law_is_balanced (fun _ _ _ => den_len) (ma_cons (mv 0) (ma_cons (mv 1) ma_nil))) (ma_cons (me_callB (c_repr hgd hu80) (by rfl) n_repr MS.boot_repr (ma_cons (me_tup (ma_cons (mv 0) (ma_cons (mv 1) ma_nil))) ma_nil)) ma_nil)))
    (mss_cons (ms_if (mt_cmp (o_ne hu) (me_callB (c_repr hgd hu80) (by rfl) n_repr MS.boot_repr (ma_cons (me_call (g_is_balanced.mono (by decide)) hr hgd (by rfl) m_is_balanced f_is_balanced.kp b_is_balanced (fun _ _ _ => den_len) (ma_cons (mv 0) (ma_cons (mv 1) ma_nil))) ma_nil)) (me_callB (c_repr hgd hu80) (by rfl) n_repr MS.boot_repr (ma_cons (mv 2) ma_nil)) (nomark _)) (mss_one (ms_ret me_bl)) mss_nil)
    (mss_cons (ms_if (MW.mt (mw_and (mt_val (mv 2)) (mw_and (mt_cmp o_lt (me_op o_sub (me_callB (c_maxA rfl) (by rfl) n_max MS.boot_max (ma_cons (mv 1) ma_nil)) (me_callB (c_minA rfl) (by rfl) n_min MS.boot_min (ma_cons (mv 1) ma_nil))) (me_op o_pow me_int me_int) (nomark _)) (mw_and1 (mt_cmp o_lt (me_callB (c_maxA rfl) (by rfl) n_max MS.boot_max (ma_cons (mv 1) ma_nil)) (me_op o_pow me_int me_int) (nomark _)))))) (mss_cons (ms_set (i := 4) sc_law_right.nd rfl (by first | exact Or.inl rfl | exact Or.inr rfl) (me_call (g_widths_for.mono (by decide)) hr hgd (by rfl) m_widths_for f_widths_for.kp b_widths_for (fun _ _ _ => den_len) (ma_cons (mv 0) (ma_cons (mv 1) ma_nil))))
    (mss_cons (ms_if (mt_not (mt_val (me_call (g_law_is_tuple.mono (by decide)) hr hgd (by rfl) m_law_is_tuple f_law_is_tuple.kp b_law_is_tuple (fun _ _ _ => den_len) (ma_cons (mv 4) (ma_cons (me_callB c_len (by rfl) n_len MS.boot_len (ma_cons (me_ix (mv 0) me_int (fun _ _ => rfl)) ma_nil)) ma_nil))))) (mss_one (ms_ret me_bl)) mss_nil)
    (mss_cons (ms_if (mt_cmp (o_ne hu) (me_lc (own := [("width", 5)]) (e := (mC (.int 1))) (is := [5]) rfl sc_law_right.nd (mi_items (mv 4)) (blkOk_by (own := [("width", 5)]) (N := N_law_right) (sc := defScope s_law_right) (by decide +kernel)) (fun _ _ _ _ _ => (mgl_name (i := 5) sc_law_right.nd rfl (by first | exact Or.inl rfl | exact Or.inr rfl))) (fun _ _ _ _ _ => (mts_one (mt_not (mt_val (me_call (g_law_whole.mono (by decide)) hr hgd (by rfl) m_law_whole f_law_whole.kp b_law_whole (fun _ _ _ => den_len) (ma_cons (mv 5) (ma_cons me_int (ma_cons (me_op o_pow me_int me_int) ma_nil)))))))) (fun _ _ _ _ _ => me_int) (by decide)) (me_lst ma_nil) (nomark _)) (mss_one (ms_ret me_bl)) mss_nil)
    (mss_one (ms_if (mt_not (mt_val (me_call (g_law_is_state.mono (by decide)) hr hgd (by rfl) m_law_is_state f_law_is_state.kp b_law_is_state (fun _ _ _ => den_len) (ma_cons (mv 0) (ma_cons (mv 4) (ma_cons (mv 1) ma_nil)))))) (mss_one (ms_ret me_bl)) mss_nil))))) mss_nil)
    (mss_one (ms_ret (me_cmp (o_eq hu) (me_callB (c_repr hgd hu80) (by rfl) n_repr MS.boot_repr (ma_cons (me_tup (ma_cons (mv 0) (ma_cons (mv 1) ma_nil))) ma_nil)) (mv 3) (nomark _)))))))
theorem ok_law {f : Addr} {fd : FuncData} (fn : Fun K "law" "law" s_law f fd) {a_law_at : Addr} {d_law_at : FuncData} (f_law_at : Fun K "_law_at" "_law_at" s_law_at a_law_at d_law_at) (g_law_at : FnG P w K mg base 1 a_law_at d_law_at ["rows", "place", "thing"] F_law_at) (m_law_at : mg "_law_at" = some (.ref a_law_at)) (b_law_at : Binds K d_law_at ["rows", "place", "thing"] []) {a_law_draw : Addr} {d_law_draw : FuncData} (f_law_draw : Fun K "_law_draw" "_law_draw" s_law_draw a_law_draw d_law_draw) (g_law_draw : FnG P w K mg base 2 a_law_draw d_law_draw ["pen", "bound"] F_law_draw) (m_law_draw : mg "_law_draw" = some (.ref a_law_draw)) (b_law_draw : Binds K d_law_draw ["pen", "bound"] []) {a_law_mine : Addr} {d_law_mine : FuncData} (f_law_mine : Fun K "_law_mine" "_law_mine" s_law_mine a_law_mine d_law_mine) (g_law_mine : FnG P w K mg base 4 a_law_mine d_law_mine ["pen", "most", "many"] F_law_mine) (m_law_mine : mg "_law_mine" = some (.ref a_law_mine)) (b_law_mine : Binds K d_law_mine ["pen", "most", "many"] []) {a_law_one_of : Addr} {d_law_one_of : FuncData} (f_law_one_of : Fun K "_law_one_of" "_law_one_of" s_law_one_of a_law_one_of d_law_one_of) (g_law_one_of : FnG P w K mg base 3 a_law_one_of d_law_one_of ["pen", "some"] F_law_one_of) (m_law_one_of : mg "_law_one_of" = some (.ref a_law_one_of)) (b_law_one_of : Binds K d_law_one_of ["pen", "some"] []) {a_law_pen : Addr} {d_law_pen : FuncData} (f_law_pen : Fun K "_law_pen" "_law_pen" s_law_pen a_law_pen d_law_pen) (g_law_pen : FnG P w K mg base 1 a_law_pen d_law_pen ["script"] F_law_pen) (m_law_pen : mg "_law_pen" = some (.ref a_law_pen)) (b_law_pen : Binds K d_law_pen ["script"] []) {a_law_right : Addr} {d_law_right : FuncData} (f_law_right : Fun K "_law_right" "_law_right" s_law_right a_law_right d_law_right) (g_law_right : FnG P w K mg base 6 a_law_right d_law_right ["mine", "levels"] F_law_right) (m_law_right : mg "_law_right" = some (.ref a_law_right)) (b_law_right : Binds K d_law_right ["mine", "levels"] []) {a_law_stretched : Addr} {d_law_stretched : FuncData} (f_law_stretched : Fun K "_law_stretched" "_law_stretched" s_law_stretched a_law_stretched d_law_stretched) (g_law_stretched : FnG P w K mg base 4 a_law_stretched d_law_stretched ["pen", "levels"] F_law_stretched) (m_law_stretched : mg "_law_stretched" = some (.ref a_law_stretched)) (b_law_stretched : Binds K d_law_stretched ["pen", "levels"] []) {a_law_widths : Addr} {d_law_widths : FuncData} (f_law_widths : Fun K "_law_widths" "_law_widths" s_law_widths a_law_widths d_law_widths) (g_law_widths : FnG P w K mg base 4 a_law_widths d_law_widths ["pen", "mine"] F_law_widths) (m_law_widths : mg "_law_widths" = some (.ref a_law_widths)) (b_law_widths : Binds K d_law_widths ["pen", "mine"] []) {a_levels_for : Addr} {d_levels_for : FuncData} (f_levels_for : Fun K "levels_for" "levels_for" s_levels_for a_levels_for d_levels_for) (g_levels_for : FnG P w K mg base 3 a_levels_for d_levels_for ["mine", "widths"] F_levels_for) (m_levels_for : mg "levels_for" = some (.ref a_levels_for)) (b_levels_for : Binds K d_levels_for ["mine", "widths"] []) (n_len : mg "len" = none) (n_max : mg "max" = none) (n_min : mg "min" = none) (n_range : mg "range" = none) (n_tuple : mg "tuple" = none) : FnG P w K mg base 7 f fd ["script"] F_law := by
  refine fnG_of fn sc_law fun cdv A outer s H hr hgd => ⟨M_law, ?_, den_does⟩
  have hu := hr.units
  have hud := L2.hu_of hr
  have hu80 := room80 hr
  exact (mss_cons (ms_set (i := 1) sc_law.nd rfl (by first | exact Or.inl rfl | exact Or.inr rfl) (me_call (g_law_pen.mono (by decide)) hr hgd (by rfl) m_law_pen f_law_pen.kp b_law_pen (fun _ _ _ => den_len) (ma_cons (mv 0) ma_nil)))
    (mss_cons (ms_for PassesOwn.never rfl (mi_range1 (by rfl) n_range (ma_cons (me_callB (c_max rfl) (by rfl) n_max MS.boot_max (ma_cons me_int (ma_cons (me_callB (c_min rfl) (by rfl) n_min MS.boot_min (ma_cons me_int (ma_cons (me_callB c_len (by rfl) n_len MS.boot_len (ma_cons (mv 0) ma_nil)) ma_nil))) ma_nil))) ma_nil)) (mg_name (i := 2) sc_law.nd rfl (by first | exact Or.inl rfl | exact Or.inr rfl)) (mss_cons (ms_set (i := 3) sc_law.nd rfl (by first | exact Or.inl rfl | exact Or.inr rfl) (me_call (g_law_mine.mono (by decide)) hr hgd (by rfl) m_law_mine f_law_mine.kp b_law_mine (fun _ _ _ => den_len) (ma_cons (mv 1) (ma_cons (me_op o_add me_int (me_call (g_law_draw.mono (by decide)) hr hgd (by rfl) m_law_draw f_law_draw.kp b_law_draw (fun _ _ _ => den_len) (ma_cons (mv 1) (ma_cons me_int ma_nil)))) (ma_cons me_int ma_nil)))))
    (mss_cons (ms_for PassesOwn.never rfl (mi_range1 (by rfl) n_range (ma_cons me_int ma_nil)) (mg_name (i := 4) sc_law.nd rfl (by first | exact Or.inl rfl | exact Or.inr rfl)) (mss_cons (ms_set (i := 5) sc_law.nd rfl (by first | exact Or.inl rfl | exact Or.inr rfl) (me_callTy c_tuple (by rfl) n_tuple MS.boot_tuple (ma_cons (me_lc (own := [("x", 6)]) (e := (mCall F_law_draw (mCons (mVar 1) (mCons (mCall F_law_one_of (mCons (mVar 1) (mCons (mLst (mCons (mC (.int 2)) (mCons (mC (.int 3)) (mCons (mC (.int 4)) mNil)))) mNil))) mNil)))) (is := [6]) rfl sc_law.nd (mi_range1 (by rfl) n_range (ma_cons (me_ix (mv 3) me_int (fun _ _ => rfl)) ma_nil)) (blkOk_by (own := [("x", 6)]) (N := N_law) (sc := defScope s_law) (by decide +kernel)) (fun _ _ _ _ _ => (mgl_name (i := 6) sc_law.nd rfl (by first | exact Or.inl rfl | exact Or.inr rfl))) (fun _ _ _ _ _ => mts_nil) (fun _ _ _ _ _ => (me_call (g_law_draw.mono (by decide)) hr hgd (by rfl) m_law_draw f_law_draw.kp b_law_draw (fun _ _ _ => den_len) (ma_cons (mv 1) (ma_cons (me_call (g_law_one_of.mono (by decide)) hr hgd (by rfl) m_law_one_of f_law_one_of.kp b_law_one_of (fun _ _ _ => den_len) (ma_cons (mv 1) (ma_cons (me_lst (ma_cons me_int (ma_cons me_int (ma_cons me_int ma_nil)))) ma_nil))) ma_nil)))) (by decide)) ma_nil)))
    (mss_one (ms_if (mt_not (mt_val (me_call (g_law_right.mono (by decide)) hr hgd (by rfl) m_law_right f_law_right.kp b_law_right (fun _ _ _ => den_len) (ma_cons (mv 3) (ma_cons (mv 5) ma_nil))))) (mss_one (ms_ret me_bl)) mss_nil))))
    (mss_cons (ms_set (i := 5) sc_law.nd rfl (by first | exact Or.inl rfl | exact Or.inr rfl) (me_call (g_levels_for.mono (by decide)) hr hgd (by rfl) m_levels_for f_levels_for.kp b_levels_for (fun _ _ _ => den_len) (ma_cons (mv 3) (ma_cons (me_call (g_law_widths.mono (by decide)) hr hgd (by rfl) m_law_widths f_law_widths.kp b_law_widths (fun _ _ _ => den_len) (ma_cons (mv 1) (ma_cons (mv 3) ma_nil))) ma_nil))))
    (mss_cons (ms_if (MW.mt (mw_or (mt_not (mt_val (me_call (g_law_right.mono (by decide)) hr hgd (by rfl) m_law_right f_law_right.kp b_law_right (fun _ _ _ => den_len) (ma_cons (mv 3) (ma_cons (mv 5) ma_nil))))) (mw_or1 (mt_not (mt_val (me_call (g_law_right.mono (by decide)) hr hgd (by rfl) m_law_right f_law_right.kp b_law_right (fun _ _ _ => den_len) (ma_cons (mv 3) (ma_cons (me_call (g_law_stretched.mono (by decide)) hr hgd (by rfl) m_law_stretched f_law_stretched.kp b_law_stretched (fun _ _ _ => den_len) (ma_cons (mv 1) (ma_cons (mv 5) ma_nil))) ma_nil)))))))) (mss_one (ms_ret me_bl)) mss_nil)
    (mss_one (ms_if (mt_not (mt_val (me_call (g_law_right.mono (by decide)) hr hgd (by rfl) m_law_right f_law_right.kp b_law_right (fun _ _ _ => den_len) (ma_cons (mv 3) (ma_cons (me_call (g_law_at.mono (by decide)) hr hgd (by rfl) m_law_at f_law_at.kp b_law_at (fun _ _ _ => den_len) (ma_cons (mv 5) (ma_cons (me_call (g_law_draw.mono (by decide)) hr hgd (by rfl) m_law_draw f_law_draw.kp b_law_draw (fun _ _ _ => den_len) (ma_cons (mv 1) (ma_cons (me_ix (mv 3) me_int (fun _ _ => rfl)) ma_nil))) (ma_cons (me_call (g_law_one_of.mono (by decide)) hr hgd (by rfl) m_law_one_of f_law_one_of.kp b_law_one_of (fun _ _ _ => den_len) (ma_cons (mv 1) (ma_cons (mv 5) ma_nil))) ma_nil)))) ma_nil))))) (mss_one (ms_ret me_bl)) mss_nil)))))))
    (mss_one (ms_ret me_bl))))
end
theorem all_mk {l : PySem.W.OpenLaw} {w : World} {K : PySem.W.Frag} {h : Heap} {mg : Str → Option Value} {fa : Addr} (X : K.In h) (G : h.Ns mainGlobals mg) (hfa : mg "law" = some (.ref fa))
    {e_inner_places : Addr} {o_inner_places q_inner_places w_inner_places x_inner_places y_inner_places z_inner_places : Value} {i_inner_places j_inner_places : Option Addr} {v_inner_places : Array (Option Value)} (a1_inner_places : PySem.W.nsIn K mainGlobals "inner_places" = some (some (.ref e_inner_places))) (a2_inner_places : K.lookup e_inner_places = some ⟨o_inner_places, i_inner_places, .func (PySem.W.fnOf "inner_places" "inner_places" (defArgs s_inner_places) (defBody s_inner_places) (defScope s_inner_places) .none q_inner_places w_inner_places x_inner_places j_inner_places y_inner_places z_inner_places), v_inner_places⟩) (a3_inner_places : PySem.W.codeIn K y_inner_places "inner_places" = true) (a4_inner_places : PySem.W.keepIn K (.ref e_inner_places) = true)
    {e_ways_at : Addr} {o_ways_at q_ways_at w_ways_at x_ways_at y_ways_at z_ways_at : Value} {i_ways_at j_ways_at : Option Addr} {v_ways_at : Array (Option Value)} (a1_ways_at : PySem.W.nsIn K mainGlobals "ways_at" = some (some (.ref e_ways_at))) (a2_ways_at : K.lookup e_ways_at = some ⟨o_ways_at, i_ways_at, .func (PySem.W.fnOf "ways_at" "ways_at" (defArgs s_ways_at) (defBody s_ways_at) (defScope s_ways_at) .none q_ways_at w_ways_at x_ways_at j_ways_at y_ways_at z_ways_at), v_ways_at⟩) (a3_ways_at : PySem.W.codeIn K y_ways_at "ways_at" = true) (a4_ways_at : PySem.W.keepIn K (.ref e_ways_at) = true)
    {e_far_end : Addr} {o_far_end q_far_end w_far_end x_far_end y_far_end z_far_end : Value} {i_far_end j_far_end : Option Addr} {v_far_end : Array (Option Value)} (a1_far_end : PySem.W.nsIn K mainGlobals "far_end" = some (some (.ref e_far_end))) (a2_far_end : K.lookup e_far_end = some ⟨o_far_end, i_far_end, .func (PySem.W.fnOf "far_end" "far_end" (defArgs s_far_end) (defBody s_far_end) (defScope s_far_end) .none q_far_end w_far_end x_far_end j_far_end y_far_end z_far_end), v_far_end⟩) (a3_far_end : PySem.W.codeIn K y_far_end "far_end" = true) (a4_far_end : PySem.W.keepIn K (.ref e_far_end) = true)
    {e_leaving_shares : Addr} {o_leaving_shares q_leaving_shares w_leaving_shares x_leaving_shares y_leaving_shares z_leaving_shares : Value} {i_leaving_shares j_leaving_shares : Option Addr} {v_leaving_shares : Array (Option Value)} (a1_leaving_shares : PySem.W.nsIn K mainGlobals "leaving_shares" = some (some (.ref e_leaving_shares))) (a2_leaving_shares : K.lookup e_leaving_shares = some ⟨o_leaving_shares, i_leaving_shares, .func (PySem.W.fnOf "leaving_shares" "leaving_shares" (defArgs s_leaving_shares) (defBody s_leaving_shares) (defScope s_leaving_shares) .none q_leaving_shares w_leaving_shares x_leaving_shares j_leaving_shares y_leaving_shares z_leaving_shares), v_leaving_shares⟩) (a3_leaving_shares : PySem.W.codeIn K y_leaving_shares "leaving_shares" = true) (a4_leaving_shares : PySem.W.keepIn K (.ref e_leaving_shares) = true)
    {e_cleared_row : Addr} {o_cleared_row q_cleared_row w_cleared_row x_cleared_row y_cleared_row z_cleared_row : Value} {i_cleared_row j_cleared_row : Option Addr} {v_cleared_row : Array (Option Value)} (a1_cleared_row : PySem.W.nsIn K mainGlobals "cleared_row" = some (some (.ref e_cleared_row))) (a2_cleared_row : K.lookup e_cleared_row = some ⟨o_cleared_row, i_cleared_row, .func (PySem.W.fnOf "cleared_row" "cleared_row" (defArgs s_cleared_row) (defBody s_cleared_row) (defScope s_cleared_row) .none q_cleared_row w_cleared_row x_cleared_row j_cleared_row y_cleared_row z_cleared_row), v_cleared_row⟩) (a3_cleared_row : PySem.W.codeIn K y_cleared_row "cleared_row" = true) (a4_cleared_row : PySem.W.keepIn K (.ref e_cleared_row) = true)
    {e_solve_rows : Addr} {o_solve_rows q_solve_rows w_solve_rows x_solve_rows y_solve_rows z_solve_rows : Value} {i_solve_rows j_solve_rows : Option Addr} {v_solve_rows : Array (Option Value)} (a1_solve_rows : PySem.W.nsIn K mainGlobals "solve_rows" = some (some (.ref e_solve_rows))) (a2_solve_rows : K.lookup e_solve_rows = some ⟨o_solve_rows, i_solve_rows, .func (PySem.W.fnOf "solve_rows" "solve_rows" (defArgs s_solve_rows) (defBody s_solve_rows) (defScope s_solve_rows) .none q_solve_rows w_solve_rows x_solve_rows j_solve_rows y_solve_rows z_solve_rows), v_solve_rows⟩) (a3_solve_rows : PySem.W.codeIn K y_solve_rows "solve_rows" = true) (a4_solve_rows : PySem.W.keepIn K (.ref e_solve_rows) = true)
    {e_without_divisor : Addr} {o_without_divisor q_without_divisor w_without_divisor x_without_divisor y_without_divisor z_without_divisor : Value} {i_without_divisor j_without_divisor : Option Addr} {v_without_divisor : Array (Option Value)} (a1_without_divisor : PySem.W.nsIn K mainGlobals "without_divisor" = some (some (.ref e_without_divisor))) (a2_without_divisor : K.lookup e_without_divisor = some ⟨o_without_divisor, i_without_divisor, .func (PySem.W.fnOf "without_divisor" "without_divisor" (defArgs s_without_divisor) (defBody s_without_divisor) (defScope s_without_divisor) .none q_without_divisor w_without_divisor x_without_divisor j_without_divisor y_without_divisor z_without_divisor), v_without_divisor⟩) (a3_without_divisor : PySem.W.codeIn K y_without_divisor "without_divisor" = true) (a4_without_divisor : PySem.W.keepIn K (.ref e_without_divisor) = true)
    {e_levels_for : Addr} {o_levels_for q_levels_for w_levels_for x_levels_for y_levels_for z_levels_for : Value} {i_levels_for j_levels_for : Option Addr} {v_levels_for : Array (Option Value)} (a1_levels_for : PySem.W.nsIn K mainGlobals "levels_for" = some (some (.ref e_levels_for))) (a2_levels_for : K.lookup e_levels_for = some ⟨o_levels_for, i_levels_for, .func (PySem.W.fnOf "levels_for" "levels_for" (defArgs s_levels_for) (defBody s_levels_for) (defScope s_levels_for) .none q_levels_for w_levels_for x_levels_for j_levels_for y_levels_for z_levels_for), v_levels_for⟩) (a3_levels_for : PySem.W.codeIn K y_levels_for "levels_for" = true) (a4_levels_for : PySem.W.keepIn K (.ref e_levels_for) = true)
    {e_sign_between : Addr} {o_sign_between q_sign_between w_sign_between x_sign_between y_sign_between z_sign_between : Value} {i_sign_between j_sign_between : Option Addr} {v_sign_between : Array (Option Value)} (a1_sign_between : PySem.W.nsIn K mainGlobals "sign_between" = some (some (.ref e_sign_between))) (a2_sign_between : K.lookup e_sign_between = some ⟨o_sign_between, i_sign_between, .func (PySem.W.fnOf "sign_between" "sign_between" (defArgs s_sign_between) (defBody s_sign_between) (defScope s_sign_between) .none q_sign_between w_sign_between x_sign_between j_sign_between y_sign_between z_sign_between), v_sign_between⟩) (a3_sign_between : PySem.W.codeIn K y_sign_between "sign_between" = true) (a4_sign_between : PySem.W.keepIn K (.ref e_sign_between) = true)
    {e_way_toward : Addr} {o_way_toward q_way_toward w_way_toward x_way_toward y_way_toward z_way_toward : Value} {i_way_toward j_way_toward : Option Addr} {v_way_toward : Array (Option Value)} (a1_way_toward : PySem.W.nsIn K mainGlobals "way_toward" = some (some (.ref e_way_toward))) (a2_way_toward : K.lookup e_way_toward = some ⟨o_way_toward, i_way_toward, .func (PySem.W.fnOf "way_toward" "way_toward" (defArgs s_way_toward) (defBody s_way_toward) (defScope s_way_toward) .none q_way_toward w_way_toward x_way_toward j_way_toward y_way_toward z_way_toward), v_way_toward⟩) (a3_way_toward : PySem.W.codeIn K y_way_toward "way_toward" = true) (a4_way_toward : PySem.W.keepIn K (.ref e_way_toward) = true)
    {e_is_balanced : Addr} {o_is_balanced q_is_balanced w_is_balanced x_is_balanced y_is_balanced z_is_balanced : Value} {i_is_balanced j_is_balanced : Option Addr} {v_is_balanced : Array (Option Value)} (a1_is_balanced : PySem.W.nsIn K mainGlobals "is_balanced" = some (some (.ref e_is_balanced))) (a2_is_balanced : K.lookup e_is_balanced = some ⟨o_is_balanced, i_is_balanced, .func (PySem.W.fnOf "is_balanced" "is_balanced" (defArgs s_is_balanced) (defBody s_is_balanced) (defScope s_is_balanced) .none q_is_balanced w_is_balanced x_is_balanced j_is_balanced y_is_balanced z_is_balanced), v_is_balanced⟩) (a3_is_balanced : PySem.W.codeIn K y_is_balanced "is_balanced" = true) (a4_is_balanced : PySem.W.keepIn K (.ref e_is_balanced) = true)
    {e_slope_from : Addr} {o_slope_from q_slope_from w_slope_from x_slope_from y_slope_from z_slope_from : Value} {i_slope_from j_slope_from : Option Addr} {v_slope_from : Array (Option Value)} (a1_slope_from : PySem.W.nsIn K mainGlobals "slope_from" = some (some (.ref e_slope_from))) (a2_slope_from : K.lookup e_slope_from = some ⟨o_slope_from, i_slope_from, .func (PySem.W.fnOf "slope_from" "slope_from" (defArgs s_slope_from) (defBody s_slope_from) (defScope s_slope_from) .none q_slope_from w_slope_from x_slope_from j_slope_from y_slope_from z_slope_from), v_slope_from⟩) (a3_slope_from : PySem.W.codeIn K y_slope_from "slope_from" = true) (a4_slope_from : PySem.W.keepIn K (.ref e_slope_from) = true)
    {e_air_along_slopes : Addr} {o_air_along_slopes q_air_along_slopes w_air_along_slopes x_air_along_slopes y_air_along_slopes z_air_along_slopes : Value} {i_air_along_slopes j_air_along_slopes : Option Addr} {v_air_along_slopes : Array (Option Value)} (a1_air_along_slopes : PySem.W.nsIn K mainGlobals "air_along_slopes" = some (some (.ref e_air_along_slopes))) (a2_air_along_slopes : K.lookup e_air_along_slopes = some ⟨o_air_along_slopes, i_air_along_slopes, .func (PySem.W.fnOf "air_along_slopes" "air_along_slopes" (defArgs s_air_along_slopes) (defBody s_air_along_slopes) (defScope s_air_along_slopes) .none q_air_along_slopes w_air_along_slopes x_air_along_slopes j_air_along_slopes y_air_along_slopes z_air_along_slopes), v_air_along_slopes⟩) (a3_air_along_slopes : PySem.W.codeIn K y_air_along_slopes "air_along_slopes" = true) (a4_air_along_slopes : PySem.W.keepIn K (.ref e_air_along_slopes) = true)
    {e_widths_for : Addr} {o_widths_for q_widths_for w_widths_for x_widths_for y_widths_for z_widths_for : Value} {i_widths_for j_widths_for : Option Addr} {v_widths_for : Array (Option Value)} (a1_widths_for : PySem.W.nsIn K mainGlobals "widths_for" = some (some (.ref e_widths_for))) (a2_widths_for : K.lookup e_widths_for = some ⟨o_widths_for, i_widths_for, .func (PySem.W.fnOf "widths_for" "widths_for" (defArgs s_widths_for) (defBody s_widths_for) (defScope s_widths_for) .none q_widths_for w_widths_for x_widths_for j_widths_for y_widths_for z_widths_for), v_widths_for⟩) (a3_widths_for : PySem.W.codeIn K y_widths_for "widths_for" = true) (a4_widths_for : PySem.W.keepIn K (.ref e_widths_for) = true)
    {e_law_pen : Addr} {o_law_pen q_law_pen w_law_pen x_law_pen y_law_pen z_law_pen : Value} {i_law_pen j_law_pen : Option Addr} {v_law_pen : Array (Option Value)} (a1_law_pen : PySem.W.nsIn K mainGlobals "_law_pen" = some (some (.ref e_law_pen))) (a2_law_pen : K.lookup e_law_pen = some ⟨o_law_pen, i_law_pen, .func (PySem.W.fnOf "_law_pen" "_law_pen" (defArgs s_law_pen) (defBody s_law_pen) (defScope s_law_pen) .none q_law_pen w_law_pen x_law_pen j_law_pen y_law_pen z_law_pen), v_law_pen⟩) (a3_law_pen : PySem.W.codeIn K y_law_pen "_law_pen" = true) (a4_law_pen : PySem.W.keepIn K (.ref e_law_pen) = true)
    {e_law_fresh : Addr} {o_law_fresh q_law_fresh w_law_fresh x_law_fresh y_law_fresh z_law_fresh : Value} {i_law_fresh j_law_fresh : Option Addr} {v_law_fresh : Array (Option Value)} (a1_law_fresh : PySem.W.nsIn K mainGlobals "_law_fresh" = some (some (.ref e_law_fresh))) (a2_law_fresh : K.lookup e_law_fresh = some ⟨o_law_fresh, i_law_fresh, .func (PySem.W.fnOf "_law_fresh" "_law_fresh" (defArgs s_law_fresh) (defBody s_law_fresh) (defScope s_law_fresh) .none q_law_fresh w_law_fresh x_law_fresh j_law_fresh y_law_fresh z_law_fresh), v_law_fresh⟩) (a3_law_fresh : PySem.W.codeIn K y_law_fresh "_law_fresh" = true) (a4_law_fresh : PySem.W.keepIn K (.ref e_law_fresh) = true)
    {e_law_draw : Addr} {o_law_draw q_law_draw w_law_draw x_law_draw y_law_draw z_law_draw : Value} {i_law_draw j_law_draw : Option Addr} {v_law_draw : Array (Option Value)} (a1_law_draw : PySem.W.nsIn K mainGlobals "_law_draw" = some (some (.ref e_law_draw))) (a2_law_draw : K.lookup e_law_draw = some ⟨o_law_draw, i_law_draw, .func (PySem.W.fnOf "_law_draw" "_law_draw" (defArgs s_law_draw) (defBody s_law_draw) (defScope s_law_draw) .none q_law_draw w_law_draw x_law_draw j_law_draw y_law_draw z_law_draw), v_law_draw⟩) (a3_law_draw : PySem.W.codeIn K y_law_draw "_law_draw" = true) (a4_law_draw : PySem.W.keepIn K (.ref e_law_draw) = true)
    {e_law_one_of : Addr} {o_law_one_of q_law_one_of w_law_one_of x_law_one_of y_law_one_of z_law_one_of : Value} {i_law_one_of j_law_one_of : Option Addr} {v_law_one_of : Array (Option Value)} (a1_law_one_of : PySem.W.nsIn K mainGlobals "_law_one_of" = some (some (.ref e_law_one_of))) (a2_law_one_of : K.lookup e_law_one_of = some ⟨o_law_one_of, i_law_one_of, .func (PySem.W.fnOf "_law_one_of" "_law_one_of" (defArgs s_law_one_of) (defBody s_law_one_of) (defScope s_law_one_of) .none q_law_one_of w_law_one_of x_law_one_of j_law_one_of y_law_one_of z_law_one_of), v_law_one_of⟩) (a3_law_one_of : PySem.W.codeIn K y_law_one_of "_law_one_of" = true) (a4_law_one_of : PySem.W.keepIn K (.ref e_law_one_of) = true)
    {e_law_whole : Addr} {o_law_whole q_law_whole w_law_whole x_law_whole y_law_whole z_law_whole : Value} {i_law_whole j_law_whole : Option Addr} {v_law_whole : Array (Option Value)} (a1_law_whole : PySem.W.nsIn K mainGlobals "_law_whole" = some (some (.ref e_law_whole))) (a2_law_whole : K.lookup e_law_whole = some ⟨o_law_whole, i_law_whole, .func (PySem.W.fnOf "_law_whole" "_law_whole" (defArgs s_law_whole) (defBody s_law_whole) (defScope s_law_whole) .none q_law_whole w_law_whole x_law_whole j_law_whole y_law_whole z_law_whole), v_law_whole⟩) (a3_law_whole : PySem.W.codeIn K y_law_whole "_law_whole" = true) (a4_law_whole : PySem.W.keepIn K (.ref e_law_whole) = true)
    {e_law_at : Addr} {o_law_at q_law_at w_law_at x_law_at y_law_at z_law_at : Value} {i_law_at j_law_at : Option Addr} {v_law_at : Array (Option Value)} (a1_law_at : PySem.W.nsIn K mainGlobals "_law_at" = some (some (.ref e_law_at))) (a2_law_at : K.lookup e_law_at = some ⟨o_law_at, i_law_at, .func (PySem.W.fnOf "_law_at" "_law_at" (defArgs s_law_at) (defBody s_law_at) (defScope s_law_at) .none q_law_at w_law_at x_law_at j_law_at y_law_at z_law_at), v_law_at⟩) (a3_law_at : PySem.W.codeIn K y_law_at "_law_at" = true) (a4_law_at : PySem.W.keepIn K (.ref e_law_at) = true)
    {e_law_two_places : Addr} {o_law_two_places q_law_two_places w_law_two_places x_law_two_places y_law_two_places z_law_two_places : Value} {i_law_two_places j_law_two_places : Option Addr} {v_law_two_places : Array (Option Value)} (a1_law_two_places : PySem.W.nsIn K mainGlobals "_law_two_places" = some (some (.ref e_law_two_places))) (a2_law_two_places : K.lookup e_law_two_places = some ⟨o_law_two_places, i_law_two_places, .func (PySem.W.fnOf "_law_two_places" "_law_two_places" (defArgs s_law_two_places) (defBody s_law_two_places) (defScope s_law_two_places) .none q_law_two_places w_law_two_places x_law_two_places j_law_two_places y_law_two_places z_law_two_places), v_law_two_places⟩) (a3_law_two_places : PySem.W.codeIn K y_law_two_places "_law_two_places" = true) (a4_law_two_places : PySem.W.keepIn K (.ref e_law_two_places) = true)
    {e_law_mine : Addr} {o_law_mine q_law_mine w_law_mine x_law_mine y_law_mine z_law_mine : Value} {i_law_mine j_law_mine : Option Addr} {v_law_mine : Array (Option Value)} (a1_law_mine : PySem.W.nsIn K mainGlobals "_law_mine" = some (some (.ref e_law_mine))) (a2_law_mine : K.lookup e_law_mine = some ⟨o_law_mine, i_law_mine, .func (PySem.W.fnOf "_law_mine" "_law_mine" (defArgs s_law_mine) (defBody s_law_mine) (defScope s_law_mine) .none q_law_mine w_law_mine x_law_mine j_law_mine y_law_mine z_law_mine), v_law_mine⟩) (a3_law_mine : PySem.W.codeIn K y_law_mine "_law_mine" = true) (a4_law_mine : PySem.W.keepIn K (.ref e_law_mine) = true)
    {e_law_inner : Addr} {o_law_inner q_law_inner w_law_inner x_law_inner y_law_inner z_law_inner : Value} {i_law_inner j_law_inner : Option Addr} {v_law_inner : Array (Option Value)} (a1_law_inner : PySem.W.nsIn K mainGlobals "_law_inner" = some (some (.ref e_law_inner))) (a2_law_inner : K.lookup e_law_inner = some ⟨o_law_inner, i_law_inner, .func (PySem.W.fnOf "_law_inner" "_law_inner" (defArgs s_law_inner) (defBody s_law_inner) (defScope s_law_inner) .none q_law_inner w_law_inner x_law_inner j_law_inner y_law_inner z_law_inner), v_law_inner⟩) (a3_law_inner : PySem.W.codeIn K y_law_inner "_law_inner" = true) (a4_law_inner : PySem.W.keepIn K (.ref e_law_inner) = true)
    {e_law_sign : Addr} {o_law_sign q_law_sign w_law_sign x_law_sign y_law_sign z_law_sign : Value} {i_law_sign j_law_sign : Option Addr} {v_law_sign : Array (Option Value)} (a1_law_sign : PySem.W.nsIn K mainGlobals "_law_sign" = some (some (.ref e_law_sign))) (a2_law_sign : K.lookup e_law_sign = some ⟨o_law_sign, i_law_sign, .func (PySem.W.fnOf "_law_sign" "_law_sign" (defArgs s_law_sign) (defBody s_law_sign) (defScope s_law_sign) .none q_law_sign w_law_sign x_law_sign j_law_sign y_law_sign z_law_sign), v_law_sign⟩) (a3_law_sign : PySem.W.codeIn K y_law_sign "_law_sign" = true) (a4_law_sign : PySem.W.keepIn K (.ref e_law_sign) = true)
    {e_law_widths : Addr} {o_law_widths q_law_widths w_law_widths x_law_widths y_law_widths z_law_widths : Value} {i_law_widths j_law_widths : Option Addr} {v_law_widths : Array (Option Value)} (a1_law_widths : PySem.W.nsIn K mainGlobals "_law_widths" = some (some (.ref e_law_widths))) (a2_law_widths : K.lookup e_law_widths = some ⟨o_law_widths, i_law_widths, .func (PySem.W.fnOf "_law_widths" "_law_widths" (defArgs s_law_widths) (defBody s_law_widths) (defScope s_law_widths) .none q_law_widths w_law_widths x_law_widths j_law_widths y_law_widths z_law_widths), v_law_widths⟩) (a3_law_widths : PySem.W.codeIn K y_law_widths "_law_widths" = true) (a4_law_widths : PySem.W.keepIn K (.ref e_law_widths) = true)
    {e_law_is_balanced : Addr} {o_law_is_balanced q_law_is_balanced w_law_is_balanced x_law_is_balanced y_law_is_balanced z_law_is_balanced : Value} {i_law_is_balanced j_law_is_balanced : Option Addr} {v_law_is_balanced : Array (Option Value)} (a1_law_is_balanced : PySem.W.nsIn K mainGlobals "_law_is_balanced" = some (some (.ref e_law_is_balanced))) (a2_law_is_balanced : K.lookup e_law_is_balanced = some ⟨o_law_is_balanced, i_law_is_balanced, .func (PySem.W.fnOf "_law_is_balanced" "_law_is_balanced" (defArgs s_law_is_balanced) (defBody s_law_is_balanced) (defScope s_law_is_balanced) .none q_law_is_balanced w_law_is_balanced x_law_is_balanced j_law_is_balanced y_law_is_balanced z_law_is_balanced), v_law_is_balanced⟩) (a3_law_is_balanced : PySem.W.codeIn K y_law_is_balanced "_law_is_balanced" = true) (a4_law_is_balanced : PySem.W.keepIn K (.ref e_law_is_balanced) = true)
    {e_law_is_state : Addr} {o_law_is_state q_law_is_state w_law_is_state x_law_is_state y_law_is_state z_law_is_state : Value} {i_law_is_state j_law_is_state : Option Addr} {v_law_is_state : Array (Option Value)} (a1_law_is_state : PySem.W.nsIn K mainGlobals "_law_is_state" = some (some (.ref e_law_is_state))) (a2_law_is_state : K.lookup e_law_is_state = some ⟨o_law_is_state, i_law_is_state, .func (PySem.W.fnOf "_law_is_state" "_law_is_state" (defArgs s_law_is_state) (defBody s_law_is_state) (defScope s_law_is_state) .none q_law_is_state w_law_is_state x_law_is_state j_law_is_state y_law_is_state z_law_is_state), v_law_is_state⟩) (a3_law_is_state : PySem.W.codeIn K y_law_is_state "_law_is_state" = true) (a4_law_is_state : PySem.W.keepIn K (.ref e_law_is_state) = true)
    {e_law_is_tuple : Addr} {o_law_is_tuple q_law_is_tuple w_law_is_tuple x_law_is_tuple y_law_is_tuple z_law_is_tuple : Value} {i_law_is_tuple j_law_is_tuple : Option Addr} {v_law_is_tuple : Array (Option Value)} (a1_law_is_tuple : PySem.W.nsIn K mainGlobals "_law_is_tuple" = some (some (.ref e_law_is_tuple))) (a2_law_is_tuple : K.lookup e_law_is_tuple = some ⟨o_law_is_tuple, i_law_is_tuple, .func (PySem.W.fnOf "_law_is_tuple" "_law_is_tuple" (defArgs s_law_is_tuple) (defBody s_law_is_tuple) (defScope s_law_is_tuple) .none q_law_is_tuple w_law_is_tuple x_law_is_tuple j_law_is_tuple y_law_is_tuple z_law_is_tuple), v_law_is_tuple⟩) (a3_law_is_tuple : PySem.W.codeIn K y_law_is_tuple "_law_is_tuple" = true) (a4_law_is_tuple : PySem.W.keepIn K (.ref e_law_is_tuple) = true)
    {e_law_stretched : Addr} {o_law_stretched q_law_stretched w_law_stretched x_law_stretched y_law_stretched z_law_stretched : Value} {i_law_stretched j_law_stretched : Option Addr} {v_law_stretched : Array (Option Value)} (a1_law_stretched : PySem.W.nsIn K mainGlobals "_law_stretched" = some (some (.ref e_law_stretched))) (a2_law_stretched : K.lookup e_law_stretched = some ⟨o_law_stretched, i_law_stretched, .func (PySem.W.fnOf "_law_stretched" "_law_stretched" (defArgs s_law_stretched) (defBody s_law_stretched) (defScope s_law_stretched) .none q_law_stretched w_law_stretched x_law_stretched j_law_stretched y_law_stretched z_law_stretched), v_law_stretched⟩) (a3_law_stretched : PySem.W.codeIn K y_law_stretched "_law_stretched" = true) (a4_law_stretched : PySem.W.keepIn K (.ref e_law_stretched) = true)
    {e_law_right : Addr} {o_law_right q_law_right w_law_right x_law_right y_law_right z_law_right : Value} {i_law_right j_law_right : Option Addr} {v_law_right : Array (Option Value)} (a1_law_right : PySem.W.nsIn K mainGlobals "_law_right" = some (some (.ref e_law_right))) (a2_law_right : K.lookup e_law_right = some ⟨o_law_right, i_law_right, .func (PySem.W.fnOf "_law_right" "_law_right" (defArgs s_law_right) (defBody s_law_right) (defScope s_law_right) .none q_law_right w_law_right x_law_right j_law_right y_law_right z_law_right), v_law_right⟩) (a3_law_right : PySem.W.codeIn K y_law_right "_law_right" = true) (a4_law_right : PySem.W.keepIn K (.ref e_law_right) = true)
    {e_law : Addr} {o_law q_law w_law x_law y_law z_law : Value} {i_law j_law : Option Addr} {v_law : Array (Option Value)} (a1_law : PySem.W.nsIn K mainGlobals "law" = some (some (.ref e_law))) (a2_law : K.lookup e_law = some ⟨o_law, i_law, .func (PySem.W.fnOf "law" "law" (defArgs s_law) (defBody s_law) (defScope s_law) .none q_law w_law x_law j_law y_law z_law), v_law⟩) (a3_law : PySem.W.codeIn K y_law "law" = true) (a4_law : PySem.W.keepIn K (.ref e_law) = true)
    (a5_abs : PySem.W.nsIn K mainGlobals "abs" = some none)
    (a5_bool : PySem.W.nsIn K mainGlobals "bool" = some none)
    (a5_enumerate : PySem.W.nsIn K mainGlobals "enumerate" = some none)
    (a5_int : PySem.W.nsIn K mainGlobals "int" = some none)
    (a5_isinstance : PySem.W.nsIn K mainGlobals "isinstance" = some none)
    (a5_len : PySem.W.nsIn K mainGlobals "len" = some none)
    (a5_list : PySem.W.nsIn K mainGlobals "list" = some none)
    (a5_max : PySem.W.nsIn K mainGlobals "max" = some none)
    (a5_min : PySem.W.nsIn K mainGlobals "min" = some none)
    (a5_range : PySem.W.nsIn K mainGlobals "range" = some none)
    (a5_repr : PySem.W.nsIn K mainGlobals "repr" = some none)
    (a5_set : PySem.W.nsIn K mainGlobals "set" = some none)
    (a5_sorted : PySem.W.nsIn K mainGlobals "sorted" = some none)
    (a5_tuple : PySem.W.nsIn K mainGlobals "tuple" = some none)
    (a5_zip : PySem.W.nsIn K mainGlobals "zip" = some none)
    {t_HIGHER : Tok} (a6_HIGHER : PySem.W.nsIn K mainGlobals "HIGHER" = some (some (.int (1) t_HIGHER)))
    {t_LOWER : Tok} (a6_LOWER : PySem.W.nsIn K mainGlobals "LOWER" = some (some (.int (-1) t_LOWER)))
    (a7_gcd : PySem.W.nsIn K mainGlobals "gcd" = some (some (.builtin "math.gcd")))
    (a7_lcm : PySem.W.nsIn K mainGlobals "lcm" = some (some (.builtin "math.lcm"))) :
    ∃ fd : FuncData, (∀ (s : Shared) (v : Value), BindsTo s fd ⟨[v], []⟩ [("script", v)]) ∧ ∀ base : Heap, K.In base → base.Ns mainGlobals mg → FnG l.prog w K mg base 7 fa fd ["script"] F_law := by
  have h0 := hfa.symm.trans (PySem.W.mg_of X G a1_law)
  cases h0
  have f_inner_places := fun_mk (st := s_inner_places) a2_inner_places a3_inner_places a4_inner_places
  have b_inner_places := f_inner_places.binds (ps := ["mine"]) fun _ _ _ _ _ _ us hl => match us, hl with | [_], _ => rfl
  have m_inner_places := PySem.W.mg_of X G a1_inner_places
  have f_ways_at := fun_mk (st := s_ways_at) a2_ways_at a3_ways_at a4_ways_at
  have b_ways_at := f_ways_at.binds (ps := ["mine", "x"]) fun _ _ _ _ _ _ us hl => match us, hl with | [_, _], _ => rfl
  have m_ways_at := PySem.W.mg_of X G a1_ways_at
  have f_far_end := fun_mk (st := s_far_end) a2_far_end a3_far_end a4_far_end
  have b_far_end := f_far_end.binds (ps := ["mine", "w", "x"]) fun _ _ _ _ _ _ us hl => match us, hl with | [_, _, _], _ => rfl
  have m_far_end := PySem.W.mg_of X G a1_far_end
  have f_leaving_shares := fun_mk (st := s_leaving_shares) a2_leaving_shares a3_leaving_shares a4_leaving_shares
  have b_leaving_shares := f_leaving_shares.binds (ps := ["mine", "widths", "x"]) fun _ _ _ _ _ _ us hl => match us, hl with | [_, _, _], _ => rfl
  have m_leaving_shares := PySem.W.mg_of X G a1_leaving_shares
  have f_cleared_row := fun_mk (st := s_cleared_row) a2_cleared_row a3_cleared_row a4_cleared_row
  have b_cleared_row := f_cleared_row.binds (ps := ["row", "lead", "k", "before"]) fun _ _ _ _ _ _ us hl => match us, hl with | [_, _, _, _], _ => rfl
  have m_cleared_row := PySem.W.mg_of X G a1_cleared_row
  have f_solve_rows := fun_mk (st := s_solve_rows) a2_solve_rows a3_solve_rows a4_solve_rows
  have b_solve_rows := f_solve_rows.binds (ps := ["rows"]) fun _ _ _ _ _ _ us hl => match us, hl with | [_], _ => rfl
  have m_solve_rows := PySem.W.mg_of X G a1_solve_rows
  have f_without_divisor := fun_mk (st := s_without_divisor) a2_without_divisor a3_without_divisor a4_without_divisor
  have b_without_divisor := f_without_divisor.binds (ps := ["levels"]) fun _ _ _ _ _ _ us hl => match us, hl with | [_], _ => rfl
  have m_without_divisor := PySem.W.mg_of X G a1_without_divisor
  have f_levels_for := fun_mk (st := s_levels_for) a2_levels_for a3_levels_for a4_levels_for
  have b_levels_for := f_levels_for.binds (ps := ["mine", "widths"]) fun _ _ _ _ _ _ us hl => match us, hl with | [_, _], _ => rfl
  have m_levels_for := PySem.W.mg_of X G a1_levels_for
  have f_sign_between := fun_mk (st := s_sign_between) a2_sign_between a3_sign_between a4_sign_between
  have b_sign_between := f_sign_between.binds (ps := ["levels", "x", "y"]) fun _ _ _ _ _ _ us hl => match us, hl with | [_, _, _], _ => rfl
  have m_sign_between := PySem.W.mg_of X G a1_sign_between
  have f_way_toward := fun_mk (st := s_way_toward) a2_way_toward a3_way_toward a4_way_toward
  have b_way_toward := f_way_toward.binds (ps := ["mine", "levels", "x", "side"]) fun _ _ _ _ _ _ us hl => match us, hl with | [_, _, _, _], _ => rfl
  have m_way_toward := PySem.W.mg_of X G a1_way_toward
  have f_is_balanced := fun_mk (st := s_is_balanced) a2_is_balanced a3_is_balanced a4_is_balanced
  have b_is_balanced := f_is_balanced.binds (ps := ["mine", "levels"]) fun _ _ _ _ _ _ us hl => match us, hl with | [_, _], _ => rfl
  have m_is_balanced := PySem.W.mg_of X G a1_is_balanced
  have f_slope_from := fun_mk (st := s_slope_from) a2_slope_from a3_slope_from a4_slope_from
  have b_slope_from := f_slope_from.binds (ps := ["mine", "levels", "x", "side"]) fun _ _ _ _ _ _ us hl => match us, hl with | [_, _, _, _], _ => rfl
  have m_slope_from := PySem.W.mg_of X G a1_slope_from
  have f_air_along_slopes := fun_mk (st := s_air_along_slopes) a2_air_along_slopes a3_air_along_slopes a4_air_along_slopes
  have b_air_along_slopes := f_air_along_slopes.binds (ps := ["mine", "levels"]) fun _ _ _ _ _ _ us hl => match us, hl with | [_, _], _ => rfl
  have m_air_along_slopes := PySem.W.mg_of X G a1_air_along_slopes
  have f_widths_for := fun_mk (st := s_widths_for) a2_widths_for a3_widths_for a4_widths_for
  have b_widths_for := f_widths_for.binds (ps := ["mine", "levels"]) fun _ _ _ _ _ _ us hl => match us, hl with | [_, _], _ => rfl
  have m_widths_for := PySem.W.mg_of X G a1_widths_for
  have f_law_pen := fun_mk (st := s_law_pen) a2_law_pen a3_law_pen a4_law_pen
  have b_law_pen := f_law_pen.binds (ps := ["script"]) fun _ _ _ _ _ _ us hl => match us, hl with | [_], _ => rfl
  have m_law_pen := PySem.W.mg_of X G a1_law_pen
  have f_law_fresh := fun_mk (st := s_law_fresh) a2_law_fresh a3_law_fresh a4_law_fresh
  have b_law_fresh := f_law_fresh.binds (ps := ["pen"]) fun _ _ _ _ _ _ us hl => match us, hl with | [_], _ => rfl
  have m_law_fresh := PySem.W.mg_of X G a1_law_fresh
  have f_law_draw := fun_mk (st := s_law_draw) a2_law_draw a3_law_draw a4_law_draw
  have b_law_draw := f_law_draw.binds (ps := ["pen", "bound"]) fun _ _ _ _ _ _ us hl => match us, hl with | [_, _], _ => rfl
  have m_law_draw := PySem.W.mg_of X G a1_law_draw
  have f_law_one_of := fun_mk (st := s_law_one_of) a2_law_one_of a3_law_one_of a4_law_one_of
  have b_law_one_of := f_law_one_of.binds (ps := ["pen", "some"]) fun _ _ _ _ _ _ us hl => match us, hl with | [_, _], _ => rfl
  have m_law_one_of := PySem.W.mg_of X G a1_law_one_of
  have f_law_whole := fun_mk (st := s_law_whole) a2_law_whole a3_law_whole a4_law_whole
  have b_law_whole := f_law_whole.binds (ps := ["value", "low", "high"]) fun _ _ _ _ _ _ us hl => match us, hl with | [_, _, _], _ => rfl
  have m_law_whole := PySem.W.mg_of X G a1_law_whole
  have f_law_at := fun_mk (st := s_law_at) a2_law_at a3_law_at a4_law_at
  have b_law_at := f_law_at.binds (ps := ["rows", "place", "thing"]) fun _ _ _ _ _ _ us hl => match us, hl with | [_, _, _], _ => rfl
  have m_law_at := PySem.W.mg_of X G a1_law_at
  have f_law_two_places := fun_mk (st := s_law_two_places) a2_law_two_places a3_law_two_places a4_law_two_places
  have b_law_two_places := f_law_two_places.binds (ps := ["pen", "places"]) fun _ _ _ _ _ _ us hl => match us, hl with | [_, _], _ => rfl
  have m_law_two_places := PySem.W.mg_of X G a1_law_two_places
  have f_law_mine := fun_mk (st := s_law_mine) a2_law_mine a3_law_mine a4_law_mine
  have b_law_mine := f_law_mine.binds (ps := ["pen", "most", "many"]) fun _ _ _ _ _ _ us hl => match us, hl with | [_, _, _], _ => rfl
  have m_law_mine := PySem.W.mg_of X G a1_law_mine
  have f_law_inner := fun_mk (st := s_law_inner) a2_law_inner a3_law_inner a4_law_inner
  have b_law_inner := f_law_inner.binds (ps := ["mine"]) fun _ _ _ _ _ _ us hl => match us, hl with | [_], _ => rfl
  have m_law_inner := PySem.W.mg_of X G a1_law_inner
  have f_law_sign := fun_mk (st := s_law_sign) a2_law_sign a3_law_sign a4_law_sign
  have b_law_sign := f_law_sign.binds (ps := ["number"]) fun _ _ _ _ _ _ us hl => match us, hl with | [_], _ => rfl
  have m_law_sign := PySem.W.mg_of X G a1_law_sign
  have f_law_widths := fun_mk (st := s_law_widths) a2_law_widths a3_law_widths a4_law_widths
  have b_law_widths := f_law_widths.binds (ps := ["pen", "mine"]) fun _ _ _ _ _ _ us hl => match us, hl with | [_, _], _ => rfl
  have m_law_widths := PySem.W.mg_of X G a1_law_widths
  have f_law_is_balanced := fun_mk (st := s_law_is_balanced) a2_law_is_balanced a3_law_is_balanced a4_law_is_balanced
  have b_law_is_balanced := f_law_is_balanced.binds (ps := ["mine", "levels"]) fun _ _ _ _ _ _ us hl => match us, hl with | [_, _], _ => rfl
  have m_law_is_balanced := PySem.W.mg_of X G a1_law_is_balanced
  have f_law_is_state := fun_mk (st := s_law_is_state) a2_law_is_state a3_law_is_state a4_law_is_state
  have b_law_is_state := f_law_is_state.binds (ps := ["mine", "widths", "levels"]) fun _ _ _ _ _ _ us hl => match us, hl with | [_, _, _], _ => rfl
  have m_law_is_state := PySem.W.mg_of X G a1_law_is_state
  have f_law_is_tuple := fun_mk (st := s_law_is_tuple) a2_law_is_tuple a3_law_is_tuple a4_law_is_tuple
  have b_law_is_tuple := f_law_is_tuple.binds (ps := ["value", "many"]) fun _ _ _ _ _ _ us hl => match us, hl with | [_, _], _ => rfl
  have m_law_is_tuple := PySem.W.mg_of X G a1_law_is_tuple
  have f_law_stretched := fun_mk (st := s_law_stretched) a2_law_stretched a3_law_stretched a4_law_stretched
  have b_law_stretched := f_law_stretched.binds (ps := ["pen", "levels"]) fun _ _ _ _ _ _ us hl => match us, hl with | [_, _], _ => rfl
  have m_law_stretched := PySem.W.mg_of X G a1_law_stretched
  have f_law_right := fun_mk (st := s_law_right) a2_law_right a3_law_right a4_law_right
  have b_law_right := f_law_right.binds (ps := ["mine", "levels"]) fun _ _ _ _ _ _ us hl => match us, hl with | [_, _], _ => rfl
  have m_law_right := PySem.W.mg_of X G a1_law_right
  have f_law := fun_mk (st := s_law) a2_law a3_law a4_law
  have b_law := f_law.binds (ps := ["script"]) fun _ _ _ _ _ _ us hl => match us, hl with | [_], _ => rfl
  have n_abs := PySem.W.mg_none_of X G a5_abs
  have n_bool := PySem.W.mg_none_of X G a5_bool
  have n_enumerate := PySem.W.mg_none_of X G a5_enumerate
  have n_int := PySem.W.mg_none_of X G a5_int
  have n_isinstance := PySem.W.mg_none_of X G a5_isinstance
  have n_len := PySem.W.mg_none_of X G a5_len
  have n_list := PySem.W.mg_none_of X G a5_list
  have n_max := PySem.W.mg_none_of X G a5_max
  have n_min := PySem.W.mg_none_of X G a5_min
  have n_range := PySem.W.mg_none_of X G a5_range
  have n_repr := PySem.W.mg_none_of X G a5_repr
  have n_set := PySem.W.mg_none_of X G a5_set
  have n_sorted := PySem.W.mg_none_of X G a5_sorted
  have n_tuple := PySem.W.mg_none_of X G a5_tuple
  have n_zip := PySem.W.mg_none_of X G a5_zip
  have k_HIGHER := PySem.W.mg_of X G a6_HIGHER
  have k_LOWER := PySem.W.mg_of X G a6_LOWER
  have i_gcd := PySem.W.mg_of X G a7_gcd
  have i_lcm := PySem.W.mg_of X G a7_lcm
  refine ⟨PySem.W.fnOf "law" "law" (defArgs s_law) (defBody s_law) (defScope s_law) .none q_law w_law x_law j_law y_law z_law, fun s v => .of_eq rfl, fun base _ _ => ?_⟩
  have g_inner_places : FnG l.prog w K mg base 1 e_inner_places _ ["mine"] F_inner_places := ok_inner_places f_inner_places n_range n_tuple
  have g_ways_at : FnG l.prog w K mg base 1 e_ways_at _ ["mine", "x"] F_ways_at := ok_ways_at f_ways_at n_enumerate n_tuple
  have g_far_end : FnG l.prog w K mg base 1 e_far_end _ ["mine", "w", "x"] F_far_end := ok_far_end f_far_end
  have g_leaving_shares : FnG l.prog w K mg base 2 e_leaving_shares _ ["mine", "widths", "x"] F_leaving_shares := ok_leaving_shares f_leaving_shares f_far_end g_far_end m_far_end b_far_end f_ways_at g_ways_at m_ways_at b_ways_at
  have g_cleared_row : FnG l.prog w K mg base 1 e_cleared_row _ ["row", "lead", "k", "before"] F_cleared_row := ok_cleared_row f_cleared_row n_zip
  have g_solve_rows : FnG l.prog w K mg base 2 e_solve_rows _ ["rows"] F_solve_rows := ok_solve_rows f_solve_rows f_cleared_row g_cleared_row m_cleared_row b_cleared_row n_enumerate n_len n_range
  have g_without_divisor : FnG l.prog w K mg base 1 e_without_divisor _ ["levels"] F_without_divisor := ok_without_divisor f_without_divisor n_tuple i_gcd
  have g_levels_for : FnG l.prog w K mg base 3 e_levels_for _ ["mine", "widths"] F_levels_for := ok_levels_for f_levels_for f_inner_places g_inner_places m_inner_places b_inner_places f_leaving_shares g_leaving_shares m_leaving_shares b_leaving_shares f_solve_rows g_solve_rows m_solve_rows b_solve_rows f_without_divisor g_without_divisor m_without_divisor b_without_divisor n_zip
  have g_sign_between : FnG l.prog w K mg base 1 e_sign_between _ ["levels", "x", "y"] F_sign_between := ok_sign_between f_sign_between
  have g_way_toward : FnG l.prog w K mg base 2 e_way_toward _ ["mine", "levels", "x", "side"] F_way_toward := ok_way_toward f_way_toward f_far_end g_far_end m_far_end b_far_end f_sign_between g_sign_between m_sign_between b_sign_between f_ways_at g_ways_at m_ways_at b_ways_at
  have g_is_balanced : FnG l.prog w K mg base 3 e_is_balanced _ ["mine", "levels"] F_is_balanced := ok_is_balanced f_is_balanced f_inner_places g_inner_places m_inner_places b_inner_places f_way_toward g_way_toward m_way_toward b_way_toward k_HIGHER k_LOWER
  have g_slope_from : FnG l.prog w K mg base 3 e_slope_from _ ["mine", "levels", "x", "side"] F_slope_from := ok_slope_from f_slope_from f_far_end g_far_end m_far_end b_far_end f_way_toward g_way_toward m_way_toward b_way_toward
  have g_air_along_slopes : FnG l.prog w K mg base 4 e_air_along_slopes _ ["mine", "levels"] F_air_along_slopes := ok_air_along_slopes f_air_along_slopes f_sign_between g_sign_between m_sign_between b_sign_between f_slope_from g_slope_from m_slope_from b_slope_from n_enumerate n_len k_HIGHER k_LOWER
  have g_widths_for : FnG l.prog w K mg base 5 e_widths_for _ ["mine", "levels"] F_widths_for := ok_widths_for f_widths_for f_air_along_slopes g_air_along_slopes m_air_along_slopes b_air_along_slopes n_abs n_enumerate n_tuple i_lcm
  have g_law_pen : FnG l.prog w K mg base 1 e_law_pen _ ["script"] F_law_pen := ok_law_pen f_law_pen n_list
  have g_law_fresh : FnG l.prog w K mg base 1 e_law_fresh _ ["pen"] F_law_fresh := ok_law_fresh f_law_fresh n_int n_len n_range
  have g_law_draw : FnG l.prog w K mg base 2 e_law_draw _ ["pen", "bound"] F_law_draw := ok_law_draw f_law_draw f_law_fresh g_law_fresh m_law_fresh b_law_fresh n_int
  have g_law_one_of : FnG l.prog w K mg base 3 e_law_one_of _ ["pen", "some"] F_law_one_of := ok_law_one_of f_law_one_of f_law_draw g_law_draw m_law_draw b_law_draw n_len
  have g_law_whole : FnG l.prog w K mg base 1 e_law_whole _ ["value", "low", "high"] F_law_whole := ok_law_whole f_law_whole n_bool n_int n_isinstance
  have g_law_at : FnG l.prog w K mg base 1 e_law_at _ ["rows", "place", "thing"] F_law_at := ok_law_at f_law_at
  have g_law_two_places : FnG l.prog w K mg base 3 e_law_two_places _ ["pen", "places"] F_law_two_places := ok_law_two_places f_law_two_places f_law_draw g_law_draw m_law_draw b_law_draw n_int
  have g_law_mine : FnG l.prog w K mg base 4 e_law_mine _ ["pen", "most", "many"] F_law_mine := ok_law_mine f_law_mine f_law_draw g_law_draw m_law_draw b_law_draw f_law_one_of g_law_one_of m_law_one_of b_law_one_of f_law_two_places g_law_two_places m_law_two_places b_law_two_places n_len n_min n_range n_tuple
  have g_law_inner : FnG l.prog w K mg base 1 e_law_inner _ ["mine"] F_law_inner := ok_law_inner f_law_inner n_range
  have g_law_sign : FnG l.prog w K mg base 1 e_law_sign _ ["number"] F_law_sign := ok_law_sign f_law_sign n_int
  have g_law_widths : FnG l.prog w K mg base 4 e_law_widths _ ["pen", "mine"] F_law_widths := ok_law_widths f_law_widths f_law_draw g_law_draw m_law_draw b_law_draw f_law_one_of g_law_one_of m_law_one_of b_law_one_of n_tuple
  have g_law_is_balanced : FnG l.prog w K mg base 2 e_law_is_balanced _ ["mine", "levels"] F_law_is_balanced := ok_law_is_balanced f_law_is_balanced f_law_inner g_law_inner m_law_inner b_law_inner f_law_sign g_law_sign m_law_sign b_law_sign
  have g_law_is_state : FnG l.prog w K mg base 2 e_law_is_state _ ["mine", "widths", "levels"] F_law_is_state := ok_law_is_state f_law_is_state f_law_inner g_law_inner m_law_inner b_law_inner n_enumerate
  have g_law_is_tuple : FnG l.prog w K mg base 1 e_law_is_tuple _ ["value", "many"] F_law_is_tuple := ok_law_is_tuple f_law_is_tuple n_isinstance n_len n_tuple
  have g_law_stretched : FnG l.prog w K mg base 4 e_law_stretched _ ["pen", "levels"] F_law_stretched := ok_law_stretched f_law_stretched f_law_draw g_law_draw m_law_draw b_law_draw f_law_one_of g_law_one_of m_law_one_of b_law_one_of n_set n_sorted n_tuple
  have g_law_right : FnG l.prog w K mg base 6 e_law_right _ ["mine", "levels"] F_law_right := ok_law_right f_law_right f_law_is_balanced g_law_is_balanced m_law_is_balanced b_law_is_balanced f_law_is_state g_law_is_state m_law_is_state b_law_is_state f_law_is_tuple g_law_is_tuple m_law_is_tuple b_law_is_tuple f_law_whole g_law_whole m_law_whole b_law_whole f_is_balanced g_is_balanced m_is_balanced b_is_balanced f_widths_for g_widths_for m_widths_for b_widths_for n_len n_max n_min n_repr
  have g_law : FnG l.prog w K mg base 7 fa _ ["script"] F_law := ok_law f_law f_law_at g_law_at m_law_at b_law_at f_law_draw g_law_draw m_law_draw b_law_draw f_law_mine g_law_mine m_law_mine b_law_mine f_law_one_of g_law_one_of m_law_one_of b_law_one_of f_law_pen g_law_pen m_law_pen b_law_pen f_law_right g_law_right m_law_right b_law_right f_law_stretched g_law_stretched m_law_stretched b_law_stretched f_law_widths g_law_widths m_law_widths b_law_widths f_levels_for g_levels_for m_levels_for b_levels_for n_len n_max n_min n_range n_tuple
  exact g_law
end K05
open PySem PySem.W PyProof.Rows
set_option maxHeartbeats 0 in
theorem PySem.Challenge.cw_windways_k05_balanced_levels_and_widths_holds : PySem.Challenge.rw_windways_k05_balanced_levels_and_widths.Holds := by
  w_on; o_law; k_head; (case hw => w_witness2)
  k_fill
  refine MS.walkG (l := PySem.Challenge.rw_windways_k05_balanced_levels_and_widths) (n := 63) (k := 7) (x := "script") rfl (by decide) rfl ⟨rfl, by decide, by decide⟩ (fun w h Y => PySem.W.kIn_of Y) K05.law_ok ?F
  case F =>
    intro w mg fa h KX G hmg
    refine' K05.all_mk KX G hmg ?a1_inner_places ?a2_inner_places ?a3_inner_places ?a4_inner_places ?a1_ways_at ?a2_ways_at ?a3_ways_at ?a4_ways_at ?a1_far_end ?a2_far_end ?a3_far_end ?a4_far_end ?a1_leaving_shares ?a2_leaving_shares ?a3_leaving_shares ?a4_leaving_shares ?a1_cleared_row ?a2_cleared_row ?a3_cleared_row ?a4_cleared_row ?a1_solve_rows ?a2_solve_rows ?a3_solve_rows ?a4_solve_rows ?a1_without_divisor ?a2_without_divisor ?a3_without_divisor ?a4_without_divisor ?a1_levels_for ?a2_levels_for ?a3_levels_for ?a4_levels_for ?a1_sign_between ?a2_sign_between ?a3_sign_between ?a4_sign_between ?a1_way_toward ?a2_way_toward ?a3_way_toward ?a4_way_toward ?a1_is_balanced ?a2_is_balanced ?a3_is_balanced ?a4_is_balanced ?a1_slope_from ?a2_slope_from ?a3_slope_from ?a4_slope_from ?a1_air_along_slopes ?a2_air_along_slopes ?a3_air_along_slopes ?a4_air_along_slopes ?a1_widths_for ?a2_widths_for ?a3_widths_for ?a4_widths_for ?a1_law_pen ?a2_law_pen ?a3_law_pen ?a4_law_pen ?a1_law_fresh ?a2_law_fresh ?a3_law_fresh ?a4_law_fresh ?a1_law_draw ?a2_law_draw ?a3_law_draw ?a4_law_draw ?a1_law_one_of ?a2_law_one_of ?a3_law_one_of ?a4_law_one_of ?a1_law_whole ?a2_law_whole ?a3_law_whole ?a4_law_whole ?a1_law_at ?a2_law_at ?a3_law_at ?a4_law_at ?a1_law_two_places ?a2_law_two_places ?a3_law_two_places ?a4_law_two_places ?a1_law_mine ?a2_law_mine ?a3_law_mine ?a4_law_mine ?a1_law_inner ?a2_law_inner ?a3_law_inner ?a4_law_inner ?a1_law_sign ?a2_law_sign ?a3_law_sign ?a4_law_sign ?a1_law_widths ?a2_law_widths ?a3_law_widths ?a4_law_widths ?a1_law_is_balanced ?a2_law_is_balanced ?a3_law_is_balanced ?a4_law_is_balanced ?a1_law_is_state ?a2_law_is_state ?a3_law_is_state ?a4_law_is_state ?a1_law_is_tuple ?a2_law_is_tuple ?a3_law_is_tuple ?a4_law_is_tuple ?a1_law_stretched ?a2_law_stretched ?a3_law_stretched ?a4_law_stretched ?a1_law_right ?a2_law_right ?a3_law_right ?a4_law_right ?a1_law ?a2_law ?a3_law ?a4_law ?a5_abs ?a5_bool ?a5_enumerate ?a5_int ?a5_isinstance ?a5_len ?a5_list ?a5_max ?a5_min ?a5_range ?a5_repr ?a5_set ?a5_sorted ?a5_tuple ?a5_zip ?a6_HIGHER ?a6_LOWER ?a7_gcd ?a7_lcm
    (case a1_inner_places => k_is); (case a2_inner_places => k_is); (case a3_inner_places => k_is); (case a4_inner_places => k_is); (case a1_ways_at => k_is); (case a2_ways_at => k_is); (case a3_ways_at => k_is); (case a4_ways_at => k_is); (case a1_far_end => k_is); (case a2_far_end => k_is); (case a3_far_end => k_is); (case a4_far_end => k_is); (case a1_leaving_shares => k_is); (case a2_leaving_shares => k_is); (case a3_leaving_shares => k_is); (case a4_leaving_shares => k_is); (case a1_cleared_row => k_is); (case a2_cleared_row => k_is); (case a3_cleared_row => k_is); (case a4_cleared_row => k_is); (case a1_solve_rows => k_is); (case a2_solve_rows => k_is); (case a3_solve_rows => k_is); (case a4_solve_rows => k_is); (case a1_without_divisor => k_is); (case a2_without_divisor => k_is); (case a3_without_divisor => k_is); (case a4_without_divisor => k_is); (case a1_levels_for => k_is); (case a2_levels_for => k_is); (case a3_levels_for => k_is); (case a4_levels_for => k_is); (case a1_sign_between => k_is); (case a2_sign_between => k_is); (case a3_sign_between => k_is); (case a4_sign_between => k_is); (case a1_way_toward => k_is); (case a2_way_toward => k_is); (case a3_way_toward => k_is); (case a4_way_toward => k_is); (case a1_is_balanced => k_is); (case a2_is_balanced => k_is); (case a3_is_balanced => k_is); (case a4_is_balanced => k_is); (case a1_slope_from => k_is); (case a2_slope_from => k_is); (case a3_slope_from => k_is); (case a4_slope_from => k_is); (case a1_air_along_slopes => k_is); (case a2_air_along_slopes => k_is); (case a3_air_along_slopes => k_is); (case a4_air_along_slopes => k_is); (case a1_widths_for => k_is); (case a2_widths_for => k_is); (case a3_widths_for => k_is); (case a4_widths_for => k_is); (case a1_law_pen => k_is); (case a2_law_pen => k_is); (case a3_law_pen => k_is); (case a4_law_pen => k_is); (case a1_law_fresh => k_is); (case a2_law_fresh => k_is); (case a3_law_fresh => k_is); (case a4_law_fresh => k_is); (case a1_law_draw => k_is); (case a2_law_draw => k_is); (case a3_law_draw => k_is); (case a4_law_draw => k_is); (case a1_law_one_of => k_is); (case a2_law_one_of => k_is); (case a3_law_one_of => k_is); (case a4_law_one_of => k_is); (case a1_law_whole => k_is); (case a2_law_whole => k_is); (case a3_law_whole => k_is); (case a4_law_whole => k_is); (case a1_law_at => k_is); (case a2_law_at => k_is); (case a3_law_at => k_is); (case a4_law_at => k_is); (case a1_law_two_places => k_is); (case a2_law_two_places => k_is); (case a3_law_two_places => k_is); (case a4_law_two_places => k_is); (case a1_law_mine => k_is); (case a2_law_mine => k_is); (case a3_law_mine => k_is); (case a4_law_mine => k_is); (case a1_law_inner => k_is); (case a2_law_inner => k_is); (case a3_law_inner => k_is); (case a4_law_inner => k_is); (case a1_law_sign => k_is); (case a2_law_sign => k_is); (case a3_law_sign => k_is); (case a4_law_sign => k_is); (case a1_law_widths => k_is); (case a2_law_widths => k_is); (case a3_law_widths => k_is); (case a4_law_widths => k_is); (case a1_law_is_balanced => k_is); (case a2_law_is_balanced => k_is); (case a3_law_is_balanced => k_is); (case a4_law_is_balanced => k_is); (case a1_law_is_state => k_is); (case a2_law_is_state => k_is); (case a3_law_is_state => k_is); (case a4_law_is_state => k_is); (case a1_law_is_tuple => k_is); (case a2_law_is_tuple => k_is); (case a3_law_is_tuple => k_is); (case a4_law_is_tuple => k_is); (case a1_law_stretched => k_is); (case a2_law_stretched => k_is); (case a3_law_stretched => k_is); (case a4_law_stretched => k_is); (case a1_law_right => k_is); (case a2_law_right => k_is); (case a3_law_right => k_is); (case a4_law_right => k_is); (case a1_law => k_is); (case a2_law => k_is); (case a3_law => k_is); (case a4_law => k_is); (case a5_abs => k_is); (case a5_bool => k_is); (case a5_enumerate => k_is); (case a5_int => k_is); (case a5_isinstance => k_is); (case a5_len => k_is); (case a5_list => k_is); (case a5_max => k_is); (case a5_min => k_is); (case a5_range => k_is); (case a5_repr => k_is); (case a5_set => k_is); (case a5_sorted => k_is); (case a5_tuple => k_is); (case a5_zip => k_is); (case a6_HIGHER => k_is); (case a6_LOWER => k_is); (case a7_gcd => k_is); (case a7_lcm => k_is)
