import PyProof.Rows.All
import Wide.All
import OpenK.AllK
import Wide.FinOn
import HandS.ForMost
import HandS.TupAny
import HandS.Style
import HandS.Conv
import HandS.Gcd
import HandS.RaiseMore
import HandS.Walk
import KE.GoesEnum
import KE.GoesNew
import HandS.Zip
import HandS.TupMul
import HandS.Wide
import HandS.NoneIn
import HandS.IsInst
import HandS.Strs
import HandS.SetFor
import KE.KMathG
import HandS.SetBool
import HandS.SortInts
import HandS.DictComp
import HandS.Deep
import HandS.SortRule
import HandS.TupSets
import HandS.Exc
import HandS.ExcOwn
import HandS.ExcInit
import HandS.ExcField
import HandS.TryOnly
import HandS.WordsExc
import HandS.ExcIs
import KE.KExcIs
import KE.KIsAll
import PyProof.ReprRoads
import KE.KEqNest
import PySem.Challenge.RW_windways_k01_mines_required
set_option Elab.async false
set_option linter.all false
set_option maxRecDepth 100000
set_option maxHeartbeats 4000000
/-! A layer of pure data over the hand layer: what a def does is a Lean function of data and of a store of lists. -/
namespace MS
open PySem PySem.Spec PyProof.Rows L2

/-- a datum: lists stand in a store, tuples are plain data -/
inductive D where
  | non | bl (b : Bool) | int (i : Int) | str (x : Str) | tup (ds : List D) | lr (n : Nat)
  /-- a list, a dict, an instance that nobody will change any more, by value; a def, a class -/
  | lst (ds : List D) | fl (ds : List D) | dk (ks : List Key) (ds : List D) | dt (ks : List (List Key)) (ds : List D) | ins (c : Addr) (ks : List Str) (ds : List D) | fn (a : Addr)
/-- what stands in the store: a list, a list that nobody changes, a dict by ints and texts, a dict by tuples of these -/
inductive MO where
  | lst (ds : List D) | dk (kvs : List (Key × D)) | dt (kvs : List (List Key × D)) | ins (c : Addr) (kvs : List (Str × D)) | gone
/-- it may change -/
def MO.mut : MO → Bool
  | .gone => false
  | _ => true
/-- a heap's thing that may change -/
inductive Mt : HO → Prop
  | lst (xs : List V) : Mt (.lst xs)
  | dk (kvs : List (Key × V)) : Mt (.dK kvs)
  | dt (kvs : List (List Key × V)) : Mt (.dT kvs)
  | ins (c dx : Addr) (kvs : List (Str × V)) : Mt (.ins c dx kvs)
abbrev Store := List MO
abbrev Ev := List (Option D)

/-- where the handles lead, and the places that may change -/
structure Mu where
  h : List Addr
  lv : List Addr
def Mu.add (μ : Mu) (p : Addr) : Mu := ⟨μ.h ++ [p], μ.lv ++ [p]⟩
theorem Mu.new {μ : Mu} {p : Addr} : (μ.add p).h[μ.h.length]? = some p := List.getElem?_concat_length
def Mu.drop (μ : Mu) (p : Addr) : Mu := ⟨μ.h, μ.lv.filter fun a => decide (a ≠ p)⟩
/-- a list that nobody changes: locked, or of the written part -/
def FzL (K : PySem.W.Frag) (H : Hp) (a : Addr) (xs : List V) : Prop :=
  (∃ o, H a = some (.frz o (.lst xs))) ∨ ∃ (o : Obj) (its : Array Value) (n : Nat), K.lookup a = some o ∧ o.cls = .type "list" ∧ o.dict = none ∧ o.data = .seq its n ∧ its.size ≤ sizeLine ∧ Vals xs its.toList
section rep
variable (K : PySem.W.Frag) (H : Hp) (μ : Mu)
/-- a list by value: the heap's and no handle's -/
def LsV (a : Addr) (xs : List V) : Prop := H a = some (.lst xs) ∧ a ∉ μ.lv
/-- a tuple of the heap's own -/
def OwnT (_K : PySem.W.Frag) (H : Hp) (a : Addr) (xs : List V) : Prop := H a = some (.tup xs)
mutual
inductive Rp : V → D → Prop
  | non : Rp .non .non
  | bl (b : Bool) : Rp (.bl b) (.bl b)
  | int (i : Int) : Rp (.int i) (.int i)
  | str (x : Str) : Rp (.str x) (.str x)
  | tup {a : Addr} {xs : List V} {ds : List D} : OwnT K H a xs → RpA xs ds → Rp (.ref a) (.tup ds)
  | lr {a : Addr} {n : Nat} : μ.h[n]? = some a → Rp (.ref a) (.lr n)
  | lst {a : Addr} {xs : List V} {ds : List D} : LsV H μ a xs → RpA xs ds → Rp (.ref a) (.lst ds)
  | fl {a : Addr} {xs : List V} {ds : List D} : FzL K H a xs → RpA xs ds → Rp (.ref a) (.fl ds)
  | dk {a : Addr} {ks : List Key} {xs : List V} {ds : List D} : H a = some (.dK (ks.zip xs)) → a ∉ μ.lv → ks.length = xs.length → RpA xs ds → Rp (.ref a) (.dk ks ds)
  | dt {a : Addr} {ks : List (List Key)} {xs : List V} {ds : List D} : H a = some (.dT (ks.zip xs)) → a ∉ μ.lv → ks.length = xs.length → RpA xs ds → Rp (.ref a) (.dt ks ds)
  | ins {a c dx : Addr} {ks : List Str} {xs : List V} {ds : List D} : H a = some (.ins c dx (ks.zip xs)) → a ∉ μ.lv → ks.length = xs.length → RpA xs ds → Rp (.ref a) (.ins c ks ds)
  | fn {a : Addr} : Rp (.ref a) (.fn a)
inductive RpA : List V → List D → Prop
  | nil : RpA [] []
  | cons {v : V} {vs : List V} {d : D} {ds : List D} : Rp v d → RpA vs ds → RpA (v :: vs) (d :: ds)
end
theorem sq {a : Addr} {xs : List V} (h : H a = some (.tup xs)) : SqT K H a xs := .inl (.inl h)
/-- the heap grew: tuples and locked things stand -/
structure Grow (H H' : Hp) (μ μ' : Mu) : Prop where
  tups : ∀ a xs, H a = some (.tup xs) → H' a = some (.tup xs)
  frzs : ∀ a o u, H a = some (.frz o u) → H' a = some (.frz o u)
  exts : ∀ a φ, H a = some (.ext φ) → H' a = some (.ext φ)
  pre : μ.h <+: μ'.h
  muts : ∀ a o, Mt o → a ∉ μ.lv → H a = some o → H' a = some o
  fresh : ∀ a ∈ μ'.lv, a ∈ μ.lv ∨ H a = none
  alive : ∀ a, H' a = none → H a = none
/-- entries: the same keys, the values likewise -/
def RpK {κ : Type} (kws : List (κ × V)) (kvs : List (κ × D)) : Prop := kws.map (·.1) = kvs.map (·.1) ∧ RpA K H μ (kws.map (·.2)) (kvs.map (·.2))
def MoR : MO → Addr → Prop
  | .lst ds, a => ∃ vs, H a = some (.lst vs) ∧ RpA K H μ vs ds
  | .dk kvs, a => ∃ kws, H a = some (.dK kws) ∧ RpK K H μ kws kvs
  | .dt kvs, a => ∃ kws, H a = some (.dT kws) ∧ RpK K H μ kws kvs
  | .ins c kvs, a => ∃ dx kws, H a = some (.ins c dx kws) ∧ RpK K H μ kws kvs
  | .gone, _ => True
/-- the store is in the heap -/
structure StR (S : Store) : Prop where
  len : μ.h.length = S.length
  nd : ∀ (n m : Nat) (a : Addr) (x y : MO), S[n]? = some x → S[m]? = some y → x.mut = true → y.mut = true → μ.h[n]? = some a → μ.h[m]? = some a → n = m
  at_ : ∀ (n : Nat) (mo : MO) (a : Addr), S[n]? = some mo → μ.h[n]? = some a → MoR K H μ mo a
  liv : ∀ a ∈ μ.lv, H a ≠ none
  own : ∀ (n : Nat) (mo : MO) (a : Addr), S[n]? = some mo → mo.mut = true → μ.h[n]? = some a → a ∈ μ.lv
/-- the slots are in the frame -/
structure Sim (σ : L2.St) (ρ : Ev) (S : Store) : Prop where
  st : StR K H μ S
  len : ρ.length = σ.length
  sl : ∀ (i : Nat) (d : D), ρ[i]? = some (some d) → ∃ v, σ[i]? = some (some v) ∧ Rp K H μ v d
end rep

section
variable {K : PySem.W.Frag} {H H' H'' : Hp} {μ μ' μ'' : Mu}
theorem Grow.refl : Grow H H μ μ := ⟨fun _ _ h => h, fun _ _ _ h => h, fun _ _ h => h, List.prefix_refl _, fun _ _ _ _ h => h, fun _ h => .inl h, fun _ h => h⟩
theorem Grow.out (g : Grow H H' μ μ') {a : Addr} {o : HO} (h : a ∉ μ.lv) (e : H a = some o) : a ∉ μ'.lv := fun z => by
  rcases g.fresh a z with z | z
  · exact h z
  · rw [e] at z; cases z
theorem Grow.trans (a : Grow H H' μ μ') (b : Grow H' H'' μ' μ'') : Grow H H'' μ μ'' :=
  ⟨fun _ _ h => b.tups _ _ (a.tups _ _ h), fun _ _ _ h => b.frzs _ _ _ (a.frzs _ _ _ h), fun _ _ h => b.exts _ _ (a.exts _ _ h), a.pre.trans b.pre,
    fun c o m n e => b.muts c o m (a.out n e) (a.muts c o m n e), fun c h => (b.fresh c h).elim (a.fresh c) fun z => .inr (a.alive c z), fun c h => a.alive c (b.alive c h)⟩
theorem FzL.grow {a : Addr} {xs : List V} (g : Grow H H' μ μ') (h : FzL K H a xs) : FzL K H' a xs := by
  rcases h with ⟨o, h⟩ | h
  · exact .inl ⟨o, g.frzs _ _ _ h⟩
  · exact .inr h
theorem LsV.grow {a : Addr} {xs : List V} (g : Grow H H' μ μ') (h : LsV H μ a xs) : LsV H' μ' a xs := ⟨g.muts _ _ (.lst _) h.2 h.1, g.out h.2 h.1⟩
theorem Grow.sqT (g : Grow H H' μ μ') {a : Addr} {xs : List V} (h : SqT K H a xs) : SqT K H' a xs := by
  rcases h with (h | ⟨o, h⟩) | h
  · exact .inl (.inl (g.tups _ _ h))
  · exact .inl (.inr ⟨o, g.frzs _ _ _ h⟩)
  · exact .inr h
mutual
theorem Rp.grow (g : Grow H H' μ μ') : ∀ {d : D} {v : V}, Rp K H μ v d → Rp K H' μ' v d
  | .non, _, h => by cases h; exact .non
  | .bl _, _, h => by cases h; exact .bl _
  | .int _, _, h => by cases h; exact .int _
  | .str _, _, h => by cases h; exact .str _
  | .tup _, _, h => by
    cases h with
    | tup h1 h2 => exact .tup (g.tups _ _ h1) (RpA.grow g h2)
  | .lr _, _, h => by
    cases h with
    | lr h1 =>
      obtain ⟨t, e⟩ := g.pre
      exact .lr (by rw [← e, List.getElem?_append_left (List.getElem?_eq_some_iff.mp h1).1]; exact h1)
  | .lst _, _, h => by
    cases h with
    | lst h1 h2 => exact .lst (h1.grow g) (RpA.grow g h2)
  | .fl _, _, h => by
    cases h with
    | fl h1 h2 => exact .fl (h1.grow g) (RpA.grow g h2)
  | .dk _ _, _, h => by
    cases h with
    | dk h1 h2 h3 h4 => exact .dk (g.muts _ _ (.dk _) h2 h1) (g.out h2 h1) h3 (RpA.grow g h4)
  | .dt _ _, _, h => by
    cases h with
    | dt h1 h2 h3 h4 => exact .dt (g.muts _ _ (.dt _) h2 h1) (g.out h2 h1) h3 (RpA.grow g h4)
  | .ins _ _ _, _, h => by
    cases h with
    | ins h1 h2 h3 h4 => exact .ins (g.muts _ _ (.ins _ _ _) h2 h1) (g.out h2 h1) h3 (RpA.grow g h4)
  | .fn _, _, h => by cases h; exact .fn
theorem RpA.grow (g : Grow H H' μ μ') : ∀ {ds : List D} {vs : List V}, RpA K H μ vs ds → RpA K H' μ' vs ds
  | [], _, h => by cases h; exact .nil
  | _ :: _, _, h => by
    cases h with
    | cons h1 h2 => exact .cons (Rp.grow g h1) (RpA.grow g h2)
end
theorem RpA.length : ∀ {vs : List V} {ds : List D}, RpA K H μ vs ds → vs.length = ds.length
  | _, [], h => by cases h; rfl
  | _, _ :: _, h => by
    cases h with
    | cons _ h2 => rw [List.length_cons, List.length_cons, RpA.length h2]
theorem RpA.get : ∀ {vs : List V} {ds : List D} {i : Nat} {d : D}, RpA K H μ vs ds → ds[i]? = some d → ∃ v, vs[i]? = some v ∧ Rp K H μ v d
  | _, [], i, d, h, e => by simp at e
  | _, _ :: _, 0, d, h, e => by
    cases h with
    | cons h1 _ => simp at e; subst e; exact ⟨_, rfl, h1⟩
  | _, _ :: _, i + 1, d, h, e => by
    cases h with
    | cons _ h2 =>
      obtain ⟨v, h3, h4⟩ := RpA.get (i := i) h2 (by simpa using e)
      exact ⟨v, by simpa using h3, h4⟩
theorem RpA.getV : ∀ {vs : List V} {ds : List D} {i : Nat} {v : V}, RpA K H μ vs ds → vs[i]? = some v → ∃ d, ds[i]? = some d ∧ Rp K H μ v d := fun {vs ds i v} h e => by
  have hl := h.length
  have hi := (List.getElem?_eq_some_iff.mp e).1
  have hd : ds[i]? = some ds[i] := List.getElem?_eq_getElem (by omega)
  obtain ⟨v', h1, h2⟩ := h.get hd
  rw [e] at h1; cases h1
  exact ⟨_, hd, h2⟩
theorem RpA.append : ∀ {xs ys : List V} {ds es : List D}, RpA K H μ xs ds → RpA K H μ ys es → RpA K H μ (xs ++ ys) (ds ++ es)
  | _, _, [], _, h, h' => by cases h; exact h'
  | _, _, _ :: _, _, h, h' => by
    cases h with
    | cons h1 h2 => exact .cons h1 (RpA.append h2 h')
theorem RpA.take : ∀ {xs : List V} {ds : List D} (n : Nat), RpA K H μ xs ds → RpA K H μ (xs.take n) (ds.take n)
  | _, _, 0, _ => .nil
  | _, [], _ + 1, h => by cases h; exact .nil
  | _, _ :: _, n + 1, h => by
    cases h with
    | cons h1 h2 => exact .cons h1 (RpA.take n h2)
theorem RpA.drop : ∀ {xs : List V} {ds : List D} (n : Nat), RpA K H μ xs ds → RpA K H μ (xs.drop n) (ds.drop n)
  | _, _, 0, h => h
  | _, [], _ + 1, h => by cases h; exact .nil
  | _, _ :: _, n + 1, h => by
    cases h with
    | cons _ h2 => exact RpA.drop n h2
theorem RpA.set {v : V} {d : D} (r : Rp K H μ v d) : ∀ {xs : List V} {ds : List D} (n : Nat), RpA K H μ xs ds → RpA K H μ (xs.set n v) (ds.set n d)
  | _, [], _, h => by cases h; exact .nil
  | _, _ :: _, 0, h => by
    cases h with
    | cons _ h2 => exact .cons r h2
  | _, _ :: _, n + 1, h => by
    cases h with
    | cons h1 h2 => exact .cons h1 (RpA.set r n h2)
theorem RpA.reverse : ∀ {xs : List V} {ds : List D}, RpA K H μ xs ds → RpA K H μ xs.reverse ds.reverse
  | _, [], h => by cases h; exact .nil
  | _, _ :: _, h => by
    cases h with
    | cons h1 h2 => rw [List.reverse_cons, List.reverse_cons]; exact (RpA.reverse h2).append (.cons h1 .nil)
theorem RpA.ints : ∀ {ns : List Int}, RpA K H μ (ns.map V.int) (ns.map D.int)
  | [] => .nil
  | _ :: _ => .cons (.int _) RpA.ints
theorem Grow.tup (g : Grow H H' μ μ') {a : Addr} {xs : List V} (h : H a = some (.tup xs)) : H' a = some (.tup xs) := g.tups _ _ h

theorem upd_alive {a p : Addr} {o : HO} (h : upd H p o a = none) : H a = none := by
  by_cases e : a = p
  · subst e; rw [upd_same] at h; cases h
  · rwa [upd_ne e] at h
/-- a new thing at p -/
theorem Grow.new {p : Addr} {o : HO} (h : H p = none) : Grow H (upd H p o) μ μ :=
  ⟨fun a xs e => by rw [upd_ne (ne_of_none e h)]; exact e, fun a ob u e => by rw [upd_ne (ne_of_none e h)]; exact e, fun a φ e => by rw [upd_ne (ne_of_none e h)]; exact e, List.prefix_refl _,
    fun a u _ _ e => by rw [upd_ne (ne_of_none e h)]; exact e, fun _ z => .inl z, fun a e => upd_alive e⟩
theorem Grow.newL {p : Addr} {o : HO} (h : H p = none) : Grow H (upd H p o) μ (μ.add p) :=
  ⟨(Grow.new (μ := μ) h).tups, (Grow.new (μ := μ) h).frzs, (Grow.new (μ := μ) h).exts, List.prefix_append _ _, (Grow.new (μ := μ) h).muts,
    fun a z => (List.mem_append.mp z).elim .inl fun z => .inr (by rw [List.mem_singleton.mp z]; exact h), (Grow.new (μ := μ) h).alive⟩
/-- a thing that may change, changed at the live place a -/
theorem Grow.wrM {a : Addr} {o u : HO} (m : Mt o) (h : H a = some o) (hn : a ∈ μ.lv) : Grow H (upd H a u) μ μ :=
  ⟨fun b ys e => by rw [upd_ne (ne_of e h (by intro z; subst z; cases m))]; exact e, fun b ob v e => by rw [upd_ne (ne_of e h (by intro z; subst z; cases m))]; exact e, fun b φ e => by rw [upd_ne (ne_of e h (by intro z; subst z; cases m))]; exact e,
    List.prefix_refl _, fun b v _ z e => by rw [upd_ne fun q => z (by rw [q]; exact hn)]; exact e, fun _ z => .inl z, fun _ e => upd_alive e⟩

theorem FzL.sqL {a : Addr} {xs : List V} (h : FzL K H a xs) : SqL K H a xs := by
  rcases h with ⟨o, h⟩ | h
  · exact .inl (.inr ⟨o, h⟩)
  · exact .inr h
theorem LsV.sqL {a : Addr} {xs : List V} (h : LsV H μ a xs) : SqL K H a xs := .inl (.inl h.1)
theorem RpK.grow {κ : Type} {kws : List (κ × V)} {kvs : List (κ × D)} (g : Grow H H' μ μ') (h : RpK K H μ kws kvs) : RpK K H' μ' kws kvs := ⟨h.1, h.2.grow g⟩
theorem MoR.grow {mo : MO} {a : Addr} (g : Grow H H' μ μ') (h : MoR K H μ mo a) (k : ∀ o, Mt o → H a = some o → H' a = some o) : MoR K H' μ' mo a := by
  cases mo with
  | lst ds => obtain ⟨vs, h1, h2⟩ := h; exact ⟨vs, k _ (.lst _) h1, h2.grow g⟩
  | dk kvs => obtain ⟨kws, h1, h2⟩ := h; exact ⟨kws, k _ (.dk _) h1, h2.grow g⟩
  | dt kvs => obtain ⟨kws, h1, h2⟩ := h; exact ⟨kws, k _ (.dt _) h1, h2.grow g⟩
  | ins c kvs => obtain ⟨dx, kws, h1, h2⟩ := h; exact ⟨dx, kws, k _ (.ins _ _ _) h1, h2.grow g⟩
  | gone => exact trivial
/-- what may change stands in the heap as such -/
theorem MoR.mt {mo : MO} {a : Addr} (h : MoR K H μ mo a) (m : mo.mut = true) : ∃ o, Mt o ∧ H a = some o := by
  cases mo with
  | lst ds => obtain ⟨vs, h1, _⟩ := h; exact ⟨_, .lst _, h1⟩
  | dk kvs => obtain ⟨kws, h1, _⟩ := h; exact ⟨_, .dk _, h1⟩
  | dt kvs => obtain ⟨kws, h1, _⟩ := h; exact ⟨_, .dt _, h1⟩
  | ins c kvs => obtain ⟨dx, kws, h1, _⟩ := h; exact ⟨_, .ins _ _ _, h1⟩
  | gone => cases m
theorem StR.grow {S : Store} (s : StR K H μ S) (g : Grow H H' μ μ) (k : ∀ a o, Mt o → H a = some o → H' a = some o) : StR K H' μ S :=
  ⟨s.len, s.nd, fun n mo a e1 e2 => (s.at_ n mo a e1 e2).grow g fun o => k a o, fun a h z => s.liv a h (g.alive a z), s.own⟩
/-- a new thing that is no list of the store -/
theorem StR.new {S : Store} {p : Addr} {o : HO} (s : StR K H μ S) (h : H p = none) : StR K (upd H p o) μ S :=
  s.grow (.new h) fun a u _ e => by rw [upd_ne (ne_of_none e h)]; exact e
/-- a new thing of the store -/
theorem StR.newM {S : Store} {p : Addr} {o : HO} {y : MO} (s : StR K H μ S) (h : H p = none) (r : MoR K (upd H p o) (μ.add p) y p) : StR K (upd H p o) (μ.add p) (S ++ [y]) := by
  have g : Grow H (upd H p o) μ (μ.add p) := .newL h
  have old : ∀ {n : Nat} {mo : MO} {a : Addr}, (S ++ [y])[n]? = some mo → (μ.add p).h[n]? = some a → (n < S.length ∧ S[n]? = some mo ∧ μ.h[n]? = some a) ∨ (n = S.length ∧ mo = y ∧ a = p) := fun {n mo a} e1 e2 => by
    by_cases hn : n < S.length
    · rw [List.getElem?_append_left hn] at e1
      have e2 : (μ.h ++ [p])[n]? = some a := e2
      rw [List.getElem?_append_left (by rw [s.len]; exact hn)] at e2
      exact .inl ⟨hn, e1, e2⟩
    · have hl := (List.getElem?_eq_some_iff.mp e1).1
      rw [List.length_append, List.length_singleton] at hl
      have hn' : n = S.length := by omega
      subst hn'
      rw [List.getElem?_concat_length] at e1
      have e2 : (μ.h ++ [p])[S.length]? = some a := e2
      rw [← s.len, List.getElem?_concat_length] at e2
      cases e1; cases e2
      exact .inr ⟨rfl, rfl, rfl⟩
  have notp : ∀ {n : Nat} {x : MO}, S[n]? = some x → x.mut = true → μ.h[n]? = some p → False := fun {n x} e1 m e2 => by
    obtain ⟨u, _, q⟩ := (s.at_ n _ p e1 e2).mt m
    rw [h] at q; cases q
  refine ⟨by show (μ.h ++ [p]).length = _; rw [List.length_append, List.length_append, s.len]; rfl, fun n m a x z e1 e2 m1 m2 e3 e4 => ?_, fun n mo a e1 e2 => ?_, fun a z q => (List.mem_append.mp z).elim (fun z => s.liv a z (g.alive a q)) (fun z => by rw [List.mem_singleton.mp z, upd_same] at q; exact nomatch q),
    fun n mo a e1 m1 e2 => ?_⟩
  · rcases old e1 e3 with ⟨h1, h2, h3⟩ | ⟨h1, h2, h3⟩
    · rcases old e2 e4 with ⟨h4, h5, h6⟩ | ⟨h4, h5, h6⟩
      · exact s.nd n m a _ _ h2 h5 m1 m2 h3 h6
      · subst h6; exact (notp h2 m1 h3).elim
    · rcases old e2 e4 with ⟨h4, h5, h6⟩ | ⟨h4, h5, h6⟩
      · subst h3; exact (notp h5 m2 h6).elim
      · rw [h1, h4]
  · rcases old e1 e2 with ⟨h1, h2, h3⟩ | ⟨h1, h2, h3⟩
    · exact (s.at_ n mo a h2 h3).grow g fun u _ e => by rw [upd_ne (ne_of_none e h)]; exact e
    · subst h2; subst h3
      exact r
  · rcases old e1 e2 with ⟨h1, h2, h3⟩ | ⟨h1, h2, h3⟩
    · exact List.mem_append_left _ (s.own n mo a h2 m1 h3)
    · rw [h3]; exact List.mem_append_right _ (List.mem_singleton.mpr rfl)
/-- a new list -/
theorem StR.newL {S : Store} {p : Addr} {vs : List V} {ds : List D} (s : StR K H μ S) (h : H p = none) (r : RpA K H μ vs ds) : StR K (upd H p (.lst vs)) (μ.add p) (S ++ [.lst ds]) :=
  s.newM h ⟨vs, upd_same, r.grow (.newL h)⟩
/-- a thing of the store changed -/
theorem StR.wrM {S : Store} {n : Nat} {a : Addr} {x y : MO} {u : HO} (s : StR K H μ S) (e1 : S[n]? = some x) (mx : x.mut = true) (e2 : μ.h[n]? = some a) (r : MoR K (upd H a u) μ y a) : StR K (upd H a u) μ (S.set n y) := by
  obtain ⟨o, mo0, h0⟩ := (s.at_ n _ a e1 e2).mt mx
  have g : Grow H (upd H a u) μ μ := .wrM mo0 h0 (s.own n x a e1 mx e2)
  have hn : n < S.length := (List.getElem?_eq_some_iff.mp e1).1
  have low : ∀ {m : Nat} {z : MO}, (S.set n y)[m]? = some z → z.mut = true → ∃ z', S[m]? = some z' ∧ z'.mut = true := fun {m z} e mz => by
    by_cases hm : n = m
    · subst hm; exact ⟨x, e1, mx⟩
    · rw [List.getElem?_set_ne hm] at e; exact ⟨z, e, mz⟩
  refine ⟨by rw [List.length_set]; exact s.len, fun k m b z t q1 q2 m1 m2 q3 q4 => ?_, fun m mo b q1 q2 => ?_, fun b z q => s.liv b z (g.alive b q), fun m mo b q1 m1 q2 => let ⟨z', q3, m3⟩ := low q1 m1; s.own m z' b q3 m3 q2⟩
  · obtain ⟨z', q1, m1⟩ := low q1 m1
    obtain ⟨t', q2, m2⟩ := low q2 m2
    exact s.nd k m b _ _ q1 q2 m1 m2 q3 q4
  · by_cases hm : n = m
    · subst hm
      rw [List.getElem?_set_self hn] at q1
      rw [e2] at q2
      cases q1; cases q2
      exact r
    · rw [List.getElem?_set_ne hm] at q1
      have q := s.at_ m mo b q1 q2
      by_cases mm : mo.mut = true
      · have hb : b ≠ a := fun z => by subst z; exact hm (s.nd n m b _ _ e1 q1 mx mm e2 q2)
        exact q.grow g fun o' _ e => by rw [upd_ne hb]; exact e
      · cases mo with
        | gone => exact trivial
        | _ => exact absurd rfl mm
/-- a list of the store changed -/
theorem StR.wr {S : Store} {n : Nat} {a : Addr} {ds es : List D} {vs : List V} (s : StR K H μ S) (e1 : S[n]? = some (.lst ds)) (e2 : μ.h[n]? = some a) (r : RpA K H μ vs es) : StR K (upd H a (.lst vs)) μ (S.set n (.lst es)) := by
  obtain ⟨vs0, h0, _⟩ := s.at_ n _ a e1 e2
  exact s.wrM e1 rfl e2 ⟨vs, upd_same, r.grow (.wrM (.lst _) h0 (s.own n _ a e1 rfl e2))⟩
/-- the thing of a live handle changed -/
theorem Grow.wrS {S : Store} {n : Nat} {a : Addr} {x : MO} {u : HO} (s : StR K H μ S) (e : S[n]? = some x) (mx : x.mut = true) (hn : μ.h[n]? = some a) : Grow H (upd H a u) μ μ := by
  obtain ⟨o, m, h⟩ := (s.at_ n _ a e hn).mt mx
  exact .wrM m h (s.own n x a e mx hn)
theorem mem_drop {a b : Addr} : a ∈ (μ.drop b).lv ↔ a ∈ μ.lv ∧ a ≠ b := by
  unfold Mu.drop
  rw [List.mem_filter, decide_eq_true_eq]
theorem Grow.dropped {a : Addr} (g : Grow H H' μ μ') : Grow H H' μ (μ'.drop a) :=
  ⟨g.tups, g.frzs, g.exts, g.pre, g.muts, fun b z => g.fresh b (mem_drop.mp z).1, g.alive⟩
mutual
theorem Rp.dropped {a : Addr} : ∀ {d : D} {v : V}, Rp K H μ v d → Rp K H (μ.drop a) v d
  | .non, _, h => by cases h; exact .non
  | .bl _, _, h => by cases h; exact .bl _
  | .int _, _, h => by cases h; exact .int _
  | .str _, _, h => by cases h; exact .str _
  | .tup _, _, h => by
    cases h with
    | tup h1 h2 => exact .tup h1 (RpA.dropped h2)
  | .lr _, _, h => by
    cases h with
    | lr h1 => exact .lr h1
  | .lst _, _, h => by
    cases h with
    | lst h1 h2 => exact .lst ⟨h1.1, fun z => h1.2 (mem_drop.mp z).1⟩ (RpA.dropped h2)
  | .fl _, _, h => by
    cases h with
    | fl h1 h2 => exact .fl h1 (RpA.dropped h2)
  | .dk _ _, _, h => by
    cases h with
    | dk h1 h2 h3 h4 => exact .dk h1 (fun z => h2 (mem_drop.mp z).1) h3 (RpA.dropped h4)
  | .dt _ _, _, h => by
    cases h with
    | dt h1 h2 h3 h4 => exact .dt h1 (fun z => h2 (mem_drop.mp z).1) h3 (RpA.dropped h4)
  | .ins _ _ _, _, h => by
    cases h with
    | ins h1 h2 h3 h4 => exact .ins h1 (fun z => h2 (mem_drop.mp z).1) h3 (RpA.dropped h4)
  | .fn _, _, h => by cases h; exact .fn
theorem RpA.dropped {a : Addr} : ∀ {ds : List D} {vs : List V}, RpA K H μ vs ds → RpA K H (μ.drop a) vs ds
  | [], _, h => by cases h; exact .nil
  | _ :: _, _, h => by
    cases h with
    | cons h1 h2 => exact .cons (Rp.dropped h1) (RpA.dropped h2)
end
theorem MoR.dropped {a b : Addr} {mo : MO} (h : MoR K H μ mo b) : MoR K H (μ.drop a) mo b := by
  cases mo with
  | lst ds => obtain ⟨vs, h1, h2⟩ := h; exact ⟨vs, h1, h2.dropped⟩
  | dk kvs => obtain ⟨kws, h1, h2⟩ := h; exact ⟨kws, h1, h2.1, h2.2.dropped⟩
  | dt kvs => obtain ⟨kws, h1, h2⟩ := h; exact ⟨kws, h1, h2.1, h2.2.dropped⟩
  | ins c kvs => obtain ⟨dx, kws, h1, h2⟩ := h; exact ⟨dx, kws, h1, h2.1, h2.2.dropped⟩
  | gone => exact trivial
/-- a handle given up -/
theorem StR.dropped {S : Store} {n : Nat} {a : Addr} {x : MO} (s : StR K H μ S) (e : S[n]? = some x) (mx : x.mut = true) (hn : μ.h[n]? = some a) : StR K H (μ.drop a) (S.set n .gone) := by
  have hl : n < S.length := (List.getElem?_eq_some_iff.mp e).1
  have low : ∀ {m : Nat} {z : MO}, (S.set n .gone)[m]? = some z → z.mut = true → m ≠ n ∧ S[m]? = some z := fun {m z} q mz => by
    by_cases hm : n = m
    · subst hm
      rw [List.getElem?_set_self hl] at q
      cases q; cases mz
    · rw [List.getElem?_set_ne hm] at q
      exact ⟨fun z => hm z.symm, q⟩
  refine ⟨by rw [List.length_set]; exact s.len, fun k m b z t q1 q2 m1 m2 q3 q4 => ?_, fun m mo b q1 q2 => ?_, fun b z => s.liv b (mem_drop.mp z).1, fun m mo b q1 m1 q2 => ?_⟩
  · exact s.nd k m b _ _ (low q1 m1).2 (low q2 m2).2 m1 m2 q3 q4
  · by_cases hm : n = m
    · subst hm
      rw [List.getElem?_set_self hl] at q1
      cases q1
      exact trivial
    · rw [List.getElem?_set_ne hm] at q1
      exact (s.at_ m mo b q1 q2).dropped
  · obtain ⟨h1, h2⟩ := low q1 m1
    exact mem_drop.mpr ⟨s.own m mo b h2 m1 q2, fun z => h1 (s.nd m n b _ _ h2 e m1 mx q2 (by rw [z]; exact hn))⟩
/-- a handle read -/
theorem StR.get {S : Store} {n : Nat} {mo : MO} (s : StR K H μ S) (e : S[n]? = some mo) : ∃ a, μ.h[n]? = some a ∧ MoR K H μ mo a := by
  have hn : n < μ.h.length := by rw [s.len]; exact (List.getElem?_eq_some_iff.mp e).1
  exact ⟨μ.h[n], List.getElem?_eq_getElem hn, s.at_ n mo _ e (List.getElem?_eq_getElem hn)⟩
theorem Sim.grow {σ : L2.St} {ρ : Ev} {S S' : Store} (s : Sim K H μ σ ρ S) (g : Grow H H' μ μ') (t : StR K H' μ' S') : Sim K H' μ' σ ρ S' :=
  ⟨t, s.len, fun i d e => let ⟨v, h1, h2⟩ := s.sl i d e; ⟨v, h1, h2.grow g⟩⟩
theorem Sim.set {σ : L2.St} {ρ : Ev} {S : Store} {v : V} {d : D} (s : Sim K H μ σ ρ S) (i : Nat) (r : Rp K H μ v d) : Sim K H μ (σ.set i (some v)) (ρ.set i (some d)) S :=
  ⟨s.st, by rw [List.length_set, List.length_set]; exact s.len, fun j e q => by
    by_cases h : i = j
    · subst h
      have hl : i < ρ.length := by
        have := (List.getElem?_eq_some_iff.mp q).1
        rwa [List.length_set] at this
      rw [List.getElem?_set_self hl] at q
      cases q
      exact ⟨v, List.getElem?_set_self (by rw [← s.len]; exact hl), r⟩
    · rw [List.getElem?_set_ne h] at q ⊢
      exact s.sl j e q⟩
end

/-! ### readings that are functions -/
abbrev MExp := Ev → Store → Option (D × Store)
abbrev MTst := Ev → Store → Option (Bool × Store)
abbrev MArg := Ev → Store → Option (List D × Store)
inductive Fl where
  | nx | bk | ct | rt (d : D)
abbrev MStm := Ev → Store → Option (Fl × Ev × Store)
abbrev MTg := D → Ev → Store → Option (Ev × Store)
section
variable (K : PySem.W.Frag)
/-- what follows a value -/
def Aft (H : Hp) (μ : Mu) (d : D) (S : Store) (Q : VK) : Prop := ∀ v H' μ', Grow H H' μ μ' → StR K H' μ' S → Rp K H' μ' v d → Q v H'
def tE (m : MExp) : TE := fun σ H Q => ∃ ρ S μ d S', Sim K H μ σ ρ S ∧ m ρ S = some (d, S') ∧ Aft K H μ d S' Q
def tT (m : MTst) : TT := fun σ H Q => ∃ ρ S μ b S', Sim K H μ σ ρ S ∧ m ρ S = some (b, S') ∧ ∀ H' μ', Grow H H' μ μ' → StR K H' μ' S' → Q b H'
def tA (m : MArg) : TA := fun σ H Q => ∃ ρ S μ ds S', Sim K H μ σ ρ S ∧ m ρ S = some (ds, S') ∧ ∀ vs H' μ', Grow H H' μ μ' → StR K H' μ' S' → RpA K H' μ' vs ds → Q vs H'
/-- what is wanted behind a statement that flows so -/
def EndOf (D_ : Ends) : Fl → L2.St → Hp → Mu → Prop
  | .nx, σ, H, _ => D_.nx σ H
  | .bk, σ, H, _ => D_.bk σ H
  | .ct, σ, H, _ => D_.ct σ H
  | .rt d, _, H, μ => ∀ v, Rp K H μ v d → D_.rt v H
def tS (m : MStm) : TS := fun D_ σ H => ∃ ρ S μ f ρ' S', Sim K H μ σ ρ S ∧ m ρ S = some (f, ρ', S') ∧ ∀ σ' H' μ', Grow H H' μ μ' → Sim K H' μ' σ' ρ' S' → EndOf K D_ f σ' H' μ'
def tG (m : MTg) : TG := fun v σ H Q => ∃ d ρ S μ ρ' S', Sim K H μ σ ρ S ∧ Rp K H μ v d ∧ m d ρ S = some (ρ', S') ∧ ∀ σ' H' μ', Grow H H' μ μ' → Sim K H' μ' σ' ρ' S' → Q σ' H'
end
structure ME (X : Cx) (e : Expr) (m : MExp) : Prop where
  pe : PE X e (tE X.K m)
structure MT (X : Cx) (e : Expr) (m : MTst) : Prop where
  pt : PT X e (tT X.K m)
structure MW (X : Cx) (e : Expr) (m : MTst) : Prop where
  pw : PW X e (tT X.K m)
structure MA (X : Cx) (es : List Expr) (m : MArg) : Prop where
  pa : PA X es (tA X.K m)
structure MS_ (X : Cx) (st : Stmt) (m : MStm) : Prop where
  ps : PS X st (tS X.K m)
structure MSs (X : Cx) (st : List Stmt) (m : MStm) : Prop where
  pss : PSs X st (tS X.K m)
structure MG (X : Cx) (tg : Expr) (m : MTg) : Prop where
  pg : PG X tg (tG X.K m)
theorem PE.imp {X : Cx} {e : Expr} {t t' : TE} (h : PE X e t) (i : ∀ σ H Q, t' σ H Q → t σ H Q) : PE X e t' := ⟨fun pins s σ H Q I q => h.run pins s σ H Q I (i _ _ _ q)⟩
theorem PT.imp {X : Cx} {e : Expr} {t t' : TT} (h : PT X e t) (i : ∀ σ H Q, t' σ H Q → t σ H Q) : PT X e t' := ⟨fun pins s σ H Q I q => h.run pins s σ H Q I (i _ _ _ q)⟩
theorem PW.imp {X : Cx} {e : Expr} {t t' : TT} (h : PW X e t) (i : ∀ σ H Q, t' σ H Q → t σ H Q) : PW X e t' := ⟨fun w pins s σ H Q I q => h.run w pins s σ H Q I (i _ _ _ q)⟩
theorem PA.imp {X : Cx} {e : List Expr} {t t' : TA} (h : PA X e t) (i : ∀ σ H Q, t' σ H Q → t σ H Q) : PA X e t' := ⟨fun p pins s σ H Q I q => h.run p pins s σ H Q I (i _ _ _ q)⟩
theorem PS.imp {X : Cx} {e : Stmt} {t t' : TS} (h : PS X e t) (i : ∀ D σ H, t' D σ H → t D σ H) : PS X e t' := ⟨fun pins s σ H D I q => h.run pins s σ H D I (i _ _ _ q)⟩
theorem PSs.imp {X : Cx} {e : List Stmt} {t t' : TS} (h : PSs X e t) (i : ∀ D σ H, t' D σ H → t D σ H) : PSs X e t' := ⟨fun pins s σ H D I q => h.run pins s σ H D I (i _ _ _ q)⟩
theorem PG.imp {X : Cx} {e : Expr} {t t' : TG} (h : PG X e t) (i : ∀ v σ H Q, t' v σ H Q → t v σ H Q) : PG X e t' := ⟨fun pins s σ H v u Q I r q => h.run pins s σ H v u Q I r (i _ _ _ _ q)⟩

/-! ### names, constants, arguments -/
def mVar (i : Nat) : MExp := fun ρ S => match ρ[i]? with
  | some (some d) => some (d, S)
  | _ => none
def mC (d : D) : MExp := fun _ S => some (d, S)
def mNil : MArg := fun _ S => some ([], S)
def mCons (m : MExp) (r : MArg) : MArg := fun ρ S => (m ρ S).bind fun p => (r ρ p.2).bind fun q => some (p.1 :: q.1, q.2)
section
variable {X : Cx}
theorem me_var {i : Nat} {x : Str} {pos : Pos} (hN : X.N[i]? = some x) (hv : Vis X.env.scope x) (hd : (x == ("__debug__" : Str)) = false := by decide) (hcd : (x == ("__classdict__" : Str)) = false := by decide) : ME X (.Name x pos) (mVar i) :=
  ⟨PE.imp (pe_var hN hv hd hcd) fun σ H Q ⟨ρ, S, μ, d, S', s, e, q⟩ => by
    unfold mVar at e
    split at e
    · rename_i d' h
      cases e
      obtain ⟨v, h1, h2⟩ := s.sl i _ h
      exact ⟨v, h1, q v H μ .refl s.st h2⟩
    · cases e⟩
theorem mv (i : Nat) {x : Str} {pos : Pos} (hN : X.N[i]? = some x := by rfl) (hv : Vis X.env.scope x := by first | exact Or.inl rfl | exact Or.inr (Or.inl rfl) | exact Or.inr (Or.inr rfl)) (hd : (x == ("__debug__" : Str)) = false := by decide)
    (hcd : (x == ("__classdict__" : Str)) = false := by decide) : ME X (.Name x pos) (mVar i) := me_var hN hv hd hcd
theorem me_c {e : Expr} {v : V} {d : D} (h : PE X e (tC v)) (r : ∀ K H μ, Rp K H μ v d) : ME X e (mC d) :=
  ⟨PE.imp h fun σ H Q ⟨ρ, S, μ, d', S', s, e, q⟩ => by cases e; exact q v H μ .refl s.st (r _ _ _)⟩
theorem me_int {i j pos} : ME X (.Constant (.int i) j pos) (mC (.int i)) := me_c pe_int fun _ _ _ => .int _
theorem me_bl {b j pos} : ME X (.Constant (.bool b) j pos) (mC (.bl b)) := me_c pe_bl fun _ _ _ => .bl _
theorem me_non {j pos} : ME X (.Constant .none j pos) (mC .non) := me_c pe_non fun _ _ _ => .non
theorem me_str {x j pos} : ME X (.Constant (.str x) j pos) (mC (.str x)) := me_c pe_str fun _ _ _ => .str _
/-- a module's constant -/
theorem me_globI {x : Str} {i : Int} {t : Tok} {pos : Pos} (hg : Gl X x) (hm : X.mg x = some (.int i t)) (hd : (x == ("__debug__" : Str)) = false := by decide) : ME X (.Name x pos) (mC (.int i)) := me_c (v := .int i) (pe_glob hg hm ⟨t, rfl⟩ hd) fun _ _ _ => .int _
theorem ma_nil : MA X [] mNil := ⟨PA.imp pa_nil fun σ H Q ⟨ρ, S, μ, d, S', s, e, q⟩ => by cases e; exact q [] H μ .refl s.st .nil⟩
theorem ma_cons {e : Expr} {es : List Expr} {m : MExp} {r : MArg} (h : ME X e m) (hr : MA X es r) (hs : starEach (e :: es) X.env = (false, eval e X.env) :: starEach es X.env := by rfl) : MA X (e :: es) (mCons m r) :=
  ⟨PA.imp (pa_cons h.pe hr.pa hs) fun σ H Q ⟨ρ, S, μ, ds, S', s, e, q⟩ => by
    unfold mCons at e
    obtain ⟨⟨d, S1⟩, e1, e⟩ := Option.bind_eq_some_iff.mp e
    obtain ⟨⟨ds', S2⟩, e2, e⟩ := Option.bind_eq_some_iff.mp e
    cases e
    refine ⟨ρ, S, μ, d, S1, s, e1, fun v H1 μ1 g1 s1 r1 => ?_⟩
    refine ⟨ρ, S1, μ1, ds', _, s.grow g1 s1, e2, fun vs H2 μ2 g2 s2 r2 => ?_⟩
    exact q (v :: vs) H2 μ2 (g1.trans g2) s2 (.cons (r1.grow g2) r2)⟩
end
end MS

set_option Elab.async false
set_option linter.all false
set_option maxRecDepth 100000
set_option maxHeartbeats 4000000
namespace MS
open PySem PySem.Spec PyProof.Rows L2

/-! ### two-place operations -/
/-- f of two data, by the store -/
abbrev DOp2 := D → D → Store → Option (D × Store)
abbrev DCall := List D → Store → Option (D × Store)
def rM (K : PySem.W.Frag) (f : DOp2) : R2 := fun x y H Q => ∃ S μ dx dy d S', StR K H μ S ∧ Rp K H μ x dx ∧ Rp K H μ y dy ∧ f dx dy S = some (d, S') ∧ Aft K H μ d S' Q
def rCM (K : PySem.W.Frag) (f : DCall) : List V → Hp → VK → Prop := fun vs H Q => ∃ S μ ds d S', StR K H μ S ∧ RpA K H μ vs ds ∧ f ds S = some (d, S') ∧ Aft K H μ d S' Q
def mBin (f : DOp2) (ma mb : MExp) : MExp := fun ρ S => (ma ρ S).bind fun p => (mb ρ p.2).bind fun q => f p.1 q.1 q.2
def mCall (f : DCall) (m : MArg) : MExp := fun ρ S => (m ρ S).bind fun p => f p.1 p.2
theorem tE_bin {K : PySem.W.Frag} {f : DOp2} {ma mb : MExp} {σ : L2.St} {H : Hp} {Q : VK} (h : tE K (mBin f ma mb) σ H Q) : tOp (rM K f) (tE K ma) (tE K mb) σ H Q := by
  obtain ⟨ρ, S, μ, d, S', s, e, q⟩ := h
  unfold mBin at e
  obtain ⟨⟨d1, S1⟩, e1, e⟩ := Option.bind_eq_some_iff.mp e
  obtain ⟨⟨d2, S2⟩, e2, e⟩ := Option.bind_eq_some_iff.mp e
  refine ⟨ρ, S, μ, d1, S1, s, e1, fun v H1 μ1 g1 s1 r1 => ?_⟩
  refine ⟨ρ, S1, μ1, d2, S2, s.grow g1 s1, e2, fun u H2 μ2 g2 s2 r2 => ?_⟩
  exact ⟨S2, μ2, d1, d2, d, S', s2, r1.grow g2, r2, e, fun v H' μ' g3 => q v H' μ' ((g1.trans g2).trans g3)⟩
theorem tE_call {K : PySem.W.Frag} {f : DCall} {m : MArg} {σ : L2.St} {H : Hp} {Q : VK} (h : tE K (mCall f m) σ H Q) : tA K m σ H fun vs H1 => rCM K f vs H1 Q := by
  obtain ⟨ρ, S, μ, d, S', s, e, q⟩ := h
  unfold mCall at e
  obtain ⟨⟨ds, S1⟩, e1, e⟩ := Option.bind_eq_some_iff.mp e
  exact ⟨ρ, S, μ, ds, S1, s, e1, fun vs H1 μ1 g1 s1 r1 => ⟨S1, μ1, ds, d, S', s1, r1, e, fun v H' μ' g3 => q v H' μ' (g1.trans g3)⟩⟩
section
variable {X : Cx} {a b : Expr} {ma mb : MExp} {f : DOp2} {pos : Pos}
theorem me_op {op : Operator} (ho : OpR X (binaryOp op) (rM X.K f)) (ha : ME X a ma) (hb : ME X b mb) : ME X (.BinOp a op b pos) (mBin f ma mb) :=
  ⟨PE.imp (pe_op ho ha.pe hb.pe) fun _ _ _ h => tE_bin h⟩
theorem me_cmp {op : CmpOp} (ho : OpR X (compareOp op) (rM X.K f)) (ha : ME X a ma) (hb : ME X b mb) (hm : behindInMarks op b = false) : ME X (.Compare a [op] [b] pos) (mBin f ma mb) :=
  ⟨PE.imp (pe_cmpR ho ha.pe hb.pe hm) fun _ _ _ h => tE_bin h⟩
end
theorem OpR.imp {X : Cx} {f : Value → Value → Sem Value} {r r' : R2} (h : OpR X f r) (i : ∀ x y H Q, r' x y H Q → r x y H Q) : OpR X f r' := fun pins s σ H x y v u Q I rx ry q => h pins s σ H x y v u Q I rx ry (i _ _ _ _ q)
theorem CallR.imp {X : Cx} {f : Value} {r r' : List V → Hp → VK → Prop} (h : CallR X f r) (i : ∀ x H Q, r' x H Q → r x H Q) : CallR X f r' := fun pins s σ H xs us Q I rx q => h pins s σ H xs us Q I rx (i _ _ _ q)

/-! ### ends of readings -/
section
variable {K : PySem.W.Frag} {H : Hp} {μ : Mu} {S : Store} {Q : VK}
theorem Aft.id {v : V} {d : D} (q : Aft K H μ d S Q) (s : StR K H μ S) (r : Rp K H μ v d) : Q v H := q v H μ .refl s r
theorem Aft.tup {p : Addr} {vs : List V} {ds : List D} (q : Aft K H μ (.tup ds) S Q) (s : StR K H μ S) (r : RpA K H μ vs ds) (hp : H p = none) : Q (.ref p) (upd H p (.tup vs)) :=
  q (.ref p) _ μ (.new hp) (s.new hp) (.tup upd_same (r.grow (.new hp)))
theorem Aft.lst {p : Addr} {vs : List V} {ds : List D} (q : Aft K H μ (.lr S.length) (S ++ [.lst ds]) Q) (s : StR K H μ S) (r : RpA K H μ vs ds) (hp : H p = none) : Q (.ref p) (upd H p (.lst vs)) :=
  q (.ref p) _ (μ.add p) (.newL hp) (s.newL hp r) (.lr (by rw [← s.len]; exact Mu.new))
end

section
variable {K : PySem.W.Frag} {H : Hp} {μ : Mu} {S : Store} {Q : VK}
theorem Aft.lstV {p : Addr} {vs : List V} {ds : List D} (q : Aft K H μ (.lst ds) S Q) (s : StR K H μ S) (r : RpA K H μ vs ds) (hp : H p = none) : Q (.ref p) (upd H p (.lst vs)) :=
  q (.ref p) _ μ (.new hp) (s.new hp) (.lst ⟨upd_same, fun z => s.liv p z hp⟩ (r.grow (.new hp)))
end
/-! ### lists by handle -/
def lat (S : Store) (n : Nat) : Option (List D) := match S[n]? with
  | some (.lst ds) => some ds
  | _ => none
theorem StR.lat {K : PySem.W.Frag} {H : Hp} {μ : Mu} {S : Store} {n : Nat} {ds : List D} {v : V} (s : StR K H μ S) (e : lat S n = some ds) (r : Rp K H μ v (.lr n)) : ∃ a vs, v = .ref a ∧ SqL K H a vs ∧ RpA K H μ vs ds := by
  cases r with
  | lr h1 =>
    unfold MS.lat at e
    split at e
    · rename_i es h2
      cases e
      obtain ⟨a, q1, q2⟩ := s.get h2
      rw [h1] at q1; cases q1
      obtain ⟨vs, h3, h4⟩ := q2
      exact ⟨_, vs, rfl, .inl (.inl h3), h4⟩
    · cases e
theorem StR.lst {K : PySem.W.Frag} {H : Hp} {μ : Mu} {S : Store} {n : Nat} {ds : List D} {v : V} (s : StR K H μ S) (e : S[n]? = some (.lst ds)) (r : Rp K H μ v (.lr n)) : ∃ a vs, v = .ref a ∧ μ.h[n]? = some a ∧ H a = some (.lst vs) ∧ RpA K H μ vs ds := by
  cases r with
  | lr h1 =>
    obtain ⟨a, q1, q2⟩ := s.get e
    rw [h1] at q1; cases q1
    obtain ⟨vs, h3, h4⟩ := q2
    exact ⟨_, vs, rfl, h1, h3, h4⟩
/-- the items of a list -/
def latD (S : Store) : D → Option (List D)
  | .lr n => lat S n
  | .lst ds => some ds
  | .fl ds => some ds
  | _ => none
theorem StR.latD {K : PySem.W.Frag} {H : Hp} {μ : Mu} {S : Store} {d : D} {ds : List D} {v : V} (s : StR K H μ S) (e : MS.latD S d = some ds) (r : Rp K H μ v d) : ∃ a vs, v = .ref a ∧ SqL K H a vs ∧ RpA K H μ vs ds := by
  cases d with
  | lr n => exact s.lat e r
  | lst es =>
    cases e
    cases r with
    | lst h1 h2 => exact ⟨_, _, rfl, h1.sqL, h2⟩
  | fl es =>
    cases e
    cases r with
    | fl h1 h2 => exact ⟨_, _, rfl, h1.sqL, h2⟩
  | _ => cases e
/-- a list that may change -/
def mat (S : Store) (n : Nat) : Option (List D) := match S[n]? with
  | some (.lst ds) => some ds
  | _ => none
theorem mat_eq {S : Store} {n : Nat} {ds : List D} (h : mat S n = some ds) : S[n]? = some (.lst ds) := by
  unfold mat at h
  split at h
  · rename_i e; cases h; exact e
  · cases h
theorem StR.mat {K : PySem.W.Frag} {H : Hp} {μ : Mu} {S : Store} {n : Nat} {ds : List D} {v : V} (s : StR K H μ S) (e : mat S n = some ds) (r : Rp K H μ v (.lr n)) : ∃ a vs, v = .ref a ∧ μ.h[n]? = some a ∧ H a = some (.lst vs) ∧ RpA K H μ vs ds := s.lst (mat_eq e) r
/-- the items of a list or a tuple -/
def items (S : Store) : D → Option (List D)
  | .tup ds => some ds
  | .lr n => lat S n
  | .lst ds => some ds
  | .fl ds => some ds
  | _ => none
theorem StR.items {K : PySem.W.Frag} {H : Hp} {μ : Mu} {S : Store} {d : D} {ds : List D} {v : V} (s : StR K H μ S) (e : items S d = some ds) (r : Rp K H μ v d) : ∃ a vs, v = .ref a ∧ (SqL K H a vs ∨ SqT K H a vs) ∧ RpA K H μ vs ds := by
  cases d with
  | tup es =>
    cases e
    cases r with
    | tup h1 h2 => exact ⟨_, _, rfl, .inr (sq _ _ h1), h2⟩
  | lr n => obtain ⟨a, vs, h1, h2, h3⟩ := s.lat e r; exact ⟨a, vs, h1, .inl h2, h3⟩
  | lst es =>
    cases e
    cases r with
    | lst h1 h2 => exact ⟨_, _, rfl, .inl h1.sqL, h2⟩
  | fl es =>
    cases e
    cases r with
    | fl h1 h2 => exact ⟨_, _, rfl, .inl h1.sqL, h2⟩
  | _ => cases e

theorem StR.itemsO {K : PySem.W.Frag} {H : Hp} {μ : Mu} {S : Store} {d : D} {ds : List D} {v : V} (s : StR K H μ S) (e : MS.items S d = some ds) (r : Rp K H μ v d) : ∃ a vs, v = .ref a ∧ (SqL K H a vs ∨ (OwnT K H a vs ∧ d = .tup ds)) ∧ RpA K H μ vs ds := by
  cases d with
  | tup es =>
    cases e
    cases r with
    | tup h1 h2 => exact ⟨_, _, rfl, .inr ⟨h1, rfl⟩, h2⟩
  | lr n => obtain ⟨a, vs, h1, h2, h3⟩ := s.lat e r; exact ⟨a, vs, h1, .inl h2, h3⟩
  | lst es =>
    cases e
    cases r with
    | lst h1 h2 => exact ⟨_, _, rfl, .inl h1.sqL, h2⟩
  | fl es =>
    cases e
    cases r with
    | fl h1 h2 => exact ⟨_, _, rfl, .inl h1.sqL, h2⟩
  | _ => cases e

/-! ### arithmetic -/
def szl : Nat := 16777216
theorem szl_le {n : Nat} (h : n ≤ szl) : n ≤ sizeLine := by rw [sizeLine_eq]; exact h
theorem szl_lt {n : Nat} (h : n < szl) : n < sizeLine := by rw [sizeLine_eq]; exact h
def fAdd : DOp2
  | .int i, .int j, S => some (.int (i + j), S)
  | .tup a, .tup b, S => if a.length + b.length ≤ szl then some (.tup (a ++ b), S) else none
  | .lr n, .lr m, S => (mat S n).bind fun a => (mat S m).bind fun b => if a.length + b.length ≤ szl then some (.lr S.length, S ++ [.lst (a ++ b)]) else none
  | .lst a, .lst b, S => if a.length + b.length ≤ szl then some (.lst (a ++ b), S) else none
  | _, _, _ => none
def fI (g : Int → Int → Int) : DOp2
  | .int i, .int j, S => some (.int (g i j), S)
  | _, _, _ => none
def fIc (c : Int → Int → Bool) (g : Int → Int → Int) : DOp2
  | .int i, .int j, S => if c i j then some (.int (g i j), S) else none
  | _, _, _ => none
def fCmp (g : Int → Int → Bool) : DOp2
  | .int i, .int j, S => some (.bl (g i j), S)
  | _, _, _ => none
def i64 (i : Int) : Bool := decide (-(2 ^ 64) < i) && decide (i < 2 ^ 64)
def fSub := fI fun i j => i - j
def fMulI := fIc (fun i j => i64 i || i64 j) fun i j => i * j
def fMod := fIc (fun _ j => decide (0 < j)) fun i j => i % j
def fDiv := fIc (fun _ j => decide (0 < j) && decide (j < 1073741824)) fun i j => i / j
def fPow := fIc (fun i j => decide (0 ≤ j) && decide (j ≤ 1000) && i64 i) fun i j => i ^ j.toNat
def fLt := fCmp fun i j => decide (i < j)
def fLe := fCmp fun i j => decide (i ≤ j)
def fGt := fCmp fun i j => decide (j < i)
def fGe := fCmp fun i j => decide (j ≤ i)
/-- a list or tuple times a number -/
def repD (ds : List D) (k : Int) : List D := (List.replicate k.toNat ds).flatten
def fMul : DOp2
  | .int i, .int j, S => if i64 i || i64 j then some (.int (i * j), S) else none
  | .lr n, .int k, S => (mat S n).bind fun a => if -(2 ^ 63) ≤ k ∧ k < 2 ^ 63 ∧ a.length * k.toNat ≤ szl then some (.lr S.length, S ++ [.lst (repD a k)]) else none
  | .lst a, .int k, S => if -(2 ^ 63) ≤ k ∧ k < 2 ^ 63 ∧ a.length * k.toNat ≤ szl then some (.lst (repD a k), S) else none
  | _, _, _ => none
section
variable {X : Cx}
theorem op_fI {op : Value → Value → Sem Value} {g : Int → Int → Int} (h : OpR X op (rI0 fun i j => .int (g i j))) : OpR X op (rM X.K (fI g)) :=
  OpR.imp h fun x y H Q ⟨S, μ, dx, dy, d, S', s, rx, ry, e, q⟩ => by
    unfold fI at e
    split at e
    · cases e; cases rx; cases ry
      exact ⟨_, _, rfl, rfl, q.id s (.int _)⟩
    · cases e
theorem op_fIc {op : Value → Value → Sem Value} {c : Int → Int → Bool} {C : Int → Int → Prop} {g : Int → Int → Int} (h : OpR X op (rI C fun i j => .int (g i j))) (hc : ∀ i j, c i j = true → C i j) : OpR X op (rM X.K (fIc c g)) :=
  OpR.imp h fun x y H Q ⟨S, μ, dx, dy, d, S', s, rx, ry, e, q⟩ => by
    unfold fIc at e
    split at e
    · cases rx; cases ry
      split at e
      · rename_i h; cases e; exact ⟨_, _, rfl, rfl, hc _ _ h, q.id s (.int _)⟩
      · cases e
    · cases e
theorem op_fCmp {op : Value → Value → Sem Value} {g : Int → Int → Bool} (h : OpR X op (rI0 fun i j => .bl (g i j))) : OpR X op (rM X.K (fCmp g)) :=
  OpR.imp h fun x y H Q ⟨S, μ, dx, dy, d, S', s, rx, ry, e, q⟩ => by
    unfold fCmp at e
    split at e
    · cases e; cases rx; cases ry
      exact ⟨_, _, rfl, rfl, q.id s (.bl _)⟩
    · cases e
theorem i64_iff {i : Int} (h : i64 i = true) : -(2 ^ 64) < i ∧ i < 2 ^ 64 := by
  unfold i64 at h
  rw [Bool.and_eq_true, decide_eq_true_eq, decide_eq_true_eq] at h
  exact h
theorem cmul_of {i j : Int} (h : (i64 i || i64 j) = true) : CMul i j := by
  rw [Bool.or_eq_true] at h
  rcases h with h | h
  · exact .inl (i64_iff h)
  · exact .inr (i64_iff h)
theorem o_sub : OpR X (binaryOp .Sub) (rM X.K fSub) := op_fI op_sub
theorem o_mod : OpR X (binaryOp .Mod) (rM X.K fMod) := op_fIc op_mod fun _ _ h => of_decide_eq_true h
theorem o_div : OpR X (binaryOp .FloorDiv) (rM X.K fDiv) := op_fIc op_fdiv fun _ _ h => by
  rw [Bool.and_eq_true, decide_eq_true_eq, decide_eq_true_eq] at h; exact h
theorem o_pow : OpR X (binaryOp .Pow) (rM X.K fPow) := op_fIc op_pow fun i j h => by
  rw [Bool.and_eq_true, Bool.and_eq_true, decide_eq_true_eq, decide_eq_true_eq] at h
  have h2 := i64_iff h.2
  exact ⟨h.1.1, by omega, by omega⟩
theorem o_lt : OpR X (compareOp .Lt) (rM X.K fLt) := op_fCmp op_lt
theorem o_le : OpR X (compareOp .LtE) (rM X.K fLe) := op_fCmp op_le
theorem o_gt : OpR X (compareOp .Gt) (rM X.K fGt) := op_fCmp op_gt
theorem o_ge : OpR X (compareOp .GtE) (rM X.K fGe) := op_fCmp op_ge
theorem RpA.nil_of {K : PySem.W.Frag} {H : Hp} {μ : Mu} {vs : List V} {ds : List D} (r : RpA K H μ vs ds) : vs = [] ↔ ds = [] := by
  cases r <;> simp
theorem o_add : OpR X (binaryOp .Add) (rM X.K fAdd) := by
  intro pins s σ H x y v u Q I rx ry ⟨S, μ, dx, dy, d, S', st, px, py, e, q⟩
  unfold fAdd at e
  split at e
  · cases e; cases px; cases py
    exact op_add pins s σ H _ _ v u Q I rx ry ⟨_, _, rfl, rfl, q.id st (.int _)⟩
  · split at e
    · rename_i hz
      cases e
      cases px with
      | tup h1 h2 =>
      cases py with
      | tup h3 h4 =>
      refine op_catA pins s σ H _ _ v u Q I rx ry ⟨_, _, _, _, rfl, rfl, sq _ _ h1, sq _ _ h3, ?_, fun z => ?_, fun z1 z2 => ?_, fun _ _ p hp => q.tup st (h2.append h4) hp⟩
      · rw [h2.length, h4.length]; exact szl_le hz
      · have := h2.nil_of.mp z
        subst this
        exact q.id st (.tup h3 h4)
      · have := h4.nil_of.mp z2
        subst this
        exact q.id st (by rw [List.append_nil]; exact .tup h1 h2)
    · cases e
  · obtain ⟨a, e1, e⟩ := Option.bind_eq_some_iff.mp e
    obtain ⟨b, e2, e⟩ := Option.bind_eq_some_iff.mp e
    split at e
    · rename_i hz
      cases e
      obtain ⟨p1, vs, rfl, _, h1, h2⟩ := st.mat e1 px
      obtain ⟨p2, ws, rfl, _, h3, h4⟩ := st.mat e2 py
      refine op_cat pins s σ H _ _ v u Q I rx ry ⟨_, _, _, _, rfl, rfl, h1, h3, ?_, fun p hp => q.lst st (h2.append h4) hp⟩
      rw [h2.length, h4.length]; exact szl_le hz
    · cases e
  · split at e
    · rename_i hz
      cases e
      cases px with
      | lst h1 h2 =>
      cases py with
      | lst h3 h4 =>
      refine op_cat pins s σ H _ _ v u Q I rx ry ⟨_, _, _, _, rfl, rfl, h1.1, h3.1, ?_, fun p hp => q.lstV st (h2.append h4) hp⟩
      rw [h2.length, h4.length]; exact szl_le hz
    · cases e
  · cases e
theorem RpA.rep {K : PySem.W.Frag} {H : Hp} {μ : Mu} {vs : List V} {ds : List D} (r : RpA K H μ vs ds) : ∀ k : Nat, RpA K H μ (List.replicate k vs).flatten (List.replicate k ds).flatten
  | 0 => .nil
  | k + 1 => by
    rw [List.replicate_succ, List.replicate_succ, List.flatten_cons, List.flatten_cons]
    exact r.append (RpA.rep r k)
theorem o_mul : OpR X (binaryOp .Mult) (rM X.K fMul) := by
  intro pins s σ H x y v u Q I rx ry ⟨S, μ, dx, dy, d, S', st, px, py, e, q⟩
  unfold fMul at e
  split at e
  · split at e
    · rename_i h
      cases e; cases px; cases py
      exact op_mul pins s σ H _ _ v u Q I rx ry ⟨_, _, rfl, rfl, cmul_of h, q.id st (.int _)⟩
    · cases e
  · obtain ⟨a, e1, e⟩ := Option.bind_eq_some_iff.mp e
    split at e
    · rename_i h
      cases e
      obtain ⟨p1, vs, rfl, _, h1, h2⟩ := st.mat e1 px
      cases py
      refine op_rep pins s σ H _ _ v u Q I rx ry ⟨_, _, _, rfl, rfl, h1, h.1, h.2.1, ?_, fun p hp => q.lst st (h2.rep _) hp⟩
      rw [h2.length]; exact szl_le h.2.2
    · cases e
  · split at e
    · rename_i h
      cases e
      cases px with
      | lst h1 h2 =>
      cases py
      refine op_rep pins s σ H _ _ v u Q I rx ry ⟨_, _, _, rfl, rfl, h1.1, h.1, h.2.1, ?_, fun p hp => q.lstV st (h2.rep _) hp⟩
      rw [h2.length]; exact szl_le h.2.2
    · cases e
  · cases e
end

/-! ### plain data of a datum; == -/
def toPy (S : Store) : Nat → D → Option PyData
  | 0, _ => none
  | _ + 1, .non => some .none
  | _ + 1, .bl b => some (.bool b)
  | _ + 1, .int i => some (.int i)
  | _ + 1, .str x => some (.str x)
  | n + 1, .tup ds => (ds.mapM (toPy S n)).map .tuple
  | n + 1, .lr k => (lat S k).bind fun ds => (ds.mapM (toPy S n)).map .list
  | n + 1, .lst ds => (ds.mapM (toPy S n)).map .list
  | n + 1, .fl ds => (ds.mapM (toPy S n)).map .list
  | _ + 1, _ => none
section
variable {K : PySem.W.Frag} {H : Hp} {μ : Mu} {S : Store}
theorem dpAll_of {n : Nat} (ih : ∀ (d : D) (v : V) (p : PyData), toPy S n d = some p → Rp K H μ v d → Dp K H v p) : ∀ (ds : List D) (vs : List V) (ps : List PyData), ds.mapM (toPy S n) = some ps → RpA K H μ vs ds → DpAll K H vs ps
  | [], _, _, e, r => by
    cases r
    rw [List.mapM_nil] at e
    cases e
    exact .nil
  | d :: ds, _, _, e, r => by
    cases r with
    | cons r1 r2 =>
      rw [List.mapM_cons] at e
      obtain ⟨p, e1, e⟩ := Option.bind_eq_some_iff.mp e
      obtain ⟨ps, e2, e⟩ := Option.bind_eq_some_iff.mp e
      cases e
      exact .cons (ih _ _ _ e1 r1) (dpAll_of ih ds _ _ e2 r2)
theorem dp_of (s : StR K H μ S) : ∀ (n : Nat) (d : D) (v : V) (p : PyData), toPy S n d = some p → Rp K H μ v d → Dp K H v p := by
  intro n
  induction n with
  | zero => intro d v p e; cases e
  | succ n ih =>
    intro d v p e r
    cases d with
    | non => cases e; cases r; exact .non
    | bl b => cases e; cases r; exact .bl _
    | int b => cases e; cases r; exact .int _
    | str b => cases e; cases r; exact .str _
    | tup ds =>
      obtain ⟨ps, e1, e2⟩ := Option.map_eq_some_iff.mp (show (ds.mapM (toPy S n)).map PyData.tuple = some p from e)
      subst e2
      cases r with
      | tup h1 h2 => exact .tup (sq _ _ h1) (dpAll_of ih _ _ _ e1 h2)
    | lr k =>
      obtain ⟨ds, e0, e⟩ := Option.bind_eq_some_iff.mp (show ((lat S k).bind fun ds => (ds.mapM (toPy S n)).map PyData.list) = some p from e)
      obtain ⟨ps, e1, e2⟩ := Option.map_eq_some_iff.mp e
      subst e2
      obtain ⟨a, vs, rfl, h1, h2⟩ := s.lat e0 r
      exact .lst h1 (dpAll_of ih _ _ _ e1 h2)
    | lst ds =>
      obtain ⟨ps, e1, e2⟩ := Option.map_eq_some_iff.mp (show (ds.mapM (toPy S n)).map PyData.list = some p from e)
      subst e2
      cases r with
      | lst h1 h2 => exact .lst h1.sqL (dpAll_of ih _ _ _ e1 h2)
    | fl ds =>
      obtain ⟨ps, e1, e2⟩ := Option.map_eq_some_iff.mp (show (ds.mapM (toPy S n)).map PyData.list = some p from e)
      subst e2
      cases r with
      | fl h1 h2 => exact .lst h1.sqL (dpAll_of ih _ _ _ e1 h2)
    | _ => cases e
end
theorem dec_int (i j : Int) : decide (V.int i = V.int j) = decide (i = j) := by simp only [V.int.injEq]
theorem dec_str (i j : Str) : decide (V.str i = V.str j) = decide (i = j) := by simp only [V.str.injEq]
def fEqG (g : Bool → Bool) : DOp2 := fun x y S => (toPy S 64 x).bind fun p => (toPy S 64 y).bind fun q => if SeqAt.shaped p && SeqAt.shaped q then some (.bl (g (PyData.eqv p q)), S) else none
def fEq : DOp2 := fun x y S => match x, y with
  | .int i, .int j => some (.bl (decide (i = j)), S)
  | .str i, .str j => some (.bl (decide (i = j)), S)
  | x, y => fEqG id x y S
def fNe : DOp2 := fun x y S => match x, y with
  | .int i, .int j => some (.bl (!decide (i = j)), S)
  | .str i, .str j => some (.bl (!decide (i = j)), S)
  | x, y => fEqG not x y S
section
variable {X : Cx}
theorem o_eqG (hu : X.A.units + 64 < cLine) : OpR X (compareOp .Eq) (rM X.K (fEqG id)) :=
  OpR.imp (op_eqD hu) fun x y H Q ⟨S, μ, dx, dy, d, S', s, rx, ry, e, q⟩ => by
    unfold fEqG at e
    obtain ⟨p, e1, e⟩ := Option.bind_eq_some_iff.mp e
    obtain ⟨p', e2, e⟩ := Option.bind_eq_some_iff.mp e
    split at e
    · rename_i h
      rw [Bool.and_eq_true] at h
      cases e
      exact ⟨p, p', dp_of s _ _ _ _ e1 rx, dp_of s _ _ _ _ e2 ry, h.1, h.2, q.id s (.bl _)⟩
    · cases e
theorem o_neG (hu : X.A.units + 64 < cLine) : OpR X (compareOp .NotEq) (rM X.K (fEqG not)) :=
  OpR.imp (op_neD hu) fun x y H Q ⟨S, μ, dx, dy, d, S', s, rx, ry, e, q⟩ => by
    unfold fEqG at e
    obtain ⟨p, e1, e⟩ := Option.bind_eq_some_iff.mp e
    obtain ⟨p', e2, e⟩ := Option.bind_eq_some_iff.mp e
    split at e
    · rename_i h
      rw [Bool.and_eq_true] at h
      cases e
      exact ⟨p, p', dp_of s _ _ _ _ e1 rx, dp_of s _ _ _ _ e2 ry, h.1, h.2, q.id s (.bl _)⟩
    · cases e
theorem o_eq (hu : X.A.units + 64 < cLine) : OpR X (compareOp .Eq) (rM X.K fEq) := by
  intro pins s σ H x y v u Q I rx ry ⟨S, μ, dx, dy, d, S', st, px, py, e, q⟩
  unfold fEq at e
  split at e
  · cases e; cases px; cases py
    exact op_eq pins s σ H _ _ v u Q I rx ry ⟨rfl, by rw [dec_int]; exact q.id st (.bl _)⟩
  · cases e; cases px; cases py
    exact op_eq pins s σ H _ _ v u Q I rx ry ⟨rfl, by rw [dec_str]; exact q.id st (.bl _)⟩
  · exact o_eqG hu pins s σ H x y v u Q I rx ry ⟨S, μ, _, _, d, S', st, px, py, e, q⟩
theorem o_ne (hu : X.A.units + 64 < cLine) : OpR X (compareOp .NotEq) (rM X.K fNe) := by
  intro pins s σ H x y v u Q I rx ry ⟨S, μ, dx, dy, d, S', st, px, py, e, q⟩
  unfold fNe at e
  split at e
  · cases e; cases px; cases py
    exact op_ne pins s σ H _ _ v u Q I rx ry ⟨rfl, by rw [dec_int]; exact q.id st (.bl _)⟩
  · cases e; cases px; cases py
    exact op_ne pins s σ H _ _ v u Q I rx ry ⟨rfl, by rw [dec_str]; exact q.id st (.bl _)⟩
  · exact o_neG hu pins s σ H x y v u Q I rx ry ⟨S, μ, _, _, d, S', st, px, py, e, q⟩
end

/-! ### in, not in: flat items -/
def flatD : D → Bool
  | .non => true
  | .bl _ => true
  | .int _ => true
  | .str _ => true
  | _ => false
def toV : D → V
  | .bl b => .bl b
  | .int i => .int i
  | .str x => .str x
  | _ => .non
theorem Rp.flat {K : PySem.W.Frag} {H : Hp} {μ : Mu} {v : V} {d : D} (r : Rp K H μ v d) (f : flatD d = true) : v = toV d ∧ flatV v = true := by
  cases d with
  | non => cases r; exact ⟨rfl, rfl⟩
  | bl b => cases r; exact ⟨rfl, rfl⟩
  | int b => cases r; exact ⟨rfl, rfl⟩
  | str b => cases r; exact ⟨rfl, rfl⟩
  | _ => cases f
theorem RpA.flat {K : PySem.W.Frag} {H : Hp} {μ : Mu} : ∀ {ds : List D} {vs : List V}, RpA K H μ vs ds → ds.all flatD = true → vs = ds.map toV ∧ vs.all flatV = true
  | [], _, r, _ => by cases r; exact ⟨rfl, rfl⟩
  | d :: ds, _, r, f => by
    cases r with
    | cons r1 r2 =>
      rw [List.all_cons, Bool.and_eq_true] at f
      obtain ⟨h1, h2⟩ := r1.flat f.1
      obtain ⟨h3, h4⟩ := RpA.flat r2 f.2
      exact ⟨by rw [h1, h3]; rfl, by rw [List.all_cons, h2, h4]; rfl⟩
def inD (x : D) (ds : List D) : Bool := inV (toV x) (ds.map toV)
def fIn (neg : Bool) : DOp2 := fun x y S => (items S y).bind fun ds => if flatD x && ds.all flatD then some (.bl (if neg then !inD x ds else inD x ds), S) else none
section
variable {X : Cx}
theorem fIn_r {neg : Bool} {x y : V} {H : Hp} {Q : VK} (h : rM X.K (fIn neg) x y H Q) : rIn X.K neg x y H Q := by
  obtain ⟨S, μ, dx, dy, d, S', s, rx, ry, e, q⟩ := h
  unfold fIn at e
  obtain ⟨ds, e1, e⟩ := Option.bind_eq_some_iff.mp e
  split at e
  · rename_i h
    rw [Bool.and_eq_true] at h
    cases e
    obtain ⟨a, vs, rfl, h1, h2⟩ := s.items e1 ry
    obtain ⟨h3, h4⟩ := rx.flat h.1
    obtain ⟨h5, h6⟩ := h2.flat h.2
    refine ⟨a, vs, rfl, h1, h4, h6, ?_⟩
    have := q.id s (.bl _)
    unfold inD at this
    rw [h3, h5]
    exact this
  · cases e
theorem o_in : OpR X (compareOp .In) (rM X.K (fIn false)) := OpR.imp op_in_seq fun _ _ _ _ h => fIn_r h
theorem o_notIn : OpR X (compareOp .NotIn) (rM X.K (fIn true)) := OpR.imp op_notIn_seq fun _ _ _ _ h => fIn_r h
theorem o_is : OpR X (compareOp .Is) (rM X.K fun x y S => match y with | .non => some (.bl (match x with | .non => true | _ => false), S) | _ => none) := by
  refine OpR.imp op_isN fun x y H Q ⟨S, μ, dx, dy, d, S', s, rx, ry, e, q⟩ => ?_
  cases dy with
  | non =>
    cases e; cases ry
    refine ⟨rfl, ?_⟩
    have := q.id s (.bl _)
    cases rx <;> exact this
  | _ => cases e
theorem o_isNot : OpR X (compareOp .IsNot) (rM X.K fun x y S => match y with | .non => some (.bl (match x with | .non => false | _ => true), S) | _ => none) := by
  refine OpR.imp op_notN fun x y H Q ⟨S, μ, dx, dy, d, S', s, rx, ry, e, q⟩ => ?_
  cases dy with
  | non =>
    cases e; cases ry
    refine ⟨rfl, ?_⟩
    have := q.id s (.bl _)
    cases rx <;> exact this
  | _ => cases e

/-! ### subscripts, slices -/
def fIx : DOp2
  | .lr n, .int i, S => (lat S n).bind fun ds => (atI ds i).map fun d => (d, S)
  | .tup ds, .int i, S => (atI ds i).map fun d => (d, S)
  | .lst ds, .int i, S => (atI ds i).map fun d => (d, S)
  | .fl ds, .int i, S => (atI ds i).map fun d => (d, S)
  | _, _, _ => none
theorem RpA.atI {K : PySem.W.Frag} {H : Hp} {μ : Mu} {vs : List V} {ds : List D} {i : Int} {d : D} (r : RpA K H μ vs ds) (e : L2.atI ds i = some d) : ∃ v, L2.atI vs i = some v ∧ Rp K H μ v d := by
  unfold L2.atI at e ⊢
  rw [r.length]
  cases h : ixN ds.length i with
  | none => rw [h] at e; cases e
  | some j => rw [h] at e; exact r.get e
theorem me_ix {a b : Expr} {ma mb : MExp} {pos : Pos} (ha : ME X a ma) (hb : ME X b mb) (hs : PlainIx b) : ME X (.Subscript a b pos) (mBin fIx ma mb) := by
  refine ⟨PE.imp (pe_ix (r := rM X.K fIx) ?_ ha.pe hb.pe hs) fun _ _ _ h => tE_bin h⟩
  intro value slice pins s σ H x y v u Q I rx ry ⟨S, μ, dx, dy, d, S', st, px, py, e, q⟩ hs
  refine ix_seq value slice pins s σ H x y v u Q I rx ry ?_ hs
  unfold fIx at e
  split at e
  · obtain ⟨ds, e1, e⟩ := Option.bind_eq_some_iff.mp e
    obtain ⟨d', e2, e⟩ := Option.map_eq_some_iff.mp e
    cases e; cases py
    obtain ⟨p, vs, rfl, h1, h2⟩ := st.lat e1 px
    obtain ⟨w, h3, h4⟩ := h2.atI e2
    exact .inl ⟨p, vs, _, w, rfl, rfl, h1, h3, q.id st h4⟩
  · obtain ⟨d', e2, e⟩ := Option.map_eq_some_iff.mp e
    cases e; cases py
    cases px with
    | tup h1 h2 =>
    obtain ⟨w, h3, h4⟩ := h2.atI e2
    exact .inr (.inl ⟨_, _, _, w, rfl, rfl, sq _ _ h1, h3, q.id st h4⟩)
  · obtain ⟨d', e2, e⟩ := Option.map_eq_some_iff.mp e
    cases e; cases py
    cases px with
    | lst h1 h2 =>
    obtain ⟨w, h3, h4⟩ := h2.atI e2
    exact .inl ⟨_, _, _, w, rfl, rfl, h1.sqL, h3, q.id st h4⟩
  · obtain ⟨d', e2, e⟩ := Option.map_eq_some_iff.mp e
    cases e; cases py
    cases px with
    | fl h1 h2 =>
    obtain ⟨w, h3, h4⟩ := h2.atI e2
    exact .inl ⟨_, _, _, w, rfl, rfl, h1.sqL, h3, q.id st h4⟩
  · cases e
/-- a slice's part -/
abbrev MPart := Ev → Store → Option (Option Int × Store)
def tP (K : PySem.W.Frag) (m : MPart) : TO := fun σ H Q => ∃ ρ S μ o S', Sim K H μ σ ρ S ∧ m ρ S = some (o, S') ∧ ∀ H' μ', Grow H H' μ μ' → StR K H' μ' S' → Q o H'
structure MP (X : Cx) (e : Option Expr) (m : MPart) : Prop where
  po : PO X e (tP X.K m)
def mNoPart : MPart := fun _ S => some (none, S)
def mPart (m : MExp) : MPart := fun ρ S => (m ρ S).bind fun p => match p.1 with
  | .int i => some (some i, p.2)
  | _ => none
theorem mp_none : MP X none mNoPart := ⟨⟨fun pins s σ H Q I ⟨ρ, S, μ, o, S', st, e, q⟩ => po_none.run pins s σ H Q I (by cases e; exact q H μ .refl st.st)⟩⟩
theorem mp_some {e : Expr} {m : MExp} (h : ME X e m) : MP X (some e) (mPart m) := ⟨⟨fun pins s σ H Q I ⟨ρ, S, μ, o, S', st, e, q⟩ => (po_some h.pe).run pins s σ H Q I (by
  unfold mPart at e
  obtain ⟨⟨d, S1⟩, e1, e⟩ := Option.bind_eq_some_iff.mp e
  refine ⟨ρ, S, μ, d, S1, st, e1, fun v H1 μ1 g1 s1 r1 => ?_⟩
  cases d with
  | int i => cases e; cases r1; exact ⟨i, rfl, q H1 μ1 g1 s1⟩
  | _ => cases e)⟩⟩
def cutD (xs : List D) (lo hi : Option Int) : List D := (xs.drop (HT.sIx xs.length 0 lo)).take (HT.sIx xs.length xs.length hi - HT.sIx xs.length 0 lo)
theorem RpA.cut {K : PySem.W.Frag} {H : Hp} {μ : Mu} {vs : List V} {ds : List D} (r : RpA K H μ vs ds) (lo hi : Option Int) : RpA K H μ (cutV vs lo hi) (cutD ds lo hi) := by
  unfold cutV cutD
  rw [r.length]
  exact (r.drop _).take _
def fSl (x : D) (lo hi : Option Int) (S : Store) : Option (D × Store) := match x with
  | .lr n => (lat S n).bind fun ds => some (.lr S.length, S ++ [.lst (cutD ds lo hi)])
  | .tup ds => some (.tup (cutD ds lo hi), S)
  | .lst ds => some (.lst (cutD ds lo hi), S)
  | .fl ds => some (.lst (cutD ds lo hi), S)
  | _ => none
def mSl (m : MExp) (lo hi : MPart) : MExp := fun ρ S => (m ρ S).bind fun p => (lo ρ p.2).bind fun q => (hi ρ q.2).bind fun r => fSl p.1 q.1 r.1 r.2
theorem cutD_whole {ds : List D} {lo hi : Option Int} (h : HT.sIx ds.length 0 lo = 0 ∧ HT.sIx ds.length ds.length hi = ds.length) : cutD ds lo hi = ds := by
  unfold cutD
  rw [h.1, h.2]
  simp
theorem me_slice {e : Expr} {m : MExp} {lo hi : Option Expr} {ml mh : MPart} {pos p2 : Pos} (h : ME X e m) (hl : MP X lo ml) (hh : MP X hi mh) : ME X (.Subscript e (.Slice lo hi none p2) pos) (mSl m ml mh) := by
  refine ⟨PE.imp (pe_slice (sl_list.or sl_tupA) h.pe hl.po hh.po) fun σ H Q ⟨ρ, S, μ, d, S', st, e, q⟩ => ?_⟩
  unfold mSl at e
  obtain ⟨⟨d1, S1⟩, e1, e⟩ := Option.bind_eq_some_iff.mp e
  obtain ⟨⟨o1, S2⟩, e2, e⟩ := Option.bind_eq_some_iff.mp e
  obtain ⟨⟨o2, S3⟩, e3, e⟩ := Option.bind_eq_some_iff.mp e
  refine ⟨ρ, S, μ, d1, S1, st, e1, fun v H1 μ1 g1 s1 r1 => ?_⟩
  refine ⟨ρ, S1, μ1, o1, S2, st.grow g1 s1, e2, fun H2 μ2 g2 s2 => ?_⟩
  refine ⟨ρ, S2, μ2, o2, S3, st.grow (g1.trans g2) s2, e3, fun H3 μ3 g3 s3 => ?_⟩
  have r3 := r1.grow (g2.trans g3)
  have q3 : Aft X.K H3 μ3 d S' Q := fun v H' μ' g4 => q v H' μ' (((g1.trans g2).trans g3).trans g4)
  cases d1 with
  | lr n =>
    obtain ⟨ds, e4, e⟩ := Option.bind_eq_some_iff.mp (show ((lat S3 n).bind fun ds => some (D.lr S3.length, S3 ++ [.lst (cutD ds o1 o2)])) = some (d, S') from e)
    cases e
    obtain ⟨a, vs, rfl, h1, h2⟩ := s3.lat e4 r3
    exact .inl ⟨a, vs, rfl, h1, fun p hp => q3.lst s3 (h2.cut _ _) hp⟩
  | tup ds =>
    cases (show some (D.tup (cutD ds o1 o2), S3) = some (d, S') from e)
    cases r3 with
    | tup h1 h2 =>
    refine .inr ⟨_, _, rfl, sq _ _ h1, fun hw => ?_, fun hw p hp => q3.tup s3 (h2.cut _ _) hp⟩
    rw [h2.length] at hw
    exact q3.id s3 (by rw [cutD_whole hw]; exact .tup h1 h2)
  | lst ds =>
    cases (show some (D.lst (cutD ds o1 o2), S3) = some (d, S') from e)
    cases r3 with
    | lst h1 h2 => exact .inl ⟨_, _, rfl, h1.sqL, fun p hp => q3.lstV s3 (h2.cut _ _) hp⟩
  | fl ds =>
    cases (show some (D.lst (cutD ds o1 o2), S3) = some (d, S') from e)
    cases r3 with
    | fl h1 h2 => exact .inl ⟨_, _, rfl, h1.sqL, fun p hp => q3.lstV s3 (h2.cut _ _) hp⟩
  | _ => cases e
end
end MS

set_option Elab.async false
set_option linter.all false
set_option maxRecDepth 100000
set_option maxHeartbeats 4000000
namespace MS
open PySem PySem.Spec PyProof.Rows L2

/-! ### displays -/
def mTup (m : MArg) : MExp := fun ρ S => (m ρ S).bind fun p => if p.1.length ≤ szl then some (.tup p.1, p.2) else none
def mLst (m : MArg) : MExp := fun ρ S => (m ρ S).bind fun p => if p.1.length ≤ szl then some (.lr p.2.length, p.2 ++ [.lst p.1]) else none
section
variable {X : Cx} {es : List Expr} {m : MArg} {pos : Pos}
theorem me_tup {x1} (h : MA X es m) : ME X (.Tuple es x1 pos) (mTup m) :=
  ⟨PE.imp (pe_tup h.pa) fun σ H Q ⟨ρ, S, μ, d, S', st, e, q⟩ => by
    unfold mTup at e
    obtain ⟨⟨ds, S1⟩, e1, e⟩ := Option.bind_eq_some_iff.mp e
    split at e
    · rename_i hz
      cases e
      exact ⟨ρ, S, μ, ds, _, st, e1, fun vs H1 μ1 g1 s1 r1 => ⟨by rw [r1.length]; exact szl_le hz, fun p hp => Aft.tup (fun v H' μ' g2 => q v H' μ' (g1.trans g2)) s1 r1 hp⟩⟩
    · cases e⟩
theorem me_lst (h : MA X es m) : ME X (.List es pos) (mLst m) :=
  ⟨PE.imp (pe_lst h.pa) fun σ H Q ⟨ρ, S, μ, d, S', st, e, q⟩ => by
    unfold mLst at e
    obtain ⟨⟨ds, S1⟩, e1, e⟩ := Option.bind_eq_some_iff.mp e
    split at e
    · rename_i hz
      cases e
      exact ⟨ρ, S, μ, ds, _, st, e1, fun vs H1 μ1 g1 s1 r1 => ⟨by rw [r1.length]; exact szl_le hz, fun p hp => Aft.lst (fun v H' μ' g2 => q v H' μ' (g1.trans g2)) s1 r1 hp⟩⟩
    · cases e⟩
end

/-! ### tests -/
def mB (m : MExp) : MTst := fun ρ S => (m ρ S).bind fun p => match p.1 with
  | .bl b => some (b, p.2)
  | _ => none
def mAnd (a b : MTst) : MTst := fun ρ S => (a ρ S).bind fun p => if p.1 then b ρ p.2 else some (false, p.2)
def mOr (a b : MTst) : MTst := fun ρ S => (a ρ S).bind fun p => if p.1 then some (true, p.2) else b ρ p.2
def mNot (a : MTst) : MTst := fun ρ S => (a ρ S).bind fun p => some (!p.1, p.2)
def mIf (t : MTst) (a b : MExp) : MExp := fun ρ S => (t ρ S).bind fun p => if p.1 then a ρ p.2 else b ρ p.2
def mBV (t : MTst) : MExp := fun ρ S => (t ρ S).bind fun p => some (.bl p.1, p.2)
section
variable {X : Cx} {a b c e : Expr} {rest : List Expr} {m : MExp} {ta tb : MTst} {ma mb : MExp} {pos : Pos}
theorem tT_val {σ : L2.St} {H : Hp} {Q : Bool → Hp → Prop} (h : tT X.K (mB m) σ H Q) : tE X.K m σ H fun x H1 => ∃ k, x = .bl k ∧ Q k H1 := by
  obtain ⟨ρ, S, μ, k, S', st, e, q⟩ := h
  unfold mB at e
  obtain ⟨⟨d, S1⟩, e1, e⟩ := Option.bind_eq_some_iff.mp e
  refine ⟨ρ, S, μ, d, S1, st, e1, fun v H1 μ1 g1 s1 r1 => ?_⟩
  cases d with
  | bl b => cases e; cases r1; exact ⟨_, rfl, q H1 μ1 g1 s1⟩
  | _ => cases e
theorem mt_val (h : ME X e m) (he : ∀ whole, isTrue e X.env whole = (do let v ← whole; standAt e.pos; holding [v] (truthy v)) := by intro _; rfl) : MT X e (mB m) := ⟨PT.imp (pt_val h.pe he) fun _ _ _ h => tT_val h⟩
theorem mt_cmp {f : DOp2} {op : CmpOp} (ho : OpR X (compareOp op) (rM X.K f)) (ha : ME X a ma) (hb : ME X b mb) (hm : behindInMarks op b = false) : MT X (.Compare a [op] [b] pos) (mB (mBin f ma mb)) :=
  ⟨PT.imp (pt_cmpR ho ha.pe hb.pe hm) fun σ H Q h => by
    obtain ⟨ρ, S, μ, d, S', st, e, q⟩ := tT_val h
    exact tE_bin ⟨ρ, S, μ, d, S', st, e, q⟩⟩
theorem tT_and {σ : L2.St} {H : Hp} {Q : Bool → Hp → Prop} (h : tT X.K (mAnd ta tb) σ H Q) : tAnd (tT X.K ta) (tT X.K tb) σ H Q := by
  obtain ⟨ρ, S, μ, k, S', st, e, q⟩ := h
  unfold mAnd at e
  obtain ⟨⟨k1, S1⟩, e1, e⟩ := Option.bind_eq_some_iff.mp e
  refine ⟨ρ, S, μ, k1, S1, st, e1, fun H1 μ1 g1 s1 => ?_⟩
  cases k1 with
  | true => exact iteT ⟨ρ, S1, μ1, k, S', st.grow g1 s1, e, fun H2 μ2 g2 s2 => q H2 μ2 (g1.trans g2) s2⟩
  | false => cases e; exact iteF (q H1 μ1 g1 s1)
theorem tT_or {σ : L2.St} {H : Hp} {Q : Bool → Hp → Prop} (h : tT X.K (mOr ta tb) σ H Q) : tOr (tT X.K ta) (tT X.K tb) σ H Q := by
  obtain ⟨ρ, S, μ, k, S', st, e, q⟩ := h
  unfold mOr at e
  obtain ⟨⟨k1, S1⟩, e1, e⟩ := Option.bind_eq_some_iff.mp e
  refine ⟨ρ, S, μ, k1, S1, st, e1, fun H1 μ1 g1 s1 => ?_⟩
  cases k1 with
  | false => exact iteF ⟨ρ, S1, μ1, k, S', st.grow g1 s1, e, fun H2 μ2 g2 s2 => q H2 μ2 (g1.trans g2) s2⟩
  | true => cases e; exact iteT (q H1 μ1 g1 s1)
theorem mw_and1 (h : MT X a ta) : MW X (.BoolOp .And [a] pos) ta := ⟨pw_and1 h.pt⟩
theorem mw_or1 (h : MT X a ta) : MW X (.BoolOp .Or [a] pos) ta := ⟨pw_or1 h.pt⟩
theorem mw_and (h : MT X a ta) (k : MW X (.BoolOp .And (b :: rest) pos) tb) : MW X (.BoolOp .And (a :: b :: rest) pos) (mAnd ta tb) := ⟨PW.imp (pw_and h.pt k.pw) fun _ _ _ h => tT_and h⟩
theorem mw_or (h : MT X a ta) (k : MW X (.BoolOp .Or (b :: rest) pos) tb) : MW X (.BoolOp .Or (a :: b :: rest) pos) (mOr ta tb) := ⟨PW.imp (pw_or h.pt k.pw) fun _ _ _ h => tT_or h⟩
theorem MW.mt (h : MW X e ta) : MT X e ta := ⟨h.pw.pt⟩
theorem mt_not (h : MT X a ta) : MT X (.UnaryOp .Not a pos) (mNot ta) := ⟨PT.imp (pt_not h.pt) fun σ H Q ⟨ρ, S, μ, k, S', st, e, q⟩ => by
  unfold mNot at e
  obtain ⟨⟨k1, S1⟩, e1, e⟩ := Option.bind_eq_some_iff.mp e
  cases e
  exact ⟨ρ, S, μ, k1, _, st, e1, fun H1 μ1 g1 s1 => q H1 μ1 g1 s1⟩⟩
theorem me_ifExp (hc : MT X c ta) (ha : ME X a ma) (hb : ME X b mb) : ME X (.IfExp c a b pos) (mIf ta ma mb) := ⟨PE.imp (pe_ifExp hc.pt ha.pe hb.pe) fun σ H Q ⟨ρ, S, μ, d, S', st, e, q⟩ => by
  unfold mIf at e
  obtain ⟨⟨k1, S1⟩, e1, e⟩ := Option.bind_eq_some_iff.mp e
  refine ⟨ρ, S, μ, k1, S1, st, e1, fun H1 μ1 g1 s1 => ?_⟩
  have q' : Aft X.K H1 μ1 d S' Q := fun v H2 μ2 g2 => q v H2 μ2 (g1.trans g2)
  cases k1 with
  | true => exact iteT ⟨ρ, S1, μ1, d, S', st.grow g1 s1, e, q'⟩
  | false => exact iteF ⟨ρ, S1, μ1, d, S', st.grow g1 s1, e, q'⟩⟩
/-- and, or, not as values (bools) -/
def mAndV (a b : MExp) : MExp := fun ρ S => (a ρ S).bind fun p => match p.1 with
  | .bl true => b ρ p.2
  | .bl false => some (.bl false, p.2)
  | _ => none
def mOrV (a b : MExp) : MExp := fun ρ S => (a ρ S).bind fun p => match p.1 with
  | .bl false => b ρ p.2
  | .bl true => some (.bl true, p.2)
  | _ => none
def mNotV (a : MExp) : MExp := fun ρ S => (a ρ S).bind fun p => match p.1 with
  | .bl b => some (.bl (!b), p.2)
  | _ => none
theorem me_one {op} (h : ME X a m) : ME X (.BoolOp op [a] pos) m := ⟨pe_one h.pe⟩
theorem me_and (ha : ME X a ma) (hb : ME X (.BoolOp .And (b :: rest) pos) mb) : ME X (.BoolOp .And (a :: b :: rest) pos) (mAndV ma mb) := ⟨PE.imp (pe_and ha.pe hb.pe) fun σ H Q ⟨ρ, S, μ, d, S', st, e, q⟩ => by
  obtain ⟨⟨d1, S1⟩, e1, e⟩ := Option.bind_eq_some_iff.mp e
  refine ⟨ρ, S, μ, d1, S1, st, e1, fun v H1 μ1 g1 s1 r1 => ?_⟩
  cases d1 with
  | bl k =>
    cases r1
    cases k with
    | true => exact ⟨_, rfl, iteT ⟨ρ, S1, μ1, d, S', st.grow g1 s1, e, fun v H2 μ2 g2 => q v H2 μ2 (g1.trans g2)⟩⟩
    | false => cases e; exact ⟨_, rfl, iteF (q _ H1 μ1 g1 s1 (.bl _))⟩
  | _ => cases e⟩
theorem me_or (ha : ME X a ma) (hb : ME X (.BoolOp .Or (b :: rest) pos) mb) : ME X (.BoolOp .Or (a :: b :: rest) pos) (mOrV ma mb) := ⟨PE.imp (pe_or ha.pe hb.pe) fun σ H Q ⟨ρ, S, μ, d, S', st, e, q⟩ => by
  obtain ⟨⟨d1, S1⟩, e1, e⟩ := Option.bind_eq_some_iff.mp e
  refine ⟨ρ, S, μ, d1, S1, st, e1, fun v H1 μ1 g1 s1 r1 => ?_⟩
  cases d1 with
  | bl k =>
    cases r1
    cases k with
    | false => exact ⟨_, rfl, iteF ⟨ρ, S1, μ1, d, S', st.grow g1 s1, e, fun v H2 μ2 g2 => q v H2 μ2 (g1.trans g2)⟩⟩
    | true => cases e; exact ⟨_, rfl, iteT (q _ H1 μ1 g1 s1 (.bl _))⟩
  | _ => cases e⟩
theorem me_not (ha : ME X a ma) : ME X (.UnaryOp .Not a pos) (mNotV ma) := ⟨PE.imp (pe_not ha.pe) fun σ H Q ⟨ρ, S, μ, d, S', st, e, q⟩ => by
  obtain ⟨⟨d1, S1⟩, e1, e⟩ := Option.bind_eq_some_iff.mp e
  refine ⟨ρ, S, μ, d1, S1, st, e1, fun v H1 μ1 g1 s1 r1 => ?_⟩
  cases d1 with
  | bl k => cases r1; cases e; exact ⟨_, rfl, q _ H1 μ1 g1 s1 (.bl _)⟩
  | _ => cases e⟩
/-- -a -/
def mNeg (a : MExp) : MExp := fun ρ S => (a ρ S).bind fun p => match p.1 with
  | .int i => some (.int (-i), p.2)
  | _ => none
theorem me_neg (ha : ME X a ma) : ME X (.UnaryOp .USub a pos) (mNeg ma) := ⟨PE.imp (pe_un un_neg ha.pe) fun σ H Q ⟨ρ, S, μ, d, S', st, e, q⟩ => by
  obtain ⟨⟨d1, S1⟩, e1, e⟩ := Option.bind_eq_some_iff.mp e
  refine ⟨ρ, S, μ, d1, S1, st, e1, fun v H1 μ1 g1 s1 r1 => ?_⟩
  cases d1 with
  | int k => cases r1; cases e; exact ⟨_, rfl, q _ H1 μ1 g1 s1 (.int _)⟩
  | _ => cases e⟩
/-- a op1 b op2 c -/
def mChain (f g : DOp2) (ma mb mc : MExp) : MExp := fun ρ S => (ma ρ S).bind fun p => (mb ρ p.2).bind fun q => (f p.1 q.1 q.2).bind fun r => match r.1 with
  | .bl true => (mc ρ r.2).bind fun t => g q.1 t.1 t.2
  | .bl false => some (.bl false, r.2)
  | _ => none
theorem tE_chain {f g : DOp2} {mc : MExp} {σ : L2.St} {H : Hp} {Q : VK} (h : tE X.K (mChain f g ma mb mc) σ H Q) : tChain (rM X.K f) (rM X.K g) (tE X.K ma) (tE X.K mb) (tE X.K mc) σ H Q := by
  obtain ⟨ρ, S, μ, d, S', st, e, q⟩ := h
  obtain ⟨⟨d1, S1⟩, e1, e⟩ := Option.bind_eq_some_iff.mp e
  obtain ⟨⟨d2, S2⟩, e2, e⟩ := Option.bind_eq_some_iff.mp e
  obtain ⟨⟨d3, S3⟩, e3, e⟩ := Option.bind_eq_some_iff.mp e
  refine ⟨ρ, S, μ, d1, S1, st, e1, fun v H1 μ1 g1 s1 r1 => ?_⟩
  refine ⟨ρ, S1, μ1, d2, S2, st.grow g1 s1, e2, fun u H2 μ2 g2 s2 r2 => ?_⟩
  refine ⟨S2, μ2, d1, d2, d3, S3, s2, r1.grow g2, r2, e3, fun z H3 μ3 g3 s3 r3 => ?_⟩
  have g13 := (g1.trans g2).trans g3
  cases d3 with
  | bl k =>
    cases r3
    cases k with
    | false => cases e; exact ⟨_, rfl, iteF (q _ H3 μ3 g13 s3 (.bl _))⟩
    | true =>
      refine ⟨_, rfl, iteT ?_⟩
      obtain ⟨⟨d4, S4⟩, e4, e⟩ := Option.bind_eq_some_iff.mp e
      refine ⟨ρ, S3, μ3, d4, S4, st.grow g13 s3, e4, fun w' H4 μ4 g4 s4 r4 => ?_⟩
      exact ⟨S4, μ4, d2, d4, d, S', s4, r2.grow (g3.trans g4), r4, e, fun v' H5 μ5 g5 => q v' H5 μ5 ((g13.trans g4).trans g5)⟩
  | _ => cases e
theorem me_chain {f g : DOp2} {op op' : CmpOp} {mc : MExp} (ho : OpR X (compareOp op) (rM X.K f)) (ho' : OpR X (compareOp op') (rM X.K g)) (ha : ME X a ma) (hb : ME X b mb) (hc : ME X c mc)
    (hm : lastMarks [op, op'] [b, c] = false := by with_unfolding_all rfl) : ME X (.Compare a [op, op'] [b, c] pos) (mChain f g ma mb mc) := ⟨PE.imp (pe_chain ho ho' ha.pe hb.pe hc.pe hm) fun _ _ _ h => tE_chain h⟩
theorem mt_chain {f g : DOp2} {op op' : CmpOp} {mc : MExp} (ho : OpR X (compareOp op) (rM X.K f)) (ho' : OpR X (compareOp op') (rM X.K g)) (ha : ME X a ma) (hb : ME X b mb) (hc : ME X c mc)
    (hm : lastMarks [op, op'] [b, c] = false := by with_unfolding_all rfl) : MT X (.Compare a [op, op'] [b, c] pos) (mB (mChain f g ma mb mc)) := ⟨PT.imp (pt_chain ho ho' ha.pe hb.pe hc.pe hm) fun σ H Q h => tE_chain (tT_val h)⟩
end

/-! ### statements -/
def mNx : MStm := fun ρ S => some (.nx, ρ, S)
def mBk : MStm := fun ρ S => some (.bk, ρ, S)
def mCt : MStm := fun ρ S => some (.ct, ρ, S)
def mSeq (a b : MStm) : MStm := fun ρ S => (a ρ S).bind fun p => match p.1 with
  | .nx => b p.2.1 p.2.2
  | f => some (f, p.2.1, p.2.2)
def mRet (m : MExp) : MStm := fun ρ S => (m ρ S).bind fun p => some (.rt p.1, ρ, p.2)
def mRetN : MStm := fun ρ S => some (.rt .non, ρ, S)
def mDrop (m : MExp) : MStm := fun ρ S => (m ρ S).bind fun p => some (.nx, ρ, p.2)
def mIfS (t : MTst) (a b : MStm) : MStm := fun ρ S => (t ρ S).bind fun p => if p.1 then a ρ p.2 else b ρ p.2
def mAsg (m : MExp) (g : MTg) : MStm := fun ρ S => (m ρ S).bind fun p => (g p.1 ρ p.2).bind fun q => some (.nx, q.1, q.2)
theorem EndOf.mono {K : PySem.W.Frag} {D1 D2 : Ends} {f : Fl} {σ : L2.St} {H : Hp} {μ : Mu} (h : EndOf K D1 f σ H μ) (hn : ∀ σ H, D1.nx σ H → D2.nx σ H) (hr : ∀ v H, D1.rt v H → D2.rt v H) (hb : ∀ σ H, D1.bk σ H → D2.bk σ H) (hc : ∀ σ H, D1.ct σ H → D2.ct σ H) : EndOf K D2 f σ H μ := by
  cases f with
  | nx => exact hn _ _ h
  | bk => exact hb _ _ h
  | ct => exact hc _ _ h
  | rt d => exact fun v r => hr _ _ (h v r)
section
variable {X : Cx} {st : Stmt} {rest : List Stmt} {m m' : MStm} {e : Expr} {me : MExp} {pos : Pos}
theorem mss_nil : MSs X [] mNx := ⟨PSs.imp pss_nil fun D σ H ⟨ρ, S, μ, f, ρ', S', s, e, q⟩ => by cases e; exact q σ H μ .refl s⟩
theorem mss_cons (h : MS_ X st m) (k : MSs X rest m') : MSs X (st :: rest) (mSeq m m') := ⟨PSs.imp (pss_cons h.ps k.pss) fun D σ H ⟨ρ, S, μ, f, ρ', S', s, e, q⟩ => by
  obtain ⟨⟨f1, ρ1, S1⟩, e1, e⟩ := Option.bind_eq_some_iff.mp e
  refine ⟨ρ, S, μ, f1, ρ1, S1, s, e1, fun σ1 H1 μ1 g1 s1 => ?_⟩
  cases f1 with
  | nx => exact ⟨ρ1, S1, μ1, f, ρ', S', s1, e, fun σ2 H2 μ2 g2 s2 => q σ2 H2 μ2 (g1.trans g2) s2⟩
  | bk => cases e; exact q σ1 H1 μ1 g1 s1
  | ct => cases e; exact q σ1 H1 μ1 g1 s1
  | rt d => cases e; exact q σ1 H1 μ1 g1 s1⟩
theorem mss_one (h : MS_ X st m) : MSs X [st] m := ⟨pss_one h.ps⟩
theorem ms_pass : MS_ X (.Pass pos) mNx := ⟨PS.imp ps_pass fun D σ H ⟨ρ, S, μ, f, ρ', S', s, e, q⟩ => by cases e; exact q σ H μ .refl s⟩
theorem ms_break : MS_ X (.Break pos) mBk := ⟨PS.imp ps_break fun D σ H ⟨ρ, S, μ, f, ρ', S', s, e, q⟩ => by cases e; exact q σ H μ .refl s⟩
theorem ms_continue : MS_ X (.Continue pos) mCt := ⟨PS.imp ps_continue fun D σ H ⟨ρ, S, μ, f, ρ', S', s, e, q⟩ => by cases e; exact q σ H μ .refl s⟩
theorem ms_ret (h : ME X e me) : MS_ X (.Return (some e) pos) (mRet me) := ⟨PS.imp (ps_ret h.pe) fun D σ H ⟨ρ, S, μ, f, ρ', S', s, e, q⟩ => by
  obtain ⟨⟨d, S1⟩, e1, e⟩ := Option.bind_eq_some_iff.mp e
  cases e
  exact ⟨ρ, S, μ, d, S1, s, e1, fun v H1 μ1 g1 s1 r1 => q σ H1 μ1 g1 (s.grow g1 s1) v r1⟩⟩
theorem ms_retN : MS_ X (.Return none pos) mRetN := ⟨PS.imp ps_retN fun D σ H ⟨ρ, S, μ, f, ρ', S', s, e, q⟩ => by cases e; exact q σ H μ .refl s _ .non⟩
theorem ms_expr (h : ME X e me) (hs : swapsWith e none pos.line X.env = pure false := by rfl) : MS_ X (.Expr e pos) (mDrop me) := ⟨PS.imp (ps_expr h.pe hs) fun D σ H ⟨ρ, S, μ, f, ρ', S', s, e, q⟩ => by
  obtain ⟨⟨d, S1⟩, e1, e⟩ := Option.bind_eq_some_iff.mp e
  cases e
  exact ⟨ρ, S, μ, d, S1, s, e1, fun v H1 μ1 g1 s1 r1 => q σ H1 μ1 g1 (s.grow g1 s1)⟩⟩
theorem ms_if {c : Expr} {a b : List Stmt} {t : MTst} (hc : MT X c t) (ha : MSs X a m) (hb : MSs X b m') : MS_ X (.If c a b pos) (mIfS t m m') := ⟨PS.imp (ps_if hc.pt ha.pss hb.pss) fun D σ H ⟨ρ, S, μ, f, ρ', S', s, e, q⟩ => by
  obtain ⟨⟨k, S1⟩, e1, e⟩ := Option.bind_eq_some_iff.mp e
  refine ⟨ρ, S, μ, k, S1, s, e1, fun H1 μ1 g1 s1 => ?_⟩
  have q' : ∀ σ' H' μ', Grow H1 H' μ1 μ' → Sim X.K H' μ' σ' ρ' S' → EndOf X.K D f σ' H' μ' := fun σ2 H2 μ2 g2 s2 => q σ2 H2 μ2 (g1.trans g2) s2
  cases k with
  | true => exact iteT ⟨ρ, S1, μ1, f, ρ', S', s.grow g1 s1, e, q'⟩
  | false => exact iteF ⟨ρ, S1, μ1, f, ρ', S', s.grow g1 s1, e, q'⟩⟩
/-! ### targets -/
def mName (i : Nat) : MTg := fun d ρ S => some (ρ.set i (some d), S)
abbrev MTgs := List D → Ev → Store → Option (Ev × Store)
def tGs (K : PySem.W.Frag) (m : MTgs) : TGs := fun vs σ H Q => ∃ ds ρ S μ ρ' S', Sim K H μ σ ρ S ∧ RpA K H μ vs ds ∧ m ds ρ S = some (ρ', S') ∧ ∀ σ' H' μ', Grow H H' μ μ' → Sim K H' μ' σ' ρ' S' → Q σ' H'
structure MGs (X : Cx) (ts : List Expr) (m : MTgs) : Prop where
  pgs : PGs X ts (tGs X.K m)
theorem PGs.imp {ts : List Expr} {t t' : TGs} (h : PGs X ts t) (i : ∀ vs σ H Q, t' vs σ H Q → t vs σ H Q) : PGs X ts t' := ⟨fun pins s σ H vs us Q I r q => h.run pins s σ H vs us Q I r (i _ _ _ _ q)⟩
def mgNil : MTgs := fun ds ρ S => match ds with
  | [] => some (ρ, S)
  | _ => none
def mgCons (g : MTg) (r : MTgs) : MTgs := fun ds ρ S => match ds with
  | d :: ds => (g d ρ S).bind fun p => r ds p.1 p.2
  | [] => none
def mgTup (r : MTgs) (n : Nat) : MTg := fun d ρ S => match d with
  | .tup ds => if ds.length = n then r ds ρ S else none
  | _ => none
def mgSub (mo mi : MExp) : MTg := fun d ρ S => (mo ρ S).bind fun p => (mi ρ p.2).bind fun q => match p.1, q.1 with
  | .lr n, .int k => (mat q.2 n).bind fun ds => (ixN ds.length k).bind fun j => some (ρ, q.2.set n (.lst (ds.set j d)))
  | _, _ => none
theorem mg_name {i : Nat} {x : Str} (hN : X.N.Nodup) (hi : X.N[i]? = some x) (hx : Loc X.env.scope x) (hf : X.fn x = true ∨ X.env.scope.names.lookup x = some .local := by first | exact .inl rfl | exact .inr rfl | assumption) : MG X (.Name x pos) (mName i) :=
  ⟨PG.imp (pg_name hN hi hx hf) fun v σ H Q ⟨d, ρ, S, μ, ρ', S', s, r, e, q⟩ => by cases e; exact q _ H μ .refl (s.set i r)⟩
theorem mgs_nil : MGs X [] mgNil := ⟨PGs.imp pgs_nil fun vs σ H Q ⟨ds, ρ, S, μ, ρ', S', s, r, e, q⟩ => by
  cases ds with
  | nil => cases e; cases r; exact ⟨rfl, q σ H μ .refl s⟩
  | cons _ _ => cases e⟩
theorem mgs_cons {e : Expr} {es : List Expr} {g : MTg} {r : MTgs} (h1 : MG X e g) (h2 : MGs X es r) (hs : (assignEach (e :: es) X.env).map (·.2) = assign e X.env :: (assignEach es X.env).map (·.2) := by rfl) : MGs X (e :: es) (mgCons g r) :=
  ⟨PGs.imp (pgs_cons h1.pg h2.pgs hs) fun vs σ H Q ⟨ds, ρ, S, μ, ρ', S', s, rr, e, q⟩ => by
    cases ds with
    | nil => cases e
    | cons d ds =>
      cases rr with
      | cons r1 r2 =>
      obtain ⟨⟨ρ1, S1⟩, e1, e⟩ := Option.bind_eq_some_iff.mp (show ((g d ρ S).bind fun p => r ds p.1 p.2) = some (ρ', S') from e)
      exact ⟨_, _, rfl, d, ρ, S, μ, ρ1, S1, s, r1, e1, fun σ1 H1 μ1 g1 s1 => ⟨ds, ρ1, S1, μ1, ρ', S', s1, r2.grow g1, e, fun σ2 H2 μ2 g2 s2 => q σ2 H2 μ2 (g1.trans g2) s2⟩⟩⟩
theorem mg_tup {es : List Expr} {k : Nat} {r : MTgs} {n : Nat} (hc : X.calm = true) (h : MGs X es r) (hn : (assignEach es X.env).length = n := by rfl) (hst : (assignEach es X.env).findIdx? (·.1) = none := by rfl) : MG X (.Tuple es k pos) (mgTup r n) :=
  ⟨PG.imp (pg_tup hc h.pgs hn hst) fun v σ H Q ⟨d, ρ, S, μ, ρ', S', s, rr, e, q⟩ => by
    cases d with
    | tup ds =>
      cases rr with
      | tup h1 h2 =>
      have e : (if ds.length = n then r ds ρ S else none) = some (ρ', S') := e
      split at e
      · rename_i hl
        exact ⟨_, _, rfl, sq _ _ h1, by rw [h2.length]; exact hl, ds, ρ, S, μ, ρ', S', s, h2, e, q⟩
      · cases e
    | _ => cases e⟩
theorem RpA.ixN {K : PySem.W.Frag} {H : Hp} {μ : Mu} {vs : List V} {ds : List D} {i : Int} (r : RpA K H μ vs ds) : L2.ixN vs.length i = L2.ixN ds.length i := by rw [r.length]
theorem mg_sub {o i : Expr} {mo mi : MExp} (ho : ME X o mo) (hi : ME X i mi)
    (ha : ∀ v, assign (.Subscript o i pos) X.env v = (do
      let ov ← holding [v] (eval o X.env)
      let iv ← holding [v, ov] (eval i X.env)
      standAt pos
      holding [v, ov, iv] (setItem ov iv v)
      release [v, ov, iv] []) := by intro _; rfl) : MG X (.Subscript o i pos) (mgSub mo mi) :=
  ⟨PG.imp (pg_sub ho.pe hi.pe set_list ha) fun v σ H Q ⟨d, ρ, S, μ, ρ', S', s, rr, e, q⟩ => by
    obtain ⟨⟨d1, S1⟩, e1, e⟩ := Option.bind_eq_some_iff.mp e
    obtain ⟨⟨d2, S2⟩, e2, e⟩ := Option.bind_eq_some_iff.mp e
    refine ⟨ρ, S, μ, d1, S1, s, e1, fun v1 H1 μ1 g1 s1 r1 => ⟨ρ, S1, μ1, d2, S2, s.grow g1 s1, e2, fun v2 H2 μ2 g2 s2 r2 => ?_⟩⟩
    cases d1 with
    | lr n =>
      cases d2 with
      | int k =>
        obtain ⟨ds, e3, e⟩ := Option.bind_eq_some_iff.mp (show ((mat S2 n).bind fun ds => (L2.ixN ds.length k).bind fun j => some (ρ, S2.set n (.lst (ds.set j d)))) = some (ρ', S') from e)
        obtain ⟨j, e4, e⟩ := Option.bind_eq_some_iff.mp e
        cases e
        cases r2
        obtain ⟨a, vs, rfl, h1, h2, h3⟩ := s2.mat e3 (r1.grow g2)
        refine ⟨a, vs, k, j, rfl, rfl, h2, by rw [h3.ixN]; exact e4, ?_⟩
        have g12 := g1.trans g2
        refine q σ _ μ2 (g12.trans (.wrS s2 (mat_eq e3) rfl h1)) ?_
        exact (s.grow g12 s2).grow (.wrS s2 (mat_eq e3) rfl h1) (s2.wr (mat_eq e3) h1 (h3.set (rr.grow g12) j))
      | _ => cases e
    | _ => cases e⟩
/-! ### assignments -/
theorem tS_asg {g : MTg} {D_ : Ends} {σ : L2.St} {H : Hp} (h : tS X.K (mAsg me g) D_ σ H) : tAsg (tE X.K me) (tG X.K g) D_ σ H := by
  obtain ⟨ρ, S, μ, f, ρ', S', s, e, q⟩ := h
  obtain ⟨⟨d, S1⟩, e1, e⟩ := Option.bind_eq_some_iff.mp e
  obtain ⟨⟨ρ2, S2⟩, e2, e⟩ := Option.bind_eq_some_iff.mp e
  cases e
  exact ⟨ρ, S, μ, d, S1, s, e1, fun v H1 μ1 g1 s1 r1 => ⟨d, ρ, S1, μ1, _, _, s.grow g1 s1, r1, e2, fun σ2 H2 μ2 g2 s2 => q σ2 H2 μ2 (g1.trans g2) s2⟩⟩
theorem ms_asg {tg : Expr} {g : MTg} (he : ME X e me) (hg : MG X tg g) (hs : swapsWithSole [tg] e pos.line X.env = pure false := by rfl) (hw : swappedStores [tg] e X.env = pure none := by rfl)
    (h1 : (assignEach [tg] X.env).map (·.2) = [assign tg X.env] := by rfl) : MS_ X (.Assign [tg] e pos) (mAsg me g) := ⟨PS.imp (ps_asg he.pe hg.pg hs hw h1) fun _ _ _ h => tS_asg h⟩
theorem ms_set {i : Nat} {x : Str} {pos' : Pos} (hN : X.N.Nodup) (hi : X.N[i]? = some x) (hx : Loc X.env.scope x) (he : ME X e me) (hs : swapsWith e (some (.Name x pos')) pos.line X.env = pure false := by rfl)
    (hf : X.fn x = true ∨ X.env.scope.names.lookup x = some .local := by first | exact .inl rfl | exact .inr rfl | assumption) : MS_ X (.Assign [.Name x pos'] e pos) (mAsg me (mName i)) :=
  ⟨PS.imp (ps_set hN hi hx he.pe hs hf) fun D_ σ H h => by
    obtain ⟨ρ, S, μ, f, ρ', S', s, e, q⟩ := h
    obtain ⟨⟨d, S1⟩, e1, e⟩ := Option.bind_eq_some_iff.mp e
    cases e
    exact ⟨ρ, S, μ, d, _, s, e1, fun v H1 μ1 g1 s1 r1 => q _ H1 μ1 g1 ((s.grow g1 s1).set i r1)⟩⟩
/-- a, b = x, y -/
def mPar (i j : Nat) (m : MArg) : MStm := fun ρ S => (m ρ S).bind fun p => match p.1 with
  | [a, b] => some (.nx, (ρ.set i (some a)).set j (some b), p.2)
  | _ => none
theorem ms_par {i j : Nat} {x y : Str} {a b : Expr} {m : MArg} {px py pt : Pos} {kt k2 pt2} (hc : X.calm = true) (hN : X.N.Nodup) (hi : X.N[i]? = some x) (hj : X.N[j]? = some y) (hij : i ≠ j)
    (hx : X.env.scope.names.lookup x = some .local) (hy : X.env.scope.names.lookup y = some .local) (ha : MA X [a, b] m)
    (hw : swappedStores [.Tuple [.Name x px, .Name y py] kt pt] (.Tuple [a, b] k2 pt2) X.env = pure (some [x, y]) := by rfl)
    (hs : swapsWithSole [.Tuple [.Name x px, .Name y py] kt pt] (.Tuple [a, b] k2 pt2) pos.line X.env = pure false := by rfl) :
    MS_ X (.Assign [.Tuple [.Name x px, .Name y py] kt pt] (.Tuple [a, b] k2 pt2) pos) (mPar i j m) :=
  ⟨PS.imp (ps_par hc hN hi hj hij hx hy ha.pa hw hs) fun D_ σ H ⟨ρ, S, μ, f, ρ', S', s, e, q⟩ => by
    obtain ⟨⟨ds, S1⟩, e1, e⟩ := Option.bind_eq_some_iff.mp e
    refine ⟨ρ, S, μ, ds, S1, s, e1, fun vs H1 μ1 g1 s1 r1 => ?_⟩
    match ds, r1, e with
    | [a, b], .cons ra (.cons rb .nil), e =>
      cases e
      exact ⟨_, _, rfl, q _ H1 μ1 g1 (((s.grow g1 s1).set i ra).set j rb)⟩
    | [], _, e => cases e
    | [_], _, e => cases e
    | _ :: _ :: _ :: _, _, e => cases e⟩
/-- x op= e -/
def mAug (i : Nat) (f : DOp2) (m : MExp) : MStm := fun ρ S => match ρ[i]? with
  | some (some d) => (m ρ S).bind fun p => (f d p.1 p.2).bind fun q => some (.nx, ρ.set i (some q.1), q.2)
  | _ => none
theorem ms_aug {i : Nat} {x : Str} {op : Operator} {f : DOp2} {pos' : Pos} (hN : X.N.Nodup) (hi : X.N[i]? = some x) (hx : Loc X.env.scope x) (he : ME X e me) (ho : PIp X op (rM X.K f))
    (hf : X.fn x = true ∨ X.env.scope.names.lookup x = some .local := by first | exact .inl rfl | exact .inr rfl | assumption) : MS_ X (.AugAssign (.Name x pos') op e pos) (mAug i f me) :=
  ⟨PS.imp (ps_aug hN hi hx he.pe ho hf) fun D_ σ H ⟨ρ, S, μ, f', ρ', S', s, e, q⟩ => by
    unfold mAug at e
    split at e
    · rename_i d hd
      obtain ⟨⟨d1, S1⟩, e1, e⟩ := Option.bind_eq_some_iff.mp e
      obtain ⟨⟨d2, S2⟩, e2, e⟩ := Option.bind_eq_some_iff.mp e
      cases e
      obtain ⟨v0, h1, h2⟩ := s.sl i d hd
      refine ⟨v0, h1, ρ, S, μ, d1, S1, s, e1, fun v H1 μ1 g1 s1 r1 => ?_⟩
      refine ⟨S1, μ1, d, d1, d2, _, s1, h2.grow g1, r1, e2, fun v2 H2 μ2 g2 s2 r2 => ?_⟩
      exact q _ H2 μ2 (g1.trans g2) ((s.grow (g1.trans g2) s2).set i r2)
    · cases e⟩
theorem i_add : PIp X .Add (rM X.K (fI fun i j => i + j)) := by
  intro pins s σ H x y v u Q I r1 r2 ⟨S, μ, dx, dy, d, S', st, px, py, e, q⟩
  unfold fI at e
  split at e
  · cases e; cases px; cases py
    exact ip_add pins s σ H _ _ v u Q I r1 r2 ⟨_, _, rfl, rfl, q.id st (.int _)⟩
  · cases e
theorem i_sub : PIp X .Sub (rM X.K (fI fun i j => i - j)) := by
  intro pins s σ H x y v u Q I r1 r2 ⟨S, μ, dx, dy, d, S', st, px, py, e, q⟩
  unfold fI at e
  split at e
  · cases e; cases px; cases py
    exact ip_sub pins s σ H _ _ v u Q I r1 r2 ⟨_, _, rfl, rfl, q.id st (.int _)⟩
  · cases e
end
end MS

set_option Elab.async false
set_option linter.all false
set_option maxRecDepth 100000
set_option maxHeartbeats 4000000
namespace MS
open PySem PySem.Spec PyProof.Rows L2

mutual
def D.same : D → D → Bool
  | .non, .non => true
  | .bl a, .bl b => a == b
  | .int a, .int b => decide (a = b)
  | .str a, .str b => decide (a = b)
  | .tup a, .tup b => D.sameA a b
  | .lr a, .lr b => decide (a = b)
  | .lst a, .lst b => D.sameA a b
  | .fl a, .fl b => D.sameA a b
  | .dk k a, .dk l b => decide (k = l) && D.sameA a b
  | .dt k a, .dt l b => decide (k = l) && D.sameA a b
  | .ins c k a, .ins d l b => decide (c = d) && decide (k = l) && D.sameA a b
  | .fn a, .fn b => decide (a = b)
  | _, _ => false
def D.sameA : List D → List D → Bool
  | [], [] => true
  | a :: as, b :: bs => D.same a b && D.sameA as bs
  | _, _ => false
end
mutual
theorem D.same_eq : ∀ a b : D, D.same a b = true → a = b
  | .non, b, h => by cases b <;> first | rfl | cases h
  | .bl a, b, h => by
    cases b with
    | bl b => rw [show a = b from eq_of_beq h]
    | _ => cases h
  | .int a, b, h => by
    cases b with
    | int b => rw [show a = b from of_decide_eq_true h]
    | _ => cases h
  | .str a, b, h => by
    cases b with
    | str b => rw [show a = b from of_decide_eq_true h]
    | _ => cases h
  | .lr a, b, h => by
    cases b with
    | lr b => rw [show a = b from of_decide_eq_true h]
    | _ => cases h
  | .tup a, b, h => by
    cases b with
    | tup b => rw [show a = b from D.sameA_eq a b h]
    | _ => cases h
  | .lst a, b, h => by
    cases b with
    | lst b => rw [show a = b from D.sameA_eq a b h]
    | _ => cases h
  | .fl a, b, h => by
    cases b with
    | fl b => rw [show a = b from D.sameA_eq a b h]
    | _ => cases h
  | .dk k a, b, h => by
    cases b with
    | dk l b =>
      have h : (decide (k = l) && D.sameA a b) = true := h
      rw [Bool.and_eq_true] at h
      rw [show k = l from of_decide_eq_true h.1, show a = b from D.sameA_eq a b h.2]
    | _ => cases h
  | .dt k a, b, h => by
    cases b with
    | dt l b =>
      have h : (decide (k = l) && D.sameA a b) = true := h
      rw [Bool.and_eq_true] at h
      rw [show k = l from of_decide_eq_true h.1, show a = b from D.sameA_eq a b h.2]
    | _ => cases h
  | .ins c k a, b, h => by
    cases b with
    | ins d l b =>
      have h : (decide (c = d) && decide (k = l) && D.sameA a b) = true := h
      rw [Bool.and_eq_true, Bool.and_eq_true] at h
      rw [show c = d from of_decide_eq_true h.1.1, show k = l from of_decide_eq_true h.1.2, show a = b from D.sameA_eq a b h.2]
    | _ => cases h
  | .fn a, b, h => by
    cases b with
    | fn b => rw [show a = b from of_decide_eq_true h]
    | _ => cases h
theorem D.sameA_eq : ∀ a b : List D, D.sameA a b = true → a = b
  | [], b, h => by cases b <;> first | rfl | cases h
  | a :: as, b, h => by
    cases b with
    | nil => cases h
    | cons b bs =>
      have h : (D.same a b && D.sameA as bs) = true := h
      rw [Bool.and_eq_true] at h
      rw [D.same_eq a b h.1, D.sameA_eq as bs h.2]
end
mutual
theorem D.same_refl : ∀ a : D, D.same a a = true
  | .non => rfl
  | .bl a => beq_self_eq_true a
  | .int a => decide_eq_true rfl
  | .str a => decide_eq_true rfl
  | .lr a => decide_eq_true rfl
  | .tup a => D.sameA_refl a
  | .lst a => D.sameA_refl a
  | .fl a => D.sameA_refl a
  | .dk k a => by
    show (decide (k = k) && D.sameA a a) = true
    rw [decide_eq_true rfl, D.sameA_refl a]; rfl
  | .dt k a => by
    show (decide (k = k) && D.sameA a a) = true
    rw [decide_eq_true rfl, D.sameA_refl a]; rfl
  | .ins c k a => by
    show (decide (c = c) && decide (k = k) && D.sameA a a) = true
    rw [decide_eq_true rfl, decide_eq_true rfl, D.sameA_refl a]; rfl
  | .fn a => decide_eq_true rfl
theorem D.sameA_refl : ∀ a : List D, D.sameA a a = true
  | [] => rfl
  | a :: as => by
    show (D.same a a && D.sameA as as) = true
    rw [D.same_refl a, D.sameA_refl as]
    rfl
end
/-- the list at a handle is this one still -/
def still (n : Nat) (ds : List D) : Store → Bool := fun S => match lat S n with
  | some es => D.sameA es ds
  | none => false
theorem still_eq {n : Nat} {ds : List D} {S : Store} (h : still n ds S = true) : lat S n = some ds := by
  unfold still at h
  split at h
  · rename_i es e
    rw [e, D.sameA_eq es ds h]
  · cases h
theorem still_of {n : Nat} {ds : List D} {S : Store} (h : lat S n = some ds) : still n ds S = true := by
  unfold still
  rw [h]
  exact D.sameA_refl ds
def always : Store → Bool := fun _ => true

/-! ### what a loop walks -/
/-- from (H0, μ0) on J walks ds while ok holds of the store -/
structure IsIt (K : PySem.W.Frag) (J : It) (H0 : Hp) (μ0 : Mu) (ds : List D) (ok : Store → Bool) : Prop where
  go : ∀ i H μ S, Grow H0 H μ0 μ → StR K H μ S → ok S = true → i < ds.length → J.go i H
  stop : ∀ H μ S, Grow H0 H μ0 μ → StR K H μ S → ok S = true → J.stop ds.length H
  yld : ∀ i H μ S x H', Grow H0 H μ0 μ → StR K H μ S → ok S = true → J.yld i H x H' → ∀ d, ds[i]? = some d → Grow H H' μ μ ∧ StR K H' μ S ∧ Rp K H' μ x d
abbrev MItr := Ev → Store → Option ((List D × (Store → Bool)) × Store)
def tI (K : PySem.W.Frag) (m : MItr) : TI := fun σ H R => ∃ ρ S μ p S', Sim K H μ σ ρ S ∧ m ρ S = some (p, S') ∧ ∀ J H' μ', Grow H H' μ μ' → StR K H' μ' S' → IsIt K J H' μ' p.1 p.2 → R J H'
structure MI (X : Cx) (tg iter : Expr) (m : MItr) : Prop where
  pi : PI X tg iter (tI X.K m)
theorem PI.imp {X : Cx} {tg iter : Expr} {t t' : TI} (h : PI X tg iter t) (i : ∀ σ H R, t' σ H R → t σ H R) : PI X tg iter t' := ⟨fun pins s σ H R I q => h.run pins s σ H R I (i _ _ _ q)⟩
theorem PI.or {X : Cx} {tg iter : Expr} {e : Expr} {t t' : TI} (h : ∀ pins s σ H R, Inv X pins σ H s → (t σ H R ∨ t' σ H R) → wpAny (model X.prog X.w) X.A (eval iter X.env) (fun v s1 => wpAny (model X.prog X.w) X.A (pyIter v) (PIE X pins σ tg R) X.xe s1) X.xe s) :
    PI X tg iter (fun σ H R => t σ H R ∨ t' σ H R) := ⟨h⟩
def mItems (m : MExp) : MItr := fun ρ S => (m ρ S).bind fun p => match p.1 with
  | .tup ds => some ((ds, always), p.2)
  | .lst ds => some ((ds, always), p.2)
  | .lr n => (lat p.2 n).bind fun ds => some ((ds, still n ds), p.2)
  | _ => none
section
variable {X : Cx} {tg e : Expr} {m : MExp}
theorem isIt_list {K : PySem.W.Frag} {H0 : Hp} {μ0 : Mu} {n : Nat} {a : Addr} {ds : List D} (r : Rp K H0 μ0 (.ref a) (.lr n)) : IsIt K (Itl K a) H0 μ0 ds (still n ds) where
  go := fun i H μ S g s h hi => by
    obtain ⟨a', vs, e1, h1, h2⟩ := s.lat (still_eq h) (r.grow g)
    cases e1
    have hi' : i < vs.length := by rw [h2.length]; exact hi
    exact ⟨vs, vs[i], h1, List.getElem?_eq_getElem hi'⟩
  stop := fun H μ S g s h => by
    obtain ⟨a', vs, e1, h1, h2⟩ := s.lat (still_eq h) (r.grow g)
    cases e1
    exact ⟨vs, h1, by rw [h2.length]; exact Nat.le_refl _⟩
  yld := fun i H μ S x H' g s h y d hd => by
    obtain ⟨rfl, y⟩ := y
    obtain ⟨a', vs, e1, h1, h2⟩ := s.lat (still_eq h) (r.grow g)
    cases e1
    obtain ⟨w, h3, h4⟩ := h2.get hd
    rw [y vs h1] at h3
    cases h3
    exact ⟨.refl, s, h4⟩
theorem isIt_tup {K : PySem.W.Frag} {H0 : Hp} {μ0 : Mu} {a : Addr} {vs : List V} {ds : List D} (h1 : SqT K H0 a vs) (h2 : RpA K H0 μ0 vs ds) : IsIt K (Itt K a) H0 μ0 ds always where
  go := fun i H μ S g s h hi => by
    have hi' : i < vs.length := by rw [h2.length]; exact hi
    exact ⟨vs, vs[i], g.sqT h1, List.getElem?_eq_getElem hi'⟩
  stop := fun H μ S g s h => ⟨vs, g.sqT h1, by rw [h2.length]; exact Nat.le_refl _⟩
  yld := fun i H μ S x H' g s h y d hd => by
    obtain ⟨rfl, y⟩ := y
    obtain ⟨w, h3, h4⟩ := (h2.grow g).get hd
    rw [y vs (g.sqT h1)] at h3
    cases h3
    exact ⟨.refl, s, h4⟩
theorem isIt_lsv {K : PySem.W.Frag} {H0 : Hp} {μ0 : Mu} {a : Addr} {vs : List V} {ds : List D} (h1 : LsV H0 μ0 a vs) (h2 : RpA K H0 μ0 vs ds) : IsIt K (Itl K a) H0 μ0 ds always where
  go := fun i H μ S g s h hi => by
    have hi' : i < vs.length := by rw [h2.length]; exact hi
    exact ⟨vs, vs[i], (h1.grow g).sqL, List.getElem?_eq_getElem hi'⟩
  stop := fun H μ S g s h => ⟨vs, (h1.grow g).sqL, by rw [h2.length]; exact Nat.le_refl _⟩
  yld := fun i H μ S x H' g s h y d hd => by
    obtain ⟨rfl, y⟩ := y
    obtain ⟨w, h3, h4⟩ := (h2.grow g).get hd
    rw [y vs (h1.grow g).sqL] at h3
    cases h3
    exact ⟨.refl, s, h4⟩
theorem mi_items (h : ME X e m) : MI X tg e (mItems m) := by
  refine ⟨⟨fun pins s σ H R I ⟨ρ, S, μ, p, S', st, e1, q⟩ => ?_⟩⟩
  obtain ⟨⟨d, S1⟩, e2, e1⟩ := Option.bind_eq_some_iff.mp e1
  cases d with
  | tup ds =>
    cases e1
    refine (pi_tup h.pe).run pins s σ H R I ⟨ρ, S, μ, _, _, st, e2, fun v H1 μ1 g1 s1 r1 => ?_⟩
    cases r1 with
    | tup h1 h2 => exact ⟨_, rfl, ⟨_, sq _ _ h1⟩, q _ H1 μ1 g1 s1 (isIt_tup (sq _ _ h1) h2)⟩
  | lst ds =>
    cases e1
    refine (pi_list h.pe).run pins s σ H R I ⟨ρ, S, μ, _, _, st, e2, fun v H1 μ1 g1 s1 r1 => ?_⟩
    cases r1 with
    | lst h1 h2 => exact ⟨_, rfl, ⟨_, h1.sqL⟩, q _ H1 μ1 g1 s1 (isIt_lsv h1 h2)⟩
  | lr n =>
    obtain ⟨ds, e3, e1⟩ := Option.bind_eq_some_iff.mp (show ((lat S1 n).bind fun ds => some ((ds, still n ds), S1)) = some (p, S') from e1)
    cases e1
    refine (pi_list h.pe).run pins s σ H R I ⟨ρ, S, μ, _, _, st, e2, fun v H1 μ1 g1 s1 r1 => ?_⟩
    obtain ⟨a, vs, rfl, h1, h2⟩ := s1.lat e3 r1
    exact ⟨a, rfl, ⟨vs, h1⟩, q _ H1 μ1 g1 s1 (isIt_list r1)⟩
  | _ => cases e1
def rangeD (lo : Int) (n : Nat) : List D := (List.range n).map fun (i : Nat) => D.int (lo + (i : Int))
theorem rangeD_length {lo : Int} {n : Nat} : (rangeD lo n).length = n := by unfold rangeD; rw [List.length_map, List.length_range]
theorem isIt_range {K : PySem.W.Frag} {H0 : Hp} {μ0 : Mu} {lo : Int} {n : Nat} : IsIt K (Itr lo n) H0 μ0 (rangeD lo n) always where
  go := fun i H μ S g s h hi => by rw [rangeD_length] at hi; exact hi
  stop := fun H μ S g s h => by rw [rangeD_length]; exact Nat.le_refl _
  yld := fun i H μ S x H' g s h y d hd => by
    obtain ⟨rfl, rfl⟩ := y
    unfold rangeD at hd
    rw [List.getElem?_map] at hd
    obtain ⟨j, h1, h2⟩ := Option.map_eq_some_iff.mp hd
    subst h2
    obtain ⟨h3, h4⟩ := List.getElem?_eq_some_iff.mp h1
    rw [List.getElem_range] at h4
    subst h4
    exact ⟨.refl, s, .int _⟩
def r62 (i : Int) : Bool := decide (-(2 ^ 62) ≤ i) && decide (i < 2 ^ 62)
theorem r62_iff {i : Int} (h : r62 i = true) : -(2 ^ 62) ≤ i ∧ i < 2 ^ 62 := by
  unfold r62 at h
  rw [Bool.and_eq_true, decide_eq_true_eq, decide_eq_true_eq] at h
  exact h
def mRange1 (m : MArg) : MItr := fun ρ S => (m ρ S).bind fun p => match p.1 with
  | [.int j] => if r62 j then some ((rangeD 0 j.toNat, always), p.2) else none
  | _ => none
def mRange2 (m : MArg) : MItr := fun ρ S => (m ρ S).bind fun p => match p.1 with
  | [.int i, .int j] => if r62 i && r62 j then some ((rangeD i (j - i).toNat, always), p.2) else none
  | _ => none
theorem mi_range1 {a : Expr} {ma : MArg} {p pos : Pos} (hg : Gl X "range") (hm : X.mg "range" = none) (ha : MA X [a] ma) (hs : starEach [a] X.env = [(false, eval a X.env)] := by rfl) : MI X tg (.Call (.Name "range" p) [a] [] pos) (mRange1 ma) :=
  ⟨PI.imp (pi_range1 hg hm ha.pa hs) fun σ H R ⟨ρ, S, μ, p, S', st, e1, q⟩ => by
    obtain ⟨⟨ds, S1⟩, e2, e1⟩ := Option.bind_eq_some_iff.mp e1
    refine ⟨ρ, S, μ, ds, S1, st, e2, fun vs H1 μ1 g1 s1 r1 => ?_⟩
    dsimp only at e1
    split at e1
    · split at e1
      · rename_i h
        cases e1
        obtain ⟨h1, h2⟩ := r62_iff h
        match vs, r1 with
        | _, .cons (.int j) .nil => exact ⟨_, rfl, h1, h2, q _ H1 μ1 g1 s1 isIt_range⟩
      · cases e1
    · cases e1⟩
theorem mi_range2 {a b : Expr} {ma : MArg} {p pos : Pos} (hg : Gl X "range") (hm : X.mg "range" = none) (ha : MA X [a, b] ma) (hs : starEach [a, b] X.env = [(false, eval a X.env), (false, eval b X.env)] := by rfl) (hs2 : starEach [b] X.env = [(false, eval b X.env)] := by rfl) :
    MI X tg (.Call (.Name "range" p) [a, b] [] pos) (mRange2 ma) :=
  ⟨PI.imp (pi_range2 hg hm ha.pa hs hs2) fun σ H R ⟨ρ, S, μ, p, S', st, e1, q⟩ => by
    obtain ⟨⟨ds, S1⟩, e2, e1⟩ := Option.bind_eq_some_iff.mp e1
    refine ⟨ρ, S, μ, ds, S1, st, e2, fun vs H1 μ1 g1 s1 r1 => ?_⟩
    dsimp only at e1
    split at e1
    · split at e1
      · rename_i h
        cases e1
        rw [Bool.and_eq_true] at h
        obtain ⟨h1, h2⟩ := r62_iff h.1
        obtain ⟨h3, h4⟩ := r62_iff h.2
        match vs, r1 with
        | _, .cons (.int i) (.cons (.int j) .nil) => exact ⟨_, _, rfl, ⟨h1, h2, h3, h4⟩, q _ H1 μ1 g1 s1 isIt_range⟩
      · cases e1
    · cases e1⟩
end

/-! ### for, while -/
def forL (ok : Store → Bool) (g : MTg) (b : MStm) : List D → MStm
  | [], ρ, S => if ok S then some (.nx, ρ, S) else none
  | x :: r, ρ, S => if ok S then (g x ρ S).bind fun p => (b p.1 p.2).bind fun q => match q.1 with
    | .nx => forL ok g b r q.2.1 q.2.2
    | .ct => forL ok g b r q.2.1 q.2.2
    | .bk => some (.nx, q.2.1, q.2.2)
    | .rt d => some (.rt d, q.2.1, q.2.2) else none
def mFor (i : MItr) (g : MTg) (b : MStm) : MStm := fun ρ S => (i ρ S).bind fun p => forL p.1.2 g b p.1.1 ρ p.2
def whileN (t : MTst) (b : MStm) : Nat → MStm
  | 0, _, _ => none
  | n + 1, ρ, S => (t ρ S).bind fun p => if p.1 then (b ρ p.2).bind fun q => match q.1 with
    | .nx => whileN t b n q.2.1 q.2.2
    | .ct => whileN t b n q.2.1 q.2.2
    | .bk => some (.nx, q.2.1, q.2.2)
    | .rt d => some (.rt d, q.2.1, q.2.2) else some (.nx, ρ, p.2)
section
variable {X : Cx} {tg iter c : Expr} {body : List Stmt} {i : MItr} {g : MTg} {b : MStm} {t : MTst} {pos : Pos}
theorem tS_for {K : PySem.W.Frag} {D_ : Ends} {σ : L2.St} {H : Hp} (h : tS K (mFor i g b) D_ σ H) : tFor (tI K i) (tG K g) (tS K b) D_ σ H := by
  obtain ⟨ρ, S, μ, f, ρ', S', st, e, q⟩ := h
  obtain ⟨⟨⟨ds, ok⟩, S1⟩, e1, e⟩ := Option.bind_eq_some_iff.mp e
  refine ⟨ρ, S, μ, (ds, ok), S1, st, e1, fun J H0 μ0 g0 s0 hJ => ?_⟩
  refine ⟨fun i m σ H => m = ds.length - i ∧ i ≤ ds.length ∧ ∃ ρ S μ, Sim K H μ σ ρ S ∧ Grow H0 H μ0 μ ∧ forL ok g b (ds.drop i) ρ S = some (f, ρ', S'), ⟨ds.length, by omega, by omega, ρ, S1, μ0, st.grow g0 s0, .refl, e⟩, ?_⟩
  rintro i m σ1 H1 ⟨rfl, hi, ρ1, S2, μ1, st1, g1, e2⟩
  by_cases hlt : i < ds.length
  · rw [List.drop_eq_getElem_cons hlt] at e2
    unfold forL at e2
    split at e2
    · rename_i hok
      obtain ⟨⟨ρ3, S3⟩, e3, e2⟩ := Option.bind_eq_some_iff.mp e2
      obtain ⟨⟨f4, ρ4, S4⟩, e4, e2⟩ := Option.bind_eq_some_iff.mp e2
      refine .inr ⟨hJ.go i H1 μ1 S2 g1 st1.st hok hlt, fun σ' H' => ∃ ρ S μ, Sim K H' μ σ' ρ S ∧ Grow H0 H' μ0 μ ∧ forL ok g b (ds.drop (i + 1)) ρ S = some (f, ρ', S'), fun σ' H' hN => ?_, fun x H' y => ?_⟩
      · exact ⟨ds.length - (i + 1), by omega, rfl, hlt, hN⟩
      · obtain ⟨g2, s2, r2⟩ := hJ.yld i H1 μ1 S2 x H' g1 st1.st hok y ds[i] (List.getElem?_eq_getElem hlt)
        refine ⟨ds[i], ρ1, S2, μ1, ρ3, S3, st1.grow g2 s2, r2, e3, fun σ3 H3 μ3 g3 st3 => ?_⟩
        refine ⟨ρ3, S3, μ3, f4, ρ4, S4, st3, e4, fun σ4 H4 μ4 g4 st4 => ?_⟩
        have gg : Grow H0 H4 μ0 μ4 := ((g1.trans g2).trans g3).trans g4
        cases f4 with
        | nx => exact ⟨ρ4, S4, μ4, st4, gg, e2⟩
        | ct => exact ⟨ρ4, S4, μ4, st4, gg, e2⟩
        | bk => cases e2; exact q σ4 H4 μ4 (g0.trans gg) st4
        | rt d => cases e2; exact q σ4 H4 μ4 (g0.trans gg) st4
    · cases e2
  · have ei : i = ds.length := by omega
    subst ei
    rw [List.drop_length] at e2
    unfold forL at e2
    split at e2
    · rename_i hok
      cases e2
      exact .inl ⟨hJ.stop H1 μ1 _ g1 st1.st hok, q σ1 H1 μ1 (g0.trans g1) st1⟩
    · cases e2
theorem ms_for (hp : PassesOwn (model X.prog X.w) X.A X.env X.xe) (hc : X.calm = true) (hi : MI X tg iter i) (hg : MG X tg g) (hb : MSs X body b) (hs : ∀ x, foldedSetIterable iter X.env x = pure x := by intro _; rfl) : MS_ X (.For tg iter body [] pos) (mFor i g b) :=
  ⟨PS.imp (ps_for hp hc hi.pi hg.pg hb.pss hs) fun _ _ _ h => tS_for h⟩
theorem tS_while {K : PySem.W.Frag} {n : Nat} {D_ : Ends} {σ : L2.St} {H : Hp} (h : tS K (whileN t b n) D_ σ H) : tWhile (tT K t) (tS K b) D_ σ H := by
  obtain ⟨ρ, S, μ, f, ρ', S', st, e, q⟩ := h
  refine ⟨fun m σ1 H1 => ∃ ρ1 S1 μ1, Sim K H1 μ1 σ1 ρ1 S1 ∧ Grow H H1 μ μ1 ∧ whileN t b m ρ1 S1 = some (f, ρ', S'), ⟨n, ρ, S, μ, st, .refl, e⟩, ?_⟩
  rintro m σ1 H1 ⟨ρ1, S1, μ1, st1, g1, e1⟩
  cases m with
  | zero => cases e1
  | succ m =>
    obtain ⟨⟨k, S2⟩, e2, e1⟩ := Option.bind_eq_some_iff.mp (show ((t ρ1 S1).bind fun p => if p.1 then (b ρ1 p.2).bind fun q => (match q.1 with
      | .nx => whileN t b m q.2.1 q.2.2
      | .ct => whileN t b m q.2.1 q.2.2
      | .bk => some (.nx, q.2.1, q.2.2)
      | .rt d => some (.rt d, q.2.1, q.2.2)) else some (.nx, ρ1, p.2)) = some (f, ρ', S') from e1)
    refine ⟨ρ1, S1, μ1, k, S2, st1, e2, fun H2 μ2 g2 s2 => ?_⟩
    have st2 := st1.grow g2 s2
    cases k with
    | false =>
      cases e1
      exact iteF (q σ1 H2 μ2 (g1.trans g2) st2)
    | true =>
      obtain ⟨⟨f3, ρ3, S3⟩, e3, e1⟩ := Option.bind_eq_some_iff.mp (show ((b ρ1 S2).bind fun q => (match q.1 with
        | .nx => whileN t b m q.2.1 q.2.2
        | .ct => whileN t b m q.2.1 q.2.2
        | .bk => some (.nx, q.2.1, q.2.2)
        | .rt d => some (.rt d, q.2.1, q.2.2))) = some (f, ρ', S') from e1)
      refine iteT ⟨fun σ3 H3 => ∃ ρ3 S3 μ3, Sim K H3 μ3 σ3 ρ3 S3 ∧ Grow H H3 μ μ3 ∧ whileN t b m ρ3 S3 = some (f, ρ', S'), fun σ3 H3 h3 => ⟨m, by omega, h3⟩, ?_⟩
      refine ⟨ρ1, S2, μ2, f3, ρ3, S3, st2, e3, fun σ4 H4 μ4 g4 st4 => ?_⟩
      have gg := (g1.trans g2).trans g4
      cases f3 with
      | nx => exact ⟨ρ3, S3, μ4, st4, gg, e1⟩
      | ct => exact ⟨ρ3, S3, μ4, st4, gg, e1⟩
      | bk => cases e1; exact q σ4 H4 μ4 gg st4
      | rt d => cases e1; exact q σ4 H4 μ4 gg st4
theorem ms_while (n : Nat) (hp : PassesOwn (model X.prog X.w) X.A X.env X.xe) (hc : MT X c t) (hb : MSs X body b) : MS_ X (.While c body [] pos) (whileN t b n) :=
  ⟨PS.imp (ps_while hp hc.pt hb.pss) fun _ _ _ h => tS_while h⟩
end

/-! ### targets that are names: which slots they touch -/
def tGl (K : PySem.W.Frag) (is : List Nat) (m : MTg) : TG := fun v σ H Q => ∃ d ρ S μ ρ' S', Sim K H μ σ ρ S ∧ Rp K H μ v d ∧ m d ρ S = some (ρ', S') ∧ ∀ σ' H' μ', Grow H H' μ μ' → Sim K H' μ' σ' ρ' S' → σ'.length = σ.length → (∀ j, j ∉ is → σ'[j]? = σ[j]?) → Q σ' H'
def tGsl (K : PySem.W.Frag) (is : List Nat) (m : MTgs) : TGs := fun vs σ H Q => ∃ ds ρ S μ ρ' S', Sim K H μ σ ρ S ∧ RpA K H μ vs ds ∧ m ds ρ S = some (ρ', S') ∧ ∀ σ' H' μ', Grow H H' μ μ' → Sim K H' μ' σ' ρ' S' → σ'.length = σ.length → (∀ j, j ∉ is → σ'[j]? = σ[j]?) → Q σ' H'
structure MGl (X : Cx) (is : List Nat) (tg : Expr) (m : MTg) : Prop where
  pg : PG X tg (tGl X.K is m)
structure MGsl (X : Cx) (is : List Nat) (ts : List Expr) (m : MTgs) : Prop where
  pgs : PGs X ts (tGsl X.K is m)
section
variable {X : Cx} {pos : Pos}
theorem MGl.mg {is : List Nat} {tg : Expr} {m : MTg} (h : MGl X is tg m) : MG X tg m := ⟨PG.imp h.pg fun v σ H Q ⟨d, ρ, S, μ, ρ', S', s, r, e, q⟩ => ⟨d, ρ, S, μ, ρ', S', s, r, e, fun σ' H' μ' g st _ _ => q σ' H' μ' g st⟩⟩
theorem mgl_name {i : Nat} {x : Str} (hN : X.N.Nodup) (hi : X.N[i]? = some x) (hx : Loc X.env.scope x) (hf : X.fn x = true ∨ X.env.scope.names.lookup x = some .local := by first | exact .inl rfl | exact .inr rfl | assumption) : MGl X [i] (.Name x pos) (mName i) :=
  ⟨PG.imp (pg_name hN hi hx hf) fun v σ H Q ⟨d, ρ, S, μ, ρ', S', s, r, e, q⟩ => by
    cases e
    exact q _ H μ .refl (s.set i r) (by rw [List.length_set]) fun j hj => by rw [List.getElem?_set_ne (fun z => hj (by simp [z]))]⟩
theorem mgsl_nil : MGsl X [] [] mgNil := ⟨PGs.imp pgs_nil fun vs σ H Q ⟨ds, ρ, S, μ, ρ', S', s, r, e, q⟩ => by
  cases ds with
  | nil => cases e; cases r; exact ⟨rfl, q σ H μ .refl s rfl fun _ _ => rfl⟩
  | cons _ _ => cases e⟩
theorem mgsl_cons {e : Expr} {es : List Expr} {g : MTg} {r : MTgs} {is js : List Nat} (h1 : MGl X is e g) (h2 : MGsl X js es r) (hs : (assignEach (e :: es) X.env).map (·.2) = assign e X.env :: (assignEach es X.env).map (·.2) := by rfl) : MGsl X (is ++ js) (e :: es) (mgCons g r) :=
  ⟨PGs.imp (pgs_cons h1.pg h2.pgs hs) fun vs σ H Q ⟨ds, ρ, S, μ, ρ', S', s, rr, e, q⟩ => by
    cases ds with
    | nil => cases e
    | cons d ds =>
      cases rr with
      | cons r1 r2 =>
      obtain ⟨⟨ρ1, S1⟩, e1, e⟩ := Option.bind_eq_some_iff.mp (show ((g d ρ S).bind fun p => r ds p.1 p.2) = some (ρ', S') from e)
      exact ⟨_, _, rfl, d, ρ, S, μ, ρ1, S1, s, r1, e1, fun σ1 H1 μ1 g1 s1 l1 k1 => ⟨ds, ρ1, S1, μ1, ρ', S', s1, r2.grow g1, e, fun σ2 H2 μ2 g2 s2 l2 k2 => q σ2 H2 μ2 (g1.trans g2) s2 (l2.trans l1) fun j hj =>
        (k2 j fun z => hj (List.mem_append_right _ z)).trans (k1 j fun z => hj (List.mem_append_left _ z))⟩⟩⟩
theorem mgl_tup {es : List Expr} {k : Nat} {r : MTgs} {n : Nat} {is : List Nat} (hc : X.calm = true) (h : MGsl X is es r) (hn : (assignEach es X.env).length = n := by rfl) (hst : (assignEach es X.env).findIdx? (·.1) = none := by rfl) : MGl X is (.Tuple es k pos) (mgTup r n) :=
  ⟨PG.imp (pg_tup hc h.pgs hn hst) fun v σ H Q ⟨d, ρ, S, μ, ρ', S', s, rr, e, q⟩ => by
    cases d with
    | tup ds =>
      cases rr with
      | tup h1 h2 =>
      have e : (if ds.length = n then r ds ρ S else none) = some (ρ', S') := e
      split at e
      · rename_i hl
        exact ⟨_, _, rfl, sq _ _ h1, by rw [h2.length]; exact hl, ds, ρ, S, μ, ρ', S', s, h2, e, q⟩
      · cases e
    | _ => cases e⟩
end

/-! ### comprehensions -/
def wipeD (ρ : Ev) : List Nat → Ev
  | [] => ρ
  | v :: vs => (wipeD ρ vs).set v none
theorem wipeD_length (ρ : Ev) : ∀ vs, (wipeD ρ vs).length = ρ.length
  | [] => rfl
  | v :: vs => by unfold wipeD; rw [List.length_set, wipeD_length ρ vs]
theorem wipeD_some {ρ : Ev} {i : Nat} {d : D} : ∀ {vs : List Nat}, (wipeD ρ vs)[i]? = some (some d) → ρ[i]? = some (some d) ∧ i ∉ vs
  | [], h => ⟨h, by simp⟩
  | v :: vs, h => by
    unfold wipeD at h
    by_cases hi : v = i
    · subst hi
      by_cases hv : v < (wipeD ρ vs).length
      · rw [List.getElem?_set_self hv] at h; cases h
      · rw [List.getElem?_eq_none (by simpa using hv)] at h; cases h
    · rw [List.getElem?_set_ne hi] at h
      obtain ⟨h1, h2⟩ := wipeD_some h
      exact ⟨h1, by simp only [List.mem_cons, not_or]; exact ⟨fun z => hi z.symm, h2⟩⟩
theorem wipe_at {σ : L2.St} {i : Nat} : ∀ {vs : List Nat}, i ∉ vs → (wipe σ vs)[i]? = σ[i]?
  | [], _ => rfl
  | v :: vs, h => by
    simp only [List.mem_cons, not_or] at h
    unfold wipe
    rw [List.getElem?_set_ne (fun z => h.1 z.symm)]
    exact wipe_at h.2
theorem wipe_in {σ : L2.St} {i : Nat} : ∀ {vs : List Nat}, i ∈ vs → i < σ.length → (wipe σ vs)[i]? = some none
  | [], h, _ => by cases h
  | v :: vs, h, hl => by
    unfold wipe
    by_cases hi : v = i
    · subst hi
      rw [List.getElem?_set_self (by rw [wipe_length]; exact hl)]
    · rw [List.getElem?_set_ne hi]
      rcases List.mem_cons.mp h with z | z
      · exact absurd z.symm hi
      · exact wipe_in z hl
theorem wipe_same {σ σ' : L2.St} {vs : List Nat} (hl : σ'.length = σ.length) (h : ∀ j, j ∉ vs → σ'[j]? = σ[j]?) : wipe σ' vs = wipe σ vs := by
  refine List.ext_getElem? fun i => ?_
  by_cases hi : i ∈ vs
  · by_cases hz : i < σ.length
    · rw [wipe_in hi hz, wipe_in hi (by rw [hl]; exact hz)]
    · rw [List.getElem?_eq_none (by rw [wipe_length, hl]; omega), List.getElem?_eq_none (by rw [wipe_length]; omega)]
  · rw [wipe_at hi, wipe_at hi, h i hi]
theorem wipe_wipe {σ : L2.St} {vs : List Nat} : wipe (wipe σ vs) vs = wipe σ vs := wipe_same (wipe_length _ _) fun j hj => wipe_at hj
theorem Sim.wipe {K : PySem.W.Frag} {H : Hp} {μ : Mu} {σ : L2.St} {ρ : Ev} {S : Store} (s : Sim K H μ σ ρ S) (vs : List Nat) : Sim K H μ (L2.wipe σ vs) (wipeD ρ vs) S :=
  ⟨s.st, by rw [wipeD_length, wipe_length]; exact s.len, fun i d e => by
    obtain ⟨h1, h2⟩ := wipeD_some e
    obtain ⟨v, h3, h4⟩ := s.sl i d h1
    exact ⟨v, by rw [wipe_at h2]; exact h3, h4⟩⟩
def mYes : MTst := fun _ S => some (true, S)
structure MTs (X : Cx) (ifs : List Expr) (t : MTst) : Prop where
  pts : PTs X ifs (tT X.K t)
theorem mts_nil {X : Cx} : MTs X [] mYes := ⟨⟨fun pins s σ H Q I ⟨ρ, S, μ, b, S', st, e, q⟩ => pts_nil.run pins s σ H Q I (by cases e; exact q H μ .refl st.st)⟩⟩
theorem mts_one {X : Cx} {c : Expr} {t : MTst} (h : MT X c t) : MTs X [c] t := ⟨pts_one h.pt⟩
/-- the new list grows at its handle -/
def lcL (ok : Store → Bool) (g : MTg) (t : MTst) (e : MExp) (ρw : Ev) (n : Nat) : List D → Store → Option Store
  | [], S => if ok S then some S else none
  | x :: r, S => if ok S then (g x ρw S).bind fun p => (t p.1 p.2).bind fun k => if k.1 then (e p.1 k.2).bind fun y => (mat y.2 n).bind fun acc =>
      if acc.length < szl then lcL ok g t e ρw n r (y.2.set n (.lst (acc ++ [y.1]))) else none
    else lcL ok g t e ρw n r k.2 else none
def mLc (i : MItr) (g : MTg) (t : MTst) (e : MExp) (vs : List Nat) : MExp := fun ρ S => (i ρ S).bind fun p =>
  (lcL p.1.2 g t e (wipeD ρ vs) p.2.length p.1.1 (p.2 ++ [.lst []])).bind fun S2 => some (.lr p.2.length, S2)
theorem tE_lc {K : PySem.W.Frag} {i : MItr} {g : MTg} {t : MTst} {e : MExp} {vs is : List Nat} {σ : L2.St} {H : Hp} {Q : VK} (hv : ∀ j ∈ is, j ∈ vs) (h : tE K (mLc i g t e vs) σ H Q) : tLc (tI K i) (tGl K is g) (tT K t) (tE K e) vs σ H Q := by
  obtain ⟨ρ, S, μ, d, S', st, e0, q⟩ := h
  obtain ⟨⟨⟨ds, ok⟩, S1⟩, e1, e0⟩ := Option.bind_eq_some_iff.mp e0
  obtain ⟨S9, e9, e0⟩ := Option.bind_eq_some_iff.mp e0
  cases e0
  refine ⟨ρ, S, μ, (ds, ok), S1, st, e1, fun J H1 μ1 g1 s1 hJ A hA => ?_⟩
  have st1 : Sim K H1 μ1 σ ρ S1 := st.grow g1 s1
  have gA : Grow H1 (upd H1 A (.lst [])) μ1 (μ1.add A) := .newL hA
  have sA : StR K (upd H1 A (.lst [])) (μ1.add A) (S1 ++ [.lst []]) := s1.newL hA .nil
  have hnA : (μ1.add A).h[S1.length]? = some A := by rw [← s1.len]; exact Mu.new
  refine ⟨fun i m H => m = ds.length - i ∧ i ≤ ds.length ∧ ∃ S μ, StR K H μ S ∧ Grow (upd H1 A (.lst [])) H (μ1.add A) μ ∧ lcL ok g t e (wipeD ρ vs) S1.length (ds.drop i) S = some S',
    ⟨ds.length, by omega, by omega, _, _, sA, .refl, e9⟩, ?_⟩
  rintro i m H2 ⟨rfl, hi, S2, μ2, s2, g2, e2⟩
  have g12 := gA.trans g2
  have w2 : Sim K H2 μ2 (wipe σ vs) (wipeD ρ vs) S2 := (st1.wipe vs).grow g12 s2
  have hn2 : μ2.h[S1.length]? = some A := by
    obtain ⟨t, et⟩ := g2.pre
    rw [← et, List.getElem?_append_left (List.getElem?_eq_some_iff.mp hnA).1]
    exact hnA
  by_cases hlt : i < ds.length
  · rw [List.drop_eq_getElem_cons hlt] at e2
    unfold lcL at e2
    split at e2
    · rename_i hok
      obtain ⟨⟨ρ3, S3⟩, e3, e2⟩ := Option.bind_eq_some_iff.mp e2
      obtain ⟨⟨k4, S4⟩, e4, e2⟩ := Option.bind_eq_some_iff.mp e2
      refine .inr ⟨hJ.go i H2 μ2 S2 g12 s2 hok hlt, fun H' => ∃ S μ, StR K H' μ S ∧ Grow (upd H1 A (.lst [])) H' (μ1.add A) μ ∧ lcL ok g t e (wipeD ρ vs) S1.length (ds.drop (i + 1)) S = some S',
        fun H' hN => ⟨ds.length - (i + 1), by omega, rfl, hlt, hN⟩, fun x H' y => ?_⟩
      obtain ⟨g3, s3, r3⟩ := hJ.yld i H2 μ2 S2 x H' g12 s2 hok y ds[i] (List.getElem?_eq_getElem hlt)
      refine ⟨ds[i], wipeD ρ vs, S2, μ2, ρ3, S3, w2.grow g3 s3, r3, e3, fun σ4 H4 μ4 g4 st4 l4 k4' => ?_⟩
      refine ⟨?_, ρ3, S3, μ4, k4, S4, st4, e4, fun H5 μ5 g5 s5 => ?_⟩
      · rw [wipe_same l4 fun j hj => k4' j fun z => hj (hv j z), wipe_wipe]
      · have gg := ((g2.trans g3).trans g4).trans g5
        cases k4 with
        | false => exact iteF ⟨S4, μ5, s5, gg, e2⟩
        | true =>
          obtain ⟨⟨y6, S6⟩, e6, e2⟩ := Option.bind_eq_some_iff.mp (show ((e ρ3 S4).bind fun y => (mat y.2 S1.length).bind fun acc =>
            if acc.length < szl then lcL ok g t e (wipeD ρ vs) S1.length (ds.drop (i + 1)) (y.2.set S1.length (.lst (acc ++ [y.1]))) else none) = some S' from e2)
          obtain ⟨acc, e7, e2⟩ := Option.bind_eq_some_iff.mp e2
          split at e2
          · rename_i hz
            refine iteT ⟨ρ3, S4, μ5, y6, S6, st4.grow g5 s5, e6, fun v H6 μ6 g6 s6 r6 => ?_⟩
            have gg6 := gg.trans g6
            have hn6 : μ6.h[S1.length]? = some A := by
              obtain ⟨t, et⟩ := gg6.pre
              rw [← et, List.getElem?_append_left (List.getElem?_eq_some_iff.mp hnA).1]
              exact hnA
            obtain ⟨a', vs', h1, h2, h3, h4⟩ := s6.mat e7 (Rp.lr hn6)
            cases h1
            refine ⟨vs', h3, by rw [h4.length]; exact szl_lt hz, _, μ6, s6.wr (mat_eq e7) hn6 (h4.append (.cons r6 .nil)), gg6.trans (.wrS s6 (mat_eq e7) rfl hn6), e2⟩
          · cases e2
    · cases e2
  · have ei : i = ds.length := by omega
    subst ei
    rw [List.drop_length] at e2
    unfold lcL at e2
    split at e2
    · rename_i hok
      cases e2
      exact .inl ⟨hJ.stop H2 μ2 _ g12 s2 hok, q _ H2 μ2 (g1.trans g12) s2 (.lr hn2)⟩
    · cases e2
theorem PG.sub {X : Cx} {tg : Expr} {t t' : TG} (h : PG X tg t) (i : ∀ v σ H Q, t' v σ H Q → t v σ H Q) : PG X tg t' := PG.imp h i
section
variable {X : Cx} {elt tg iter : Expr} {ifs : List Expr} {scope : Scope} {own : List (Str × Nat)} {pos : Pos} {i : MItr} {g : MTg} {t : MTst} {e : MExp} {is : List Nat}
theorem me_lc (hc : X.calm = true) (hN : X.N.Nodup) (hi : MI X tg iter i) (ok : BlkOk X.N X.env.scope scope own)
    (hg : ∀ (s : Shared) (H : Hp) (C : Addr) (cl : List (Str × Addr)) (fp : List Addr), MGl (X.blk s H scope (compEnvC scope cl C X.env) fp) is tg g) (ht : ∀ (s : Shared) (H : Hp) (C : Addr) (cl : List (Str × Addr)) (fp : List Addr), MTs (X.blk s H scope (compEnvC scope cl C X.env) fp) ifs t)
    (he : ∀ (s : Shared) (H : Hp) (C : Addr) (cl : List (Str × Addr)) (fp : List Addr), ME (X.blk s H scope (compEnvC scope cl C X.env) fp) elt e) (hv : ∀ j ∈ is, j ∈ own.map (·.2)) (hs : ∀ x, foldedSetIterable iter X.env x = pure x := by intro _; rfl) :
    ME X (.ListComp elt [⟨tg, iter, ifs, 0⟩] scope pos) (mLc i g t e (own.map (·.2))) :=
  ⟨PE.imp (pe_lc hc hN hi.pi ok (fun s H C cl fp => (hg s H C cl fp).pg) (fun s H C cl fp => (ht s H C cl fp).pts) (fun s H C cl fp => (he s H C cl fp).pe) hs) fun _ _ _ h => tE_lc hv h⟩
theorem ms_setLc {j : Nat} {y : Str} {py spos : Pos} (hc : X.calm = true) (hN : X.N.Nodup) (hy : X.N[j]? = some y) (hyl : X.env.scope.names.lookup y = some .local)
    (hsw : swapsWith (.ListComp elt [⟨tg, iter, ifs, 0⟩] scope pos) (some (.Name y py)) spos.line X.env = pure true) (hi : MI X tg iter i) (ok : BlkOk X.N X.env.scope scope own)
    (hg : ∀ (s : Shared) (H : Hp) (C : Addr) (cl : List (Str × Addr)) (fp : List Addr), MGl (X.blk s H scope (compEnvC scope cl C X.env) fp) is tg g) (ht : ∀ (s : Shared) (H : Hp) (C : Addr) (cl : List (Str × Addr)) (fp : List Addr), MTs (X.blk s H scope (compEnvC scope cl C X.env) fp) ifs t)
    (he : ∀ (s : Shared) (H : Hp) (C : Addr) (cl : List (Str × Addr)) (fp : List Addr), ME (X.blk s H scope (compEnvC scope cl C X.env) fp) elt e) (hv : ∀ j ∈ is, j ∈ own.map (·.2)) (hs : ∀ x, foldedSetIterable iter X.env x = pure x := by intro _; rfl) :
    MS_ X (.Assign [.Name y py] (.ListComp elt [⟨tg, iter, ifs, 0⟩] scope pos) spos) (mAsg (mLc i g t e (own.map (·.2))) (mName j)) :=
  ⟨PS.imp (ps_setLc hc hN hy hyl hsw hi.pi ok (fun s H C cl fp => (hg s H C cl fp).pg) (fun s H C cl fp => (ht s H C cl fp).pts) (fun s H C cl fp => (he s H C cl fp).pe) hs) fun D_ σ H h => by
    obtain ⟨ρ, S, μ, f, ρ', S', s, e, q⟩ := h
    obtain ⟨⟨d, S1⟩, e1, e⟩ := Option.bind_eq_some_iff.mp e
    cases e
    exact tE_lc hv ⟨ρ, S, μ, d, _, s, e1, fun v H1 μ1 g1 s1 r1 => q _ H1 μ1 g1 ((s.grow g1 s1).set j r1)⟩⟩
end
end MS

set_option Elab.async false
set_option linter.all false
set_option maxRecDepth 100000
set_option maxHeartbeats 4000000
namespace MS
open PySem PySem.Spec PyProof.Rows L2

/-! ### enumerate(tuple) -/
theorem meets_enumT {v : Value} {o : Obj} {Hb : Heap → Prop} (B : Begins v o Hb) :
    Meets (Builtin.«enumerate.__new__» ⟨[.type "enumerate", v], []⟩) (fun _ R s => Hb s.heap ∧
      R (.ok (.ret (.ref (s.heap.push o).objs.size))) { s with heap := (s.heap.push o).push { cls := .type "enumerate", data := .fields #[.none, .bool false, .ref s.heap.objs.size, rawInt 0, .none, .none] } }) :=
  .of_wp fun prog w A R s h => by
    obtain ⟨hp, gs, dr, tk, os⟩ := s
    obtain ⟨hb, h⟩ := h
    have hsub := sub_enumerate
    have road : ∀ {A' : Around} {E : Value → Shared → Prop} {Q : Value → Shared → Prop}, Q (.ref hp.objs.size) ⟨hp.push o, gs, dr, tk, os⟩ → wpAny (model prog w) A' (pyIter v) Q E ⟨hp, gs, dr, tk, os⟩ :=
      fun q => B.iter prog w _ _ ⟨hp, gs, dr, tk, os⟩ _ hb q
    wp_walk using road
    refine wpAny_stack_any fun _ => wpAny_pure ?_
    split
    · rename_i c _ _ _ _ _
      cases (c == Value.type "enumerate") <;> (wp_walk using road; exact ⟨_, rfl, h⟩)
    · wp_walk using road
      exact ⟨_, rfl, h⟩
section
variable {prog : Program} {w : World} {A : Around} {E : Value → Shared → Prop} {s : Shared}
theorem call_enumT {t : Addr} {its : Array Value} {Q : Value → Shared → Prop} (ht : s.heap.IsTuple t its)
    (h : ∀ h', IsEnum h' (s.heap.objs.size + 1) s.heap.objs.size 0 .none → h'.IsTupleIter s.heap.objs.size t 0 → (∀ b o, s.heap.get? b = some o → h'.get? b = some o) → Q (.ref (s.heap.objs.size + 1)) { s with heap := h' }) :
    wpAny (model prog w) A (call (.type "enumerate") [.ref t]) Q E s := by
  refine callType_new F.called_enumerate (by decide) (F.typeCall_enumerate_1 _) (F.newCall_enumerate_1 _) (fun obj => F.args_object_init_2 obj _) F.entry_enumerate_new (meets_enumT (begins_tuple t its)) ⟨ht, ?_⟩
  have hz : (s.heap.push { cls := .type "tuple_iterator", data := .fields #[.ref t, .int 0 0] }).objs.size = s.heap.objs.size + 1 := Heap.size_push ..
  show _ ∧ _
  rw [hz]
  have he := Heap.get?_push_size (s.heap.push { cls := .type "tuple_iterator", data := .fields #[.ref t, .int 0 0] }) (o := { cls := .type "enumerate", data := .fields #[.none, .bool false, .ref s.heap.objs.size, rawInt 0, .none, .none] }) rfl
  rw [hz] at he
  exact ⟨⟨_, he, rfl⟩, h _ he ⟨_, Heap.get?_push_of_some _ (Heap.get?_push_size _ rfl), rfl, rfl⟩ fun b o x => Heap.get?_push_of_some _ (Heap.get?_push_of_some _ x)⟩
end
/-- a tuple's items in new pairs -/
def IteT (K : PySem.W.Frag) (a : Addr) : It :=
  ⟨fun i H => ∃ (xs : List V) (x : V), SqT K H a xs ∧ xs[i]? = some x, fun i H v H' => ∃ T x, v = .ref T ∧ H T = none ∧ H' = upd H T (.tup [.int (i : Nat), x]) ∧ ∀ xs, SqT K H a xs → xs[i]? = some x, fun i H => ∃ xs : List V, SqT K H a xs ∧ xs.length ≤ i⟩
theorem turn_enumT {P : Program} {w : World} {K : PySem.W.Frag} {elts : List Expr} {kk : Nat} {tpos : Pos} (a e it : Addr) :
    Turn P w K (.Tuple elts kk tpos) (IteT K a) [e, it] e (fun i h => (∃ old, IsEnum h e it ((i : Nat) : Int) old) ∧ h.IsTupleIter it a i ∧ e ≠ it) where
  mem := List.mem_cons_self ..
  obj := fun i h st b hb => by
    obtain ⟨⟨old, he⟩, ⟨o, ho, hc, hd⟩, _⟩ := st
    rcases (by simpa using hb : b = e ∨ b = it) with z | z
    · rw [z]; exact ⟨_, he, fun v q => nomatch q⟩
    · rw [z]; exact ⟨o, ho, fun v q => by rw [hd] at q; cases q⟩
  keep := fun i h h' ⟨⟨old, he⟩, hi, hne⟩ k => ⟨⟨old, k e (by simp) _ he⟩, hi.at fun o q => k it (by simp) o q, hne⟩
  item := by
    intro X hP hw hK hc i pins s σ H E I hf st hg
    subst hP hw hK
    obtain ⟨⟨old, he⟩, hit, hne⟩ := st
    obtain ⟨xs, x, hq, hx⟩ := hg
    obtain ⟨its, rv, p, hz⟩ := I.tuple hq
    obtain ⟨u, hu, ru⟩ := rv.get hx
    have hai : a ≠ it := fun z => by
      obtain ⟨o, ho, hcl, _⟩ := p
      obtain ⟨o', ho', hcl', _⟩ := hit
      rw [z, ho'] at ho; cases ho; rw [hcl] at hcl'
      injection hcl' with hcl'
      exact absurd hcl' (by decide)
    have hae : e ≠ a := fun z => by
      obtain ⟨o, ho, hcl, _⟩ := p
      have he' : s.heap.get? e = some _ := he
      rw [z, ho] at he'; cases he'
      injection hcl with hcl
      exact absurd hcl (by decide)
    have W := GoesN.ofWalksT (elts := elts) (k := kk) (pos := tpos) (WalksT.enumerateD (prog := X.prog) (w := X.w) (A := X.A) (Draws.tuple (A := X.A.in1) (I.ok.hd hc) it a hai its.toArray) e hne (by simp [hne, hae]) (by simp))
    have hlt : i < its.toArray.size := by rw [List.size_toArray]; exact (List.getElem?_eq_some_iff.mp hu).1
    refine W.goes i s _ E hlt ⟨⟨old, he⟩, hit, p⟩ fun v h' tk hY st' hk htk => ?_
    obtain ⟨T, vals, rfl, hT, ⟨t, x', hx', rfl⟩, hTup⟩ := hY
    have ex' : x' = u := by
      rw [List.getElem?_toArray, hu] at hx'
      exact (Option.some.inj hx').symm
    subst ex'
    have new : ObjOk X.prog X.w (upd H T (.tup [.int (i : Nat), x])) h' T (.tup [.int (i : Nat), x]) := ⟨by show 2 ≤ sizeLine; decide, [.int i t, x'], .cons ⟨_, rfl⟩ (.cons ru .nil), hTup⟩
    have I1 := I.turnedNew (t' := tk) (ch := [e, it]) hk hf hT new
    obtain ⟨⟨old', he'⟩, hit', _⟩ := st'
    refine ⟨.ref T, _, I1, rfl, ⟨T, x, rfl, I.hok.fresh hT, rfl, fun ys hy => by rw [I.tuple_inj hy hq]; exact hx⟩, ⟨⟨old', he'⟩, hit', hne⟩, fun b hb => ?_⟩
    have hbs : b < s.heap.objs.size := by
      rcases (by simpa using hb : b = e ∨ b = it) with z | z
      · rw [z]; exact Heap.lt_size he
      · rw [z]; obtain ⟨_, q, _⟩ := hit; exact Heap.lt_size q
    rw [upd_ne (Nat.ne_of_lt (Nat.lt_of_lt_of_le hbs hT))]
    exact (hf b hb).1
  done := by
    intro X hP hw hK hc i pins s σ H E I hf st hg
    subst hP hw hK
    obtain ⟨⟨old, he⟩, hit, hne⟩ := st
    obtain ⟨xs, hq, hx⟩ := hg
    obtain ⟨its, rv, p, hz⟩ := I.tuple hq
    have hl := rv.length
    refine wpAny_pyNext_enum_endD (n := i) (St := fun j h => j = i ∧ h.IsTupleIter it a i ∧ h.IsTuple a its.toArray) (fp := [it, a]) (P := fun _ _ => True)
      ⟨fun _ _ st => let ⟨o, ho, _⟩ := st.2.1; ⟨o, ho⟩, fun _ _ _ st hk => ⟨st.1, st.2.1.at fun o e => hk it (by simp) o e, st.2.2.at fun o e => hk a (by simp) o e⟩, fun j s Q E hj st => absurd st.1 (Nat.ne_of_lt hj),
        fun s Q E st hE => wpAny_nextOf_tuple_end (show X.A.in1.handled = none from I.ok.hd hc) st.2.1 st.2.2 (by rw [List.getElem?_toArray]; exact List.getElem?_eq_none (by omega)) hE⟩ he ⟨rfl, hit, p⟩ fun h' hx' => ⟨rfl, ?_⟩
    obtain ⟨f0, f1, f2, f3, f4, f5⟩ := hf it (by simp)
    exact I.turned (t' := s.toks) (fun b o hb q => hx' b o hb q) f0 f1 f3 f4 f5
  self := fun A i s Q E st h => let ⟨⟨_, he⟩, _⟩ := st; wpAny_pyIter_enum he h
def iEnumT (K : PySem.W.Frag) (ta : TA) : TI := fun σ H R => ta σ H fun vs H1 => ∃ a xs, vs = [.ref a] ∧ SqT K H1 a xs ∧ R (IteT K a) H1
section
variable {X : Cx} {e : Expr} {p pos tpos : Pos} {elts : List Expr} {kk : Nat}
theorem pi_enumT {ta : TA} (hg : Gl X "enumerate") (hm : X.mg "enumerate" = none) (ha : PA X [e] ta) (hs : starEach [e] X.env = [(false, eval e X.env)] := by rfl) :
    PI X (.Tuple elts kk tpos) (.Call (.Name "enumerate" p) [e] [] pos) (iEnumT X.K ta) := by
  refine ⟨fun pins s σ H R I h => ?_⟩
  refine Call_ (ld_blt I hg hm boot_enumerate (PyProof.Rows.callWith_type1 (thn (ha.run pos pins s σ H _ I h) fun us s1 h1 => ?_) hs rfl))
  obtain ⟨vs, H1, I1, r1, a, xs, ex, hq, q⟩ := h1
  subst ex
  cases r1 with
  | cons r rr =>
    cases rr
    cases r
    obtain ⟨its, rv, pt, hz⟩ := I1.tuple hq
    refine call_enumT pt fun h' he hit hk => wpAny_pyIter_enum he ?_
    refine ⟨s1.heap.objs.size + 1, [s1.heap.objs.size + 1, s1.heap.objs.size], _, _, H1, rfl, I1.kept (t' := s1.toks) hk, turn_enumT a (s1.heap.objs.size + 1) s1.heap.objs.size, ⟨⟨.none, he⟩, hit, Nat.succ_ne_self _⟩, fun b hb => ?_, q⟩
    have hle : s1.heap.objs.size ≤ b := by
      rcases (by simpa using hb : b = s1.heap.objs.size + 1 ∨ b = s1.heap.objs.size) with z | z
      · rw [z]; exact Nat.le_add_right _ _
      · rw [z]; exact Nat.le_refl _
    exact I1.fpOk hle (I1.hok.fresh hle)
/-- pairs of numbers and items -/
def enumD (ds : List D) : List D := ds.mapIdx fun i d => .tup [.int (i : Int), d]
theorem enumD_length {ds : List D} : (enumD ds).length = ds.length := List.length_mapIdx
theorem enumD_get {ds : List D} {i : Nat} {d : D} (h : (enumD ds)[i]? = some d) : ∃ x, ds[i]? = some x ∧ d = .tup [.int (i : Int), x] := by
  unfold enumD at h
  rw [List.getElem?_mapIdx] at h
  obtain ⟨x, h1, h2⟩ := Option.map_eq_some_iff.mp h
  exact ⟨x, h1, h2.symm⟩
def mEnum (m : MArg) : MItr := fun ρ S => (m ρ S).bind fun p => match p.1 with
  | [.tup ds] => some ((enumD ds, always), p.2)
  | [.lst ds] => some ((enumD ds, always), p.2)
  | [.lr n] => (lat p.2 n).bind fun ds => some ((enumD ds, still n ds), p.2)
  | _ => none
theorem pairNew {K : PySem.W.Frag} {H : Hp} {μ : Mu} {S : Store} {T : Addr} {x y : V} {d e : D} (s : StR K H μ S) (hT : H T = none) (r1 : Rp K H μ x d) (r2 : Rp K H μ y e) :
    Grow H (upd H T (.tup [x, y])) μ μ ∧ StR K (upd H T (.tup [x, y])) μ S ∧ Rp K (upd H T (.tup [x, y])) μ (.ref T) (.tup [d, e]) :=
  ⟨.new hT, s.new hT, .tup upd_same (.cons (r1.grow (.new hT)) (.cons (r2.grow (.new hT)) .nil))⟩
theorem isIt_enumT {K : PySem.W.Frag} {H0 : Hp} {μ0 : Mu} {a : Addr} {vs : List V} {ds : List D} (h1 : SqT K H0 a vs) (h2 : RpA K H0 μ0 vs ds) : IsIt K (IteT K a) H0 μ0 (enumD ds) always where
  go := fun i H μ S g s h hi => by
    rw [enumD_length] at hi
    have hi' : i < vs.length := by rw [h2.length]; exact hi
    exact ⟨vs, vs[i], g.sqT h1, List.getElem?_eq_getElem hi'⟩
  stop := fun H μ S g s h => ⟨vs, g.sqT h1, by rw [enumD_length, h2.length]; exact Nat.le_refl _⟩
  yld := fun i H μ S x H' g s h y d hd => by
    obtain ⟨T, z, rfl, hT, rfl, y⟩ := y
    obtain ⟨d', e1, rfl⟩ := enumD_get hd
    obtain ⟨w, h3, h4⟩ := (h2.grow g).get e1
    rw [y vs (g.sqT h1)] at h3
    cases h3
    exact pairNew s hT (.int _) h4
theorem isIt_enumL {K : PySem.W.Frag} {H0 : Hp} {μ0 : Mu} {n : Nat} {a : Addr} {ds : List D} (r : Rp K H0 μ0 (.ref a) (.lr n)) : IsIt K (Ite K a) H0 μ0 (enumD ds) (still n ds) where
  go := fun i H μ S g s h hi => by
    rw [enumD_length] at hi
    obtain ⟨a', vs, e1, h1, h2⟩ := s.lat (still_eq h) (r.grow g)
    cases e1
    have hi' : i < vs.length := by rw [h2.length]; exact hi
    exact ⟨vs, vs[i], h1, List.getElem?_eq_getElem hi'⟩
  stop := fun H μ S g s h => by
    obtain ⟨a', vs, e1, h1, h2⟩ := s.lat (still_eq h) (r.grow g)
    cases e1
    exact ⟨vs, h1, by rw [enumD_length, h2.length]; exact Nat.le_refl _⟩
  yld := fun i H μ S x H' g s h y d hd => by
    obtain ⟨T, z, rfl, hT, rfl, y⟩ := y
    obtain ⟨d', e1, rfl⟩ := enumD_get hd
    obtain ⟨a', vs, e2, h1, h2⟩ := s.lat (still_eq h) (r.grow g)
    cases e2
    obtain ⟨w, h3, h4⟩ := h2.get e1
    rw [y vs h1] at h3
    cases h3
    exact pairNew s hT (.int _) h4
theorem isIt_enumV {K : PySem.W.Frag} {H0 : Hp} {μ0 : Mu} {a : Addr} {vs : List V} {ds : List D} (h1 : LsV H0 μ0 a vs) (h2 : RpA K H0 μ0 vs ds) : IsIt K (Ite K a) H0 μ0 (enumD ds) always where
  go := fun i H μ S g s h hi => by
    rw [enumD_length] at hi
    have hi' : i < vs.length := by rw [h2.length]; exact hi
    exact ⟨vs, vs[i], (h1.grow g).sqL, List.getElem?_eq_getElem hi'⟩
  stop := fun H μ S g s h => ⟨vs, (h1.grow g).sqL, by rw [enumD_length, h2.length]; exact Nat.le_refl _⟩
  yld := fun i H μ S x H' g s h y d hd => by
    obtain ⟨T, z, rfl, hT, rfl, y⟩ := y
    obtain ⟨d', e1, rfl⟩ := enumD_get hd
    obtain ⟨w, h3, h4⟩ := (h2.grow g).get e1
    rw [y vs (h1.grow g).sqL] at h3
    cases h3
    exact pairNew s hT (.int _) h4
theorem mi_enum {m : MArg} (hg : Gl X "enumerate") (hm : X.mg "enumerate" = none) (ha : MA X [e] m) (hs : starEach [e] X.env = [(false, eval e X.env)] := by rfl) : MI X (.Tuple elts kk tpos) (.Call (.Name "enumerate" p) [e] [] pos) (mEnum m) := by
  refine ⟨⟨fun pins s σ H R I h => ?_⟩⟩
  obtain ⟨ρ, S, μ, p, S', st, e1, q⟩ := h
  obtain ⟨⟨ds, S1⟩, e2, e1⟩ := Option.bind_eq_some_iff.mp e1
  dsimp only at e1
  split at e1
  · cases e1
    refine (pi_enumT hg hm ha.pa hs).run pins s σ H R I ⟨ρ, S, μ, _, _, st, e2, fun vs H1 μ1 g1 s1 r1 => ?_⟩
    match vs, r1 with
    | _, .cons (.tup h1 h2) .nil => exact ⟨_, _, rfl, sq _ _ h1, q _ H1 μ1 g1 s1 (isIt_enumT (sq _ _ h1) h2)⟩
  · cases e1
    refine (pi_enum hg hm ha.pa hs).run pins s σ H R I ⟨ρ, S, μ, _, _, st, e2, fun vs H1 μ1 g1 s1 r1 => ?_⟩
    match vs, r1 with
    | _, .cons (.lst h1 h2) .nil => exact ⟨_, _, rfl, h1.sqL, q _ H1 μ1 g1 s1 (isIt_enumV h1 h2)⟩
  · obtain ⟨ds', e3, e1⟩ := Option.bind_eq_some_iff.mp e1
    cases e1
    refine (pi_enum hg hm ha.pa hs).run pins s σ H R I ⟨ρ, S, μ, _, _, st, e2, fun vs H1 μ1 g1 s1 r1 => ?_⟩
    match vs, r1 with
    | _, .cons r1 .nil =>
      obtain ⟨a, ws, rfl, h1, h2⟩ := s1.lat e3 r1
      exact ⟨a, ws, rfl, h1, q _ H1 μ1 g1 s1 (isIt_enumL r1)⟩
  · cases e1
end

/-! ### built-in functions -/
section
variable {X : Cx} {x : Str} {p pos : Pos} {e : Expr} {es : List Expr} {m : MArg} {f : DCall} {id T : String}
theorem me_callB (hc : CallR X (.builtin id) (rCM X.K f)) (hg : Gl X x) (hm : X.mg x = none) (hv : bootBuiltins x = some (.builtin id)) (ha : MA X (e :: es) m) (hn : x ≠ "__name__" := by decide) (hdb : (x == ("__debug__" : Str)) = false := by decide)
    (he : starEach (e :: es) X.env = (false, eval e X.env) :: starEach es X.env := by rfl) (hpl : (backTo pos (starEach es X.env)).any (·.1) = false := by rfl) : ME X (.Call (.Name x p) (e :: es) [] pos) (mCall f m) :=
  ⟨PE.imp (pe_callB hc hg hm hv ha.pa hn hdb he hpl) fun _ _ _ h => tE_call h⟩
theorem me_callTy (hc : CallR X (.type T) (rCM X.K f)) (hg : Gl X x) (hm : X.mg x = none) (hv : bootBuiltins x = some (.type T)) (ha : MA X (e :: es) m) (hn : x ≠ "__name__" := by decide) (hdb : (x == ("__debug__" : Str)) = false := by decide)
    (he : starEach (e :: es) X.env = (false, eval e X.env) :: starEach es X.env := by rfl) (hpl : (backTo pos (starEach es X.env)).any (·.1) = false := by rfl) : ME X (.Call (.Name x p) (e :: es) [] pos) (mCall f m) :=
  ⟨PE.imp (pe_callTy hc hg hm hv ha.pa hn hdb he hpl) fun _ _ _ h => tE_call h⟩
def cLen : DCall := fun ds S => match ds with
  | [d] => (items S d).bind fun xs => some (.int (xs.length : Int), S)
  | _ => none
theorem c_len : CallR X (.builtin "len") (rCM X.K cLen) := CallR.imp call_len_seq fun vs H Q ⟨S, μ, ds, d, S', s, r, e, q⟩ => by
  match ds, r, e with
  | [d0], .cons r1 .nil, e =>
    obtain ⟨xs, e1, e⟩ := Option.bind_eq_some_iff.mp (show ((items S d0).bind fun xs => some (D.int (xs.length : Int), S)) = some (d, S') from e)
    cases e
    obtain ⟨a, ws, rfl, h1, h2⟩ := s.items e1 r1
    exact ⟨a, ws, rfl, h1, by rw [h2.length]; exact q.id s (.int _)⟩
  | [], _, e => cases e
  | _ :: _ :: _, _, e => cases e
def cList : DCall := fun ds S => match ds with
  | [d] => (items S d).bind fun xs => some (.lr S.length, S ++ [.lst xs])
  | _ => none
theorem c_list : CallR X (.type "list") (rCM X.K cList) := CallR.imp call_list_of fun vs H Q ⟨S, μ, ds, d, S', s, r, e, q⟩ => by
  match ds, r, e with
  | [d0], .cons r1 .nil, e =>
    obtain ⟨xs, e1, e⟩ := Option.bind_eq_some_iff.mp (show ((items S d0).bind fun xs => some (D.lr S.length, S ++ [.lst xs])) = some (d, S') from e)
    cases e
    obtain ⟨a, ws, rfl, h1, h2⟩ := s.items e1 r1
    exact ⟨a, ws, rfl, h1, fun l hl => q.lst s h2 hl⟩
  | [], _, e => cases e
  | _ :: _ :: _, _, e => cases e
def cTuple : DCall := fun ds S => match ds with
  | [d] => (items S d).bind fun xs => some (.tup xs, S)
  | _ => none
theorem c_tuple : CallR X (.type "tuple") (rCM X.K cTuple) := CallR.imp call_tuple_of fun vs H Q ⟨S, μ, ds, d, S', s, r, e, q⟩ => by
  match ds, r, e with
  | [d0], .cons r1 .nil, e =>
    obtain ⟨xs, e1, e⟩ := Option.bind_eq_some_iff.mp (show ((items S d0).bind fun xs => some (D.tup xs, S)) = some (d, S') from e)
    cases e
    obtain ⟨a, ws, rfl, h1, h2⟩ := s.itemsO e1 r1
    refine ⟨a, ws, rfl, ?_⟩
    rcases h1 with h1 | ⟨h1, _⟩
    · exact .inl ⟨h1, fun l hl => q.tup s h2 hl⟩
    · exact .inr ⟨sq _ _ h1, q.id s (.tup h1 h2)⟩
  | [], _, e => cases e
  | _ :: _ :: _, _, e => cases e
def cInt : DCall := fun ds S => match ds with
  | [.int i] => some (.int i, S)
  | [.bl b] => some (.int (if b then 1 else 0), S)
  | _ => none
theorem c_int : CallR X (.type "int") (rCM X.K cInt) := CallR.imp call_int1 fun vs H Q ⟨S, μ, ds, d, S', s, r, e, q⟩ => by
  unfold cInt at e
  split at e
  · cases e
    match vs, r with
    | _, .cons (.int i) .nil => exact .inl ⟨_, rfl, q.id s (.int _)⟩
  · cases e
    match vs, r with
    | _, .cons (.bl i) .nil => exact .inr ⟨_, rfl, q.id s (.int _)⟩
  · cases e
def cAbs : DCall := fun ds S => match ds with
  | [.int i] => some (.int (if i < 0 then -i else i), S)
  | _ => none
theorem c_abs : CallR X (.builtin "abs") (rCM X.K cAbs) := CallR.imp call_abs fun vs H Q ⟨S, μ, ds, d, S', s, r, e, q⟩ => by
  unfold cAbs at e
  split at e
  · cases e
    match vs, r with
    | _, .cons (.int i) .nil => exact ⟨_, rfl, q.id s (.int _)⟩
  · cases e
def cMax : DCall := fun ds S => match ds with
  | [.int i, .int j] => some (.int (if j > i then j else i), S)
  | _ => none
theorem c_max (hc : X.calm = true) : CallR X (.builtin "max") (rCM X.K cMax) := CallR.imp (call_max2 hc) fun vs H Q ⟨S, μ, ds, d, S', s, r, e, q⟩ => by
  unfold cMax at e
  split at e
  · cases e
    match vs, r with
    | _, .cons (.int i) (.cons (.int j) .nil) => exact ⟨_, _, rfl, q.id s (.int _)⟩
  · cases e
def cMin : DCall := fun ds S => match ds with
  | [.int i, .int j] => some (.int (if j < i then j else i), S)
  | _ => none
theorem c_min (hc : X.calm = true) : CallR X (.builtin "min") (rCM X.K cMin) := CallR.imp (call_min2 hc) fun vs H Q ⟨S, μ, ds, d, S', s, r, e, q⟩ => by
  unfold cMin at e
  split at e
  · cases e
    match vs, r with
    | _, .cons (.int i) (.cons (.int j) .nil) => exact ⟨_, _, rfl, q.id s (.int _)⟩
  · cases e
/-- xs.append(e) -/
def mApp (m : MExp) (a : MArg) : MExp := fun ρ S => (m ρ S).bind fun p => match p.1 with
  | .lr n => (mat p.2 n).bind fun _ => (a ρ p.2).bind fun q => match q.1 with
    | [d] => (mat q.2 n).bind fun ds => if ds.length < szl then some (.non, q.2.set n (.lst (ds ++ [d]))) else none
    | _ => none
  | _ => none
theorem me_app {o : Expr} {mo : MExp} {apos cpos : Pos} (ho : ME X o mo) (ha : MA X (e :: es) m)
    (hbase : attributeBase o "append" X.env (eval o X.env) = eval o X.env := by rfl)
    (hfew : ((backTo cpos (starEach (e :: es) X.env)).all (fun x => !x.1) && (backToKw cpos (keywordEach [] X.env)).all (fun x => x.1.isSome)
      && decide ((e :: es).length + ([] : List Keyword).length + (if ([] : List Keyword).isEmpty then 0 else 1) < 30)) = true := by rfl)
    (hline : (apos.endLine == cpos.line) = true := by rfl) (hs : starEach (e :: es) X.env = (false, eval e X.env) :: starEach es X.env := by rfl) (hplain : (backTo cpos (starEach es X.env)).any (·.1) = false := by rfl) :
    ME X (.Call (.Attribute o "append" apos) (e :: es) [] cpos) (mApp mo m) :=
  ⟨PE.imp (pe_bm PySem.F.plainAttrs_list PySem.F.slot_list_append PySem.F.type_list_append mt_append ho.pe ha.pa hbase hfew hline hs hplain) fun σ H Q ⟨ρ, S, μ, d, S', st, e, q⟩ => by
    obtain ⟨⟨d1, S1⟩, e1, e⟩ := Option.bind_eq_some_iff.mp e
    refine ⟨ρ, S, μ, d1, S1, st, e1, fun v H1 μ1 g1 s1 r1 => ?_⟩
    cases d1 with
    | lr n =>
      obtain ⟨ds0, e2, e⟩ := Option.bind_eq_some_iff.mp (show ((mat S1 n).bind fun _ => (m ρ S1).bind fun q => (match q.1 with
        | [d] => (mat q.2 n).bind fun ds => if ds.length < szl then some (D.non, q.2.set n (.lst (ds ++ [d]))) else none
        | _ => none)) = some (d, S') from e)
      obtain ⟨⟨as, S2⟩, e3, e⟩ := Option.bind_eq_some_iff.mp e
      obtain ⟨a, vs, rfl, h1, h2, h3⟩ := s1.mat e2 r1
      refine ⟨.inl ⟨rfl, vs, .inl (.inl h2)⟩, ρ, S1, μ1, as, S2, st.grow g1 s1, e3, fun ws H2 μ2 g2 s2 r2 => ?_⟩
      match as, r2, e with
      | [d0], .cons r3 .nil, e =>
        obtain ⟨ds, e4, e⟩ := Option.bind_eq_some_iff.mp (show ((mat S2 n).bind fun ds => if ds.length < szl then some (D.non, S2.set n (.lst (ds ++ [d0]))) else none) = some (d, S') from e)
        split at e
        · rename_i hz
          cases e
          obtain ⟨a', vs', h4, h5, h6, h7⟩ := s2.mat e4 (r1.grow g2)
          cases h4
          refine ⟨a, vs', _, rfl, rfl, h6, by rw [h7.length]; exact szl_lt hz, ?_⟩
          exact q _ _ μ2 ((g1.trans g2).trans (.wrS s2 (mat_eq e4) rfl h5)) (s2.wr (mat_eq e4) h5 (h7.append (.cons r3 .nil))) .non
        · cases e
      | [], _, e => cases e
      | _ :: _ :: _, _, e => cases e
    | _ => cases e⟩
end
end MS

set_option Elab.async false
set_option linter.all false
set_option maxRecDepth 100000
set_option maxHeartbeats 4000000
namespace MS
open PySem PySem.Spec PyProof.Rows L2

/-! ### repr -/
def okShow (p : PyData) : Bool := p.showable && !p.hasDict && decide (p.depth ≤ 64) && decide (p.shown.length ≤ szl)
def cRepr : DCall := fun ds S => match ds with
  | [d] => (toPy S 64 d).bind fun p => if okShow p then some (.str p.shown, S) else none
  | _ => none
section
variable {X : Cx}
theorem c_repr (hg : X.A.guards = some []) (hu : X.A.units + 80 < cLine) : CallR X (.builtin "repr") (rCM X.K cRepr) := by
  intro pins s σ H xs us Q I r ⟨S, μ, ds, d, S', st, rr, e, q⟩
  unfold cRepr at e
  split at e
  · rename_i d0
    obtain ⟨p, e1, e⟩ := Option.bind_eq_some_iff.mp e
    split at e
    · rename_i hok
      cases e
      unfold okShow at hok
      simp only [Bool.and_eq_true, decide_eq_true_eq, Bool.not_eq_true'] at hok
      obtain ⟨⟨⟨h1, h2⟩, h3⟩, h4⟩ := hok
      have h4 : p.shown.length ≤ sizeLine := szl_le h4
      match xs, rr, us, r with
      | [v], .cons r1 .nil, [u], .cons ru .nil =>
        have dp := dp_of st 64 d0 v p e1 r1
        obtain ⟨as, rd⟩ := Dp.reads I p v u dp ru
        have fin : ∀ (t : Tok) (h' : Heap) (tk : Nat), (∀ b o, s.heap.get? b = some o → h'.get? b = some o) → EP X pins σ Q (.str p.shown t) { s with heap := h', toks := tk } := fun t h' tk hk => ⟨.str p.shown, H, I.kept (t' := tk) hk, ⟨t, rfl⟩, q.id st (.str _)⟩
        cases rd with
        | none => exact PySem.P.repr_of_none (fin _ _ _ fun _ _ z => z)
        | bool b => exact PySem.P.repr_of_bool (fin _ _ _ fun _ _ z => z)
        | int i t => exact PySem.P.repr_of_int (of_decide_eq_true h1) (fin _ _ _ fun _ _ z => z)
        | str x t => exact PySem.P.repr_of_str (fin _ _ _ fun _ _ z => z) h4
        | list a1 a2 a3 a4 => exact repr_of_reads' (.list a1 a2 a3 a4) h1 (fun z => by rw [h2] at z; cases z) hg (by omega) (fun _ _ z => z) (fun h' t tk hk => fin t h' tk hk) h4
        | tuple a1 a2 a3 a4 => exact repr_of_reads' (.tuple a1 a2 a3 a4) h1 (fun z => by rw [h2] at z; cases z) hg (by omega) (fun _ _ z => z) (fun h' t tk hk => fin t h' tk hk) h4
        | dict a1 a2 a3 a4 a5 => cases dp
    · cases e
  · cases e
end

/-! ### t[::-1] -/
section
variable {prog : Program} {w : World} {A : Around} {E : Value → Shared → Prop} {s : Shared}
theorem sliceApplied_back {sl : Addr} {vl vu vs : Value} {n : Nat} {Q : Int × Int × Nat → Shared → Prop} (hs : s.heap.IsSliceOf sl vl vu vs) (pl : IsPart vl none) (pu : IsPart vu none) (ps : IsPart vs (some (-1)))
    (h : Q ((n : Int) - 1, -1, n) s) : wpAny (model prog w) A (Builtin.Slice.sliceApplied (.ref sl) (pure (n : Int))) Q E s := by
  obtain ⟨os, hos, hcs, hds⟩ := id hs
  unfold Builtin.Slice.sliceApplied Builtin.Slice.sliceFields
  refine wpAny_bind (wpAny_bind (wpAny_field hos hds (x := vl) rfl (wpAny_bind (wpAny_field hos hds (x := vu) rfl (wpAny_bind (wpAny_field hos hds (x := vs) rfl (wpAny_pure ?_)))))))
  refine wpAny_bind (HT.slicePart_ ps ?_)
  show wpAny _ _ (if ((-1 : Int) == 0) = true then _ else _) _ _ s
  rw [if_neg (by decide)]
  refine wpAny_bind (HT.slicePart_ pl (wpAny_bind (HT.slicePart_ pu (wpAny_bind (wpAny_pure ?_)))))
  have e : Builtin.Slice.slicePlaces ((n : Int) - 1) (-1) (-1) = n := by
    unfold Builtin.Slice.slicePlaces
    simp only [show ¬ ((-1 : Int) > 0) by decide, if_false]
    split
    · rw [show (- -1 : Int) = 1 by decide, Int.ediv_one]; omega
    · omega
  show wpAny _ _ (pure ((n : Int) - 1, (-1 : Int), Builtin.Slice.slicePlaces ((n : Int) - 1) (-1) (-1))) _ _ s
  rw [e]
  exact wpAny_pure h
theorem fm_congr {α β : Type} {f g : α → Option β} : ∀ {l : List α}, (∀ x ∈ l, f x = g x) → l.filterMap f = l.filterMap g
  | [], _ => rfl
  | a :: l, h => by
    rw [List.filterMap_cons, List.filterMap_cons, h a (List.mem_cons_self ..), fm_congr fun x hx => h x (List.mem_cons_of_mem _ hx)]
theorem pick_back (xs : Array Value) : ((List.range xs.size).filterMap fun (m : Nat) => xs[((xs.size : Int) - 1 + (m : Int) * -1).toNat]?).toArray = xs.toList.reverse.toArray := by
  congr 1
  rw [← PySem.W.krv_all xs, ← List.filterMap_reverse, ← PySem.W.krv_range, List.filterMap_map]
  refine fm_congr fun m hm => ?_
  have := List.mem_range.mp hm
  show xs[((xs.size : Int) - 1 + (m : Int) * -1).toNat]? = xs[xs.size - 1 - m]?
  congr 1
  omega
theorem getItem_tuple_back {t sl : Addr} {its : Array Value} {vl vu vs : Value} {Q : Value → Shared → Prop} (ht : IsTup s.heap t its) (hs : s.heap.IsSliceOf sl vl vu vs) (pl : IsPart vl none) (pu : IsPart vu none) (ps : IsPart vs (some (-1)))
    (h : Q (.ref s.heap.objs.size) { s with heap := s.heap.push { cls := .type "tuple", data := .seq its.toList.reverse.toArray } }) (hsz : its.size ≤ sizeLine) : wpAny (model prog w) A (getItem (.ref t) (.ref sl)) Q E s := by
  have hlen : sizeOk (.seq its.toList.reverse.toArray) := by
    show its.toList.reverse.toArray.size ≤ sizeLine
    rw [List.size_toArray, List.length_reverse, Array.length_toList]
    exact hsz
  obtain ⟨os, hos, hcs, hds⟩ := id hs
  have hTs : s.TypeIs (.ref sl) "slice" := ⟨os, hos, hcs⟩
  unfold getItem
  try with_reducible refine wpAny_holding ?_
  first | refine wpAny_bind (wpAny_pure ?_) | skip
  refine wpAny_bind (wpAny_sequenceKey ht.typeIs (by decide) ?_)
  refine wpAny_bind (wpAny_callSpecial?_slot (name := Str.ofString "__getitem__") ht.typeIs PyProof.Rows.slot_tuple_getitem (wpAny_call_entry PyProof.Rows.slot_tuple_getitem ht.typeIs entry_tuple_getitem ?_ (args_tuple_getitem _ _)))
  show wpAny _ _ (Builtin.Tuple.tupleItemsOf (.ref t) >>= _) _ _ s
  refine wpAny_bind (tupleItemsOf_ ht (wpAny_bind (wpAny_typeOf hTs ?_)))
  rw [if_pos (by decide)]
  refine wpAny_bind (sliceApplied_back hs pl pu ps ?_)
  show wpAny _ _ (if (((its.size : Int) - 1 == 0) && ((-1 : Int) == 1) && (its.size == its.size)) = true then _ else _) _ _ s
  rw [if_neg (by simp), pick_back]
  first
    | exact wpAny_bind (m := Builtin.Tuple.tupleExact _) (wpAny_newObj_type (wpAny_pure ⟨_, rfl, wpAny_pure h⟩) hlen)
    | exact wpAny_bind (m := Builtin.Tuple.tupleExact _) (wpAny_newObj_type (wpAny_bind (wpAny_pure (wpAny_pure ⟨_, rfl, wpAny_pure h⟩))) hlen)
    | exact wpAny_bind (wpAny_bind (m := Builtin.Tuple.tupleExact _) (wpAny_newObj_type (wpAny_pure (wpAny_pure ⟨_, rfl, wpAny_pure h⟩)) hlen))
    | exact wpAny_bind (wpAny_bind (m := Builtin.Tuple.tupleExact _) (wpAny_newObj_type (wpAny_pure ⟨_, rfl, wpAny_pure h⟩) hlen))
end
def mRevT (m : MExp) : MExp := fun ρ S => (m ρ S).bind fun p => match p.1 with
  | .tup ds => some (.tup ds.reverse, p.2)
  | _ => none
theorem me_revT {X : Cx} {e : Expr} {m : MExp} {k : Nat} {p1 p2 p3 pos : Pos} (he : ME X e m) : ME X (.Subscript e (.Slice none none (some (.UnaryOp .USub (.Constant (.int 1) k p1) p2)) p3) pos) (mRevT m) := by
  refine ⟨⟨fun pins s σ H Q I ⟨ρ, S, μ, d, S', st, e, q⟩ => ?_⟩⟩
  obtain ⟨⟨d1, S1⟩, e1, e⟩ := Option.bind_eq_some_iff.mp e
  refine Subscript_ (thn (he.pe.run pins s σ H (fun v H1 => ∃ μ1, Grow H H1 μ μ1 ∧ StR X.K H1 μ1 S1 ∧ Rp X.K H1 μ1 v d1) I ⟨ρ, S, μ, d1, S1, st, e1, fun v H' μ' g1 s1 r1 => ⟨μ', g1, s1, r1⟩⟩) fun v s1 h1 => ?_)
  obtain ⟨x, H1, I1, r1, μ1, g1, st1, rp⟩ := h1
  cases d1 with
  | tup ds =>
    cases e
    cases rp with
    | tup hT hA =>
    cases r1
    have hst : PO X (some (.UnaryOp .USub (.Constant (.int 1) k p1) p2)) (tPart (tUn (rU fun i => .int (-i)) (tC (.int 1)))) := po_some (pe_un un_neg pe_int)
    refine wpAny_Slice (thn (po_none.run pins s1 σ H1 (fun o H2 => o = none ∧ H2 = H1) I1 ⟨rfl, rfl⟩) fun vl s2 h2 => ?_)
    obtain ⟨l, H2, I2, pl, rfl, rfl⟩ := h2
    refine thn (po_none.run pins s2 σ H2 (fun o H3 => o = none ∧ H3 = H2) I2 ⟨rfl, rfl⟩) fun vu s3 h3 => ?_
    obtain ⟨u, H3, I3, pu, rfl, rfl⟩ := h3
    refine thn (hst.run pins s3 σ H3 (fun o H4 => o = some (-1) ∧ H4 = H3) I3 ⟨1, rfl, -1, rfl, rfl, rfl⟩) fun vs s4 h4 => ?_
    obtain ⟨o, H4, I4, ps, rfl, rfl⟩ := h4
    have I5 : Inv X pins σ H4 { s4 with heap := s4.heap.push { cls := .type "slice", data := .fields #[vl, vu, vs] } } := I4.kept (t' := s4.toks) fun b ob q => Heap.get?_push_of_some _ q
    obtain ⟨its, r, ht, hz⟩ := I5.tuple (sq _ _ hT)
    have hlen := r.length
    rename_i a xs
    refine tail_any (ops := [.ref a, .ref s4.heap.objs.size]) ht.typeIs PyProof.Rows.slot_tuple_getitem.lookup ?_ (by with_unfolding_all rfl)
    refine getItem_tuple_back ht (Heap.IsSliceOf.new _ vl vu vs) pl pu ps ?_ (by rw [List.size_toArray]; omega)
    refine ⟨.ref _, _, I5.laid (t' := s4.toks) (o := .tup xs.reverse) (fun b ob q => Heap.get?_push_of_some _ q) (Nat.le_refl _) ?_, rfl, Aft.tup (fun v H' μ' g2 => q v H' μ' (g1.trans g2)) st1 hA.reverse (I5.hok.fresh (Nat.le_refl _))⟩
    exact ⟨by rw [List.length_reverse]; exact hz, _, by simpa using r.reverse, ⟨_, Heap.get?_push_size _ rfl, rfl, _, rfl⟩⟩
  | _ => cases e
end MS

set_option Elab.async false
set_option linter.all false
set_option maxRecDepth 100000
set_option maxHeartbeats 4000000
namespace MS
open PySem PySem.Spec PyProof.Rows L2

/-! ### what a def does, as a function of data -/
section
variable {P : Program} {w : World} {K : PySem.W.Frag} {mg : Str → Option Value} {base : Heap}
/-- called at level k the def does what F says wherever F says something, and raises nothing -/
structure FnG (P : Program) (w : World) (K : PySem.W.Frag) (mg : Str → Option Value) (base : Heap) (k : Nat) (f : Addr) (fd : FuncData) (ps : List Str) (F : DCall) : Prop where
  run : ∀ (A : Around) (outer : List Env) (s : Shared) (H : Hp) (args : Args) (us : List Value) (vs : List V) (Q : VK) (S : Store) (μ : Mu) (ds : List D) (d : D) (S' : Store), Room k A → A.guards = some [] → Env0 P w K mg base A outer s H →
    BindsTo s fd args (ps.zip us) → Vals vs us → vs.length = ps.length → StR K H μ S → RpA K H μ vs ds → F ds S = some (d, S') → Aft K H μ d S' Q → codeAny (model P w) A (.call (.ref f) args) (CR CX0 outer P w H s Q E0) s
theorem FnG.mono {j k : Nat} {f : Addr} {fd : FuncData} {ps : List Str} {F : DCall} (h : FnG P w K mg base j f fd ps F) (l : j ≤ k) : FnG P w K mg base k f fd ps F :=
  ⟨fun A outer s H args us vs Q S μ ds d S' hr => h.run A outer s H args us vs Q S μ ds d S' (hr.mono l)⟩
theorem FnG.imp {k : Nat} {f : Addr} {fd : FuncData} {ps : List Str} {F F' : DCall} (h : FnG P w K mg base k f fd ps F) (i : ∀ ds S r, F' ds S = some r → F ds S = some r) : FnG P w K mg base k f fd ps F' :=
  ⟨fun A outer s H args us vs Q S μ ds d S' hr hg he hb hv hl st ra e q => h.run A outer s H args us vs Q S μ ds d S' hr hg he hb hv hl st ra (i _ _ _ e) q⟩
def startD (n : Nat) (ds : List D) : Ev := ds.map some ++ List.replicate (n - ds.length) none
theorem sim_start {H : Hp} {μ : Mu} {S : Store} {N : List Str} {vs : List V} {ds : List D} (st : StR K H μ S) (r : RpA K H μ vs ds) : Sim K H μ (L2.start N vs) (startD N.length ds) S := by
  refine ⟨st, ?_, fun i d e => ?_⟩
  · unfold startD L2.start
    rw [List.length_append, List.length_append, List.length_map, List.length_map, List.length_replicate, List.length_replicate, r.length]
  · unfold startD at e
    by_cases hi : i < ds.length
    · rw [List.getElem?_append_left (by rw [List.length_map]; exact hi), List.getElem?_map] at e
      obtain ⟨d', h1, h2⟩ := Option.map_eq_some_iff.mp e
      cases h2
      obtain ⟨v, h3, h4⟩ := r.get h1
      refine ⟨v, ?_, h4⟩
      unfold L2.start
      rw [List.getElem?_append_left (by rw [List.length_map, r.length]; exact hi), List.getElem?_map, h3]
      rfl
    · rw [List.getElem?_append_right (by rw [List.length_map]; omega), List.getElem?_replicate] at e
      split at e <;> cases e
/-- what the body's reading must give -/
def Does (n : Nat) (m : MStm) (F : DCall) : Prop := ∀ ds S d S', F ds S = some (d, S') → ∃ f ρ', m (startD n ds) S = some (f, ρ', S') ∧ (f = .rt d ∨ (f = .nx ∧ d = .non))
/-- a def's context -/
abbrev bodyX (P : Program) (w : World) (K : PySem.W.Frag) (mg : Str → Option Value) (base : Heap) (N : List Str) (qual : Str) (st : Stmt) (f : Addr) (cdv : Value) (A : Around) (outer : List Env) (s : Shared) (H : Hp) : Cx := (cxOf CX0 P w K mg base N qual (defScope st) f cdv A outer s H E0).nox
theorem fnG_of {x qual : Str} {st : Stmt} {f : Addr} {fd : FuncData} {N ps : List Str} {k : Nat} {F : DCall} (fn : Fun K x qual st f fd) (sc : FnScope N ps (defScope st))
    (hbody : ∀ (cdv : Value) (A : Around) (outer : List Env) (s : Shared) (H : Hp), let X := bodyX P w K mg base N qual st f cdv A outer s H; Room k X.A → X.A.guards = some [] → ∃ m, MSs X (defBody st) m ∧ Does N.length m F) : FnG P w K mg base (k + 1) f fd ps F := by
  obtain ⟨oc, od, kV, doc, pm, an, cdv, ct, osl, rfl, lk, hcd⟩ := fn.ex
  refine ⟨fun A outer s H args us vs Q S μ ds d S' hr hg he hb hv hl st' ra e q => ?_⟩
  have KX : K.In s.heap := he.mod.kin.keeps fun b o z => (he.bs b o z).1
  have kinds : ∀ y ∈ ps.zip us, (defScope st).names.lookup y.1 = some .local ∨ ((defScope st).names.lookup y.1 = some .cell ∧ ((cellsFrom (s.heap.objs.size + 1) (defScope st).names []).lookup y.1).isSome = true) := by
    rintro ⟨y, z⟩ hy
    rcases sc.par y (List.of_mem_zip hy).1 with c | c
    · exact .inl c
    · exact .inr ⟨c, PySem.W.cellsFrom_some _ _ _ (.inl c)⟩
  refine codeAny_call_function hr.depth (KX _ _ lk) rfl sc.co sc.gen rfl (PySem.W.codeRec_of KX hcd) (hb _ _ _ _ (wpAny_newFunctionEnv_cells sc.kind kinds fun env he' s1 ic => ?_))
  subst he'
  refine ⟨(he.mod.nolimit.keeps fun b o z => (he.bs b o z).1).keeps ic.toInCall.keep, codeAny_func ?_⟩
  obtain ⟨m, hm, hd⟩ := hbody cdv A outer s H (hr.deeper _) (by show (A.deeper _).guards = some []; exact hg)
  obtain ⟨f', ρ', h1, h2⟩ := hd ds S d S' e
  have I0 : Inv (cxOf CX0 P w K mg base N qual (defScope st) f cdv A outer s H E0) [] (L2.start N vs) H s1 := inv_start sc hr.hd he hl hv ic
  have rd : tS K m { nx := fun _ H' => Q .non H', rt := Q } (L2.start N vs) H := by
    refine ⟨_, S, μ, f', ρ', S', sim_start st' ra, h1, fun σ' H' μ' g sm => ?_⟩
    rcases h2 with rfl | ⟨rfl, rfl⟩
    · exact fun v r => q v H' μ' g sm.st r
    · exact q .non H' μ' g sm.st .non
  refine wpAny_mono (hm.pss.nox.run [] s1 (L2.start N vs) H _ I0 rd) (fun fl s' hs => ?_) fun e s' hs => hs
  have done : ∀ {σ' : L2.St} {H' : Hp} {v : V} {u : Value}, Inv (cxOf CX0 P w K mg base N qual (defScope st) f cdv A outer s H E0) [] σ' H' s' → RelV v u → Q v H' → CE outer P w H s Q u s' :=
    fun J rv z => ⟨_, _, J.os, J.bare, J.base, J.hok, rv, z⟩
  cases fl with
  | ret u => obtain ⟨v, σ', H', J, rv, z⟩ := hs; exact done J rv z
  | next => obtain ⟨σ', H', J, z⟩ := hs; exact done (v := .non) (u := .none) J rfl z
  | brk => obtain ⟨_, _, _, z⟩ := hs; exact z.elim
  | cont => obtain ⟨_, _, _, z⟩ := hs; exact z.elim
end
section
variable {X : Cx} {k : Nat} {f : Addr} {fd : FuncData} {ps : List Str} {F : DCall} {x : Str} {p pos : Pos} {e : Expr} {es : List Expr} {m : MArg}
theorem run_fnG {pins : List (Addr × Obj)} {σ : L2.St} {H : Hp} {s : Shared} {Q : VK} {us : List Value} {vs : List V} (G : FnG X.prog X.w X.K X.mg X.base k f fd ps F) (hr : Room k X.A) (hgd : X.A.guards = some []) (hb : Binds X.K fd ps [])
    (hlen : ∀ ds S r, F ds S = some r → ds.length = ps.length) (I : Inv X pins σ H s) (r : Vals vs us) (h : rCM X.K F vs H Q) : wpAny (model X.prog X.w) X.A (call (.ref f) us) (EP X pins σ Q) X.xe s := by
  obtain ⟨S, μ, ds, d, S', st, ra, e, q⟩ := h
  have hl : vs.length = ps.length := by rw [ra.length]; exact hlen _ _ _ e
  have hb' : BindsTo s fd ⟨us, []⟩ (ps.zip us) := by
    have := hb s us I.kIn (by rw [List.append_nil, ← r.length]; exact hl)
    rwa [List.append_nil] at this
  refine wpAny_call (codeAny_mono (G.run X.A X.stack s H ⟨us, []⟩ us vs Q S μ ds d S' hr hgd I.env0 hb' r hl st ra e q) fun res s' hq => ?_)
  cases res with
  | error e => exact False.elim hq
  | ok fl =>
    cases fl with
    | ret u => exact I.after hq
    | next => exact False.elim hq
    | brk => exact False.elim hq
    | cont => exact False.elim hq
theorem me_call (G : FnG X.prog X.w X.K X.mg X.base k f fd ps F) (hr : Room k X.A) (hgd : X.A.guards = some []) (hg : Gl X x) (hm : X.mg x = some (.ref f)) (hk : PySem.W.keepIn X.K (.ref f) = true) (hb : Binds X.K fd ps [])
    (hlen : ∀ ds S r, F ds S = some r → ds.length = ps.length) (ha : MA X (e :: es) m) (hdb : (x == ("__debug__" : Str)) = false := by decide) (he : starEach (e :: es) X.env = (false, eval e X.env) :: starEach es X.env := by rfl)
    (hpl : (backTo pos (starEach es X.env)).any (·.1) = false := by rfl) : ME X (.Call (.Name x p) (e :: es) [] pos) (mCall F m) := by
  refine ⟨⟨fun pins s σ H Q I h => ?_⟩⟩
  refine wpAny_Call_Name_kw (ld_glob I hg hm (PySem.W.callWith_K (h₀ := X.base) I.ok.mod.kin hk (thn (ha.pa.run pos pins s σ H _ I (tE_call h)) fun us s1 h1 => ?_) he hpl) hdb)
  obtain ⟨vs, H1, I1, r, q⟩ := h1
  exact ⟨I1.kIn, run_fnG G hr hgd hb hlen I1 r q⟩
theorem me_call0 (G : FnG X.prog X.w X.K X.mg X.base k f fd ps F) (hr : Room k X.A) (hgd : X.A.guards = some []) (hg : Gl X x) (hm : X.mg x = some (.ref f)) (hk : PySem.W.keepIn X.K (.ref f) = true) (hb : Binds X.K fd ps [])
    (hlen : ∀ ds S r, F ds S = some r → ds.length = ps.length) (hdb : (x == ("__debug__" : Str)) = false := by decide) : ME X (.Call (.Name x p) [] [] pos) (mCall F mNil) := by
  refine ⟨⟨fun pins s σ H Q I h => ?_⟩⟩
  refine wpAny_Call_Name_kw (ld_glob I hg hm ?_ hdb)
  obtain ⟨ρ, S, μ, d, S', st, e, q⟩ := h
  exact PySem.W.callWith_K0 I.kIn hk (run_fnG (us := []) G hr hgd hb hlen I .nil ⟨S, μ, [], d, S', st.st, .nil, e, q⟩)
end

/-! ### the law's end -/
/-- a law's def gives True at every script of at most n ints -/
def LawOk (n : Nat) (F : DCall) : Prop := ∀ ns : List Int, ns.length ≤ n → ∃ S', F [.fl (ns.map D.int)] [] = some (.bl true, S')
theorem law_callG {P : Program} {w : World} {K : PySem.W.Frag} {mg mb : Str → Option Value} {k n : Nat} {fa a : Addr} {fd : FuncData} {x : Str} {F : DCall} {s₁ : Shared} {vs : List Value} {ns : List Int}
    (KX : K.In s₁.heap) (hns : s₁.heap.Ns mainGlobals mg) (hb : s₁.heap.Ns builtinsNs mb) (hbb : ∀ x : Str, x ≠ "__name__" → mb x = bootBuiltins x) (hlim : s₁.heap.NoLimit) (hg : s₁.gens = #[])
    (ha : s₁.heap.get? a = some { cls := .type "list", data := .seq vs.toArray }) (hi : IntsAre vs ns) (hl : ns.length ≤ n) (hn : n ≤ sizeLine) (hr : Room k callerA)
    (hF : ∀ base : Heap, K.In base → base.Ns mainGlobals mg → FnG P w K mg base k fa fd [x] F) (hbind : ∀ (s : Shared) (u : Value), BindsTo s fd ⟨[u], []⟩ [(x, u)]) (ok : LawOk n F) :
    codeAny (model P w) callerA (.call (.ref fa) ⟨[.ref a], []⟩) (fun r s' => r = .ok (.ret (.bool true)) ∧ OldK s₁.heap s'.heap ∧ s'.os = s₁.os ∧ AllBare s'.gens) s₁ := by
  have rv := vals_ints hi
  obtain ⟨S', hS'⟩ := ok ns hl
  have go : ∀ H : Hp, Only H → FzL K H a (ns.map V.int) → HOk P w H s₁.heap → (∀ b, H b ≠ none → b = a) → (H a ≠ none → K.lookup a = none) →
      codeAny (model P w) callerA (.call (.ref fa) ⟨[.ref a], []⟩) (fun r s' => r = .ok (.ret (.bool true)) ∧ OldK s₁.heap s'.heap ∧ s'.os = s₁.os ∧ AllBare s'.gens) s₁ := by
    intro H hO hS hok hA hK
    have isA : ∀ {b : Addr} {u : HO}, H b = some u → b = a := fun z => hA _ (by rw [z]; simp)
    have noDict : ∀ {b : Addr} {o : Obj} {es : Array DictEntry} {ep : Nat}, s₁.heap.get? b = some o → o.data = .dict es ep → H b = none := by
      intro b o es ep e d
      cases q : H b with
      | none => rfl
      | some u =>
        have z := isA q
        subst z
        rw [ha] at e
        cases e
        exact nomatch d
    have keepNs : ∀ {b : Addr} {m : Str → Option Value}, s₁.heap.Ns b m → (hidT s₁.heap H).Ns b m := fun ⟨o, es, ep, e, d, r⟩ => ⟨o, es, ep, hidT_get e (noDict e d), d, r⟩
    have hKb : K.In (hidT s₁.heap H) := fun b o e => hidT_get (KX b o e) (by
      cases q : H b with
      | none => rfl
      | some u =>
        have z := isA q
        subst z
        rw [hK (by rw [q]; simp)] at e
        cases e)
    have hM : Mod K mg (hidT s₁.heap H) := ⟨hKb, keepNs hns, ⟨mb, keepNs hb, hbb⟩, let ⟨mc, h1, h2⟩ := hlim; ⟨mc, keepNs h1, h2⟩⟩
    have e0 : Env0 P w K mg (hidT s₁.heap H) callerA [] s₁ H := ⟨rfl, hM, fun b o e => of_hidT e, Nat.le_of_eq (hidT_size _ _), trivial, fun b hb => absurd hb (List.not_mem_nil), hok, .of_eq hg⟩
    have st : StR K H ⟨[], []⟩ [] := ⟨rfl, fun i j b y z e1 => by simp at e1, fun i mo b e1 => by simp at e1, fun b hb => absurd hb List.not_mem_nil, fun i mo b e1 => by simp at e1⟩
    refine codeAny_mono ((hF _ hKb (keepNs hns)).run callerA [] s₁ H ⟨[.ref a], []⟩ [.ref a] [.ref a] (fun v _ => v = .bl true) _ _ _ _ _ hr rfl e0 (hbind s₁ (.ref a)) (.cons rfl .nil) rfl st (.cons (.fl hS RpA.ints) .nil) hS' (fun v H' μ' _ _ r => by cases r; rfl)) fun r s' h => ?_
    cases r with
    | error e => exact False.elim h
    | ok fl =>
      cases fl with
      | next => exact False.elim h
      | brk => exact False.elim h
      | cont => exact False.elim h
      | ret u =>
        obtain ⟨v, H', os, bare, un, hok', r', rfl⟩ := h
        obtain rfl : u = Value.bool true := r'
        refine ⟨rfl, OldK.of_keep fun b o e => ?_, os, bare⟩
        cases q : H b with
        | none => exact un.keep b o e q (List.not_mem_nil) (List.not_mem_nil)
        | some u =>
          rcases hO b with z | ⟨ob, xs, z⟩
          · rw [q] at z; cases z
          · obtain ⟨e1, _⟩ := hok b _ z
            obtain ⟨e2, _⟩ := hok' b _ (un.frzs b ob _ z)
            rw [e] at e1; cases e1
            exact e2
  cases hk : K.lookup a with
  | some o =>
    have e := KX a o hk
    rw [ha] at e
    cases e
    refine go (fun _ => none) (fun _ => .inl rfl) (.inr ⟨_, vs.toArray, _, hk, rfl, rfl, rfl, ?_, by simpa using rv⟩) (fun b u z => nomatch z) (fun b z => absurd rfl z) fun z => absurd rfl z
    rw [List.size_toArray, hi.length]; omega
  | none =>
    obtain ⟨H, h1, h2⟩ : ∃ H : Hp, H a = some (.frz { cls := .type "list", data := .seq vs.toArray } (.lst (ns.map V.int))) ∧ ∀ b, b ≠ a → H b = none :=
      ⟨fun b => if b = a then some (.frz { cls := .type "list", data := .seq vs.toArray } (.lst (ns.map V.int))) else none, if_pos rfl, fun b hb => if_neg hb⟩
    refine go H (fun b => ?_) (.inl ⟨_, h1⟩) (fun b u z => ?_) (fun b z => ?_) fun _ => hk
    · by_cases hb : b = a
      · rw [hb]; exact .inr ⟨_, _, h1⟩
      · exact .inl (h2 b hb)
    · by_cases hb : b = a
      · subst hb
        rw [h1] at z
        cases z
        exact ⟨ha, by rw [List.length_map]; omega, vs, _, rv, ha⟩
      · rw [h2 b hb] at z; cases z
    · by_cases hb : b = a
      · exact hb
      · exact absurd (h2 b hb) z
theorem walkG {l : PySem.W.OpenLaw} {n k : Nat} {q : Program} {loose : List Str} {XP : (Str → Option Value) → Heap → Prop} {YP : World → Heap → Prop} {d : DefRec} {K : Params → PySem.W.Frag} {F : DCall} {x : Str}
    (hn : l.most = some n) (hn2 : n ≤ sizeLine) (hdf : d.params.defaults = []) (hr : Room k callerA) (hY : ∀ (w : World) (h : Heap), YP w h → (K w.params).In h) (ok : LawOk n F)
    (hF : ∀ (w : World) (mg : Str → Option Value) (fa : Addr) (h : Heap), (K w.params).In h → h.Ns mainGlobals mg → mg d.name = some (.ref fa) →
      ∃ fd : FuncData, (∀ (s : Shared) (u : Value), BindsTo s fd ⟨[u], []⟩ [(x, u)]) ∧ ∀ base : Heap, (K w.params).In base → base.Ns mainGlobals mg → FnG l.prog w (K w.params) mg base k fa fd [x] F) :
    PySem.W.WalkO q loose XP YP l.row.toRowW d [] (fun f vs => PySem.call f vs) := by
  refine Att.attach_call hn hdf fun w s₀ s₁ mg mb fa o pm cd doc a vs ns G Y ho hd hcd hmg hobj hints hlen hg => ?_
  obtain ⟨fd, hb, hf⟩ := hF w mg fa _ (hY w _ Y) G.T.g hmg
  exact law_callG (hY w _ Y) G.T.g G.T.b G.T.builtins G.T.nolimit hg hobj hints hlen hn2 hr hf hb ok
end MS
namespace MS
open PySem PySem.Spec PyProof.Rows L2
/-! ### a def as its reading says -/
def den (np n : Nat) (m : MStm) : DCall := fun ds S => if ds.length = np then (match m (startD n ds) S with
  | some (.rt d, _, S') => some (d, S')
  | some (.nx, _, S') => some (.non, S')
  | _ => none) else none
theorem den_does {np n : Nat} {m : MStm} : Does n m (den np n m) := fun ds S d S' e => by
  unfold den at e
  split at e
  · split at e
    · rename_i h; cases e; exact ⟨_, _, h, .inl rfl⟩
    · rename_i h; cases e; exact ⟨_, _, h, .inr ⟨rfl, rfl⟩⟩
    · cases e
  · cases e
theorem den_len {np n : Nat} {m : MStm} {ds : List D} {S : Store} {r : D × Store} (e : den np n m ds S = some r) : ds.length = np := by
  unfold den at e
  split at e
  · assumption
  · cases e
/-! ### the built-in names -/
theorem boot_repr : bootBuiltins "repr" = some (.builtin "repr") := by decide +kernel
theorem boot_len : bootBuiltins "len" = some (.builtin "len") := by decide +kernel
theorem boot_abs : bootBuiltins "abs" = some (.builtin "abs") := by decide +kernel
theorem boot_min : bootBuiltins "min" = some (.builtin "min") := by decide +kernel
theorem boot_max : bootBuiltins "max" = some (.builtin "max") := by decide +kernel
theorem boot_int : bootBuiltins "int" = some (.type "int") := by decide +kernel
theorem boot_list : bootBuiltins "list" = some (.type "list") := by decide +kernel
theorem boot_tuple : bootBuiltins "tuple" = some (.type "tuple") := by decide +kernel
end MS
theorem MS.room80 {k : Nat} {A : PySem.Around} (r : L2.Room k A) : A.units + 80 < PySem.cLine := by have := r.un; omega

set_option Elab.async false
set_option linter.all false
set_option maxRecDepth 100000
set_option maxHeartbeats 4000000
namespace MS
open PySem PySem.Spec PyProof.Rows L2

/-! ### what is shown is short -/
mutual
def sml : PyData → Bool
  | .none => true
  | .bool _ => true
  | .int i => decide (i.natAbs < 10 ^ 40)
  | .list xs => smlAll xs
  | .tuple xs => smlAll xs
  | _ => false
def smlAll : List PyData → Bool
  | [] => true
  | x :: xs => sml x && smlAll xs
end
mutual
def wt : PyData → Nat
  | .list xs => wtAll xs + 3
  | .tuple xs => wtAll xs + 3
  | _ => 42
def wtAll : List PyData → Nat
  | [] => 0
  | x :: xs => wt x + 2 + wtAll xs
end
theorem log2_small {n : Nat} (h : n < 10 ^ 40) : n.log2 < 1920 := by
  by_cases h0 : n = 0
  · subst h0; decide
  · rw [Nat.log2_lt h0]
    exact Nat.lt_of_lt_of_le h (Nat.le_trans (by decide : 10 ^ 40 ≤ 2 ^ 200) (Nat.pow_le_pow_right (by decide) (by decide)))
theorem listText_le (ts : List Str) : (listText ts).length ≤ piled ts + 2 := by
  cases ts with
  | nil => decide
  | cons t r =>
    have h := textFrom_length_pos r 1 (("[" : Str) ++ (if (0 : Nat) > 0 then ", " else "" : String) ++ t) (Nat.succ_pos 0)
    show (textFrom 1 (("[" : Str) ++ (if (0 : Nat) > 0 then ", " else "" : String) ++ t) r ++ ("]" : String)).length ≤ _
    rw [strLen_append, h, strLen_append, strLen_append, piled_cons]
    have e1 : ((("[" : String) : Str)).length = 1 := rfl
    have e2 : ((("]" : String) : Str)).length = 1 := rfl
    have e3 : ((((if (0 : Nat) > 0 then ", " else "" : String)) : Str)).length = 0 := rfl
    rw [e1, e2, e3]
    omega
theorem tupleText_le (ts : List Str) : (tupleText ts).length ≤ piled ts + 3 := by
  unfold tupleText
  rw [strLen_append, strLen_append]
  have e1 : ((("(" : String) : Str)).length = 1 := rfl
  have e3 : (((if ts.length == 1 then ",)" else ")" : String) : Str)).length ≤ 2 := by split <;> decide
  rw [e1]
  cases ts with
  | nil =>
    have e2 : (Str.join ", " ([] : List Str)).length = 0 := rfl
    rw [e2, piled_nil]
    omega
  | cons t r =>
    have e2 := join_length_add (t :: r) (List.cons_ne_nil _ _)
    omega
mutual
theorem sml_shown : ∀ p : PyData, sml p = true → p.showable = true ∧ p.hasDict = false ∧ p.shown.length ≤ wt p
  | .none, _ => ⟨rfl, rfl, by decide⟩
  | .bool b, _ => ⟨rfl, rfl, by cases b <;> decide⟩
  | .int i, h => by
    have h' : i.natAbs < 10 ^ 40 := of_decide_eq_true h
    refine ⟨decide_eq_true (log2_small h'), rfl, ?_⟩
    have := int_text_length_le10 (a := i) (k := 40) (by decide) h'
    show ((toString i : String) : Str).length ≤ 42
    rw [PySem.ofString_length]
    omega
  | .list xs, h => by
    obtain ⟨h1, h2, h3⟩ := smlAll_shown xs h
    refine ⟨h1, h2, ?_⟩
    have := listText_le (PyData.shownAll xs)
    show (listText (PyData.shownAll xs)).length ≤ wtAll xs + 3
    omega
  | .tuple xs, h => by
    obtain ⟨h1, h2, h3⟩ := smlAll_shown xs h
    refine ⟨h1, h2, ?_⟩
    have := tupleText_le (PyData.shownAll xs)
    show (tupleText (PyData.shownAll xs)).length ≤ wtAll xs + 3
    omega
  | .str _, h => by cases h
  | .dict _, h => by cases h
theorem smlAll_shown : ∀ xs : List PyData, smlAll xs = true → PyData.showableAll xs = true ∧ PyData.hasDictAll xs = false ∧ piled (PyData.shownAll xs) ≤ wtAll xs
  | [], _ => ⟨rfl, rfl, Nat.le_refl _⟩
  | x :: xs, h => by
    have h : (sml x && smlAll xs) = true := h
    rw [Bool.and_eq_true] at h
    obtain ⟨h1, h2, h3⟩ := sml_shown x h.1
    obtain ⟨h4, h5, h6⟩ := smlAll_shown xs h.2
    refine ⟨?_, ?_, ?_⟩
    · show (x.showable && PyData.showableAll xs) = true
      rw [h1, h4]; rfl
    · show (x.hasDict || PyData.hasDictAll xs) = false
      rw [h2, h5]; rfl
    · show piled (x.shown :: PyData.shownAll xs) ≤ wt x + 2 + wtAll xs
      rw [piled_cons]
      omega
end
theorem okShow_of {p : PyData} (h : sml p = true) (hd : p.depth ≤ 64) (hw : wt p ≤ szl) : okShow p = true := by
  obtain ⟨h1, h2, h3⟩ := sml_shown p h
  unfold okShow
  rw [h1, h2]
  simp only [Bool.not_false, Bool.and_true, Bool.true_and, Bool.and_eq_true, decide_eq_true_eq]
  exact ⟨hd, Nat.le_trans h3 hw⟩

/-! ### loops by invariants -/
theorem forL_inv {ok : Store → Bool} {g : MTg} {b : MStm} (Pv : Nat → Ev → Store → Prop) : ∀ (ds : List D) (n : Nat) (ρ : Ev) (S : Store), Pv n ρ S →
    (∀ i x ρ S, ds[i]? = some x → Pv (n + i) ρ S → ok S = true ∧ ∃ ρ1 S1, g x ρ S = some (ρ1, S1) ∧ ∃ f ρ2 S2, b ρ1 S1 = some (f, ρ2, S2) ∧ (f = .nx ∨ f = .ct) ∧ Pv (n + i + 1) ρ2 S2) →
    (∀ ρ S, Pv (n + ds.length) ρ S → ok S = true) → ∃ ρ' S', forL ok g b ds ρ S = some (.nx, ρ', S') ∧ Pv (n + ds.length) ρ' S'
  | [], n, ρ, S, h0, _, he => ⟨ρ, S, by unfold forL; rw [if_pos (he ρ S h0)], h0⟩
  | x :: r, n, ρ, S, h0, hs, he => by
    obtain ⟨hok, ρ1, S1, e1, f, ρ2, S2, e2, hf, h2⟩ := hs 0 x ρ S rfl h0
    have hlen : n + (x :: r).length = (n + 1) + r.length := by rw [List.length_cons]; omega
    obtain ⟨ρ', S', e3, h3⟩ := forL_inv (ok := ok) (g := g) (b := b) Pv r (n + 1) ρ2 S2 h2 (fun i y ρ S hi hp => by
      have := hs (i + 1) y ρ S (by simpa using hi) (by rw [show n + (i + 1) = n + 1 + i by omega]; exact hp)
      rw [show n + (i + 1) = n + 1 + i by omega] at this
      exact this) (fun ρ S hp => he ρ S (by rw [hlen]; exact hp))
    refine ⟨ρ', S', ?_, by rw [hlen]; exact h3⟩
    unfold forL
    rw [if_pos hok, e1]
    show ((b ρ1 S1).bind fun q => match q.1 with
      | .nx => forL ok g b r q.2.1 q.2.2
      | .ct => forL ok g b r q.2.1 q.2.2
      | .bk => some (.nx, q.2.1, q.2.2)
      | .rt d => some (.rt d, q.2.1, q.2.2)) = _
    rw [e2]
    rcases hf with rfl | rfl <;> exact e3
/-- from 0 -/
theorem forL_by {ok : Store → Bool} {g : MTg} {b : MStm} (Pv : Nat → Ev → Store → Prop) {ds : List D} {ρ : Ev} {S : Store} (h0 : Pv 0 ρ S)
    (hs : ∀ i x ρ S, ds[i]? = some x → Pv i ρ S → ok S = true ∧ ∃ ρ1 S1, g x ρ S = some (ρ1, S1) ∧ ∃ f ρ2 S2, b ρ1 S1 = some (f, ρ2, S2) ∧ (f = .nx ∨ f = .ct) ∧ Pv (i + 1) ρ2 S2)
    (he : ∀ ρ S, Pv ds.length ρ S → ok S = true) : ∃ ρ' S', forL ok g b ds ρ S = some (.nx, ρ', S') ∧ Pv ds.length ρ' S' := by
  have := forL_inv (ok := ok) (g := g) (b := b) Pv ds 0 ρ S h0 (fun i x ρ S hi hp => by
    have := hs i x ρ S hi (by simpa using hp)
    simpa using this) (fun ρ S hp => he ρ S (by simpa using hp))
  simpa using this
/-- a comprehension -/
theorem lcL_by {ok : Store → Bool} {g : MTg} {t : MTst} {e : MExp} {ρw : Ev} {n : Nat} (Pv : Nat → Store → Prop) : ∀ (ds : List D) (k : Nat) (S : Store), Pv k S →
    (∀ i x S, ds[i]? = some x → Pv (k + i) S → ok S = true ∧ ∃ ρ1 S1, g x ρw S = some (ρ1, S1) ∧ ∃ c S2, t ρ1 S1 = some (c, S2) ∧
      if c = true then ∃ y S3 acc, e ρ1 S2 = some (y, S3) ∧ mat S3 n = some acc ∧ acc.length < szl ∧ Pv (k + i + 1) (S3.set n (.lst (acc ++ [y]))) else Pv (k + i + 1) S2) →
    (∀ S, Pv (k + ds.length) S → ok S = true) → ∃ S', lcL ok g t e ρw n ds S = some S' ∧ Pv (k + ds.length) S'
  | [], k, S, h0, _, he => ⟨S, by unfold lcL; rw [if_pos (he S h0)], h0⟩
  | x :: r, k, S, h0, hs, he => by
    obtain ⟨hok, ρ1, S1, e1, c, S2, e2, h2⟩ := hs 0 x S rfl h0
    have hlen : k + (x :: r).length = (k + 1) + r.length := by rw [List.length_cons]; omega
    have again : ∀ S, Pv (k + 1) S → ∃ S', lcL ok g t e ρw n r S = some S' ∧ Pv (k + 1 + r.length) S' := fun S hp => lcL_by Pv r (k + 1) S hp (fun i y S hi hp => by
      have := hs (i + 1) y S (by simpa using hi) (by rw [show k + (i + 1) = k + 1 + i by omega]; exact hp)
      rw [show k + (i + 1) = k + 1 + i by omega] at this
      exact this) (fun S hp => he S (by rw [hlen]; exact hp))
    cases c with
    | true =>
      obtain ⟨y, S3, acc, e3, e4, hz, hp⟩ := h2
      obtain ⟨S', e5, h5⟩ := again _ hp
      refine ⟨S', ?_, by rw [hlen]; exact h5⟩
      unfold lcL
      rw [if_pos hok, e1]
      show ((t ρ1 S1).bind fun k => if k.1 then (e ρ1 k.2).bind fun y => (mat y.2 n).bind fun acc => if acc.length < szl then lcL ok g t e ρw n r (y.2.set n (.lst (acc ++ [y.1]))) else none
        else lcL ok g t e ρw n r k.2) = _
      rw [e2]
      show ((e ρ1 S2).bind fun y => (mat y.2 n).bind fun acc => if acc.length < szl then lcL ok g t e ρw n r (y.2.set n (.lst (acc ++ [y.1]))) else none) = _
      rw [e3]
      show ((mat S3 n).bind fun acc => if acc.length < szl then lcL ok g t e ρw n r (S3.set n (.lst (acc ++ [y]))) else none) = _
      rw [e4]
      show (if acc.length < szl then lcL ok g t e ρw n r (S3.set n (.lst (acc ++ [y]))) else none) = _
      rw [if_pos hz]
      exact e5
    | false =>
      obtain ⟨S', e5, h5⟩ := again _ h2
      refine ⟨S', ?_, by rw [hlen]; exact h5⟩
      unfold lcL
      rw [if_pos hok, e1]
      show ((t ρ1 S1).bind fun k => if k.1 then (e ρ1 k.2).bind fun y => (mat y.2 n).bind fun acc => if acc.length < szl then lcL ok g t e ρw n r (y.2.set n (.lst (acc ++ [y.1]))) else none
        else lcL ok g t e ρw n r k.2) = _
      rw [e2]
      exact e5

/-! ### the store by handles -/
/-- what stood stands, but for the list at p -/
structure Keeps (p : Nat) (S S' : Store) : Prop where
  len : S.length ≤ S'.length
  at_ : ∀ n x, n ≠ p → S[n]? = some x → S'[n]? = some x
theorem Keeps.refl {p : Nat} {S : Store} : Keeps p S S := ⟨Nat.le_refl _, fun _ _ _ h => h⟩
theorem Keeps.trans {p : Nat} {S S' S'' : Store} (a : Keeps p S S') (b : Keeps p S' S'') : Keeps p S S'' := ⟨Nat.le_trans a.len b.len, fun n x h e => b.at_ n x h (a.at_ n x h e)⟩
theorem Keeps.set {p : Nat} {S : Store} {x : MO} : Keeps p S (S.set p x) := ⟨by rw [List.length_set]; exact Nat.le_refl _, fun n y h e => by rw [List.getElem?_set_ne h.symm]; exact e⟩
theorem Keeps.app {p : Nat} {S l : Store} : Keeps p S (S ++ l) := ⟨by rw [List.length_append]; omega, fun n y h e => by rw [List.getElem?_append_left (List.getElem?_eq_some_iff.mp e).1]; exact e⟩
theorem lat_lst {S : Store} {n : Nat} {ds : List D} (h : S[n]? = some (.lst ds)) : lat S n = some ds := by unfold lat; rw [h]
theorem mat_lst {S : Store} {n : Nat} {ds : List D} (h : S[n]? = some (.lst ds)) : mat S n = some ds := by unfold mat; rw [h]
theorem get_app {S : Store} {l : Store} {n : Nat} {x : MO} (h : S[n]? = some x) : (S ++ l)[n]? = some x := by rw [List.getElem?_append_left (List.getElem?_eq_some_iff.mp h).1]; exact h
theorem get_new {S : Store} {x : MO} : (S ++ [x])[S.length]? = some x := List.getElem?_concat_length
theorem get_set {S : Store} {n : Nat} {x y : MO} (h : S[n]? = some x) : (S.set n y)[n]? = some y := List.getElem?_set_self (List.getElem?_eq_some_iff.mp h).1
theorem get_ne {S : Store} {n m : Nat} {y : MO} (h : n ≠ m) : (S.set n y)[m]? = S[m]? := List.getElem?_set_ne h
end MS
/-! ### one step of a reading -/
local macro_rules | `(tactic| walk_at "ms") => `(tactic| skip)

set_option Elab.async false
set_option linter.all false
set_option maxRecDepth 100000
set_option maxHeartbeats 4000000
namespace MS
open PySem PySem.Spec PyProof.Rows L2

/-! ### going through a reading forwards -/
def GE {α : Type} (o : Option (α × Store)) (Q : α → Store → Prop) : Prop := ∃ a S', o = some (a, S') ∧ Q a S'
def GS (o : Option (Fl × Ev × Store)) (Q : Fl → Ev → Store → Prop) : Prop := ∃ f ρ' S', o = some (f, ρ', S') ∧ Q f ρ' S'
section
variable {α : Type} {ρ : Ev} {S : Store} {Q : D → Store → Prop} {QB : Bool → Store → Prop} {QA : List D → Store → Prop} {QS : Fl → Ev → Store → Prop} {QE : Ev → Store → Prop} {QI : (List D × (Store → Bool)) → Store → Prop}
  {m m' : MExp} {a : MArg} {t u : MTst} {f : DOp2} {fc : DCall} {d : D} {s s' : MStm} {g : MTg} {gs : MTgs}
theorem GE.mono {o : Option (α × Store)} {P P' : α → Store → Prop} (h : GE o P) (i : ∀ a S, P a S → P' a S) : GE o P' := let ⟨a, S', e, p⟩ := h; ⟨a, S', e, i _ _ p⟩
theorem GS.mono {o : Option (Fl × Ev × Store)} {P P' : Fl → Ev → Store → Prop} (h : GS o P) (i : ∀ f ρ S, P f ρ S → P' f ρ S) : GS o P' := let ⟨f, ρ', S', e, p⟩ := h; ⟨f, ρ', S', e, i _ _ _ p⟩
theorem ge_bind {β : Type} {o : Option (α × Store)} {k : α × Store → Option (β × Store)} {P : β → Store → Prop} (h : GE o fun a S' => GE (k (a, S')) P) : GE (o.bind k) P := by
  obtain ⟨a, S', e, b, S2, e2, p⟩ := h
  exact ⟨b, S2, by rw [e]; exact e2, p⟩
theorem gs_bind {o : Option (α × Store)} {k : α × Store → Option (Fl × Ev × Store)} {P : Fl → Ev → Store → Prop} (h : GE o fun a S' => GS (k (a, S')) P) : GS (o.bind k) P := by
  obtain ⟨a, S', e, f, r, S2, e2, p⟩ := h
  exact ⟨f, r, S2, by rw [e]; exact e2, p⟩
theorem gss_bind {o : Option (Fl × Ev × Store)} {k : Fl × Ev × Store → Option (Fl × Ev × Store)} {P : Fl → Ev → Store → Prop} (h : GS o fun f r S' => GS (k (f, r, S')) P) : GS (o.bind k) P := by
  obtain ⟨f, r, S', e, f2, r2, S2, e2, p⟩ := h
  exact ⟨f2, r2, S2, by rw [e]; exact e2, p⟩
theorem ge_of {x : α} {P : α → Store → Prop} (h : P x S) : GE (some (x, S)) P := ⟨_, _, rfl, h⟩
theorem gs_of {x : Fl} {P : Fl → Ev → Store → Prop} (h : P x ρ S) : GS (some (x, ρ, S)) P := ⟨_, _, _, rfl, h⟩
theorem ge_eq {o : Option (α × Store)} {x : α} {S' : Store} {P : α → Store → Prop} (e : o = some (x, S')) (h : P x S') : GE o P := ⟨_, _, e, h⟩
/-! expressions -/
theorem ge_var {i : Nat} (e : ρ[i]? = some (some d)) (q : Q d S) : GE (mVar i ρ S) Q := ⟨d, S, by unfold mVar; rw [e], q⟩
theorem ge_c (q : Q d S) : GE (mC d ρ S) Q := ⟨d, S, rfl, q⟩
theorem ge_nil (q : QA [] S) : GE (mNil ρ S) QA := ⟨_, _, rfl, q⟩
theorem ge_cons (h : GE (m ρ S) fun x S1 => GE (a ρ S1) fun xs S2 => QA (x :: xs) S2) : GE (mCons m a ρ S) QA := ge_bind (h.mono fun _ _ h => ge_bind (h.mono fun _ _ h => ge_of h))
theorem ge_bin (h : GE (m ρ S) fun x S1 => GE (m' ρ S1) fun y S2 => GE (f x y S2) Q) : GE (mBin f m m' ρ S) Q := ge_bind (h.mono fun _ _ h => ge_bind h)
theorem ge_call (h : GE (a ρ S) fun xs S1 => GE (fc xs S1) Q) : GE (mCall fc a ρ S) Q := ge_bind h
theorem ge_tup (h : GE (a ρ S) fun xs S1 => xs.length ≤ szl ∧ Q (.tup xs) S1) : GE (mTup a ρ S) Q := ge_bind (h.mono fun xs S1 ⟨h1, h2⟩ => ⟨_, _, if_pos h1, h2⟩)
theorem ge_lst (h : GE (a ρ S) fun xs S1 => xs.length ≤ szl ∧ Q (.lr S1.length) (S1 ++ [.lst xs])) : GE (mLst a ρ S) Q := ge_bind (h.mono fun xs S1 ⟨h1, h2⟩ => ⟨_, _, if_pos h1, h2⟩)
theorem ge_B (h : GE (m ρ S) fun x S1 => ∃ b, x = .bl b ∧ QB b S1) : GE (mB m ρ S) QB := ge_bind (h.mono fun x S1 ⟨b, e, h⟩ => by subst e; exact ge_of h)
theorem ge_and (h : GE (t ρ S) fun b S1 => (b = true → GE (u ρ S1) QB) ∧ (b = false → QB false S1)) : GE (mAnd t u ρ S) QB := ge_bind (h.mono fun b S1 ⟨h1, h2⟩ => by
  cases b with
  | true => exact h1 rfl
  | false => exact ge_of (h2 rfl))
theorem ge_or (h : GE (t ρ S) fun b S1 => (b = true → QB true S1) ∧ (b = false → GE (u ρ S1) QB)) : GE (mOr t u ρ S) QB := ge_bind (h.mono fun b S1 ⟨h1, h2⟩ => by
  cases b with
  | true => exact ge_of (h1 rfl)
  | false => exact h2 rfl)
theorem ge_not (h : GE (t ρ S) fun b S1 => QB (!b) S1) : GE (mNot t ρ S) QB := ge_bind (h.mono fun _ _ h => ge_of h)
theorem ge_if (h : GE (t ρ S) fun b S1 => (b = true → GE (m ρ S1) Q) ∧ (b = false → GE (m' ρ S1) Q)) : GE (mIf t m m' ρ S) Q := ge_bind (h.mono fun b S1 ⟨h1, h2⟩ => by
  cases b with
  | true => exact h1 rfl
  | false => exact h2 rfl)
theorem ge_andV (h : GE (m ρ S) fun x S1 => ∃ b, x = .bl b ∧ (b = true → GE (m' ρ S1) Q) ∧ (b = false → Q (.bl false) S1)) : GE (mAndV m m' ρ S) Q := ge_bind (h.mono fun x S1 ⟨b, e, h1, h2⟩ => by
  subst e
  cases b with
  | true => exact h1 rfl
  | false => exact ge_of (h2 rfl))
theorem ge_orV (h : GE (m ρ S) fun x S1 => ∃ b, x = .bl b ∧ (b = true → Q (.bl true) S1) ∧ (b = false → GE (m' ρ S1) Q)) : GE (mOrV m m' ρ S) Q := ge_bind (h.mono fun x S1 ⟨b, e, h1, h2⟩ => by
  subst e
  cases b with
  | true => exact ge_of (h1 rfl)
  | false => exact h2 rfl)
theorem ge_notV (h : GE (m ρ S) fun x S1 => ∃ b, x = .bl b ∧ Q (.bl (!b)) S1) : GE (mNotV m ρ S) Q := ge_bind (h.mono fun x S1 ⟨b, e, h⟩ => by subst e; exact ge_of h)
theorem ge_neg (h : GE (m ρ S) fun x S1 => ∃ i, x = .int i ∧ Q (.int (-i)) S1) : GE (mNeg m ρ S) Q := ge_bind (h.mono fun x S1 ⟨b, e, h⟩ => by subst e; exact ge_of h)
theorem ge_noPart {P : Option Int → Store → Prop} (h : P none S) : GE (mNoPart ρ S) P := ge_of h
theorem ge_part {P : Option Int → Store → Prop} (h : GE (m ρ S) fun x S1 => ∃ i, x = .int i ∧ P (some i) S1) : GE (mPart m ρ S) P := ge_bind (h.mono fun x S1 ⟨b, e, h⟩ => by subst e; exact ge_of h)
theorem ge_sl {lo hi : MPart} (h : GE (m ρ S) fun x S1 => GE (lo ρ S1) fun l S2 => GE (hi ρ S2) fun r S3 => GE (fSl x l r S3) Q) : GE (mSl m lo hi ρ S) Q := ge_bind (h.mono fun _ _ h => ge_bind (h.mono fun _ _ h => ge_bind h))
theorem ge_revT (h : GE (m ρ S) fun x S1 => ∃ ds, x = .tup ds ∧ Q (.tup ds.reverse) S1) : GE (mRevT m ρ S) Q := ge_bind (h.mono fun x S1 ⟨b, e, h⟩ => by subst e; exact ge_of h)
theorem ge_app (h : GE (m ρ S) fun x S1 => ∃ n, x = .lr n ∧ (∃ z, mat S1 n = some z) ∧ GE (a ρ S1) fun xs S2 => ∃ y ds, xs = [y] ∧ mat S2 n = some ds ∧ ds.length < szl ∧ Q .non (S2.set n (.lst (ds ++ [y])))) : GE (mApp m a ρ S) Q :=
  ge_bind (h.mono fun x S1 ⟨n, e, ⟨z, hz⟩, h⟩ => by
    subst e
    show GE ((mat S1 n).bind fun _ => _) Q
    rw [hz]
    refine ge_bind (h.mono fun xs S2 ⟨y, ds, e, h1, h2, h3⟩ => ?_)
    subst e
    show GE ((mat S2 n).bind fun ds => if ds.length < szl then some (D.non, S2.set n (.lst (ds ++ [y]))) else none) Q
    rw [h1]
    exact ⟨_, _, if_pos h2, h3⟩)
theorem ge_lc {i : MItr} {e : MExp} {vs : List Nat} (h : GE (i ρ S) fun p S1 => ∃ S2, lcL p.2 g t e (wipeD ρ vs) S1.length p.1 (S1 ++ [.lst []]) = some S2 ∧ Q (.lr S1.length) S2) : GE (mLc i g t e vs ρ S) Q :=
  ge_bind (h.mono fun p S1 ⟨S2, e1, h⟩ => ⟨_, _, by show (lcL p.2 g t e (wipeD ρ vs) S1.length p.1 (S1 ++ [.lst []])).bind _ = _; rw [e1]; rfl, h⟩)
theorem ge_chain {f' : DOp2} {mc : MExp} (h : GE (m ρ S) fun x S1 => GE (m' ρ S1) fun y S2 => GE (f x y S2) fun z S3 => ∃ b, z = .bl b ∧ (b = true → GE (mc ρ S3) fun w S4 => GE (f' y w S4) Q) ∧ (b = false → Q (.bl false) S3)) : GE (mChain f f' m m' mc ρ S) Q :=
  ge_bind (h.mono fun x S1 h => ge_bind (h.mono fun y S2 h => ge_bind (h.mono fun z S3 ⟨b, e, h1, h2⟩ => by
    subst e
    cases b with
    | true => exact ge_bind (h1 rfl)
    | false => exact ge_of (h2 rfl))))
/-! what is walked -/
theorem gi_items (h : GE (m ρ S) fun x S1 => (∃ ds, x = .tup ds ∧ QI (ds, always) S1) ∨ ∃ n ds, x = .lr n ∧ lat S1 n = some ds ∧ QI (ds, still n ds) S1) : GE (mItems m ρ S) QI := ge_bind (h.mono fun x S1 h => by
  rcases h with ⟨b, e, h⟩ | ⟨n, ds, e, h1, h⟩
  · subst e; exact ge_of h
  · subst e
    show GE ((lat S1 n).bind fun ds => some ((ds, still n ds), S1)) QI
    rw [h1]
    exact ge_of h)
theorem gi_range1 (h : GE (a ρ S) fun xs S1 => ∃ j, xs = [.int j] ∧ r62 j = true ∧ QI (rangeD 0 j.toNat, always) S1) : GE (mRange1 a ρ S) QI := ge_bind (h.mono fun x S1 ⟨j, e, h1, h⟩ => by subst e; exact ⟨_, _, if_pos h1, h⟩)
theorem gi_range2 (h : GE (a ρ S) fun xs S1 => ∃ i j, xs = [.int i, .int j] ∧ (r62 i && r62 j) = true ∧ QI (rangeD i (j - i).toNat, always) S1) : GE (mRange2 a ρ S) QI := ge_bind (h.mono fun x S1 ⟨i, j, e, h1, h⟩ => by subst e; exact ⟨_, _, if_pos h1, h⟩)
theorem gi_enum (h : GE (a ρ S) fun xs S1 => (∃ ds, xs = [.tup ds] ∧ QI (enumD ds, always) S1) ∨ ∃ n ds, xs = [.lr n] ∧ lat S1 n = some ds ∧ QI (enumD ds, still n ds) S1) : GE (mEnum a ρ S) QI := ge_bind (h.mono fun x S1 h => by
  rcases h with ⟨b, e, h⟩ | ⟨n, ds, e, h1, h⟩
  · subst e; exact ge_of h
  · subst e
    show GE ((lat S1 n).bind fun ds => some ((enumD ds, still n ds), S1)) QI
    rw [h1]
    exact ge_of h)
/-! statements -/
theorem gs_nx (h : QS .nx ρ S) : GS (mNx ρ S) QS := gs_of h
theorem gs_bk (h : QS .bk ρ S) : GS (mBk ρ S) QS := gs_of h
theorem gs_ct (h : QS .ct ρ S) : GS (mCt ρ S) QS := gs_of h
/-- what follows a statement in a block -/
def Then (s' : MStm) (QS : Fl → Ev → Store → Prop) : Fl → Ev → Store → Prop := fun f r S1 => match f with
  | .nx => GS (s' r S1) QS
  | f => QS f r S1
theorem then_nx (h : GS (s' ρ S) QS) : Then s' QS .nx ρ S := h
theorem then_rt (h : QS (.rt d) ρ S) : Then s' QS (.rt d) ρ S := h
theorem then_ct (h : QS .ct ρ S) : Then s' QS .ct ρ S := h
theorem then_bk (h : QS .bk ρ S) : Then s' QS .bk ρ S := h
theorem gs_seq (h : GS (s ρ S) (Then s' QS)) : GS (mSeq s s' ρ S) QS := gss_bind (h.mono fun f r S1 h => by
  cases f with
  | nx => exact h
  | _ => exact gs_of h)
theorem gs_ret (h : GE (m ρ S) fun x S1 => QS (.rt x) ρ S1) : GS (mRet m ρ S) QS := gs_bind (h.mono fun _ _ h => gs_of h)
theorem gs_retN (h : QS (.rt .non) ρ S) : GS (mRetN ρ S) QS := gs_of h
theorem gs_drop (h : GE (m ρ S) fun x S1 => QS .nx ρ S1) : GS (mDrop m ρ S) QS := gs_bind (h.mono fun _ _ h => gs_of h)
theorem gs_if (h : GE (t ρ S) fun b S1 => (b = true → GS (s ρ S1) QS) ∧ (b = false → GS (s' ρ S1) QS)) : GS (mIfS t s s' ρ S) QS := gs_bind (h.mono fun b S1 ⟨h1, h2⟩ => by
  cases b with
  | true => exact h1 rfl
  | false => exact h2 rfl)
theorem gs_asg (h : GE (m ρ S) fun x S1 => GE (g x ρ S1) fun r S2 => QS .nx r S2) : GS (mAsg m g ρ S) QS := gs_bind (h.mono fun x S1 h => gs_bind (h.mono fun _ _ h => gs_of h))
theorem gs_par {i j : Nat} (h : GE (a ρ S) fun xs S1 => ∃ x y, xs = [x, y] ∧ QS .nx ((ρ.set i (some x)).set j (some y)) S1) : GS (mPar i j a ρ S) QS := gs_bind (h.mono fun xs S1 ⟨x, y, e, h⟩ => by subst e; exact gs_of h)
theorem gs_aug {i : Nat} (e : ρ[i]? = some (some d)) (h : GE (m ρ S) fun x S1 => GE (f d x S1) fun z S2 => QS .nx (ρ.set i (some z)) S2) : GS (mAug i f m ρ S) QS := by
  unfold mAug
  rw [e]
  exact gs_bind (h.mono fun x S1 h => gs_bind (h.mono fun _ _ h => gs_of h))
theorem gs_for {i : MItr} (h : GE (i ρ S) fun p S1 => GS (forL p.2 g s p.1 ρ S1) QS) : GS (mFor i g s ρ S) QS := gs_bind h
/-! targets -/
theorem gt_name {i : Nat} (h : QE (ρ.set i (some d)) S) : GE (mName i d ρ S) QE := ge_of h
theorem gt_nil (h : QE ρ S) : GE (mgNil [] ρ S) QE := ge_of h
theorem gt_cons {ds : List D} (h : GE (g d ρ S) fun r S1 => GE (gs ds r S1) QE) : GE (mgCons g gs (d :: ds) ρ S) QE := ge_bind h
theorem gt_tup {ds : List D} {n : Nat} (e : ds.length = n) (h : GE (gs ds ρ S) QE) : GE (mgTup gs n (.tup ds) ρ S) QE := by
  show GE (if ds.length = n then gs ds ρ S else none) QE
  rw [if_pos e]
  exact h
theorem gt_sub {mi : MExp} (h : GE (m ρ S) fun x S1 => GE (mi ρ S1) fun i S2 => ∃ n k ds j, x = .lr n ∧ i = .int k ∧ mat S2 n = some ds ∧ L2.ixN ds.length k = some j ∧ QE ρ (S2.set n (.lst (ds.set j d)))) : GE (mgSub m mi d ρ S) QE :=
  ge_bind (h.mono fun x S1 h => ge_bind (h.mono fun i S2 ⟨n, k, ds, j, e1, e2, h1, h2, h3⟩ => by
    subst e1 e2
    show GE ((mat S2 n).bind fun ds => (L2.ixN ds.length k).bind fun j => some (ρ, S2.set n (.lst (ds.set j d)))) QE
    rw [h1]
    show GE ((L2.ixN ds.length k).bind fun j => some (ρ, S2.set n (.lst (ds.set j d)))) QE
    rw [h2]
    exact ge_of h3))
/-! operations -/
theorem ge_fI {k : Int → Int → Int} {i j : Int} (h : Q (.int (k i j)) S) : GE (fI k (.int i) (.int j) S) Q := ge_of h
theorem ge_sub {i j : Int} (h : Q (.int (i - j)) S) : GE (fSub (.int i) (.int j) S) Q := ge_of h
theorem ge_add {i j : Int} (h : Q (.int (i + j)) S) : GE (fAdd (.int i) (.int j) S) Q := ge_of h
theorem ge_addT {x y : List D} (hz : x.length + y.length ≤ szl) (h : Q (.tup (x ++ y)) S) : GE (fAdd (.tup x) (.tup y) S) Q := ⟨_, _, if_pos hz, h⟩
theorem ge_addL {n k : Nat} {x y : List D} (h1 : mat S n = some x) (h2 : mat S k = some y) (hz : x.length + y.length ≤ szl) (h : Q (.lr S.length) (S ++ [.lst (x ++ y)])) : GE (fAdd (.lr n) (.lr k) S) Q := by
  show GE ((mat S n).bind fun a => (mat S k).bind fun b => if a.length + b.length ≤ szl then some (D.lr S.length, S ++ [.lst (a ++ b)]) else none) Q
  rw [h1, h2]
  exact ⟨_, _, if_pos hz, h⟩
theorem ge_mul {i j : Int} (hc : (i64 i || i64 j) = true) (h : Q (.int (i * j)) S) : GE (fMul (.int i) (.int j) S) Q := ⟨_, _, if_pos hc, h⟩
theorem ge_mod {i j : Int} (hc : 0 < j) (h : Q (.int (i % j)) S) : GE (fMod (.int i) (.int j) S) Q := ⟨_, _, if_pos (decide_eq_true hc), h⟩
theorem ge_div {i j : Int} (hc : 0 < j) (hd : j < 1073741824) (h : Q (.int (i / j)) S) : GE (fDiv (.int i) (.int j) S) Q := ⟨_, _, if_pos (by simp [hc, hd]), h⟩
theorem ge_pow {i j : Int} (hc : (decide (0 ≤ j) && decide (j ≤ 1000) && i64 i) = true) (h : Q (.int (i ^ j.toNat)) S) : GE (fPow (.int i) (.int j) S) Q := ⟨_, _, if_pos hc, h⟩
theorem ge_lt {i j : Int} (h : Q (.bl (decide (i < j))) S) : GE (fLt (.int i) (.int j) S) Q := ge_of h
theorem ge_le {i j : Int} (h : Q (.bl (decide (i ≤ j))) S) : GE (fLe (.int i) (.int j) S) Q := ge_of h
theorem ge_gt {i j : Int} (h : Q (.bl (decide (j < i))) S) : GE (fGt (.int i) (.int j) S) Q := ge_of h
theorem ge_ge {i j : Int} (h : Q (.bl (decide (j ≤ i))) S) : GE (fGe (.int i) (.int j) S) Q := ge_of h
theorem ge_eqI {i j : Int} (h : Q (.bl (decide (i = j))) S) : GE (fEq (.int i) (.int j) S) Q := ge_of h
theorem ge_neI {i j : Int} (h : Q (.bl (!decide (i = j))) S) : GE (fNe (.int i) (.int j) S) Q := ge_of h
theorem ge_eqS {i j : Str} (h : Q (.bl (decide (i = j))) S) : GE (fEq (.str i) (.str j) S) Q := ge_of h
theorem ge_neS {i j : Str} (h : Q (.bl (!decide (i = j))) S) : GE (fNe (.str i) (.str j) S) Q := ge_of h
theorem ge_ixT {ds : List D} {i : Int} (e : L2.atI ds i = some d) (h : Q d S) : GE (fIx (.tup ds) (.int i) S) Q := by
  show GE ((L2.atI ds i).map fun d => (d, S)) Q
  rw [e]
  exact ge_of h
theorem ge_ixL {n : Nat} {ds : List D} {i : Int} (hl : lat S n = some ds) (e : L2.atI ds i = some d) (h : Q d S) : GE (fIx (.lr n) (.int i) S) Q := by
  show GE ((lat S n).bind fun ds => (L2.atI ds i).map fun d => (d, S)) Q
  rw [hl]
  show GE ((L2.atI ds i).map fun d => (d, S)) Q
  rw [e]
  exact ge_of h
theorem ge_in {b : Bool} {x y : D} {ds : List D} (hi : items S y = some ds) (hf : (flatD x && ds.all flatD) = true) (h : Q (.bl (if b then !inD x ds else inD x ds)) S) : GE (fIn b x y S) Q := by
  show GE ((items S y).bind fun ds => if flatD x && ds.all flatD then some (D.bl (if b then !inD x ds else inD x ds), S) else none) Q
  rw [hi]
  exact ⟨_, _, if_pos hf, h⟩
theorem ge_len {x : D} {ds : List D} (hi : items S x = some ds) (h : Q (.int (ds.length : Int)) S) : GE (cLen [x] S) Q := by
  show GE ((items S x).bind fun xs => some (D.int (xs.length : Int), S)) Q
  rw [hi]
  exact ge_of h
theorem ge_list {x : D} {ds : List D} (hi : items S x = some ds) (h : Q (.lr S.length) (S ++ [.lst ds])) : GE (cList [x] S) Q := by
  show GE ((items S x).bind fun xs => some (D.lr S.length, S ++ [.lst xs])) Q
  rw [hi]
  exact ge_of h
theorem ge_tuple {x : D} {ds : List D} (hi : items S x = some ds) (h : Q (.tup ds) S) : GE (cTuple [x] S) Q := by
  show GE ((items S x).bind fun xs => some (D.tup xs, S)) Q
  rw [hi]
  exact ge_of h
theorem ge_int {i : Int} (h : Q (.int i) S) : GE (cInt [.int i] S) Q := ge_of h
theorem ge_intB {i : Bool} (h : Q (.int (if i then 1 else 0)) S) : GE (cInt [.bl i] S) Q := ge_of h
theorem ge_min {i j : Int} (h : Q (.int (if j < i then j else i)) S) : GE (cMin [.int i, .int j] S) Q := ge_of h
theorem ge_max {i j : Int} (h : Q (.int (if j > i then j else i)) S) : GE (cMax [.int i, .int j] S) Q := ge_of h
theorem ge_abs {i : Int} (h : Q (.int (if i < 0 then -i else i)) S) : GE (cAbs [.int i] S) Q := ge_of h
theorem ge_repr {x : D} {p : PyData} (e : toPy S 64 x = some p) (ho : okShow p = true) (h : Q (.str p.shown) S) : GE (cRepr [x] S) Q := by
  show GE ((toPy S 64 x).bind fun p => if okShow p then some (D.str p.shown, S) else none) Q
  rw [e]
  exact ⟨_, _, if_pos ho, h⟩
theorem ge_slL {n : Nat} {ds : List D} {lo hi : Option Int} (e : lat S n = some ds) (h : Q (.lr S.length) (S ++ [.lst (cutD ds lo hi)])) : GE (fSl (.lr n) lo hi S) Q := by
  show GE ((lat S n).bind fun ds => some (D.lr S.length, S ++ [.lst (cutD ds lo hi)])) Q
  rw [e]
  exact ge_of h
theorem ge_slT {ds : List D} {lo hi : Option Int} (h : Q (.tup (cutD ds lo hi)) S) : GE (fSl (.tup ds) lo hi S) Q := ge_of h
theorem ge_den {np n : Nat} {ds : List D} (hl : ds.length = np) (h : GS (s (startD n ds) S) fun f _ S' => match f with
  | .rt d => Q d S'
  | .nx => Q .non S'
  | _ => False) : GE (den np n s ds S) Q := by
  obtain ⟨f, r, S', e, q⟩ := h
  unfold den
  rw [if_pos hl, e]
  cases f with
  | rt d => exact ge_of q
  | nx => exact ge_of q
  | bk => exact q.elim
  | ct => exact q.elim
end
/-- a loop that nothing leaves -/
theorem gs_forL {ok : Store → Bool} {g : MTg} {b : MStm} {QS : Fl → Ev → Store → Prop} (Pv : Nat → Ev → Store → Prop) {ds : List D} {ρ : Ev} {S : Store} (h0 : Pv 0 ρ S)
    (hs : ∀ i x ρ S, ds[i]? = some x → Pv i ρ S → ok S = true ∧ GE (g x ρ S) fun ρ1 S1 => GS (b ρ1 S1) fun f ρ2 S2 => (f = .nx ∨ f = .ct) ∧ Pv (i + 1) ρ2 S2)
    (he : ∀ ρ S, Pv ds.length ρ S → ok S = true ∧ QS .nx ρ S) : GS (forL ok g b ds ρ S) QS := by
  obtain ⟨ρ', S', e, h⟩ := forL_by (ok := ok) (g := g) (b := b) Pv h0 (fun i x ρ S hi hp => by
    obtain ⟨h1, ρ1, S1, e1, f, ρ2, S2, e2, h2⟩ := hs i x ρ S hi hp
    exact ⟨h1, ρ1, S1, e1, f, ρ2, S2, e2, h2⟩) fun ρ S hp => (he ρ S hp).1
  exact ⟨_, _, _, e, (he ρ' S' h).2⟩
/-- a comprehension's list -/
theorem lc_by {ok : Store → Bool} {g : MTg} {t : MTst} {e : MExp} {ρw : Ev} {n : Nat} {P : Store → Prop} (Pv : Nat → Store → Prop) {ds : List D} {S : Store} (h0 : Pv 0 S)
    (hs : ∀ i x S, ds[i]? = some x → Pv i S → ok S = true ∧ GE (g x ρw S) fun ρ1 S1 => GE (t ρ1 S1) fun c S2 =>
      (c = true → GE (e ρ1 S2) fun y S3 => ∃ acc, mat S3 n = some acc ∧ acc.length < szl ∧ Pv (i + 1) (S3.set n (.lst (acc ++ [y])))) ∧ (c = false → Pv (i + 1) S2))
    (he : ∀ S, Pv ds.length S → ok S = true ∧ P S) : ∃ S', lcL ok g t e ρw n ds S = some S' ∧ P S' := by
  obtain ⟨S', e1, h⟩ := lcL_by (ok := ok) (g := g) (t := t) (e := e) (ρw := ρw) (n := n) Pv ds 0 S h0 (fun i x S hi hp => by
    rw [Nat.zero_add] at hp ⊢
    obtain ⟨h1, ρ1, S1, e1, c, S2, e2, h2, h3⟩ := hs i x S hi hp
    refine ⟨h1, ρ1, S1, e1, c, S2, e2, ?_⟩
    cases c with
    | true =>
      obtain ⟨y, S3, e3, acc, h4⟩ := h2 rfl
      exact ⟨y, S3, acc, e3, h4⟩
    | false => exact h3 rfl) fun S hp => (he S (by simpa using hp)).1
  exact ⟨S', e1, (he S' (by simpa using h)).2⟩
end MS
namespace MS
open PySem PySem.Spec PyProof.Rows L2
/-- a while by what holds at each turn and a number that falls -/
theorem gs_while {t : MTst} {b : MStm} {QS : Fl → Ev → Store → Prop} (Pv : Nat → Ev → Store → Prop)
    (hs : ∀ m ρ S, Pv m ρ S → GE (t ρ S) fun c S1 => (c = true → GS (b ρ S1) fun f ρ2 S2 => (f = .nx ∨ f = .ct) ∧ ∃ m', m' < m ∧ Pv m' ρ2 S2) ∧ (c = false → QS .nx ρ S1)) :
    ∀ (n m : Nat) (ρ : Ev) (S : Store), m < n → Pv m ρ S → GS (whileN t b n ρ S) QS
  | 0, m, _, _, h, _ => absurd h (Nat.not_lt_zero _)
  | n + 1, m, ρ, S, h, hp => by
    obtain ⟨c, S1, e1, h1, h2⟩ := hs m ρ S hp
    unfold whileN
    rw [e1]
    cases c with
    | false => exact gs_of (h2 rfl)
    | true =>
      obtain ⟨f, ρ2, S2, e2, hf, m', hm, hp'⟩ := h1 rfl
      show GS ((b ρ S1).bind _) QS
      rw [e2]
      have ih := gs_while Pv hs n m' ρ2 S2 (by omega) hp'
      rcases hf with rfl | rfl <;> exact ih
end MS

set_option Elab.async false
set_option linter.all false
set_option maxRecDepth 100000
set_option maxHeartbeats 4000000
namespace MS
open PySem PySem.Spec PyProof.Rows L2

/-! ### zip(tuple, list) -/
/-- a tuple's and a list's items in new pairs -/
def ItzM (K : PySem.W.Frag) (a b : Addr) : It where
  go := fun i H => ∃ (xs ys : List V) (x y : V), SqT K H a xs ∧ SqL K H b ys ∧ xs[i]? = some x ∧ ys[i]? = some y
  yld := fun i H v H' => ∃ T x y, v = .ref T ∧ H T = none ∧ H' = upd H T (.tup [x, y]) ∧ (∀ xs, SqT K H a xs → xs[i]? = some x) ∧ ∀ ys, SqL K H b ys → ys[i]? = some y
  stop := fun i H => ∃ xs ys : List V, SqT K H a xs ∧ SqL K H b ys ∧ i = min xs.length ys.length
theorem plain_list {h : Heap} {b : Addr} {its : Array Value} (p : PlainL h b its) : h.IsList b its := let ⟨o, n, h1, h2, _, h4⟩ := p; ⟨o, h1, h2, n, h4⟩
theorem mem_zip {c z TI TO i1 i2 : Addr} (h : c ∈ [z, TO, i1, i2]) : c ∈ [z, TI, TO, i1, i2] := by
  simp only [List.mem_cons, List.not_mem_nil, or_false] at h ⊢
  rcases h with h | h | h | h
  · exact .inl h
  · exact .inr (.inr (.inl h))
  · exact .inr (.inr (.inr (.inl h)))
  · exact .inr (.inr (.inr (.inr h)))
theorem turn_zipM {P : Program} {w : World} {K : PySem.W.Frag} {elts : List Expr} {kk : Nat} {tpos : Pos} {N a b : Addr} (ha : a < N) (hb : b < N) :
    Turn P w K (.Tuple elts kk tpos) (ItzM K a b) [N + 4, N + 2, N + 3, N, N + 1] (N + 4) (fun i h => IsZip h (N + 4) (N + 2) (N + 3) .none ∧ IsTupOf2 h (N + 2) (.ref N) (.ref (N + 1)) ∧ (∃ x y, IsTupOf2 h (N + 3) x y) ∧ h.IsTupleIter N a i ∧ h.IsListIter (N + 1) b i) where
  mem := List.mem_cons_self ..
  obj := fun i h st c hc => by
    obtain ⟨h1, h2, ⟨x, y, h3⟩, ⟨o, ho, _, hd⟩, ⟨o', ho', _, hd'⟩⟩ := st
    rcases (by simpa using hc : c = N + 4 ∨ c = N + 2 ∨ c = N + 3 ∨ c = N ∨ c = N + 1) with z | z | z | z | z
    · rw [z]; exact ⟨_, h1, fun v q => nomatch q⟩
    · rw [z]; exact ⟨_, h2, fun v q => nomatch q⟩
    · rw [z]; exact ⟨_, h3, fun v q => nomatch q⟩
    · rw [z]; exact ⟨o, ho, fun v q => by rw [hd] at q; cases q⟩
    · rw [z]; exact ⟨o', ho', fun v q => by rw [hd'] at q; cases q⟩
  keep := fun i h h' ⟨h1, h2, ⟨x, y, h3⟩, h4, h5⟩ k => ⟨k _ (by simp) _ h1, k _ (by simp) _ h2, ⟨x, y, k _ (by simp) _ h3⟩, h4.at fun o q => k N (by simp) o q, h5.at fun o q => k (N + 1) (by simp) o q⟩
  item := by
    intro X hP hw hK hc i pins s σ H E I hf st hg
    subst hP hw hK
    obtain ⟨h1, h2, h3, h4, h5⟩ := st
    obtain ⟨xs, ys, x, y, hq, hr, hx, hy⟩ := hg
    obtain ⟨its, rv, p, hz⟩ := I.tuple hq
    obtain ⟨its', rv', p', hz'⟩ := I.list hr
    obtain ⟨u, hu, ru⟩ := rv.get hx
    obtain ⟨u', hu', ru'⟩ := rv'.get hy
    have W := GoesN.zip2 (elts := elts) (x1 := kk) (pos := tpos) (prog := X.prog) (w := X.w) (A := X.A) (zip_sep2 (N := N) (fp1 := [a]) (fp2 := [b]) (by simpa using ha) (by simpa using hb))
      (Draws.tuple (A := X.A.in1) (I.ok.hd hc) N a (Nat.ne_of_lt ha) its.toArray) (Draws.list (A := X.A.in1) (I.ok.hd hc) (N + 1) b (Nat.ne_of_lt (Nat.lt_succ_of_lt hb)) its'.toArray)
    have hlt : i < min its.toArray.size its'.toArray.size := by
      rw [List.size_toArray, List.size_toArray]
      exact Nat.lt_min.mpr ⟨(List.getElem?_eq_some_iff.mp hu).1, (List.getElem?_eq_some_iff.mp hu').1⟩
    refine W.goes i s _ E hlt ⟨h1, h2, h3, ⟨h4, p⟩, h5, (plain_list p')⟩ fun v h' tk hY st' hk htk => ?_
    obtain ⟨T, t1, t2, rfl, hT, e1, e2, hTup⟩ := hY
    have e1' : t1 = u := by
      rw [List.getElem?_toArray, hu] at e1
      exact (Option.some.inj e1).symm
    have e2' : t2 = u' := by
      rw [List.getElem?_toArray, hu'] at e2
      exact (Option.some.inj e2).symm
    subst e1' e2'
    have new : ObjOk X.prog X.w (upd H T (.tup [x, y])) h' T (.tup [x, y]) := ⟨by show 2 ≤ sizeLine; decide, [t1, t2], .cons ru (.cons ru' .nil), hTup⟩
    have hk' : ∀ (c : Addr) (o : Obj), ¬c ∈ [N + 4, N + 2, N + 3, N, N + 1] → s.heap.get? c = some o → h'.get? c = some o := fun c o hc q => hk c o (fun z => hc (mem_zip z)) q
    have I1 := I.turnedNew (t' := tk) (ch := [N + 4, N + 2, N + 3, N, N + 1]) hk' hf hT new
    obtain ⟨g1, g2, g3, ⟨g4, _⟩, g5, _⟩ := st'
    refine ⟨.ref T, _, I1, rfl, ⟨T, x, y, rfl, I.hok.fresh hT, rfl, fun zs hz => by rw [I.tuple_inj hz hq]; exact hx, fun zs hz => by rw [I.list_inj hz hr]; exact hy⟩, ⟨g1, g2, g3, g4, g5⟩, fun c hc => ?_⟩
    have hcs : c < s.heap.objs.size := by
      obtain ⟨x3, y3, h3⟩ := h3
      obtain ⟨_, q4, _⟩ := h4
      obtain ⟨_, q5, _⟩ := h5
      rcases (by simpa using hc : c = N + 4 ∨ c = N + 2 ∨ c = N + 3 ∨ c = N ∨ c = N + 1) with z | z | z | z | z
      · rw [z]; exact Heap.lt_size h1
      · rw [z]; exact Heap.lt_size h2
      · rw [z]; exact Heap.lt_size h3
      · rw [z]; exact Heap.lt_size q4
      · rw [z]; exact Heap.lt_size q5
    rw [upd_ne (Nat.ne_of_lt (Nat.lt_of_lt_of_le hcs hT))]
    exact (hf c hc).1
  done := by
    intro X hP hw hK hc i pins s σ H E I hf st hg
    subst hP hw hK
    obtain ⟨h1, h2, h3, h4, h5⟩ := st
    obtain ⟨xs, ys, hq, hr, hi⟩ := hg
    obtain ⟨its, rv, p, hz⟩ := I.tuple hq
    obtain ⟨its', rv', p', hz'⟩ := I.list hr
    have W := GoesN.zip2 (elts := elts) (x1 := kk) (pos := tpos) (prog := X.prog) (w := X.w) (A := X.A) (zip_sep2 (N := N) (fp1 := [a]) (fp2 := [b]) (by simpa using ha) (by simpa using hb))
      (Draws.tuple (A := X.A.in1) (I.ok.hd hc) N a (Nat.ne_of_lt ha) its.toArray) (Draws.list (A := X.A.in1) (I.ok.hd hc) (N + 1) b (Nat.ne_of_lt (Nat.lt_succ_of_lt hb)) its'.toArray)
    have en : i = min its.toArray.size its'.toArray.size := by
      rw [List.size_toArray, List.size_toArray, ← rv.length, ← rv'.length]; exact hi
    refine W.stops s _ E (by rw [← en]; exact ⟨h1, h2, h3, ⟨h4, p⟩, h5, (plain_list p')⟩) fun h' tk hk htk => ?_
    exact I.turnedL (ch := [N + 4, N + 2, N + 3, N, N + 1]) (fun c o hc q => hk c o (fun z => hc (mem_zip z)) q) hf
  self := fun A i s Q E st h => wpAny_pyIter_zip st.1 h
def iZipM (K : PySem.W.Frag) (ta : TA) : TI := fun σ H R => ta σ H fun vs H1 => ∃ a b xs ys, vs = [.ref a, .ref b] ∧ SqT K H1 a xs ∧ SqL K H1 b ys ∧ R (ItzM K a b) H1
section
variable {X : Cx} {e e2 : Expr} {p pos tpos : Pos} {elts : List Expr} {kk : Nat}
theorem pi_zipM {ta : TA} (hg : Gl X "zip") (hm : X.mg "zip" = none) (ha : PA X [e, e2] ta) (hs : starEach [e, e2] X.env = (false, eval e X.env) :: starEach [e2] X.env := by rfl) (hpl : (backTo pos (starEach [e2] X.env)).any (·.1) = false := by rfl) :
    PI X (.Tuple elts kk tpos) (.Call (.Name "zip" p) [e, e2] [] pos) (iZipM X.K ta) := by
  refine ⟨fun pins s σ H R I h => ?_⟩
  refine Call_ (ld_blt I hg hm boot_zip (PyProof.Rows.callWith_type1 (thn (ha.run pos pins s σ H _ I h) fun us s1 h1 => ?_) hs hpl))
  obtain ⟨vs, H1, I1, r1, a, b, xs, ys, ex, hq, hr, q⟩ := h1
  subst ex
  cases r1 with
  | cons r rr =>
    cases rr with
    | cons r2 rr =>
    cases rr
    cases r
    cases r2
    obtain ⟨its, rv, pt, hz⟩ := I1.tuple hq
    obtain ⟨its', rv', pt', hz'⟩ := I1.list hr
    have ha' : a < s1.heap.objs.size := let ⟨_, ho, _⟩ := pt; Heap.lt_size ho
    have hb' : b < s1.heap.objs.size := let ⟨_, ho, _⟩ := (plain_list pt'); Heap.lt_size ho
    refine zip_begins2 (begins_tuple a its.toArray) (begins_list b its'.toArray) pt (plain_list pt') fun h' h1 h2 h3 h4 h5 hsz hk => wpAny_pyIter_zip h1 ?_
    refine ⟨s1.heap.objs.size + 4, _, _, _, H1, rfl, I1.kept (t' := s1.toks) hk, turn_zipM ha' hb', ⟨h1, h2, ⟨_, _, h3⟩, ⟨_, h4, rfl, rfl⟩, ⟨_, h5, rfl, rfl⟩⟩, fun c hc => ?_, q⟩
    have hle : s1.heap.objs.size ≤ c := by
      rcases (by simpa using hc : c = s1.heap.objs.size + 4 ∨ c = s1.heap.objs.size + 2 ∨ c = s1.heap.objs.size + 3 ∨ c = s1.heap.objs.size ∨ c = s1.heap.objs.size + 1) with z | z | z | z | z <;> rw [z] <;> first | exact Nat.le_add_right _ _ | exact Nat.le_refl _
    exact I1.fpOk hle (I1.hok.fresh hle)
/-- the pairs that zip tells -/
def zipD (ds es : List D) : List D := List.zipWith (fun a b => .tup [a, b]) ds es
theorem zipD_get {ds es : List D} {i : Nat} {d : D} (h : (zipD ds es)[i]? = some d) : ∃ x y, ds[i]? = some x ∧ es[i]? = some y ∧ d = .tup [x, y] := by
  unfold zipD at h
  rw [List.getElem?_zipWith] at h
  cases h1 : ds[i]? <;> cases h2 : es[i]? <;> rw [h1, h2] at h <;> first | (cases h; done) | (cases h; exact ⟨_, _, rfl, rfl, rfl⟩)
theorem zipD_lt {ds es : List D} {i : Nat} (h : i < (zipD ds es).length) : i < ds.length ∧ i < es.length := by
  unfold zipD at h
  rw [List.length_zipWith] at h
  omega
def mZip (m : MArg) : MItr := fun ρ S => (m ρ S).bind fun p => match p.1 with
  | [.tup ds, .lr k] => (lat p.2 k).bind fun es => some ((zipD ds es, still k es), p.2)
  | [.lr n, .lr k] => (lat p.2 n).bind fun ds => (lat p.2 k).bind fun es => some ((zipD ds es, fun S => still n ds S && still k es S), p.2)
  | _ => none
theorem isIt_zipM {K : PySem.W.Frag} {H0 : Hp} {μ0 : Mu} {k : Nat} {a b : Addr} {vs : List V} {ds es : List D} (h1 : SqT K H0 a vs) (h2 : RpA K H0 μ0 vs ds) (r : Rp K H0 μ0 (.ref b) (.lr k)) : IsIt K (ItzM K a b) H0 μ0 (zipD ds es) (still k es) where
  go := fun i H μ S g s h hi => by
    obtain ⟨a', ws, e1, h3, h4⟩ := s.lat (still_eq h) (r.grow g)
    cases e1
    obtain ⟨l1, l2⟩ := zipD_lt hi
    exact ⟨vs, ws, vs[i]'(by rw [h2.length]; exact l1), ws[i]'(by rw [h4.length]; exact l2), g.sqT h1, h3, List.getElem?_eq_getElem _, List.getElem?_eq_getElem _⟩
  stop := fun H μ S g s h => by
    obtain ⟨a', ws, e1, h3, h4⟩ := s.lat (still_eq h) (r.grow g)
    cases e1
    exact ⟨vs, ws, g.sqT h1, h3, by unfold zipD; rw [List.length_zipWith, h2.length, h4.length]⟩
  yld := fun i H μ S x H' g s h y d hd => by
    obtain ⟨T, z, t, rfl, hT, rfl, y1, y2⟩ := y
    obtain ⟨d1, d2, e1, e2, rfl⟩ := zipD_get hd
    obtain ⟨a', ws, e3, h3, h4⟩ := s.lat (still_eq h) (r.grow g)
    cases e3
    obtain ⟨w, h5, h6⟩ := (h2.grow g).get e1
    obtain ⟨w', h5', h6'⟩ := h4.get e2
    rw [y1 vs (g.sqT h1)] at h5
    rw [y2 ws h3] at h5'
    cases h5; cases h5'
    exact pairNew s hT h6 h6'
theorem isIt_zipL {K : PySem.W.Frag} {H0 : Hp} {μ0 : Mu} {n k : Nat} {a b : Addr} {ds es : List D} (r0 : Rp K H0 μ0 (.ref a) (.lr n)) (r : Rp K H0 μ0 (.ref b) (.lr k)) : IsIt K (Itz K a b) H0 μ0 (zipD ds es) (fun S => still n ds S && still k es S) where
  go := fun i H μ S g s h hi => by
    obtain ⟨ha, hb⟩ := (Bool.and_eq_true ..).mp h
    obtain ⟨a', vs, e1, h1, h2⟩ := s.lat (still_eq ha) (r0.grow g)
    obtain ⟨b', ws, e2, h3, h4⟩ := s.lat (still_eq hb) (r.grow g)
    cases e1; cases e2
    obtain ⟨l1, l2⟩ := zipD_lt hi
    exact ⟨vs, ws, vs[i]'(by rw [h2.length]; exact l1), ws[i]'(by rw [h4.length]; exact l2), h1, h3, List.getElem?_eq_getElem _, List.getElem?_eq_getElem _⟩
  stop := fun H μ S g s h => by
    obtain ⟨ha, hb⟩ := (Bool.and_eq_true ..).mp h
    obtain ⟨a', vs, e1, h1, h2⟩ := s.lat (still_eq ha) (r0.grow g)
    obtain ⟨b', ws, e2, h3, h4⟩ := s.lat (still_eq hb) (r.grow g)
    cases e1; cases e2
    refine ⟨vs, ws, h1, h3, ?_⟩
    unfold zipD; rw [List.length_zipWith, h2.length, h4.length]; omega
  yld := fun i H μ S x H' g s h y d hd => by
    obtain ⟨T, z, t, rfl, hT, rfl, y1, y2⟩ := y
    obtain ⟨d1, d2, e1, e2, rfl⟩ := zipD_get hd
    obtain ⟨ha, hb⟩ := (Bool.and_eq_true ..).mp h
    obtain ⟨a', vs, e3, h1, h2⟩ := s.lat (still_eq ha) (r0.grow g)
    obtain ⟨b', ws, e4, h3, h4⟩ := s.lat (still_eq hb) (r.grow g)
    cases e3; cases e4
    obtain ⟨w, h5, h6⟩ := h2.get e1
    obtain ⟨w', h5', h6'⟩ := h4.get e2
    rw [y1 vs h1] at h5
    rw [y2 ws h3] at h5'
    cases h5; cases h5'
    exact pairNew s hT h6 h6'
theorem mi_zip {m : MArg} (hg : Gl X "zip") (hm : X.mg "zip" = none) (ha : MA X [e, e2] m) (hs : starEach [e, e2] X.env = (false, eval e X.env) :: starEach [e2] X.env := by rfl) (hpl : (backTo pos (starEach [e2] X.env)).any (·.1) = false := by rfl) :
    MI X (.Tuple elts kk tpos) (.Call (.Name "zip" p) [e, e2] [] pos) (mZip m) := by
  refine ⟨⟨fun pins s σ H R I h => ?_⟩⟩
  obtain ⟨ρ, S, μ, q0, S', st, e1, q⟩ := h
  obtain ⟨⟨ds, S1⟩, e2', e1⟩ := Option.bind_eq_some_iff.mp e1
  dsimp only at e1
  split at e1
  · obtain ⟨es, e3, e1⟩ := Option.bind_eq_some_iff.mp e1
    cases e1
    refine (pi_zipM hg hm ha.pa hs hpl).run pins s σ H R I ⟨ρ, S, μ, _, _, st, e2', fun vs H1 μ1 g1 s1 r1 => ?_⟩
    match vs, r1 with
    | _, .cons (.tup h1 h2) (.cons r2 .nil) =>
      obtain ⟨b, ws, rfl, h3, h4⟩ := s1.lat e3 r2
      exact ⟨_, _, _, _, rfl, sq _ _ h1, h3, q _ H1 μ1 g1 s1 (isIt_zipM (sq _ _ h1) h2 r2)⟩
  · obtain ⟨es0, e3, e1⟩ := Option.bind_eq_some_iff.mp e1
    obtain ⟨es, e4, e1⟩ := Option.bind_eq_some_iff.mp e1
    cases e1
    refine (pi_zip hg hm ha.pa hs hpl).run pins s σ H R I ⟨ρ, S, μ, _, _, st, e2', fun vs H1 μ1 g1 s1 r1 => ?_⟩
    match vs, r1 with
    | _, .cons r1 (.cons r2 .nil) =>
      obtain ⟨a, vs, rfl, h1, h2⟩ := s1.lat e3 r1
      obtain ⟨b, ws, rfl, h3, h4⟩ := s1.lat e4 r2
      exact ⟨a, b, _, _, rfl, h1, h3, q _ H1 μ1 g1 s1 (isIt_zipL r1 r2)⟩
  · cases e1
end

/-! ### gcd, sum, wide numbers, a tuple many times -/
section
variable {X : Cx} {x : Str} {p pos : Pos} {e : Expr} {es : List Expr} {m : MArg} {f : DCall} {id T : String}
theorem me_callI (hc : CallR X (.builtin id) (rCM X.K f)) (hg : Gl X x) (hm : X.mg x = some (.builtin id)) (ha : MA X (e :: es) m) (hdb : (x == ("__debug__" : Str)) = false := by decide)
    (he : starEach (e :: es) X.env = (false, eval e X.env) :: starEach es X.env := by rfl) (hpl : (backTo pos (starEach es X.env)).any (·.1) = false := by rfl) : ME X (.Call (.Name x p) (e :: es) [] pos) (mCall f m) :=
  ⟨PE.imp (pe_callBfun hc hg hm ha.pa hdb he hpl) fun _ _ _ h => tE_call h⟩
def cGcd : DCall := fun ds S => match ds with
  | [.int a, .int b] => some (.int ((Nat.gcd a.natAbs b.natAbs : Nat) : Int), S)
  | _ => none
theorem c_gcd : CallR X (.builtin "math.gcd") (rCM X.K cGcd) := CallR.imp cr_gcd fun vs H Q ⟨S, μ, ds, d, S', s, r, e, q⟩ => by
  unfold cGcd at e
  split at e
  · cases e
    match vs, r with
    | _, .cons (.int _) (.cons (.int _) .nil) => exact ⟨_, _, rfl, q.id s (.int _)⟩
  · cases e
def intsOf : List D → Option (List Int)
  | [] => some []
  | .int i :: ds => (intsOf ds).map (i :: ·)
  | _ :: _ => none
theorem intsOf_map : ∀ {ns : List Int}, intsOf (ns.map D.int) = some ns
  | [] => rfl
  | n :: ns => by
    rw [List.map_cons]; unfold intsOf; rw [intsOf_map]; rfl
theorem intsOf_rp {K : PySem.W.Frag} {H : Hp} {μ : Mu} : ∀ {ds : List D} {vs : List V} {ns : List Int}, intsOf ds = some ns → RpA K H μ vs ds → vs = ns.map V.int
  | [], _, _, e, .nil => by cases e; rfl
  | .int i :: ds, _, _, e, .cons (.int _) r => by
    unfold intsOf at e
    obtain ⟨ns', e', rfl⟩ := Option.map_eq_some_iff.mp e
    rw [intsOf_rp e' r]; rfl
def cSum : DCall := fun ds S => match ds with
  | [d] => (latD S d).bind fun es => (intsOf es).map fun ns => (.int ns.sum, S)
  | _ => none
theorem c_sum (hc : X.calm = true) : CallR X (.builtin "sum") (rCM X.K cSum) := CallR.imp (cr_sum hc) fun vs H Q ⟨S, μ, ds, d, S', s, r, e, q⟩ => by
  unfold cSum at e
  split at e
  · obtain ⟨es, e1, e⟩ := Option.bind_eq_some_iff.mp e
    obtain ⟨ns, e2, e⟩ := Option.map_eq_some_iff.mp e
    cases e
    match vs, r with
    | _, .cons r1 .nil =>
      obtain ⟨a, ws, rfl, h1, h2⟩ := s.latD e1 r1
      rw [intsOf_rp e2 h2] at h1
      exact ⟨a, ns, rfl, h1, q.id s (.int _)⟩
  · cases e
def narrow (i j : Int) : Bool := decide (i.natAbs.log2 + j.natAbs.log2 < 1000000)
theorem narrow_of {i j : Int} (h : narrow i j = true) : CMulW i j := by
  unfold narrow at h
  unfold CMulW
  exact of_decide_eq_true h
theorem tuple_mul1 (l : Addr) (items : Array Value) (n : Nat) (dd : Option Addr) (sl : Array (Option Value)) (x : Int) (u : Tok) (c0 : (decide (x < -(2 ^ 63)) || decide (x ≥ 2 ^ 63)) = false) (c1 : (items.isEmpty || x == 1) = true) :
    Meets (Builtin.«tuple.__mul__» ⟨[.ref l, .int x u], []⟩) (fun _ R s => s.heap.get? l = some { cls := .type "tuple", dict := dd, data := .seq items n, slots := sl } ∧
      R (.ok (.ret (Value.ref l))) s) :=
  .of_wp fun prog w A R s h => by
    obtain ⟨hp, g, d, tk, os⟩ := s
    obtain ⟨hl, h⟩ := h
    have f1 := AutoSeq1.idx_int
    wp_walk using wpAny_loadPart' hl
    refine wpAny_ite_false (decide_eq_false (by rw [c0]; exact Bool.false_ne_true)) ?_; wp_walk using wpAny_loadPart' hl
    all_goals (first | exact ⟨_, rfl, h⟩ | (exfalso; simp_all; done))
/-- a tuple times 1 is itself -/
def rRepT1 (K : PySem.W.Frag) : R2 := fun x y H Q => ∃ l xs, x = .ref l ∧ y = .int 1 ∧ SqT K H l xs ∧ Q (.ref l) H
theorem op_repT1 {X : Cx} : OpR X (binaryOp .Mult) (rRepT1 X.K) := by
  intro pins s σ H x y v u Q I rx ry h
  obtain ⟨l, xs, rfl, rfl, hT, q⟩ := h
  cases rx
  obtain ⟨t, rfl⟩ := ry
  obtain ⟨its, r, ⟨⟨cls, dd, data, sl⟩, ho, hc, n, hd⟩, hs⟩ := I.tuple hT
  simp only at hc hd
  subst hc hd
  refine wpAny_binaryOp_repeat_ref (T := "tuple") (U := "int") (by decide) ⟨_, ho, rfl⟩ (fun s' => typeIs_int s' 1 t) noFill_tuple_mul F.fills_int_mul F.slot_int_rmul repeat_tuple F.slot_int_index.lookup
    (call_meets F.slot_int_rmul (typeIs_int s 1 t) F.entry_int_rmul (F.args_int_rmul_2 _ _) (int_rmul_tuple 1 t l its.toArray n dd sl)
      ⟨ho, rfl, ⟨_, ho, rfl⟩, call_meets F.slot_tuple_mul ⟨_, ho, rfl⟩ F.entry_tuple_mul (F.args_tuple_mul_2 _ _) (tuple_mul1 l its.toArray n dd sl 1 t (by decide) (by simp)) ⟨ho, ?_⟩⟩)
  exact ⟨.ref l, _, I, rfl, q⟩
def fMulW : DOp2
  | .int i, .int j, S => if narrow i j then some (.int (i * j), S) else none
  | .lr n, .int k, S => fMul (.lr n) (.int k) S
  | .lst n, .int k, S => fMul (.lst n) (.int k) S
  | .tup ds, .int k, S => if ds ≠ [] ∧ 1 ≤ k ∧ k ≤ 1000 ∧ ds.length ≤ 1000 then some (.tup (repD ds k), S) else none
  | _, _, _ => none
theorem repD_one {ds : List D} : repD ds 1 = ds := by
  unfold repD
  simp
theorem o_mulW {X : Cx} : OpR X (binaryOp .Mult) (rM X.K fMulW) := by
  intro pins s σ H x y v u Q I rx ry ⟨S, μ, dx, dy, d, S', st, px, py, e, q⟩
  unfold fMulW at e
  split at e
  · split at e
    · rename_i h
      cases e; cases px; cases py
      exact op_mulW pins s σ H _ _ v u Q I rx ry ⟨_, _, rfl, rfl, narrow_of h, q.id st (.int _)⟩
    · cases e
  · exact o_mul pins s σ H x y v u Q I rx ry ⟨S, μ, _, _, d, S', st, px, py, e, q⟩
  · exact o_mul pins s σ H x y v u Q I rx ry ⟨S, μ, _, _, d, S', st, px, py, e, q⟩
  · split at e
    · rename_i h
      rcases (show ∀ {k : Int}, 1 ≤ k → 2 ≤ k ∨ k = 1 from fun h => by omega) h.2.1 with h1k | hk
      · cases e; cases py
        cases px with
        | tup h1 h2 =>
          refine op_repT pins s σ H _ _ v u Q I rx ry ⟨_, _, _, rfl, rfl, sq _ _ h1, ?_, h1k, h.2.2.1, ?_, fun p hp => q.tup st (h2.rep _) hp⟩
          · intro z
            rw [z] at h2
            cases h2
            exact h.1 rfl
          · rw [h2.length]; exact h.2.2.2
      · cases e; cases py
        subst hk
        cases px with
        | tup h1 h2 =>
          refine op_repT1 pins s σ H _ _ v u Q I rx ry ⟨_, _, rfl, rfl, sq _ _ h1, ?_⟩
          rw [repD_one] at q
          exact q.id st (.tup h1 h2)
    · cases e
  · cases e
theorem boot_sum : bootBuiltins "sum" = some (.builtin "sum") := by decide +kernel
/-- a list's items into names -/
def mgTupL (r : MTgs) (n : Nat) : MTg := fun d ρ S => match d with
  | .lr k => (lat S k).bind fun ds => if ds.length = n then r ds ρ S else none
  | .lst ds => if ds.length = n then r ds ρ S else none
  | _ => none
theorem mg_tupL {ts : List Expr} {k : Nat} {r : MTgs} {n : Nat} (hc : X.calm = true) (h : MGs X ts r) (hn : (assignEach ts X.env).length = n := by rfl) (hst : (assignEach ts X.env).findIdx? (·.1) = none := by rfl) : MG X (.Tuple ts k pos) (mgTupL r n) :=
  ⟨PG.imp (pg_unl hc h.pgs hn hst) fun v σ H Q ⟨d, ρ, S, μ, ρ', S', s, rr, e, q⟩ => by
    cases d with
    | lr m =>
      obtain ⟨ds, e1, e⟩ := Option.bind_eq_some_iff.mp (show ((lat S m).bind fun ds => if ds.length = n then r ds ρ S else none) = some (ρ', S') from e)
      obtain ⟨a, ws, rfl, h1, h2⟩ := s.st.lat e1 rr
      split at e
      · rename_i hl
        exact ⟨_, _, rfl, h1, by rw [h2.length]; exact hl, ds, ρ, S, μ, ρ', S', s, h2, e, q⟩
      · cases e
    | lst ds =>
      have e : (if ds.length = n then r ds ρ S else none) = some (ρ', S') := e
      cases rr with
      | lst h1 h2 =>
      split at e
      · rename_i hl
        exact ⟨_, _, rfl, h1.sqL, by rw [h2.length]; exact hl, ds, ρ, S, μ, ρ', S', s, h2, e, q⟩
      · cases e
    | _ => cases e⟩
def fDivW := fIc (fun _ j => decide (0 < j) && decide (j.natAbs.log2 < 9000)) fun i j => i / j
theorem o_divW : OpR X (binaryOp .FloorDiv) (rM X.K fDivW) := op_fIc op_fdivW fun _ _ h => by
  obtain ⟨a, b⟩ := (Bool.and_eq_true ..).mp h
  exact ⟨of_decide_eq_true a, of_decide_eq_true b⟩
theorem log2_lt {i : Int} {k : Nat} (h : i.natAbs < 2 ^ k) (hk : 0 < k) : i.natAbs.log2 < k := by
  by_cases z : i.natAbs = 0
  · rw [z]; simpa using hk
  · exact (Nat.log2_lt z).mpr h
/-- a number of at most 2000 bits -/
def wd (i : Int) : Prop := i.natAbs < 2 ^ 2000
theorem wd.narrow {i j : Int} (a : wd i) (b : wd j) : narrow i j = true := by
  have h1 := log2_lt a (by decide)
  have h2 := log2_lt b (by decide)
  exact decide_eq_true (by omega)
theorem wd.div {j : Int} (a : wd j) (h : 0 < j) : (decide (0 < j) && decide (j.natAbs.log2 < 9000)) = true := by
  have h1 := log2_lt a (by decide)
  exact (Bool.and_eq_true ..).mpr ⟨decide_eq_true h, decide_eq_true (by omega)⟩
theorem ge_mulL {S : Store} {Q : D → Store → Prop} {n : Nat} {ds : List D} {k : Int} (h1 : mat S n = some ds) (hk0 : -(2 ^ 63) ≤ k) (hk1 : k < 2 ^ 63) (hz : ds.length * k.toNat ≤ szl) (h : Q (.lr S.length) (S ++ [.lst (repD ds k)])) : GE (fMulW (.lr n) (.int k) S) Q := by
  show GE ((mat S n).bind fun a => if -(2 ^ 63) ≤ k ∧ k < 2 ^ 63 ∧ a.length * k.toNat ≤ szl then some (D.lr S.length, S ++ [.lst (repD a k)]) else none) Q
  rw [h1]
  exact ⟨_, _, if_pos ⟨hk0, hk1, hz⟩, h⟩
theorem ge_mulW {S : Store} {Q : D → Store → Prop} {i j : Int} (hc : narrow i j = true) (h : Q (.int (i * j)) S) : GE (fMulW (.int i) (.int j) S) Q := ⟨_, _, if_pos hc, h⟩
theorem ge_mulT {S : Store} {Q : D → Store → Prop} {ds : List D} {k : Int} (hc : ds ≠ [] ∧ 1 ≤ k ∧ k ≤ 1000 ∧ ds.length ≤ 1000) (h : Q (.tup (repD ds k)) S) : GE (fMulW (.tup ds) (.int k) S) Q := ⟨_, _, if_pos hc, h⟩
theorem ge_divW {S : Store} {Q : D → Store → Prop} {i j : Int} (h0 : 0 < j) (hw : wd j) (h : Q (.int (i / j)) S) : GE (fDivW (.int i) (.int j) S) Q := ⟨_, _, if_pos (hw.div h0), h⟩
theorem ge_gcd {S : Store} {Q : D → Store → Prop} {i j : Int} (h : Q (.int ((Nat.gcd i.natAbs j.natAbs : Nat) : Int)) S) : GE (cGcd [.int i, .int j] S) Q := ⟨_, _, rfl, h⟩
theorem ge_sum {S : Store} {Q : D → Store → Prop} {n : Nat} {ns : List Int} (h1 : lat S n = some (ns.map D.int)) (h : Q (.int ns.sum) S) : GE (cSum [.lr n] S) Q := by
  show GE ((lat S n).bind fun es => (intsOf es).map fun ns => (D.int ns.sum, S)) Q
  rw [h1]
  show GE ((intsOf (ns.map D.int)).map fun ns => (D.int ns.sum, S)) Q
  rw [intsOf_map]
  exact ⟨_, _, rfl, h⟩
theorem gi_zipM {ρ : Ev} {S : Store} {a : MArg} {QI : (List D × (Store → Bool)) → Store → Prop} (h : GE (a ρ S) fun xs S1 => ∃ ds k es, xs = [.tup ds, .lr k] ∧ lat S1 k = some es ∧ QI (zipD ds es, still k es) S1) : GE (mZip a ρ S) QI := ge_bind (h.mono fun x S1 ⟨ds, k, es, e, h1, h⟩ => by
  subst e
  show GE ((lat S1 k).bind fun es => some ((zipD ds es, still k es), S1)) QI
  rw [h1]
  exact ge_of h)
theorem gi_zipL {ρ : Ev} {S : Store} {a : MArg} {QI : (List D × (Store → Bool)) → Store → Prop} (h : GE (a ρ S) fun xs S1 => ∃ n ds k es, xs = [.lr n, .lr k] ∧ lat S1 n = some ds ∧ lat S1 k = some es ∧ QI (zipD ds es, fun S => still n ds S && still k es S) S1) : GE (mZip a ρ S) QI := ge_bind (h.mono fun x S1 ⟨n, ds, k, es, e, h1, h2, h⟩ => by
  subst e
  show GE ((lat S1 n).bind fun ds => (lat S1 k).bind fun es => some ((zipD ds es, fun S => still n ds S && still k es S), S1)) QI
  rw [h1, h2]
  exact ge_of h)
theorem gt_tupL {ds : List D} {k n : Nat} {S : Store} {ρ : Ev} {gs : MTgs} {QE : Ev → Store → Prop} (h1 : lat S k = some ds) (e : ds.length = n) (h : GE (gs ds ρ S) QE) : GE (mgTupL gs n (.lr k) ρ S) QE := by
  show GE ((lat S k).bind fun ds => if ds.length = n then gs ds ρ S else none) QE
  rw [h1]
  show GE (if ds.length = n then gs ds ρ S else none) QE
  rw [if_pos e]
  exact h
end
end MS

set_option Elab.async false
set_option linter.all false
set_option maxRecDepth 100000
set_option maxHeartbeats 4000000
set_option exponentiation.threshold 3000
namespace MS
open PySem PySem.Spec PyProof.Rows L2

/-! ### isinstance -/
def tyD : D → String
  | .non => "NoneType"
  | .bl _ => "bool"
  | .int _ => "int"
  | .str _ => "str"
  | .tup _ => "tuple"
  | .lr _ => "list"
  | .lst _ => "list"
  | .fl _ => "list"
  | .dk _ _ => "dict"
  | .dt _ _ => "dict"
  | .ins _ _ _ => "object"
  | .fn _ => "function"
theorem tyX_seqT {K : PySem.W.Frag} {H : Hp} {a : Addr} {vs : List V} (h : SqT K H a vs) : TyX K H (.ref a) (.type "tuple") := by
  rcases h with (h | ⟨o, h⟩) | ⟨o, its, n, h1, h2, _⟩
  · exact .base (.tup h)
  · exact .fTuple h
  · exact .kTuple h1 h2
theorem tyX_seqL {K : PySem.W.Frag} {H : Hp} {a : Addr} {vs : List V} (h : SqL K H a vs) : TyX K H (.ref a) (.type "list") := by
  rcases h with (h | ⟨o, h⟩) | ⟨o, its, n, h1, h2, _⟩
  · exact .base (.lst h)
  · exact .base (.frz h)
  · exact .kList h1 h2
def okTy (S : Store) : D → Bool
  | .lr n => (lat S n).isSome
  | .ins _ _ _ => false
  | .fn _ => false
  | _ => true
theorem tyX_of {K : PySem.W.Frag} {H : Hp} {μ : Mu} {S : Store} {v : V} {d : D} (s : StR K H μ S) (r : Rp K H μ v d) (h : okTy S d = true) : TyX K H v (.type (tyD d)) := by
  cases r with
  | non => exact .base .non
  | bl b => exact .base (.bl b)
  | int i => exact .base (.int i)
  | str x => exact .base (.str x)
  | tup h1 h2 => exact tyX_seqT (sq _ _ h1)
  | lr e =>
    rename_i a n
    obtain ⟨ds, hl⟩ := Option.isSome_iff_exists.mp h
    obtain ⟨a', vs, e1, h1, _⟩ := s.lat hl (Rp.lr e)
    cases e1
    exact tyX_seqL h1
  | lst h1 h2 => exact tyX_seqL (K := K) h1.sqL
  | fl h1 h2 => exact tyX_seqL h1.sqL
  | dk h1 h2 h3 h4 => exact .base (.dK h1)
  | dt h1 h2 h3 h4 => exact .base (.dT h1)
  | ins h1 h2 h3 h4 => cases h
  | fn => cases h
def mIsi (m : MExp) (T : String) : MExp := fun ρ S => (m ρ S).bind fun p => if okTy p.2 p.1 = true then (kitB (tyD p.1) T).map fun b => (.bl b, p.2) else none
section
variable {X : Cx} {e : Expr} {p q pos : Pos} {m : MExp}
theorem boot_bool : bootBuiltins "bool" = some (.type "bool") := by decide +kernel
theorem boot_isi : bootBuiltins "isinstance" = some (.builtin "isinstance") := by decide +kernel
theorem me_isi {x : Str} {T : String} (hg : Gl X "isinstance") (hm : X.mg "isinstance" = none) (hgT : Gl X x) (hmT : X.mg x = none) (hv : bootBuiltins x = some (.type T)) (he : ME X e m) (hdb : (x == ("__debug__" : Str)) = false := by decide) (hn : x ≠ "__name__" := by decide)
    (hs : starEach [e, .Name x q] X.env = (false, eval e X.env) :: starEach [.Name x q] X.env := by rfl) (hs2 : starEach [.Name x q] X.env = [(false, eval (.Name x q) X.env)] := by rfl) (hpl : (backTo pos (starEach [.Name x q] X.env)).any (·.1) = false := by rfl) :
    ME X (.Call (.Name "isinstance" p) [e, .Name x q] [] pos) (mIsi m T) := by
  refine ⟨PE.imp (pe_callB call_isi hg hm boot_isi (pa_cons he.pe (pa_cons (pe_bltn (v := .ty T) hgT hmT hv rfl (hn := hn) (hd := hdb)) pa_nil hs2) hs) (by decide) (by decide) hs hpl) fun σ H Q h => ?_⟩
  obtain ⟨ρ, S, μ, d, S', st, e1, qq⟩ := h
  obtain ⟨⟨d0, S1⟩, e2, e1⟩ := Option.bind_eq_some_iff.mp e1
  dsimp only at e1
  split at e1
  · rename_i hok
    obtain ⟨b, e3, e4⟩ := Option.map_eq_some_iff.mp e1
    cases e4
    refine ⟨ρ, S, μ, d0, _, st, e2, fun v H1 μ1 g1 s1 r1 => ?_⟩
    exact ⟨v, .ty T, _, _, b, rfl, .ty T, tyX_of s1 r1 hok, kit_ty e3, qq _ H1 μ1 g1 s1 (.bl b)⟩
  · cases e1
end
theorem ge_isi {ρ : Ev} {S : Store} {Q : D → Store → Prop} {m : MExp} {T : String} (h : GE (m ρ S) fun x S1 => okTy S1 x = true ∧ ∃ b, kitB (tyD x) T = some b ∧ Q (.bl b) S1) : GE (mIsi m T ρ S) Q := ge_bind (h.mono fun x S1 ⟨h1, b, h2, h3⟩ => by
  show GE (if okTy S1 x = true then (kitB (tyD x) T).map fun b => (D.bl b, S1) else none) Q
  rw [if_pos h1, h2]
  exact ⟨_, _, rfl, h3⟩)
theorem kit_tt : kitB "tuple" "tuple" = some true := by decide +kernel
theorem kit_it : kitB "int" "tuple" = some false := by decide +kernel
theorem kit_ib : kitB "int" "bool" = some false := by decide +kernel
theorem kit_ii : kitB "int" "int" = some true := by decide +kernel
theorem kit_bi : kitB "bool" "int" = some true := by decide +kernel
theorem kit_bb : kitB "bool" "bool" = some true := by decide +kernel
theorem kit_tb : kitB "tuple" "bool" = some false := by decide +kernel
theorem kit_ti : kitB "tuple" "int" = some false := by decide +kernel
theorem kit_ni : kitB "NoneType" "int" = some false := by decide +kernel
theorem kit_si : kitB "str" "int" = some false := by decide +kernel
theorem kit_li : kitB "list" "int" = some false := by decide +kernel
theorem kit_lt : kitB "list" "tuple" = some false := by decide +kernel
theorem kit_nt : kitB "NoneType" "tuple" = some false := by decide +kernel
theorem kit_st : kitB "str" "tuple" = some false := by decide +kernel
theorem kit_bt : kitB "bool" "tuple" = some false := by decide +kernel

/-! ### all of a list -/
def blsOf : List D → Option (List Bool)
  | [] => some []
  | .bl b :: ds => (blsOf ds).map (b :: ·)
  | _ :: _ => none
theorem blsOf_map : ∀ {bs : List Bool}, blsOf (bs.map D.bl) = some bs
  | [] => rfl
  | b :: bs => by rw [List.map_cons]; unfold blsOf; rw [blsOf_map]; rfl
theorem blsOf_rp {K : PySem.W.Frag} {H : Hp} {μ : Mu} : ∀ {ds : List D} {vs : List V} {bs : List Bool}, blsOf ds = some bs → RpA K H μ vs ds → vs = bs.map V.bl
  | [], _, _, e, .nil => by cases e; rfl
  | .bl b :: ds, _, _, e, .cons (.bl _) r => by
    unfold blsOf at e
    obtain ⟨bs', e', rfl⟩ := Option.map_eq_some_iff.mp e
    rw [blsOf_rp e' r]; rfl
def cAll : DCall := fun ds S => match ds with
  | [d] => (latD S d).bind fun es => (blsOf es).map fun bs => (.bl (bs.all id), S)
  | _ => none
theorem c_all {X : Cx} (hc : X.calm = true) : CallR X (.builtin "all") (rCM X.K cAll) := CallR.imp (cr_all hc) fun vs H Q ⟨S, μ, ds, d, S', s, r, e, q⟩ => by
  unfold cAll at e
  split at e
  · obtain ⟨es, e1, e⟩ := Option.bind_eq_some_iff.mp e
    obtain ⟨bs, e2, e⟩ := Option.map_eq_some_iff.mp e
    cases e
    match vs, r with
    | _, .cons r1 .nil =>
      obtain ⟨a, ws, rfl, h1, h2⟩ := s.latD e1 r1
      rw [blsOf_rp e2 h2] at h1
      exact ⟨a, bs, rfl, h1, q.id s (.bl _)⟩
  · cases e
theorem boot_all : bootBuiltins "all" = some (.builtin "all") := by decide +kernel
theorem ge_all {S : Store} {Q : D → Store → Prop} {n : Nat} {bs : List Bool} (h1 : lat S n = some (bs.map D.bl)) (h : Q (.bl (bs.all id)) S) : GE (cAll [.lr n] S) Q := by
  show GE ((lat S n).bind fun es => (blsOf es).map fun bs => (D.bl (bs.all id), S)) Q
  rw [h1]
  show GE ((blsOf (bs.map D.bl)).map fun bs => (D.bl (bs.all id), S)) Q
  rw [blsOf_map]
  exact ⟨_, _, rfl, h⟩

/-! ### what is shown of long numbers -/
mutual
def smw : PyData → Bool
  | .none => true
  | .bool _ => true
  | .int i => decide (i.natAbs < 2 ^ 1910)
  | .list xs => smwAll xs
  | .tuple xs => smwAll xs
  | _ => false
def smwAll : List PyData → Bool
  | [] => true
  | x :: xs => smw x && smwAll xs
end
mutual
def wtw : PyData → Nat
  | .list xs => wtwAll xs + 3
  | .tuple xs => wtwAll xs + 3
  | _ => 642
def wtwAll : List PyData → Nat
  | [] => 0
  | x :: xs => wtw x + 2 + wtwAll xs
end
mutual
theorem smw_shown : ∀ p : PyData, smw p = true → p.showable = true ∧ p.hasDict = false ∧ p.shown.length ≤ wtw p
  | .none, _ => ⟨rfl, rfl, by decide⟩
  | .bool b, _ => ⟨rfl, rfl, by cases b <;> decide⟩
  | .int i, h => by
    have h' : i.natAbs < 2 ^ 1910 := of_decide_eq_true h
    have h2 := log2_lt h' (by decide)
    refine ⟨decide_eq_true (by omega), rfl, ?_⟩
    have := int_text_length_le10 (a := i) (k := 640) (by decide) (Nat.lt_of_lt_of_le h' (by decide))
    show ((toString i : String) : Str).length ≤ 642
    rw [PySem.ofString_length]
    omega
  | .list xs, h => by
    obtain ⟨h1, h2, h3⟩ := smwAll_shown xs h
    refine ⟨h1, h2, ?_⟩
    have := listText_le (PyData.shownAll xs)
    show (listText (PyData.shownAll xs)).length ≤ wtwAll xs + 3
    omega
  | .tuple xs, h => by
    obtain ⟨h1, h2, h3⟩ := smwAll_shown xs h
    refine ⟨h1, h2, ?_⟩
    have := tupleText_le (PyData.shownAll xs)
    show (tupleText (PyData.shownAll xs)).length ≤ wtwAll xs + 3
    omega
  | .str _, h => by cases h
  | .dict _, h => by cases h
theorem smwAll_shown : ∀ xs : List PyData, smwAll xs = true → PyData.showableAll xs = true ∧ PyData.hasDictAll xs = false ∧ piled (PyData.shownAll xs) ≤ wtwAll xs
  | [], _ => ⟨rfl, rfl, Nat.le_refl _⟩
  | x :: xs, h => by
    have h : (smw x && smwAll xs) = true := h
    rw [Bool.and_eq_true] at h
    obtain ⟨h1, h2, h3⟩ := smw_shown x h.1
    obtain ⟨h4, h5, h6⟩ := smwAll_shown xs h.2
    refine ⟨?_, ?_, ?_⟩
    · show (x.showable && PyData.showableAll xs) = true
      rw [h1, h4]; rfl
    · show (x.hasDict || PyData.hasDictAll xs) = false
      rw [h2, h5]; rfl
    · show piled (x.shown :: PyData.shownAll xs) ≤ wtw x + 2 + wtwAll xs
      rw [piled_cons]
      omega
end
theorem okShow_wide {p : PyData} (h : smw p = true) (hd : p.depth ≤ 64) (hw : wtw p ≤ szl) : okShow p = true := by
  obtain ⟨h1, h2, h3⟩ := smw_shown p h
  unfold okShow
  rw [h1, h2]
  simp only [Bool.not_false, Bool.and_true, Bool.true_and, Bool.and_eq_true, decide_eq_true_eq]
  exact ⟨hd, Nat.le_trans h3 hw⟩
end MS

set_option Elab.async false
set_option linter.all false
set_option maxRecDepth 100000
set_option maxHeartbeats 4000000
namespace MS
open PySem PySem.Spec PyProof.Rows L2

/-! ### list.pop(i) -/
theorem RpA.eraseIdx {K : PySem.W.Frag} {H : Hp} {μ : Mu} : ∀ {xs : List V} {ds : List D} (n : Nat), RpA K H μ xs ds → RpA K H μ (xs.eraseIdx n) (ds.eraseIdx n)
  | _, [], _, h => by cases h; exact .nil
  | _, _ :: _, 0, h => by
    cases h with
    | cons _ h2 => exact h2
  | _, _ :: _, n + 1, h => by
    cases h with
    | cons h1 h2 => exact .cons h1 (RpA.eraseIdx n h2)
def popD (S : Store) (n : Nat) (i : Int) : Option (D × Store) := (mat S n).bind fun ds => if ds.length ≤ szl then (L2.ixN ds.length i).bind fun k => (ds[k]?).map fun y => (y, S.set n (.lst (ds.eraseIdx k))) else none
/-- xs.pop(i) -/
def mPop (m : MExp) (a : MArg) : MExp := fun ρ S => (m ρ S).bind fun p => match p.1 with
  | .lr n => (mat p.2 n).bind fun _ => (a ρ p.2).bind fun q => match q.1 with
    | [.int i] => popD q.2 n i
    | _ => none
  | _ => none
section
variable {X : Cx} {e : Expr} {es : List Expr} {m : MArg}
theorem me_pop {o : Expr} {mo : MExp} {apos cpos : Pos} (ho : ME X o mo) (ha : MA X (e :: es) m)
    (hbase : attributeBase o "pop" X.env (eval o X.env) = eval o X.env := by rfl)
    (hfew : ((backTo cpos (starEach (e :: es) X.env)).all (fun x => !x.1) && (backToKw cpos (keywordEach [] X.env)).all (fun x => x.1.isSome)
      && decide ((e :: es).length + ([] : List Keyword).length + (if ([] : List Keyword).isEmpty then 0 else 1) < 30)) = true := by rfl)
    (hline : (apos.endLine == cpos.line) = true := by rfl) (hs : starEach (e :: es) X.env = (false, eval e X.env) :: starEach es X.env := by rfl) (hplain : (backTo cpos (starEach es X.env)).any (·.1) = false := by rfl) :
    ME X (.Call (.Attribute o "pop" apos) (e :: es) [] cpos) (mPop mo m) :=
  ⟨PE.imp (pe_bm PySem.F.plainAttrs_list PySem.F.slot_list_pop PySem.F.type_list_pop mt_popAt ho.pe ha.pa hbase hfew hline hs hplain) fun σ H Q ⟨ρ, S, μ, d, S', st, e, q⟩ => by
    obtain ⟨⟨d1, S1⟩, e1, e⟩ := Option.bind_eq_some_iff.mp e
    refine ⟨ρ, S, μ, d1, S1, st, e1, fun v H1 μ1 g1 s1 r1 => ?_⟩
    cases d1 with
    | lr n =>
      obtain ⟨ds0, e2, e⟩ := Option.bind_eq_some_iff.mp (show ((mat S1 n).bind fun _ => (m ρ S1).bind fun q => (match q.1 with
        | [.int i] => popD q.2 n i
        | _ => none)) = some (d, S') from e)
      obtain ⟨⟨as, S2⟩, e3, e⟩ := Option.bind_eq_some_iff.mp e
      obtain ⟨a, vs, rfl, h1, h2, h3⟩ := s1.mat e2 r1
      refine ⟨.inl ⟨rfl, vs, .inl (.inl h2)⟩, ρ, S1, μ1, as, S2, st.grow g1 s1, e3, fun ws H2 μ2 g2 s2 r2 => ?_⟩
      match as, r2, e with
      | [.int i], .cons (.int _) .nil, e =>
        have e : popD S2 n i = some (d, S') := e
        unfold popD at e
        obtain ⟨ds, e4, e⟩ := Option.bind_eq_some_iff.mp e
        split at e
        · rename_i hz
          obtain ⟨k, e5, e⟩ := Option.bind_eq_some_iff.mp e
          obtain ⟨y, e6, e⟩ := Option.map_eq_some_iff.mp e
          cases e
          obtain ⟨a', vs', h4, h5, h6, h7⟩ := s2.mat e4 (r1.grow g2)
          cases h4
          obtain ⟨f1, f2, f3, f4⟩ := ixN_seq e5
          obtain ⟨w, h8, h9⟩ := h7.get e6
          have hl := h7.length
          have hzz : ds.length ≤ 16777216 := hz
          refine ⟨a, vs', i, k, w, rfl, rfl, h6, by omega, by omega, by rw [hl]; exact f1, h8, ?_⟩
          exact q _ _ μ2 ((g1.trans g2).trans (.wrS s2 (mat_eq e4) rfl h5)) (s2.wr (mat_eq e4) h5 (h7.eraseIdx k)) (h9.grow (.wrS s2 (mat_eq e4) rfl h5))
        · cases e
    | _ => cases e⟩
end
section
variable {ρ : Ev} {S : Store} {Q : D → Store → Prop} {m : MExp} {a : MArg}
theorem ge_pop (h : GE (m ρ S) fun x S1 => ∃ n, x = .lr n ∧ (∃ z, mat S1 n = some z) ∧ GE (a ρ S1) fun xs S2 => ∃ i ds k y, xs = [.int i] ∧ mat S2 n = some ds ∧ ds.length ≤ szl ∧ L2.ixN ds.length i = some k ∧ ds[k]? = some y ∧ Q y (S2.set n (.lst (ds.eraseIdx k)))) : GE (mPop m a ρ S) Q :=
  ge_bind (h.mono fun x S1 ⟨n, e, ⟨z, hz⟩, h⟩ => by
    subst e
    show GE ((mat S1 n).bind fun _ => _) Q
    rw [hz]
    refine ge_bind (h.mono fun xs S2 ⟨i, ds, k, y, e, h1, h2, h3, h4, h5⟩ => ?_)
    subst e
    show GE (popD S2 n i) Q
    unfold popD
    rw [h1]
    show GE (if ds.length ≤ szl then (L2.ixN ds.length i).bind fun k => (ds[k]?).map fun y => (y, S2.set n (.lst (ds.eraseIdx k))) else none) Q
    rw [if_pos h2, h3]
    show GE ((ds[k]?).map fun y => (y, S2.set n (.lst (ds.eraseIdx k)))) Q
    rw [h4]
    exact ⟨_, _, rfl, h5⟩)
end
end MS

set_option Elab.async false
set_option linter.all false
set_option maxRecDepth 100000
set_option maxHeartbeats 4000000
namespace MS
open PySem PySem.Spec PyProof.Rows L2

/-! ### dicts -/
/-- a datum as a key, a tuple's items as one -/
def keyOf : D → Option Key
  | .int i => some (.inl i)
  | .str x => some (.inr x)
  | _ => none
def keysOf : List D → Option (List Key)
  | [] => some []
  | d :: ds => (keyOf d).bind fun k => (keysOf ds).map fun ks => k :: ks
section
variable {κ : Type} [DecidableEq κ]
def valD (kvs : List (κ × D)) (k : κ) : Option D := (kvs.find? fun kv => decide (kv.1 = k)).map (·.2)
def putD (kvs : List (κ × D)) (k : κ) (d : D) : List (κ × D) :=
  if (kvs.map (·.1)).contains k then kvs.map (fun kv => if kv.1 = k then (kv.1, d) else kv) else kvs ++ [(k, d)]
theorem valD_nil {k : κ} : valD ([] : List (κ × D)) k = none := rfl
theorem valD_cons {p : κ × D} {r : List (κ × D)} {k : κ} : valD (p :: r) k = if p.1 = k then some p.2 else valD r k := by
  unfold valD
  rw [List.find?_cons]
  by_cases h : p.1 = k
  · rw [if_pos h, decide_eq_true h]; rfl
  · rw [if_neg h, decide_eq_false h]
theorem putD_len {kvs : List (κ × D)} {k : κ} {d : D} : (putD kvs k d).length ≤ kvs.length + 1 := by
  unfold putD
  split
  · rw [List.length_map]; omega
  · rw [List.length_append, List.length_singleton]; omega
end
section
variable {K : PySem.W.Frag} {H H' : Hp} {μ : Mu} {κ : Type} [DecidableEq κ]
theorem rp_key {d : D} {v : V} {k : Key} (e : keyOf d = some k) (r : Rp K H μ v d) : v = kV k := by
  cases r <;> cases e <;> rfl
theorem rp_keys : ∀ {ds : List D} {vs : List V} {ks : List Key}, keysOf ds = some ks → RpA K H μ vs ds → vs = ks.map kV
  | [], _, _, e, r => by cases e; cases r; rfl
  | d :: ds, _, _, e, .cons r1 r2 => by
    obtain ⟨k, e1, e2⟩ := Option.bind_eq_some_iff.mp (show ((keyOf d).bind fun k => (keysOf ds).map fun ks => k :: ks) = _ from e)
    obtain ⟨ks, e3, e4⟩ := Option.map_eq_some_iff.mp e2
    subst e4
    rw [rp_key e1 r1, rp_keys e3 r2]
    rfl
theorem RpK.uncons {p : κ × V} {kws : List (κ × V)} {kvs : List (κ × D)} (h : RpK K H μ (p :: kws) kvs) : ∃ q kvs', kvs = q :: kvs' ∧ p.1 = q.1 ∧ Rp K H μ p.2 q.2 ∧ RpK K H μ kws kvs' := by
  obtain ⟨h1, h2⟩ := h
  cases kvs with
  | nil => cases h1
  | cons q kvs =>
    rw [List.map_cons, List.map_cons] at h1 h2
    cases h2 with
    | cons r1 r2 =>
      rw [List.cons.injEq] at h1
      exact ⟨q, kvs, rfl, h1.1, r1, h1.2, r2⟩
theorem RpK.val {k : κ} : ∀ {kws : List (κ × V)} {kvs : List (κ × D)}, RpK K H μ kws kvs → (valD kvs k = none ∧ valV kws k = none) ∨ ∃ d v, valD kvs k = some d ∧ valV kws k = some v ∧ Rp K H μ v d
  | [], kvs, h => by
    cases kvs with
    | nil => exact .inl ⟨rfl, rfl⟩
    | cons q kvs => cases h.1
  | p :: kws, kvs, h => by
    obtain ⟨q, kvs', rfl, e, r, h'⟩ := h.uncons
    rw [valD_cons]
    by_cases hk : p.1 = k
    · rw [if_pos (e ▸ hk), valV_pos hk]
      exact .inr ⟨_, _, rfl, rfl, r⟩
    · rw [if_neg (e ▸ hk), valV_neg hk]
      exact RpK.val h'
theorem RpA.mapSnd {k : κ} {v : V} {d : D} (r : Rp K H μ v d) : ∀ {kws : List (κ × V)} {kvs : List (κ × D)}, RpK K H μ kws kvs →
    RpK K H μ (kws.map fun kv => if kv.1 = k then (kv.1, v) else kv) (kvs.map fun kv => if kv.1 = k then (kv.1, d) else kv)
  | [], kvs, h => by
    cases kvs with
    | nil => exact h
    | cons q kvs => cases h.1
  | p :: kws, kvs, h => by
    obtain ⟨q, kvs', rfl, e, r', h'⟩ := h.uncons
    obtain ⟨i1, i2⟩ := RpA.mapSnd r h'
    rw [List.map_cons, List.map_cons]
    by_cases hk : p.1 = k
    · rw [if_pos hk, if_pos (e ▸ hk)]
      refine ⟨?_, ?_⟩
      · rw [List.map_cons, List.map_cons, i1]; simp only [e]
      · rw [List.map_cons, List.map_cons]; exact .cons r i2
    · rw [if_neg hk, if_neg (e ▸ hk)]
      refine ⟨?_, ?_⟩
      · rw [List.map_cons, List.map_cons, i1, e]
      · rw [List.map_cons, List.map_cons]; exact .cons r' i2
theorem any_keys {k : κ} : ∀ kws : List (κ × V), (kws.any fun kv => decide (kv.1 = k)) = (kws.map (·.1)).contains k
  | [] => rfl
  | p :: kws => by
    rw [List.any_cons, List.map_cons, List.contains_cons, any_keys kws]
    congr 1
    by_cases h : p.1 = k
    · rw [decide_eq_true h, h, beq_self_eq_true]
    · rw [decide_eq_false h]
      exact (beq_eq_false_iff_ne.mpr fun z => h z.symm).symm
theorem RpK.put {k : κ} {v : V} {d : D} {kws : List (κ × V)} {kvs : List (κ × D)} (h : RpK K H μ kws kvs) (r : Rp K H μ v d) : RpK K H μ (putK kws k v) (putD kvs k d) := by
  unfold putK putD
  rw [any_keys, h.1]
  split
  · exact RpA.mapSnd r h
  · obtain ⟨h1, h2⟩ := h
    refine ⟨?_, ?_⟩
    · rw [List.map_append, List.map_append, h1]; rfl
    · rw [List.map_append, List.map_append]; exact h2.append (.cons r .nil)
theorem RpK.len {kws : List (κ × V)} {kvs : List (κ × D)} (h : RpK K H μ kws kvs) : kws.length = kvs.length := by
  have := h.2.length
  rwa [List.length_map, List.length_map] at this
end
/-- what a dict of the store holds at a key -/
def dget (S : Store) (n : Nat) (y : D) : Option (Option D) := match S[n]? with
  | some (.dk kvs) => (keyOf y).map fun k => valD kvs k
  | some (.dt kvs) => match y with
    | .tup ds => (keysOf ds).map fun ks => valD kvs ks
    | _ => none
  | _ => none
/-- the store behind d[y] = v -/
def dput (S : Store) (n : Nat) (y d : D) : Option Store := match S[n]? with
  | some (.dk kvs) => if kvs.length < szl then (keyOf y).map fun k => S.set n (.dk (putD kvs k d)) else none
  | some (.dt kvs) => match y with
    | .tup ds => if kvs.length < szl then (keysOf ds).map fun ks => S.set n (.dt (putD kvs ks d)) else none
    | _ => none
  | _ => none
section
variable {K : PySem.W.Frag} {H : Hp} {μ : Mu} {S : Store}
theorem StR.dget {n : Nat} {x y : V} {dy : D} {r : Option D} (s : StR K H μ S) (e : MS.dget S n dy = some r) (rx : Rp K H μ x (.lr n)) (ry : Rp K H μ y dy) :
    ∃ a o, x = .ref a ∧ DGet H a y o ∧ ((r = none ∧ o = none) ∨ ∃ d v, r = some d ∧ o = some v ∧ Rp K H μ v d) := by
  unfold MS.dget at e
  split at e
  · rename_i kvs h
    obtain ⟨k, e1, e2⟩ := Option.map_eq_some_iff.mp e
    obtain ⟨a, q1, kws, h1, h2⟩ := s.get h
    cases rx with
    | lr hx =>
    rw [hx] at q1; cases q1
    rw [rp_key e1 ry]
    refine ⟨_, _, rfl, DGet.k h1, ?_⟩
    rcases RpK.val (k := k) h2 with ⟨q2, q3⟩ | ⟨d, v, q2, q3, q4⟩
    · exact .inl ⟨by rw [← e2, q2], q3⟩
    · exact .inr ⟨d, v, by rw [← e2, q2], q3, q4⟩
  · rename_i kvs h
    split at e
    · obtain ⟨ks, e1, e2⟩ := Option.map_eq_some_iff.mp e
      obtain ⟨a, q1, kws, h1, h2⟩ := s.get h
      cases rx with
      | lr hx =>
      rw [hx] at q1; cases q1
      cases ry with
      | tup hy ry =>
      have hy := hy
      unfold OwnT at hy
      rw [rp_keys e1 ry] at hy
      refine ⟨_, _, rfl, DGet.t h1 hy, ?_⟩
      rcases RpK.val (k := ks) h2 with ⟨q2, q3⟩ | ⟨d, v, q2, q3, q4⟩
      · exact .inl ⟨by rw [← e2, q2], q3⟩
      · exact .inr ⟨d, v, by rw [← e2, q2], q3, q4⟩
    · cases e
  · cases e
theorem StR.dput {n : Nat} {x y v : V} {dy d : D} {S' : Store} (s : StR K H μ S) (e : MS.dput S n dy d = some S') (rx : Rp K H μ x (.lr n)) (ry : Rp K H μ y dy) (rv : Rp K H μ v d) :
    ∃ a H', x = .ref a ∧ DPut H a y v H' ∧ Grow H H' μ μ ∧ StR K H' μ S' := by
  unfold MS.dput at e
  split at e
  · rename_i kvs h
    split at e
    · rename_i hz
      obtain ⟨k, e1, e2⟩ := Option.map_eq_some_iff.mp e
      subst e2
      obtain ⟨a, q1, kws, h1, h2⟩ := s.get h
      cases rx with
      | lr hx =>
      rw [hx] at q1; cases q1
      rw [rp_key e1 ry]
      have g : Grow H (upd H a (.dK (putK kws k v))) μ μ := .wrS s h rfl hx
      refine ⟨_, _, rfl, DPut.k h1 (by rw [h2.len]; exact szl_lt hz), g, ?_⟩
      exact s.wrM h rfl hx ⟨_, upd_same, (h2.put rv).grow g⟩
    · cases e
  · rename_i kvs h
    split at e
    · split at e
      · rename_i hz
        obtain ⟨ks, e1, e2⟩ := Option.map_eq_some_iff.mp e
        subst e2
        obtain ⟨a, q1, kws, h1, h2⟩ := s.get h
        cases rx with
        | lr hx =>
        rw [hx] at q1; cases q1
        cases ry with
        | tup hy ry =>
        have hy := hy
        unfold OwnT at hy
        rw [rp_keys e1 ry] at hy
        have g : Grow H (upd H a (.dT (putK kws ks v))) μ μ := .wrS s h rfl hx
        refine ⟨_, _, rfl, DPut.t h1 hy (by rw [h2.len]; exact szl_lt hz), g, ?_⟩
        exact s.wrM h rfl hx ⟨_, upd_same, (h2.put rv).grow g⟩
      · cases e
    · cases e
  · cases e
end
def isDict (S : Store) : D → Bool
  | .lr n => match S[n]? with
    | some (.dk _) => true
    | some (.dt _) => true
    | _ => false
  | _ => false
/-- d[y], x[i] -/
def fIxD : DOp2 := fun x y S => if isDict S x = true then (match x with
  | .lr n => (dget S n y).bind fun r => r.map fun d => (d, S)
  | _ => none) else fIx x y S
/-- y in d, y in xs -/
def fInD (b : Bool) : DOp2 := fun y x S => if isDict S x = true then (match x with
  | .lr n => (dget S n y).map fun r => (.bl (if b then !r.isSome else r.isSome), S)
  | _ => none) else fIn b y x S
def mDNewK : MExp := fun _ S => some (.lr S.length, S ++ [.dk []])
def mDNewT : MExp := fun _ S => some (.lr S.length, S ++ [.dt []])
/-- d[y] = e, as a target -/
def mgDict (mo mi : MExp) : MTg := fun d ρ S => (mo ρ S).bind fun p => (mi ρ p.2).bind fun q => match p.1 with
  | .lr n => (dput q.2 n q.1 d).map fun S' => (ρ, S')
  | _ => none
def rSetK : V → V → V → Hp → (Hp → Prop) → Prop := fun o i v H Q => ∃ a H', o = .ref a ∧ DPut H a i v H' ∧ Q H'
section
variable {X : Cx} {a b : Expr} {ma mb : MExp} {pos : Pos}
theorem me_ixD (hu : X.A.units + 1 < cLine) (ha : ME X a ma) (hb : ME X b mb) (hs : PlainIx b) (hs2 : NoSl b) : ME X (.Subscript a b pos) (mBin fIxD ma mb) := by
  refine ⟨⟨fun pins s σ H Q I h => ?_⟩⟩
  obtain ⟨ρ, S, μ, d, S', st, e, q⟩ := h
  obtain ⟨⟨d1, S1⟩, e1, e⟩ := Option.bind_eq_some_iff.mp e
  obtain ⟨⟨d2, S2⟩, e2, e⟩ := Option.bind_eq_some_iff.mp e
  have e : fIxD d1 d2 S2 = some (d, S') := e
  unfold fIxD at e
  split at e
  · cases d1 with
    | lr n =>
      obtain ⟨r, e3, e4⟩ := Option.bind_eq_some_iff.mp (show ((dget S2 n d2).bind fun r => r.map fun d => (d, S2)) = some (d, S') from e)
      obtain ⟨d', e5, e6⟩ := Option.map_eq_some_iff.mp e4
      cases e6
      refine (pe_dget hu ha.pe hb.pe hs2).run pins s σ H Q I ⟨ρ, S, μ, _, S1, st, e1, fun x H1 μ1 g1 s1 r1 => ⟨ρ, S1, μ1, _, _, st.grow g1 s1, e2, fun y H2 μ2 g2 s2 r2 => ?_⟩⟩
      obtain ⟨a', o, rfl, hg, hr⟩ := s2.dget e3 (r1.grow g2) r2
      rcases hr with ⟨z, _⟩ | ⟨dd, v, z, rfl, rv⟩
      · rw [e5] at z; cases z
      · rw [e5] at z; cases z
        exact ⟨a', v, rfl, hg, q v H2 μ2 (g1.trans g2) s2 rv⟩
    | _ => cases e
  · refine (me_ix ha hb hs).pe.run pins s σ H Q I ⟨ρ, S, μ, d, S', st, ?_, q⟩
    unfold mBin
    rw [e1]
    show ((mb ρ S1).bind fun q => fIx d1 q.1 q.2) = _
    rw [e2]
    exact e
theorem o_inD (hu : X.A.units + 1 < cLine) : OpR X (compareOp .In) (rM X.K (fInD false)) := by
  intro pins s σ H y x u w Q I ry rx ⟨S, μ, dy, dx, d, S', st, py, px, e, q⟩
  unfold fInD at e
  split at e
  · cases dx with
    | lr n =>
      obtain ⟨r, e3, e4⟩ := Option.map_eq_some_iff.mp (show ((dget S n dy).map fun r => (D.bl (if false then !r.isSome else r.isSome), S)) = some (d, S') from e)
      cases e4
      obtain ⟨a', o, rfl, hg, hr⟩ := st.dget e3 px py
      cases rx
      refine d_in hu I hg ry fun s3 I3 => ?_
      have : o.isSome = r.isSome := by
        rcases hr with ⟨rfl, rfl⟩ | ⟨dd, v, rfl, rfl, _⟩ <;> rfl
      rw [this]
      exact ⟨.bl r.isSome, H, I3, rfl, q.id st (.bl _)⟩
    | _ => cases e
  · exact o_in pins s σ H y x u w Q I ry rx ⟨S, μ, dy, dx, d, S', st, py, px, e, q⟩
theorem o_notInD (hu : X.A.units + 1 < cLine) : OpR X (compareOp .NotIn) (rM X.K (fInD true)) := by
  intro pins s σ H y x u w Q I ry rx ⟨S, μ, dy, dx, d, S', st, py, px, e, q⟩
  unfold fInD at e
  split at e
  · cases dx with
    | lr n =>
      obtain ⟨r, e3, e4⟩ := Option.map_eq_some_iff.mp (show ((dget S n dy).map fun r => (D.bl (if true then !r.isSome else r.isSome), S)) = some (d, S') from e)
      cases e4
      obtain ⟨a', o, rfl, hg, hr⟩ := st.dget e3 px py
      cases rx
      refine d_notIn hu I hg ry fun s3 I3 => ?_
      have : o.isSome = r.isSome := by
        rcases hr with ⟨rfl, rfl⟩ | ⟨dd, v, rfl, rfl, _⟩ <;> rfl
      rw [this]
      exact ⟨.bl (!r.isSome), H, I3, rfl, q.id st (.bl _)⟩
    | _ => cases e
  · exact o_notIn pins s σ H y x u w Q I ry rx ⟨S, μ, dy, dx, d, S', st, py, px, e, q⟩
theorem me_dnewK : ME X (.Dict [] [] pos) mDNewK := ⟨PE.imp pe_dnewK fun σ H Q ⟨ρ, S, μ, d, S', s, e, q⟩ => by
  cases e
  exact fun p hp => q (.ref p) _ (μ.add p) (.newL hp) (s.st.newM hp ⟨[], upd_same, rfl, .nil⟩) (.lr (by rw [← s.st.len]; exact Mu.new))⟩
theorem me_dnewT : ME X (.Dict [] [] pos) mDNewT := ⟨PE.imp pe_dnewT fun σ H Q ⟨ρ, S, μ, d, S', s, e, q⟩ => by
  cases e
  exact fun p hp => q (.ref p) _ (μ.add p) (.newL hp) (s.st.newM hp ⟨[], upd_same, rfl, .nil⟩) (.lr (by rw [← s.st.len]; exact Mu.new))⟩
theorem set_dict (hu : X.A.units + 1 < cLine) : PSet X rSetK := by
  intro pins s σ H o i v ov iv u Q I ro ri rv ⟨a, H', ex, g, q⟩
  subst ex
  cases ro
  exact d_setItem hu I g ri rv fun s4 I4 => ⟨H', I4, q⟩
theorem mg_dict {o i : Expr} {mo mi : MExp} (hu : X.A.units + 1 < cLine) (ho : ME X o mo) (hi : ME X i mi)
    (ha : ∀ v, assign (.Subscript o i pos) X.env v = (do
      let ov ← holding [v] (eval o X.env)
      let iv ← holding [v, ov] (eval i X.env)
      standAt pos
      holding [v, ov, iv] (setItem ov iv v)
      release [v, ov, iv] []) := by intro _; rfl) : MG X (.Subscript o i pos) (mgDict mo mi) :=
  ⟨PG.imp (pg_sub ho.pe hi.pe (set_dict hu) ha) fun v σ H Q ⟨d, ρ, S, μ, ρ', S', s, rr, e, q⟩ => by
    obtain ⟨⟨d1, S1⟩, e1, e⟩ := Option.bind_eq_some_iff.mp e
    obtain ⟨⟨d2, S2⟩, e2, e⟩ := Option.bind_eq_some_iff.mp e
    refine ⟨ρ, S, μ, d1, S1, s, e1, fun v1 H1 μ1 g1 s1 r1 => ⟨ρ, S1, μ1, d2, S2, s.grow g1 s1, e2, fun v2 H2 μ2 g2 s2 r2 => ?_⟩⟩
    cases d1 with
    | lr n =>
      obtain ⟨S3, e3, e4⟩ := Option.map_eq_some_iff.mp (show ((dput S2 n d2 d).map fun S' => (ρ, S')) = some (ρ', S') from e)
      cases e4
      have g12 := g1.trans g2
      obtain ⟨a', H3, rfl, hp, g3, s3⟩ := s2.dput e3 (r1.grow g2) r2 (rr.grow g12)
      exact ⟨a', H3, rfl, hp, q σ H3 μ2 (g12.trans g3) ((s.grow g12 s2).grow g3 s3)⟩
    | _ => cases e⟩
end
end MS

set_option Elab.async false
set_option linter.all false
set_option maxRecDepth 100000
set_option maxHeartbeats 4000000
set_option exponentiation.threshold 9000
namespace MS
open PySem PySem.Spec PyProof.Rows L2

/-! ### lcm -/
def cLcm : DCall := fun ds S => match ds with
  | [.int a, .int b] => if a.natAbs.log2 < 2000 ∧ b.natAbs.log2 < 2000 then some (.int ((Nat.lcm a.natAbs b.natAbs : Nat) : Int), S) else none
  | _ => none
theorem log2_lcm {a b : Nat} (ha : a.log2 < 2000) (hb : b.log2 < 2000) : (Nat.lcm a b).log2 < 8000 := by
  by_cases h0 : Nat.lcm a b = 0
  · rw [h0]; decide
  · have ha' : a < 2 ^ 2000 := by
      by_cases h : a = 0
      · subst h; exact Nat.two_pow_pos _
      · exact (Nat.log2_lt h).mp ha
    have hb' : b < 2 ^ 2000 := by
      by_cases h : b = 0
      · subst h; exact Nat.two_pow_pos _
      · exact (Nat.log2_lt h).mp hb
    have hle : Nat.lcm a b ≤ a * b := by
      unfold Nat.lcm
      exact Nat.div_le_self _ _
    have hlt : Nat.lcm a b < 2 ^ 4000 := Nat.lt_of_le_of_lt hle (by
      have : a * b < 2 ^ 2000 * 2 ^ 2000 := Nat.mul_lt_mul'' ha' hb'
      rwa [← Nat.pow_add] at this)
    exact Nat.lt_trans ((Nat.log2_lt h0).mpr hlt) (by decide)
theorem c_lcm {X : Cx} : CallR X (.builtin "math.lcm") (rCM X.K cLcm) := by
  intro pins s σ H vs us Q I r ⟨S, μ, ds, d, S', st, ra, e, q⟩
  unfold cLcm at e
  split at e
  · split at e
    · rename_i h
      cases e
      match vs, ra with
      | _, .cons (.int a) (.cons (.int b) .nil) =>
        obtain ⟨t, u, rfl⟩ := Vals.int2 r
        have e1 : Nat.lcm 1 a.natAbs = a.natAbs := Nat.lcm_one_left _
        have h2 : (max a.natAbs b.natAbs).log2 < 2000 := by
          rcases Nat.le_total a.natAbs b.natAbs with hh | hh
          · rw [Nat.max_eq_right hh]; exact h.2
          · rw [Nat.max_eq_left hh]; exact h.1
        have h1 : (max 1 a.natAbs).log2 < 2000 := by
          rcases Nat.le_total 1 a.natAbs with hh | hh
          · rw [Nat.max_eq_right hh]; exact h.1
          · rw [Nat.max_eq_left hh]; decide
        refine call_function_meets PySem.W.MGF.kind_lcm PySem.W.MGF.plain_lcm PySem.W.MGF.entry_lcm (PySem.W.MGF.args_lcm _ _) (PySem.W.mg_run_lcm a t b u (by omega) (by omega) ?_).meets ?_
        · rw [e1, Int.natAbs_natCast]
          exact Nat.lt_trans (log2_lcm h.1 h.2) (by decide)
        · rw [e1]
          exact ⟨.int _, H, I.tok _, ⟨_, rfl⟩, q.id st (.int _)⟩
    · cases e
  · cases e

/-! ### the greatest and the least of a list or tuple of ints -/
def maxI : List Int → Option Int
  | [] => none
  | [x] => some x
  | x :: xs => (maxI xs).map fun m => if m > x then m else x
theorem maxI_spec : ∀ {ns : List Int} {m : Int}, maxI ns = some m → m ∈ ns ∧ ∀ y ∈ ns, y ≤ m
  | [x], m, h => by cases h; exact ⟨List.mem_cons_self, fun y hy => by rw [List.mem_singleton.mp hy]; exact Int.le_refl _⟩
  | x :: z :: xs, m, h => by
    obtain ⟨m', h1, h2⟩ := Option.map_eq_some_iff.mp (show (maxI (z :: xs)).map (fun m => if m > x then m else x) = some m from h)
    obtain ⟨k1, k2⟩ := maxI_spec h1
    subst h2
    refine ⟨?_, fun y hy => ?_⟩
    · split
      · exact List.mem_cons_of_mem _ k1
      · exact List.mem_cons_self
    · rcases List.mem_cons.mp hy with rfl | hy
      · split <;> omega
      · have := k2 y hy
        split <;> omega
theorem maxI_some : ∀ {ns : List Int}, ns ≠ [] → ∃ m, maxI ns = some m
  | [], h => absurd rfl h
  | [x], _ => ⟨x, rfl⟩
  | x :: z :: xs, _ => by
    obtain ⟨m, h⟩ := maxI_some (ns := z :: xs) (by simp)
    exact ⟨_, by show (maxI (z :: xs)).map _ = _; rw [h]; rfl⟩
def minI (ns : List Int) : Option Int := (maxI (ns.map fun x => -x)).map fun m => -m
theorem minI_spec {ns : List Int} {m : Int} (h : minI ns = some m) : m ∈ ns ∧ ∀ y ∈ ns, m ≤ y := by
  obtain ⟨k, h1, rfl⟩ := Option.map_eq_some_iff.mp h
  obtain ⟨h2, h3⟩ := maxI_spec h1
  obtain ⟨x, hx, rfl⟩ := List.mem_map.mp h2
  refine ⟨by rw [Int.neg_neg]; exact hx, fun y hy => ?_⟩
  have := h3 (-y) (List.mem_map.mpr ⟨y, hy, rfl⟩)
  omega
theorem minI_some {ns : List Int} (h : ns ≠ []) : ∃ m, minI ns = some m := by
  obtain ⟨m, e⟩ := maxI_some (ns := ns.map fun x => -x) (by simpa using h)
  exact ⟨-m, by unfold minI; rw [e]; rfl⟩
def cMaxA : DCall := fun ds S => match ds with
  | [d] => (MS.items S d).bind fun es => (intsOf es).bind fun ns => (maxI ns).map fun m => (.int m, S)
  | _ => cMax ds S
def cMinA : DCall := fun ds S => match ds with
  | [d] => (MS.items S d).bind fun es => (intsOf es).bind fun ns => (minI ns).map fun m => (.int m, S)
  | _ => cMin ds S
section
variable {prog : Program} {w : World} {A : Around} {E : Value → Shared → Prop} {s : Shared} {l : Addr}
theorem iter_tupleI {its : Array Value} {Q : Value → Shared → Prop} (hl : s.heap.IsTuple l its)
    (h : ∀ s2 : Shared, s2 = { s with heap := s.heap.push { cls := .type "tuple_iterator", data := .fields #[.ref l, .int 0 0] } } → s2.heap.IsTupleIter s.heap.objs.size l 0 → s2.heap.IsTuple l its → (∀ b ∈ [s.heap.objs.size, l], b < s2.heap.objs.size) → l ≠ s.heap.objs.size → Q (.ref s.heap.objs.size) s2) :
    wpAny (model prog w) A (pyIter (.ref l)) Q E s := by
  have hlt : l < s.heap.objs.size := by obtain ⟨_, e, _⟩ := hl; exact Heap.lt_size e
  refine wpAny_pyIter_tuple hl (h _ rfl ⟨_, Heap.get?_push_size _ rfl, rfl, rfl⟩ (hl.push _) (fun b hb => ?_) (Nat.ne_of_lt hlt))
  show b < (s.heap.push _).objs.size
  rw [Heap.size_push]
  simp only [List.mem_cons, List.not_mem_nil, or_false] at hb
  rcases hb with rfl | rfl
  · exact Nat.lt_succ_self _
  · exact Nat.lt_succ_of_lt hlt
theorem kept_tupleI {h' : Heap} (hk : ∀ b o, b ∉ [s.heap.objs.size] → (s.heap.push { cls := .type "tuple_iterator", data := .fields #[.ref l, .int 0 0] }).get? b = some o → h'.get? b = some o) :
    ∀ b o, s.heap.get? b = some o → h'.get? b = some o := fun b o e => by
  refine hk b o (fun z => ?_) (Heap.get?_push_of_some _ e)
  have := Heap.lt_size e
  rw [List.mem_singleton.mp z] at this
  exact Nat.lt_irrefl _ this
end
section
variable {X : Cx} {pins : List (Addr × Obj)} {σ : L2.St} {H : Hp} {s : Shared}
theorem max_tuple (hc : X.calm = true) (I : Inv X pins σ H s) {a : Addr} {ns : List Int} {Q : VK} (hq : SqT X.K H a (ns.map V.int)) (hne : 0 < ns.length) (q : ∀ m, m ∈ ns → (∀ y ∈ ns, y ≤ m) → Q (.int m) H) :
    wpAny (model X.prog X.w) X.A (call (.builtin "max") [.ref a]) (EP X pins σ Q) X.xe s := by
  obtain ⟨its, rv, hp, hz⟩ := I.tuple hq
  have hi := rv.ints
  obtain ⟨xs, e⟩ := hi.allInts.items
  have hn : numsOf (intItems xs).toList = ns := by rw [← e]; exact hi.numsOf
  rw [nums_intItems] at hn
  subst hn
  have hl : s.heap.IsTuple a (intItems xs) := by rw [← e]; exact hp
  have hsz : 0 < xs.size := by simpa using hne
  refine call_max_walk (iter_tupleI hl fun s2 e2 st1 st2 hfp hlI => ?_)
  subst e2
  refine ⟨_, _, _, _, _, _, _, rfl, Walks.tuple (A := X.A.in1) (I.ok.hd hc) _ a hlI (intItems xs), ⟨st1, st2⟩, hfp, by simpa [intItems] using hsz, CmpOf.ints_gt (numAt xs) (fun _ _ => intItems_at), fun v h' tk hP hk => ?_⟩
  have hP : (intItems xs)[argBest (fun i j => decide (numAt xs i > numAt xs j)) (xs.size - 1)]? = some v := by simpa [intItems] using hP
  obtain ⟨t, rfl⟩ := intItems_at hP
  obtain ⟨h1, h2⟩ := argBest_gt (numAt xs) (xs.size - 1)
  refine ⟨.int _, H, I.kept (kept_tupleI hk), ⟨_, rfl⟩, q _ ?_ fun y hy => ?_⟩
  · rw [numAt_eq]; exact PySem.getD_mem (by rw [List.length_map, Array.length_toList]; omega)
  · obtain ⟨j, hj, rfl⟩ := mem_getD hy
    rw [List.length_map, Array.length_toList] at hj
    rw [← numAt_eq]; exact h2 j (by omega)
theorem min_tuple (hc : X.calm = true) (I : Inv X pins σ H s) {a : Addr} {ns : List Int} {Q : VK} (hq : SqT X.K H a (ns.map V.int)) (hne : 0 < ns.length) (q : ∀ m, m ∈ ns → (∀ y ∈ ns, m ≤ y) → Q (.int m) H) :
    wpAny (model X.prog X.w) X.A (call (.builtin "min") [.ref a]) (EP X pins σ Q) X.xe s := by
  obtain ⟨its, rv, hp, hz⟩ := I.tuple hq
  have hi := rv.ints
  obtain ⟨xs, e⟩ := hi.allInts.items
  have hn : numsOf (intItems xs).toList = ns := by rw [← e]; exact hi.numsOf
  rw [nums_intItems] at hn
  subst hn
  have hl : s.heap.IsTuple a (intItems xs) := by rw [← e]; exact hp
  have hsz : 0 < xs.size := by simpa using hne
  refine call_min_walk (iter_tupleI hl fun s2 e2 st1 st2 hfp hlI => ?_)
  subst e2
  refine ⟨_, _, _, _, _, _, _, rfl, Walks.tuple (A := X.A.in1) (I.ok.hd hc) _ a hlI (intItems xs), ⟨st1, st2⟩, hfp, by simpa [intItems] using hsz, CmpOf.ints_lt (numAt xs) (fun _ _ => intItems_at), fun v h' tk hP hk => ?_⟩
  have hP : (intItems xs)[argBest (fun i j => decide (numAt xs i < numAt xs j)) (xs.size - 1)]? = some v := by simpa [intItems] using hP
  obtain ⟨t, rfl⟩ := intItems_at hP
  obtain ⟨h1, h2⟩ := argBest_lt (numAt xs) (xs.size - 1)
  refine ⟨.int _, H, I.kept (kept_tupleI hk), ⟨_, rfl⟩, q _ ?_ fun y hy => ?_⟩
  · rw [numAt_eq]; exact PySem.getD_mem (by rw [List.length_map, Array.length_toList]; omega)
  · obtain ⟨j, hj, rfl⟩ := mem_getD hy
    rw [List.length_map, Array.length_toList] at hj
    rw [← numAt_eq]; exact h2 j (by omega)
end
theorem c_maxA {X : Cx} (hc : X.calm = true) : CallR X (.builtin "max") (rCM X.K cMaxA) := by
  intro pins s σ H vs us Q I r ⟨S, μ, ds, d, S', st, ra, e, q⟩
  match ds, ra, e with
  | [d0], .cons r1 .nil, e =>
    obtain ⟨es, e1, e⟩ := Option.bind_eq_some_iff.mp (show ((MS.items S d0).bind fun es => (intsOf es).bind fun ns => (maxI ns).map fun m => (D.int m, S)) = some (d, S') from e)
    obtain ⟨ns, e2, e⟩ := Option.bind_eq_some_iff.mp e
    obtain ⟨m, e3, e4⟩ := Option.map_eq_some_iff.mp e
    cases e4
    obtain ⟨m1, m2⟩ := maxI_spec e3
    have uniq : ∀ k, k ∈ ns → (∀ y ∈ ns, y ≤ k) → k = m := fun k k1 k2 => Int.le_antisymm (m2 k k1) (k2 m m1)
    have hne : 0 < ns.length := List.length_pos_of_mem m1
    obtain ⟨a, ws, rfl, h1, h2⟩ := st.items e1 r1
    rw [intsOf_rp e2 h2] at h1
    rcases h1 with h1 | h1
    · exact cr_max hc pins s σ H _ us Q I r ⟨a, ns, rfl, h1, hne, fun k k1 k2 => by rw [uniq k k1 k2]; exact q.id st (.int _)⟩
    · rw [Vals.ref1 r]
      exact max_tuple hc I h1 hne fun k k1 k2 => by rw [uniq k k1 k2]; exact q.id st (.int _)
  | [], ra, e => exact c_max hc pins s σ H _ us Q I r ⟨S, μ, _, d, S', st, ra, e, q⟩
  | _ :: _ :: _, ra, e => exact c_max hc pins s σ H _ us Q I r ⟨S, μ, _, d, S', st, ra, e, q⟩
theorem c_minA {X : Cx} (hc : X.calm = true) : CallR X (.builtin "min") (rCM X.K cMinA) := by
  intro pins s σ H vs us Q I r ⟨S, μ, ds, d, S', st, ra, e, q⟩
  match ds, ra, e with
  | [d0], .cons r1 .nil, e =>
    obtain ⟨es, e1, e⟩ := Option.bind_eq_some_iff.mp (show ((MS.items S d0).bind fun es => (intsOf es).bind fun ns => (minI ns).map fun m => (D.int m, S)) = some (d, S') from e)
    obtain ⟨ns, e2, e⟩ := Option.bind_eq_some_iff.mp e
    obtain ⟨m, e3, e4⟩ := Option.map_eq_some_iff.mp e
    cases e4
    obtain ⟨m1, m2⟩ := minI_spec e3
    have uniq : ∀ k, k ∈ ns → (∀ y ∈ ns, k ≤ y) → k = m := fun k k1 k2 => Int.le_antisymm (k2 m m1) (m2 k k1)
    have hne : 0 < ns.length := List.length_pos_of_mem m1
    obtain ⟨a, ws, rfl, h1, h2⟩ := st.items e1 r1
    rw [intsOf_rp e2 h2] at h1
    rcases h1 with h1 | h1
    · exact cr_min hc pins s σ H _ us Q I r ⟨a, ns, rfl, h1, hne, fun k k1 k2 => by rw [uniq k k1 k2]; exact q.id st (.int _)⟩
    · rw [Vals.ref1 r]
      exact min_tuple hc I h1 hne fun k k1 k2 => by rw [uniq k k1 k2]; exact q.id st (.int _)
  | [], ra, e => exact c_min hc pins s σ H _ us Q I r ⟨S, μ, _, d, S', st, ra, e, q⟩
  | _ :: _ :: _, ra, e => exact c_min hc pins s σ H _ us Q I r ⟨S, μ, _, d, S', st, ra, e, q⟩
end MS

set_option Elab.async false
set_option linter.all false
set_option maxRecDepth 100000
set_option maxHeartbeats 4000000
namespace MS
open PySem PySem.Spec PyProof.Rows L2

/-! ### sorted(set(t)), t a tuple of ints -/
def insU (x : Int) : List Int → List Int
  | [] => [x]
  | y :: l => if x < y then x :: y :: l else if x = y then y :: l else y :: insU x l
def sortU (ns : List Int) : List Int := ns.foldr insU []
theorem mem_insU {x z : Int} : ∀ {l : List Int}, z ∈ insU x l ↔ z = x ∨ z ∈ l
  | [] => by simp [insU]
  | y :: l => by
    unfold insU
    split
    · simp
    · split
      · rename_i h1 h2
        subst h2
        simp
      · rw [List.mem_cons, mem_insU (l := l), List.mem_cons]
        constructor
        · rintro (h | h | h)
          · exact .inr (.inl h)
          · exact .inl h
          · exact .inr (.inr h)
        · rintro (h | h | h)
          · exact .inr (.inl h)
          · exact .inl h
          · exact .inr (.inr h)
theorem mem_sortU {z : Int} : ∀ {ns : List Int}, z ∈ sortU ns ↔ z ∈ ns
  | [] => Iff.rfl
  | x :: ns => by
    show z ∈ insU x (sortU ns) ↔ _
    rw [mem_insU, mem_sortU (ns := ns), List.mem_cons]
theorem insU_sorted {x : Int} : ∀ {l : List Int}, l.Pairwise (· < ·) → (insU x l).Pairwise (· < ·)
  | [], _ => by simp [insU]
  | y :: l, h => by
    obtain ⟨h1, h2⟩ := List.pairwise_cons.mp h
    unfold insU
    split
    · rename_i hx
      refine List.pairwise_cons.mpr ⟨fun z hz => ?_, h⟩
      rcases List.mem_cons.mp hz with rfl | hz
      · exact hx
      · exact Int.lt_trans hx (h1 z hz)
    · split
      · exact h
      · refine List.pairwise_cons.mpr ⟨fun z hz => ?_, insU_sorted h2⟩
        rcases mem_insU.mp hz with rfl | hz
        · omega
        · exact h1 z hz
theorem sortU_sorted : ∀ (ns : List Int), (sortU ns).Pairwise (· < ·)
  | [] => .nil
  | x :: ns => insU_sorted (sortU_sorted ns)
/-- one rising list of given members -/
theorem rising_ext : ∀ {l m : List Int}, l.Pairwise (· < ·) → m.Pairwise (· < ·) → (∀ z, z ∈ l ↔ z ∈ m) → l = m
  | [], [], _, _, _ => rfl
  | [], b :: m, _, _, h => absurd ((h b).mpr List.mem_cons_self) List.not_mem_nil
  | a :: l, [], _, _, h => absurd ((h a).mp List.mem_cons_self) List.not_mem_nil
  | a :: l, b :: m, hl, hm, h => by
    obtain ⟨l1, l2⟩ := List.pairwise_cons.mp hl
    obtain ⟨m1, m2⟩ := List.pairwise_cons.mp hm
    have e : a = b := by
      rcases List.mem_cons.mp ((h a).mp List.mem_cons_self) with e | ha
      · exact e
      · rcases List.mem_cons.mp ((h b).mpr List.mem_cons_self) with e | hb
        · exact e.symm
        · have := l1 b hb
          have := m1 a ha
          omega
    subst e
    rw [rising_ext l2 m2 fun z => ?_]
    constructor
    · intro hz
      rcases List.mem_cons.mp ((h z).mp (List.mem_cons_of_mem _ hz)) with e | hz'
      · subst e; exact absurd (l1 z hz) (Int.lt_irrefl z)
      · exact hz'
    · intro hz
      rcases List.mem_cons.mp ((h z).mpr (List.mem_cons_of_mem _ hz)) with e | hz'
      · subst e; exact absurd (m1 z hz) (Int.lt_irrefl z)
      · exact hz'
section
variable {X : Cx}
/-- set(t) -/
def rSetT (K : PySem.W.Frag) (w : World) : List V → Hp → VK → Prop := fun vs H Q => ∃ (a : Addr) (ns : List Int), vs = [V.ref a] ∧ SqT K H a (ns.map V.int) ∧ ns.length ≤ 1000 ∧
  ∀ p c, H p = none → c ≤ ns.length → Q (.ref p) (upd H p (SetO w p (fun j => decide (j ∈ ns)) c))
theorem cr_setT (hc : X.calm = true) : CallR X (.type "set") (rSetT X.K X.w) := by
  intro pins s σ H vs us Q I r ⟨a, ns, ex, hq, hl, q⟩
  subst ex
  obtain ⟨its, rv, pt, hz⟩ := I.tuple hq
  have hi : IntsAre its.toArray.toList ns := ints_of_vals rv
  rw [Vals.ref1 r]
  refine call_set_tupI ns (I.ok.hd hc) (show s.heap.IsTuple a its.toArray from pt) hi (by unfold scanBound; omega) fun h' tk c R hcn k => ?_
  have hn : H s.heap.objs.size = none := I.hok.fresh (Nat.le_refl _)
  have J := I.call (ch := []) (g' := s.gens) (t' := tk) (d' := s.drawn) (Un.laid (o := SetO X.w s.heap.objs.size (fun j => decide (j ∈ ns)) c) k (Nat.le_refl _) hn) (I.hok.laid k (Nat.le_refl _) (setO_new R)) I.bare (fun _ z => nomatch z)
  exact ⟨.ref s.heap.objs.size, _, J, rfl, q _ c hn hcn⟩
def mSortSet (m : MArg) : MExp := fun ρ S => (m ρ S).bind fun p => match p.1 with
  | [.tup ds] => (intsOf ds).bind fun ns => if ns.length < 64 then some (.lr p.2.length, p.2 ++ [.lst ((sortU ns).map D.int)]) else none
  | _ => none
theorem me_sortSet {e : Expr} {m : MArg} {p p2 q q2 : Pos} (hc : X.calm = true) (hg : Gl X "sorted") (hm : X.mg "sorted" = none) (hg2 : Gl X "set") (hm2 : X.mg "set" = none) (ha : MA X [e] m)
    (hs1 : starEach [.Call (.Name "set" p2) [e] [] q2] X.env = (false, eval (.Call (.Name "set" p2) [e] [] q2) X.env) :: starEach [] X.env := by rfl)
    (hs : starEach [e] X.env = (false, eval e X.env) :: starEach [] X.env := by rfl) : ME X (.Call (.Name "sorted" p) [.Call (.Name "set" p2) [e] [] q2] [] q) (mSortSet m) :=
  ⟨PE.imp (pe_callB (cr_sortedSet hc) hg hm (show bootBuiltins "sorted" = some (.builtin "sorted") by decide +kernel) (pa_cons (pe_callTy (cr_setT hc) hg2 hm2 PyProof.Rows.boot_set ha.pa (by decide) (by decide) hs (by rfl)) pa_nil hs1) (by decide) (by decide) hs1 (by rfl)) fun σ H Q ⟨ρ, S, μ, d, S', st, e, q⟩ => by
    obtain ⟨⟨ds, S1⟩, e1, e⟩ := Option.bind_eq_some_iff.mp e
    refine ⟨ρ, S, μ, ds, S1, st, e1, fun vs H1 μ1 g1 s1 r1 => ?_⟩
    match ds, r1, e with
    | [.tup es], .cons (.tup h1 h2) .nil, e =>
      obtain ⟨ns, e2, e⟩ := Option.bind_eq_some_iff.mp (show ((intsOf es).bind fun ns => if ns.length < 64 then some (D.lr S1.length, S1 ++ [.lst ((sortU ns).map D.int)]) else none) = some (d, S') from e)
      split at e
      · rename_i hz
        cases e
        have h1 := sq X.K _ h1
        rw [intsOf_rp e2 h2] at h1
        refine ⟨_, ns, rfl, h1, by omega, fun p c hp hcn => ?_⟩
        refine ⟨p, _, c, rfl, upd_same, by omega, fun ns' p' hs' hm' _ hp' => ?_⟩
        have en : ns' = sortU ns := rising_ext hs' (sortU_sorted ns) fun z => by rw [hm' z, mem_sortU, decide_eq_true_eq]
        subst en
        have s2 : StR X.K (upd H1 p (SetO X.w p (fun j => decide (j ∈ ns)) c)) μ1 S1 := s1.new hp
        have g2 : Grow H1 (upd H1 p (SetO X.w p (fun j => decide (j ∈ ns)) c)) μ1 μ1 := .new hp
        exact q (.ref p') _ (μ1.add p') ((g1.trans g2).trans (.newL hp')) (s2.newL hp' RpA.ints) (.lr (by rw [← s1.len]; exact Mu.new))
      · cases e
    | [], _, e => cases e
    | [.non], _, e => cases e
    | [.bl _], _, e => cases e
    | [.int _], _, e => cases e
    | [.str _], _, e => cases e
    | [.lr _], _, e => cases e
    | d1 :: _ :: _, _, e => (cases d1 <;> cases e)⟩
end

/-! ### xs[i] op= e -/
def augL (f : DOp2) (m : MExp) (n : Nat) (k : Int) : MStm := fun ρ S => if 0 ≤ k then (mat S n).bind fun ds => (L2.ixN ds.length k).bind fun j => (ds[j]?).bind fun old => (m ρ S).bind fun r => (f old r.1 r.2).bind fun z => (mat z.2 n).bind fun ds' => if ds'.length = ds.length then some (.nx, ρ, z.2.set n (.lst (ds'.set j z.1))) else none else none
def mAugS (f : DOp2) (mo mi m : MExp) : MStm := fun ρ S => (mo ρ S).bind fun p => (mi ρ p.2).bind fun q => match p.1, q.1 with
  | .lr n, .int k => augL f m n k ρ q.2
  | _, _ => none
section
variable {X : Cx}
def rGetL : V → V → Hp → VK → Prop := fun o i H Q => ∃ p xs k j v, o = .ref p ∧ i = .int k ∧ 0 ≤ k ∧ H p = some (.lst xs) ∧ ixN xs.length k = some j ∧ xs[j]? = some v ∧ Q v H
theorem get_list : PGet X rGetL := by
  intro pins s σ H o i ov iv Q I ro ri ⟨p, xs, k, j, v, eo, ei, h0, hp, hj, hv, q⟩
  subst eo ei
  cases ro
  obtain ⟨t, rfl⟩ := ri
  obtain ⟨its, r, pl, hz⟩ := I.list (SqL.of hp)
  obtain ⟨w, ew, rw'⟩ := r.get hv
  have hl := r.length
  obtain ⟨h1, h2, h3, h4⟩ := ixN_seq hj
  have hk : k.toNat = j := by
    rw [seqIndex_of h0 h4] at h1
    exact Option.some.inj h1
  have hn := line63
  refine wpAny_getItem_list (x := w) pl.isList h0 (by omega) (by rw [hk, List.getElem?_toArray]; exact ew) ⟨v, H, I, rw', q⟩
theorem ms_augS {o i e : Expr} {mo mi m : MExp} {op : Operator} {f : DOp2} {tpos pos : Pos} (ho : ME X o mo) (hi : ME X i mi) (he : ME X e m) (hp : PIp X op (rM X.K f))
    (ha : ∀ ov iv new, augStore i ov iv new = (do holding [new, ov, iv] (setItem ov iv new); release [new, ov, iv] []; pure .next) := by intros; rfl) : MS_ X (.AugAssign (.Subscript o i tpos) op e pos) (mAugS f mo mi m) :=
  ⟨PS.imp (ps_augS ho.pe hi.pe get_list he.pe hp set_list ha) fun D_ σ H ⟨ρ, S, μ, fl, ρ', S', st, e, q⟩ => by
    obtain ⟨⟨d1, S1⟩, e1, e⟩ := Option.bind_eq_some_iff.mp e
    obtain ⟨⟨d2, S2⟩, e2, e⟩ := Option.bind_eq_some_iff.mp e
    refine ⟨ρ, S, μ, d1, S1, st, e1, fun v1 H1 μ1 g1 s1 r1 => ⟨ρ, S1, μ1, d2, S2, st.grow g1 s1, e2, fun v2 H2 μ2 g2 s2 r2 => ?_⟩⟩
    cases d1 with
    | lr n =>
      cases d2 with
      | int k =>
        have e : augL f m n k ρ S2 = some (fl, ρ', S') := e
        unfold augL at e
        split at e
        · rename_i h0
          obtain ⟨ds, e3, e⟩ := Option.bind_eq_some_iff.mp e
          obtain ⟨j, e4, e⟩ := Option.bind_eq_some_iff.mp e
          obtain ⟨old, e5, e⟩ := Option.bind_eq_some_iff.mp e
          obtain ⟨⟨d3, S3⟩, e6, e⟩ := Option.bind_eq_some_iff.mp e
          obtain ⟨⟨d4, S4⟩, e7, e⟩ := Option.bind_eq_some_iff.mp e
          obtain ⟨ds', e8, e⟩ := Option.bind_eq_some_iff.mp e
          split at e
          · rename_i hlen
            cases e
            have g12 := g1.trans g2
            obtain ⟨a, vs, rfl, h1, h2, h3⟩ := s2.mat e3 (r1.grow g2)
            cases r2
            obtain ⟨w, h4, h5⟩ := h3.get e5
            refine ⟨a, vs, k, j, w, rfl, rfl, h0, h2, by rw [h3.ixN]; exact e4, h4, ?_⟩
            refine ⟨ρ, S2, μ2, d3, S3, st.grow g12 s2, e6, fun v3 H3 μ3 g3 s3 r3 => ?_⟩
            refine ⟨S3, μ3, old, d3, d4, S4, s3, h5.grow g3, r3, e7, fun v4 H4 μ4 g4 s4 r4 => ?_⟩
            have g34 := g3.trans g4
            obtain ⟨a', vs', h6, h7, h8, h9⟩ := s4.mat e8 ((r1.grow g2).grow g34)
            cases h6
            refine ⟨a, vs', k, j, rfl, rfl, h8, by rw [h9.ixN, hlen]; exact e4, ?_⟩
            have g14 := g12.trans g34
            exact q σ _ μ4 (g14.trans (.wrS s4 (mat_eq e8) rfl h7)) ((st.grow g14 s4).grow (.wrS s4 (mat_eq e8) rfl h7) (s4.wr (mat_eq e8) h7 (h9.set r4 j)))
          · cases e
        · cases e
      | _ => cases e
    | _ => cases e⟩
end

/-! ### is None -/
def D.isNon : D → Bool
  | .non => true
  | _ => false
def fIs : DOp2
  | d, .non, S => some (.bl d.isNon, S)
  | _, _, _ => none
def fIsNot : DOp2
  | d, .non, S => some (.bl (!d.isNon), S)
  | _, _, _ => none
theorem rp_non {K : PySem.W.Frag} {H : Hp} {μ : Mu} {v : V} {d : D} (r : Rp K H μ v d) : decide (v = .non) = d.isNon := by
  cases r <;> first | rfl | exact decide_eq_false (by intro z; cases z)
section
variable {X : Cx}
theorem o_isN : OpR X (compareOp .Is) (rM X.K fIs) := OpR.imp op_isN fun x y H Q ⟨S, μ, dx, dy, d, S', s, rx, ry, e, q⟩ => by
  unfold fIs at e
  split at e
  · cases e; cases ry
    refine ⟨rfl, ?_⟩
    rw [rp_non rx]
    exact q.id s (.bl _)
  · cases e
theorem o_isNotN : OpR X (compareOp .IsNot) (rM X.K fIsNot) := OpR.imp op_notN fun x y H Q ⟨S, μ, dx, dy, d, S', s, rx, ry, e, q⟩ => by
  unfold fIsNot at e
  split at e
  · cases e; cases ry
    refine ⟨rfl, ?_⟩
    rw [rp_non rx]
    exact q.id s (.bl _)
  · cases e
end
end MS

set_option Elab.async false
set_option linter.all false
set_option maxRecDepth 100000
set_option maxHeartbeats 4000000
namespace MS
open PySem PySem.Spec PyProof.Rows L2
/-! ### the newer readings run forward -/
section
variable {ρ : Ev} {S : Store} {Q : D → Store → Prop} {QS : Fl → Ev → Store → Prop} {QE : Ev → Store → Prop} {m mo mi : MExp} {a : MArg}
theorem ge_isN {d : D} (h : Q (.bl d.isNon) S) : GE (fIs d .non S) Q := by cases d <;> exact ⟨_, _, rfl, h⟩
theorem ge_isNotN {d : D} (h : Q (.bl (!d.isNon)) S) : GE (fIsNot d .non S) Q := by cases d <;> exact ⟨_, _, rfl, h⟩
theorem ge_sortSet (h : GE (a ρ S) fun xs S1 => ∃ ns : List Int, xs = [.tup (ns.map D.int)] ∧ ns.length < 64 ∧ Q (.lr S1.length) (S1 ++ [.lst ((sortU ns).map D.int)])) : GE (mSortSet a ρ S) Q :=
  ge_bind (h.mono fun xs S1 ⟨ns, e, hz, h⟩ => by
    subst e
    show GE ((intsOf (ns.map D.int)).bind fun ns => if ns.length < 64 then some (D.lr S1.length, S1 ++ [.lst ((sortU ns).map D.int)]) else none) Q
    rw [intsOf_map]
    exact ⟨_, _, if_pos hz, h⟩)
theorem ge_maxA {x : D} {ns : List Int} {m : Int} (h1 : MS.items S x = some (ns.map D.int)) (h2 : maxI ns = some m) (h : Q (.int m) S) : GE (cMaxA [x] S) Q := by
  show GE ((MS.items S x).bind fun es => (intsOf es).bind fun ns => (maxI ns).map fun m => (D.int m, S)) Q
  rw [h1]
  show GE ((intsOf (ns.map D.int)).bind fun ns => (maxI ns).map fun m => (D.int m, S)) Q
  rw [intsOf_map]
  show GE ((maxI ns).map fun m => (D.int m, S)) Q
  rw [h2]
  exact ⟨_, _, rfl, h⟩
theorem ge_minA {x : D} {ns : List Int} {m : Int} (h1 : MS.items S x = some (ns.map D.int)) (h2 : minI ns = some m) (h : Q (.int m) S) : GE (cMinA [x] S) Q := by
  show GE ((MS.items S x).bind fun es => (intsOf es).bind fun ns => (minI ns).map fun m => (D.int m, S)) Q
  rw [h1]
  show GE ((intsOf (ns.map D.int)).bind fun ns => (minI ns).map fun m => (D.int m, S)) Q
  rw [intsOf_map]
  show GE ((minI ns).map fun m => (D.int m, S)) Q
  rw [h2]
  exact ⟨_, _, rfl, h⟩
theorem ge_lcm {i j : Int} (h1 : i.natAbs.log2 < 2000) (h2 : j.natAbs.log2 < 2000) (h : Q (.int ((Nat.lcm i.natAbs j.natAbs : Nat) : Int)) S) : GE (cLcm [.int i, .int j] S) Q := ⟨_, _, if_pos ⟨h1, h2⟩, h⟩
theorem ge_dnewK (h : Q (.lr S.length) (S ++ [.dk []])) : GE (mDNewK ρ S) Q := ⟨_, _, rfl, h⟩
theorem ge_dnewT (h : Q (.lr S.length) (S ++ [.dt []])) : GE (mDNewT ρ S) Q := ⟨_, _, rfl, h⟩
theorem ge_ixDk {n : Nat} {kvs : List (Key × D)} {y d : D} {k : Key} (e : S[n]? = some (.dk kvs)) (hk : keyOf y = some k) (hv : valD kvs k = some d) (h : Q d S) : GE (fIxD (.lr n) y S) Q := by
  have h1 : isDict S (.lr n) = true := by unfold isDict; (try dsimp only); rw [e]
  have h2 : dget S n y = some (some d) := by unfold dget; rw [e]; (try dsimp only); rw [hk]; show some (valD kvs k) = _; rw [hv]
  unfold fIxD
  rw [if_pos h1]
  show GE ((dget S n y).bind fun r => r.map fun d => (d, S)) Q
  rw [h2]
  exact ⟨_, _, rfl, h⟩
theorem gt_dictk {d : D} (h : GE (mo ρ S) fun x S1 => GE (mi ρ S1) fun y S2 => ∃ n kvs k, x = .lr n ∧ S2[n]? = some (.dk kvs) ∧ kvs.length < szl ∧ keyOf y = some k ∧ QE ρ (S2.set n (.dk (putD kvs k d)))) : GE (mgDict mo mi d ρ S) QE :=
  ge_bind (h.mono fun x S1 h => ge_bind (h.mono fun y S2 ⟨n, kvs, k, e, h1, h2, h3, h4⟩ => by
    subst e
    show GE ((dput S2 n y d).map fun S' => (ρ, S')) QE
    have : dput S2 n y d = some (S2.set n (.dk (putD kvs k d))) := by
      unfold dput
      rw [h1]
      (try dsimp only)
      rw [if_pos h2, h3]
      rfl
    rw [this]
    exact ⟨_, _, rfl, h4⟩))
theorem gs_augS {f : DOp2} (h : GE (mo ρ S) fun x S1 => GE (mi ρ S1) fun y S2 => ∃ n k ds j old, x = .lr n ∧ y = .int k ∧ 0 ≤ k ∧ mat S2 n = some ds ∧ L2.ixN ds.length k = some j ∧ ds[j]? = some old ∧
    GE (m ρ S2) fun r S3 => GE (f old r S3) fun z S4 => ∃ ds', mat S4 n = some ds' ∧ ds'.length = ds.length ∧ QS .nx ρ (S4.set n (.lst (ds'.set j z)))) : GS (mAugS f mo mi m ρ S) QS :=
  gs_bind (h.mono fun x S1 h => gs_bind (h.mono fun y S2 ⟨n, k, ds, j, old, e1, e2, h0, h1, h2, h3, hh⟩ => by
    subst e1 e2
    show GS (augL f m n k ρ S2) QS
    unfold augL
    rw [if_pos h0, h1]
    show GS ((L2.ixN ds.length k).bind _) QS
    rw [h2]
    show GS ((ds[j]?).bind _) QS
    rw [h3]
    show GS ((m ρ S2).bind _) QS
    refine gs_bind (hh.mono fun r S3 hh => gs_bind (hh.mono fun z S4 ⟨ds', h4, h5, h6⟩ => ?_))
    show GS ((mat S4 n).bind _) QS
    rw [h4]
    show GS (if ds'.length = ds.length then some (.nx, ρ, S4.set n (.lst (ds'.set j z))) else none) QS
    rw [if_pos h5]
    exact gs_of h6))
end
theorem valD_put {κ : Type} [DecidableEq κ] {k j : κ} {d : D} : ∀ {kvs : List (κ × D)}, valD (putD kvs k d) j = if k = j then some d else valD kvs j := by
  have app : ∀ (kvs : List (κ × D)), valD (kvs ++ [(k, d)]) j = match valD kvs j with
      | some x => some x
      | none => if k = j then some d else none := fun kvs => by
    induction kvs with
    | nil => rw [List.nil_append, valD_cons]; rfl
    | cons p kvs ih =>
      rw [List.cons_append, valD_cons, valD_cons]
      by_cases h : p.1 = j
      · rw [if_pos h, if_pos h]
      · rw [if_neg h, if_neg h, ih]
  have mp : ∀ (kvs : List (κ × D)), valD (kvs.map fun kv => if kv.1 = k then (kv.1, d) else kv) j = if k = j then (valD kvs j).map (fun _ => d) else valD kvs j := fun kvs => by
    induction kvs with
    | nil => rw [List.map_nil, valD_nil]; split <;> rfl
    | cons p kvs ih =>
      rw [List.map_cons, valD_cons, valD_cons, ih]
      by_cases h1 : p.1 = k
      · rw [if_pos h1]
        by_cases h2 : k = j
        · rw [if_pos h2, if_pos h2, if_pos (h1.trans h2), if_pos (h1.trans h2)]; rfl
        · rw [if_neg h2, if_neg (show ¬ p.1 = j from fun z => h2 (h1.symm.trans z)), if_neg h2, if_neg (show ¬ p.1 = j from fun z => h2 (h1.symm.trans z))]
      · rw [if_neg h1]
        by_cases h2 : k = j
        · rw [if_pos h2, if_neg (show ¬ p.1 = j from fun z => h1 (z.trans h2.symm)), if_pos h2, if_neg (show ¬ p.1 = j from fun z => h1 (z.trans h2.symm))]
        · rw [if_neg h2, if_neg h2]
  have mem : ∀ (kvs : List (κ × D)), (kvs.map (·.1)).contains k = (valD kvs k).isSome := fun kvs => by
    induction kvs with
    | nil => rfl
    | cons p kvs ih =>
      rw [List.map_cons, List.contains_cons, valD_cons, ih]
      by_cases h : p.1 = k
      · rw [if_pos h, h, beq_self_eq_true]; rfl
      · rw [if_neg h, beq_eq_false_iff_ne.mpr fun z => h z.symm]; rfl
  intro kvs
  unfold putD
  rw [mem]
  split
  · rename_i h
    rw [mp]
    by_cases h2 : k = j
    · subst h2
      obtain ⟨x, hx⟩ := Option.isSome_iff_exists.mp h
      rw [if_pos rfl, if_pos rfl, hx]; rfl
    · rw [if_neg h2, if_neg h2]
  · rename_i h
    rw [app]
    by_cases h2 : k = j
    · subst h2
      have : valD kvs k = none := by
        cases hv : valD kvs k with
        | none => rfl
        | some x => rw [hv] at h; exact absurd rfl h
      rw [this, if_pos rfl]
    · rw [if_neg h2, if_neg h2]
      cases valD kvs j <;> rfl
/-- a loop that a turn may leave by a return -/
theorem gs_forR {ok : Store → Bool} {g : MTg} {b : MStm} {QS : Fl → Ev → Store → Prop} : ∀ (ds : List D) (Pv : Nat → Ev → Store → Prop) {ρ : Ev} {S : Store}, Pv 0 ρ S →
    (∀ i x ρ S, ds[i]? = some x → Pv i ρ S → ok S = true ∧ GE (g x ρ S) fun ρ1 S1 => GS (b ρ1 S1) fun f ρ2 S2 => match f with
      | .nx => Pv (i + 1) ρ2 S2
      | .ct => Pv (i + 1) ρ2 S2
      | .bk => QS .nx ρ2 S2
      | .rt d => QS (.rt d) ρ2 S2) →
    (∀ ρ S, Pv ds.length ρ S → ok S = true ∧ QS .nx ρ S) → GS (forL ok g b ds ρ S) QS
  | [], Pv, ρ, S, h0, _, he => by
    obtain ⟨h1, h2⟩ := he ρ S h0
    unfold forL
    rw [if_pos h1]
    exact gs_of h2
  | x :: r, Pv, ρ, S, h0, hs, he => by
    obtain ⟨h1, ρ1, S1, e1, f, ρ2, S2, e2, h2⟩ := hs 0 x ρ S rfl h0
    have again : ∀ ρ2 S2, Pv 1 ρ2 S2 → GS (forL ok g b r ρ2 S2) QS := fun ρ2 S2 hp =>
      gs_forR r (fun i => Pv (i + 1)) hp (fun i y ρ S hi hp => hs (i + 1) y ρ S (by simpa using hi) hp) (fun ρ S hp => he ρ S (by simpa using hp))
    unfold forL
    rw [if_pos h1, e1]
    show GS ((b ρ1 S1).bind _) QS
    rw [e2]
    cases f with
    | nx => exact again ρ2 S2 h2
    | ct => exact again ρ2 S2 h2
    | bk => exact gs_of h2
    | rt d => exact gs_of h2
end MS

set_option Elab.async false
set_option linter.all false
set_option maxRecDepth 100000
set_option maxHeartbeats 4000000
namespace MS
open PySem PySem.Spec PyProof.Rows L2

/-! ### {e for x in xs}, e an int -/
section
variable {X : Cx}
/-- k put into the set at a, once more -/
abbrev grownS (w : World) (a : Addr) (P : Int → Bool) (c : Nat) (k : Int) : HO := SetO w a (fun j => P j || decide (j = k)) (if P k = true then c else c + 1)
/-- what one turn of such a comprehension asks: target, test, then the element, which goes into the set at a -/
def scTurn (w : World) (g : TG) (tt : TT) (te : TE) (vs : List Nat) (a : Addr) (σ : L2.St) (Nx : Hp → Prop) (x : V) (H : Hp) : Prop :=
  g x (L2.wipe σ vs) H fun σ' G => L2.wipe σ' vs = L2.wipe σ vs ∧ tt σ' G fun b G' =>
    if b = true then te σ' G' fun y G'' => ∃ (k : Int) (P : Int → Bool) (c : Nat), y = .int k ∧ G'' a = some (SetO w a P c) ∧ c + 1 < scanBound ∧ Nx (upd G'' a (grownS w a P c k)) else Nx G'
def tScI (w : World) (wi : TI) (g : TG) (tt : TT) (te : TE) (vs : List Nat) : TE := fun σ H Q => wi σ H fun J G => ∀ a, G a = none →
  ∃ V' : Nat → Nat → Hp → Prop, (∃ m, V' 0 m (upd G a (SetO w a (fun _ => false) 0))) ∧ ∀ i m F, V' i m F →
    (J.stop i F ∧ Q (.ref a) F) ∨ (J.go i F ∧ ∃ Nx : Hp → Prop, (∀ F', Nx F' → ∃ m', m' < m ∧ V' (i + 1) m' F') ∧ ∀ x F', J.yld i F x F' → scTurn w g tt te vs a σ Nx x F')
theorem addI_ok {pins : List (Addr × Obj)} {σ : L2.St} {H : Hp} {s : Shared} {E : Value → Shared → Prop} {a : Addr} {P : Int → Bool} {c : Nat} {k : Int} {t : Tok} {Q : Value → Shared → Prop}
    (I : Inv X pins σ H s) (ha : H a = some (SetO X.w a P c)) (room : c + 1 < scanBound) (h : ∀ z, Inv X pins σ (upd H a (grownS X.w a P c k)) z → Q .none z) :
    wpAny (model X.prog X.w) X.A (call (.builtin "set.add") [.ref a, .int k t]) Q E s :=
  setR_add (setO_get I ha) room fun h' sb new =>
    have ex : ∃ u, h'.get? a = some u := let ⟨o, _, _, _, ho, _⟩ := new; ⟨o, ho⟩
    h _ (I.write (e := a) (t' := s.toks + 1) (by rw [ha]; trivial) (.inl rfl) (fun b _ hb hu => (sb.2 b hb).trans hu) ex (setO_new new))
/-- the block's context -/
abbrev blkX (X : Cx) (scope : Scope) (s : Shared) (H : Hp) (C : Addr) (cl : List (PySem.Str × Addr)) (fp : List Addr) : Cx := X.blk s H scope (compEnvC scope cl C X.env) fp
theorem pe_setComp {elt tg iter : Expr} {ifs : List Expr} {scope : Scope} {own : List (PySem.Str × Nat)} {pos : Pos} {wi : TI} {g : TG} {tt : TT} {te : TE}
    (calm : X.calm = true) (nodup : X.N.Nodup) (hi : PI X tg iter wi) (ok : BlkOk X.N X.env.scope scope own)
    (hg : ∀ s H C cl fp, PG (blkX X scope s H C cl fp) tg g) (ht : ∀ s H C cl fp, PTs (blkX X scope s H C cl fp) ifs tt) (he : ∀ s H C cl fp, PE (blkX X scope s H C cl fp) elt te)
    (plain : ∀ x, foldedSetIterable iter X.env x = pure x := by intro _; rfl) : PE X (.SetComp elt [⟨tg, iter, ifs, 0⟩] scope pos) (tScI X.w wi g tt te (own.map (·.2))) := by
  constructor
  intro pins s σ H Q I wish
  rw [PpSet.eval_SetComp]
  have closed : ∀ y ∈ scope.names, y.2 = .free → ∃ c, X.env.cells.lookup y.1 = some c := by
    intro y hy e
    exact (ok.free y hy e).elim (fun k => I.ok.has _ (.inl k)) fun k => I.ok.has _ (.inr k)
  refine wpAny_comprehension_free (use := none) rfl plain (closure_ok closed) ok.kind (fun y hy e => by rw [ok.uniq y hy, e]) ?_
  refine thn (hi.run pins s σ H _ I wish) fun _ z1 h1 => thn h1 fun _ z2 h2 => ?_
  obtain ⟨it, own', tn, J, G, rfl, I2, T, t2, free2, q⟩ := h2
  refine PpSet.newSet_ok (newEnv_comp ?_)
  -- the new, empty set stands at a
  generalize ea : z2.heap.objs.size = a
  have na : G a = none := I2.hok.fresh (Nat.le_of_eq ea)
  obtain ⟨V', ⟨m0, v0⟩, turns⟩ := q a na
  generalize ez3 : ({ z2 with heap := z2.heap.push { cls := .type "set", dict := none, data := .set #[] 0 (.fresh 0 0 (!X.w.params.followText "set-order")) } } : Shared) = z3
  have e3 : z3.heap = z2.heap.push { cls := .type "set", dict := none, data := .set #[] 0 (.fresh 0 0 (!X.w.params.followText "set-order")) } := by rw [← ez3]
  have up3 : ∀ b o, z2.heap.get? b = some o → z3.heap.get? b = some o := fun b o e => by rw [e3]; exact Heap.get?_push_of_some _ e
  have new3 : SetR X.w z3.heap a (fun _ => false) 0 := by
    have at3 : z3.heap.get? a = some { cls := .type "set", dict := none, data := .set #[] 0 (.fresh 0 0 (!X.w.params.followText "set-order")) } := by
      rw [e3, ← ea]
      exact Heap.get?_push_size _ rfl
    have := setR_new_at (w := X.w) (ns := []) at3
    exact this.congr fun j => by simp
  have I3 : Inv X pins σ (upd G a (SetO X.w a (fun _ => false) 0)) z3 := by
    have hz : z3 = { z2 with heap := z3.heap } := by rw [← ez3]
    rw [hz]
    exact I2.laid (t' := z2.toks) up3 (Nat.le_of_eq ea) (setO_new new3)
  have below : ∀ b ∈ own', b < z2.heap.objs.size := fun b hb => let ⟨_, e, _⟩ := T.obj _ _ t2 b hb; Heap.lt_size e
  have free3 : ∀ b ∈ own', FpOk X pins (upd G a (SetO X.w a (fun _ => false) 0)) b ∧ b < z3.heap.objs.size := by
    intro b hb
    have lt := below b hb
    constructor
    · refine ⟨?_, (free2 b hb).2⟩
      rw [upd_ne (fun z => by rw [z, ← ea] at lt; exact Nat.lt_irrefl _ lt)]
      exact (free2 b hb).1
    · rw [e3, Heap.size_push]
      exact Nat.lt_succ_of_lt lt
  have t3 : tn 0 z3.heap := T.keep _ _ _ t2 fun b _ o e => up3 b o e
  have I4 := block_start I3 ok nodup free3
  generalize eG3 : upd G a (SetO X.w a (fun _ => false) 0) = G3 at I3 I4 v0 free3
  generalize ecl : cellsFrom (z3.heap.objs.size + 1) scope.names (cloFrom X.env.cells scope.names []) = cl at I4
  have pg := hg z3 G3 z3.heap.objs.size cl own'
  have pt := ht z3 G3 z3.heap.objs.size cl own'
  have pe := he z3 G3 z3.heap.objs.size cl own'
  have none3 : ∀ b ∈ own', G3 b = none := fun b hb => (free3 b hb).1.1
  unfold blkX at pg pt pe
  show codeAny (model X.prog X.w) X.A (.compStart (.SetComp elt [⟨tg, iter, ifs, 0⟩] scope pos) 0 (.ref it) (.ref a) (compEnvC scope cl z3.heap.objs.size X.env)) (compPost (model X.prog X.w) X.A X.xe none (EP X pins σ Q) (.ref a) z3.heap.objs.size) _
  generalize ece : compEnvC scope cl z3.heap.objs.size X.env = ce at I4 pg pt pe ⊢
  have lce : ce.locals = z3.heap.objs.size := by subst ece; rfl
  generalize ez4 : ({ z3 with heap := pushCells (z3.heap.push { cls := .type "dict", data := .dict #[] }) scope.names } : Shared) = z4 at I4 ⊢
  have t4 : tn 0 z4.heap := T.keep _ _ _ t3 fun b _ o e => by rw [← ez4]; exact pushCells_keeps _ _ _ _ (Heap.get?_push_of_some _ e)
  generalize eB : X.blk z3 G3 scope ce own' = B at I4 pg pt pe
  have Bf : B.prog = X.prog ∧ B.w = X.w ∧ B.K = X.K ∧ B.calm = true ∧ B.A = X.A := by subst eB; exact ⟨rfl, rfl, rfl, calm, rfl⟩
  have loop : codeAny (model X.prog X.w) X.A (.compLoop (.SetComp elt [⟨tg, iter, ifs, 0⟩] scope pos) 0 (.ref it) (.ref a) ce) (compPost (model X.prog X.w) X.A X.xe none (EP X pins σ Q) (.ref a) z3.heap.objs.size) z4 := by
    refine PpSet.compLoopS_any (fun n z => ∃ i F, Inv B [] (L2.wipe σ (own.map (·.2))) F z ∧ tn i z.heap ∧ (∀ b ∈ own', F b = none) ∧ V' i n F) ?_ m0 ⟨0, G3, I4, t4, none3, v0⟩
    rintro n z5 ⟨i, F5, I5, t5, none5, v5⟩
    have loose : ∀ {σ' : L2.St} {F : Hp} {z : Shared}, Inv B [] σ' F z → (∀ b ∈ own', F b = none) → ∀ b ∈ own', FpOk B [] F b := by
      subst eB
      intro σ' F z I' hn b hb
      exact ⟨hn b hb, (I'.ok.exf b hb).1, I'.ok.exfs b hb, .inl hb, fun x c e => (I'.ok.exf b hb).2 x c e, fun p hp => absurd (show p ∈ ([] : List (Addr × Obj)) ++ [] from hp) (by simp)⟩
    rcases turns i n F5 v5 with ⟨stop, fine⟩ | ⟨go, Nx, next, step⟩
    · have done := T.done B Bf.1 Bf.2.1 Bf.2.2.1 Bf.2.2.2.1 i [] z5 _ F5 (fun _ _ => False) I5 (loose I5 none5) t5 stop
      subst eB
      refine thnF done fun r z6 ⟨er, I6⟩ => ?_
      subst er
      have I7 : Inv X pins σ F5 z6 := I3.call' (ch := own') I6.os I6.base I6.hok I6.bare fun b hb =>
        have f := (free3 b hb).1
        ⟨f.2.2.2.1, f.2.1, f.2.2.2.2.1, f.2.2.2.2.2⟩
      obtain ⟨m, hn, _⟩ := I6.loc
      have hn : z6.heap.Ns z3.heap.objs.size m := by rw [← lce]; exact hn
      have nl : F5 z3.heap.objs.size = none := by rw [← lce]; exact I6.free
      obtain ⟨f0, f1, f2, f3, f4, f5⟩ := I3.fpOk (Nat.le_refl _) nl
      exact ⟨m, hn, fun h'' sb => ⟨.ref a, F5, I7.turned (t' := z6.toks) (fun b o hb e => (sb.2 b hb).trans e) f0 f1 f3 f4 f5, rfl, fine⟩⟩
    · have item := T.item B Bf.1 Bf.2.1 Bf.2.2.1 Bf.2.2.2.1 i [] z5 _ F5 (fun _ _ => False) I5 (loose I5 none5) t5 go
      have loose' := @loose
      clear loose
      subst eB
      refine thnF item fun r z6 ⟨u, er, h6⟩ => ?_
      subst er
      refine thnF h6 fun _ z7 ⟨x, F7, I7, r7, y7, t7, none7⟩ => ?_
      have pinned := I7.pinned (loose' I7 none7) (T.obj _ _ t7)
      refine thnF (pg.run _ z7 _ F7 x u _ pinned r7 (step x F7 y7)) fun _ z8 ⟨σ8, F8, I8, same, q8⟩ => ?_
      refine thnF (pt.run _ z8 σ8 F8 _ I8 q8) fun b z9 ⟨F9, I9, q9⟩ => ?_
      have onward : ∀ {z : Shared} {F : Hp}, Inv (X.blk z3 G3 scope ce own') ([] ++ pinsAt own' z7.heap) σ8 F z → Nx F →
          ∃ m, m < n ∧ ∃ i F, Inv (X.blk z3 G3 scope ce own') [] (L2.wipe σ (own.map (·.2))) F z ∧ tn i z.heap ∧ (∀ b ∈ own', F b = none) ∧ V' i m F := by
        intro z F I' nx
        obtain ⟨m', lt, v'⟩ := next F nx
        have still : ∀ b ∈ own', ∀ o, z7.heap.get? b = some o → z.heap.get? b = some o ∧ F b = none := fun b hb o e => by
          have w := I'.pin (b, o) (List.mem_append_right _ (List.mem_append_right _ (mem_pinsAt hb e)))
          exact ⟨w.1, w.2.1⟩
        have len8 : (L2.wipe σ (own.map (·.2))).length = σ8.length := by rw [← same, wipe_length]
        refine ⟨m', lt, i + 1, F, (I'.unpinned (pins := [])).weak len8 (fun j v e => ?_), T.keep _ _ _ t7 fun b hb o e => (still b hb o e).1, fun b hb => ?_, v'⟩
        · rw [← same] at e
          exact (wipe_some e).1
        · obtain ⟨o, e, _⟩ := T.obj _ _ t7 b hb
          exact (still b hb o e).2
      cases b with
      | false =>
        simp only [Bool.false_eq_true, if_false] at q9 ⊢
        exact onward I9 q9
      | true =>
        simp only [if_true] at q9 ⊢
        refine thnF (pe.run _ z9 σ8 F9 _ I9 q9) fun y z10 ⟨yv, F10, I10, r10, k, P, c, ey, at10, room, nx⟩ => ?_
        subst ey
        obtain ⟨t, rfl⟩ := r10
        exact addI_ok (X := X.blk z3 G3 scope ce own') I10 at10 room fun z11 I11 => onward I11 nx
  exact PpSet.codeAny_compStart_set loop (T.self X.A 0 _ _ _ t4 loop)
end
end MS

set_option Elab.async false
set_option linter.all false
set_option maxRecDepth 100000
set_option maxHeartbeats 4000000
namespace MS
open PySem PySem.Spec PyProof.Rows L2

/-! ### sorted({e for x in xs}), e an int -/
/-! a thing of no reading changed -/
section
variable {K : PySem.W.Frag} {H H' : Hp} {μ : Mu}
theorem LsV.keepT {a : Addr} {xs : List V} (k : ∀ b o, (∀ ψ, o ≠ .ext ψ) → H b = some o → H' b = some o) (h : LsV H μ a xs) : LsV H' μ a xs := ⟨k _ _ (fun _ z => nomatch z) h.1, h.2⟩
theorem FzL.keepT {a : Addr} {xs : List V} (k : ∀ b o, (∀ ψ, o ≠ .ext ψ) → H b = some o → H' b = some o) (h : FzL K H a xs) : FzL K H' a xs := by
  rcases h with ⟨o, h⟩ | h
  · exact .inl ⟨o, k _ _ (fun _ z => nomatch z) h⟩
  · exact .inr h
mutual
theorem Rp.keepT (k : ∀ b o, (∀ ψ, o ≠ .ext ψ) → H b = some o → H' b = some o) : ∀ {d : D} {v : V}, Rp K H μ v d → Rp K H' μ v d
  | .non, _, h => by cases h; exact .non
  | .bl _, _, h => by cases h; exact .bl _
  | .int _, _, h => by cases h; exact .int _
  | .str _, _, h => by cases h; exact .str _
  | .tup _, _, h => by
    cases h with
    | tup h1 h2 => exact .tup (k _ _ (fun _ z => nomatch z) h1) (RpA.keepT k h2)
  | .lr _, _, h => by
    cases h with
    | lr h1 => exact .lr h1
  | .lst _, _, h => by
    cases h with
    | lst h1 h2 => exact .lst (h1.keepT k) (RpA.keepT k h2)
  | .fl _, _, h => by
    cases h with
    | fl h1 h2 => exact .fl (h1.keepT k) (RpA.keepT k h2)
  | .dk _ _, _, h => by
    cases h with
    | dk h1 h2 h3 h4 => exact .dk (k _ _ (fun _ z => nomatch z) h1) h2 h3 (RpA.keepT k h4)
  | .dt _ _, _, h => by
    cases h with
    | dt h1 h2 h3 h4 => exact .dt (k _ _ (fun _ z => nomatch z) h1) h2 h3 (RpA.keepT k h4)
  | .ins _ _ _, _, h => by
    cases h with
    | ins h1 h2 h3 h4 => exact .ins (k _ _ (fun _ z => nomatch z) h1) h2 h3 (RpA.keepT k h4)
  | .fn _, _, h => by cases h; exact .fn
theorem RpA.keepT (k : ∀ b o, (∀ ψ, o ≠ .ext ψ) → H b = some o → H' b = some o) : ∀ {ds : List D} {vs : List V}, RpA K H μ vs ds → RpA K H' μ vs ds
  | [], _, h => by cases h; exact .nil
  | _ :: _, _, h => by
    cases h with
    | cons h1 h2 => exact .cons (Rp.keepT k h1) (RpA.keepT k h2)
end
theorem StR.keepX {S : Store} {a : Addr} {φ : Heap → Prop} {u : HO} (s : StR K H μ S) (h : H a = some (.ext φ)) : StR K (upd H a u) μ S := by
  have kt : ∀ b o, (∀ ψ, o ≠ .ext ψ) → H b = some o → (upd H a u) b = some o := fun b o n e => by
    have hb : b ≠ a := fun z => by
      subst z
      rw [h] at e
      cases e
      exact n _ rfl
    rw [upd_ne hb]; exact e
  refine ⟨s.len, s.nd, fun n mo b e1 e2 => ?_, fun b hb q => s.liv b hb (upd_alive q), s.own⟩
  have q := s.at_ n mo b e1 e2
  cases mo with
  | lst ds => obtain ⟨vs, h1, h2⟩ := q; exact ⟨vs, kt _ _ (fun _ z => nomatch z) h1, h2.keepT kt⟩
  | dk kvs => obtain ⟨kws, h1, h2, h3⟩ := q; exact ⟨kws, kt _ _ (fun _ z => nomatch z) h1, h2, h3.keepT kt⟩
  | dt kvs => obtain ⟨kws, h1, h2, h3⟩ := q; exact ⟨kws, kt _ _ (fun _ z => nomatch z) h1, h2, h3.keepT kt⟩
  | ins c kvs => obtain ⟨dx, kws, h1, h2, h3⟩ := q; exact ⟨dx, kws, kt _ _ (fun _ z => nomatch z) h1, h2, h3.keepT kt⟩
  | gone => exact trivial
end
def scL (ok : Store → Bool) (g : MTg) (t : MTst) (e : MExp) (ρw : Ev) : List D → List Int → Store → Option (List Int × Store)
  | [], acc, S => if ok S then some (acc, S) else none
  | x :: r, acc, S => if ok S then (g x ρw S).bind fun p => (t p.1 p.2).bind fun k => if k.1 then (e p.1 k.2).bind fun y => match y.1 with
      | .int z => if acc.length < 60 then scL ok g t e ρw r (acc ++ [z]) y.2 else none
      | _ => none
    else scL ok g t e ρw r acc k.2 else none
def mSortComp (i : MItr) (g : MTg) (t : MTst) (e : MExp) (vs : List Nat) : MExp := fun ρ S => (i ρ S).bind fun p =>
  (scL p.1.2 g t e (wipeD ρ vs) p.1.1 [] p.2).bind fun r => some (.lr r.2.length, r.2 ++ [.lst ((sortU r.1).map D.int)])
/-- the set of some ints -/
abbrev setOf (w : World) (a : Addr) (acc : List Int) (c : Nat) : HO := SetO w a (fun j => decide (j ∈ acc)) c
theorem grown_setOf {w : World} {a : Addr} {acc : List Int} {c : Nat} {z : Int} : ∃ c', (c' ≤ c + 1) ∧ grownS w a (fun j => decide (j ∈ acc)) c z = setOf w a (acc ++ [z]) c' := by
  refine ⟨if decide (z ∈ acc) = true then c else c + 1, by split <;> omega, ?_⟩
  unfold grownS setOf
  congr 1
  funext j
  simp [List.mem_append]
theorem tE_sortComp {X : Cx} {i : MItr} {g : MTg} {t : MTst} {e : MExp} {vs is : List Nat} {σ : L2.St} {H : Hp} {Q : VK} (hv : ∀ j ∈ is, j ∈ vs) (h : tE X.K (mSortComp i g t e vs) σ H Q) :
    tScI X.w (tI X.K i) (tGl X.K is g) (tT X.K t) (tE X.K e) vs σ H (fun v H1 => rSortedSet X.w [v] H1 Q) := by
  obtain ⟨ρ, S, μ, d, S', st, e0, q⟩ := h
  obtain ⟨⟨⟨ds, ok⟩, S1⟩, e1, e0⟩ := Option.bind_eq_some_iff.mp e0
  obtain ⟨⟨fin, S9⟩, e9, e0⟩ := Option.bind_eq_some_iff.mp e0
  cases e0
  refine ⟨ρ, S, μ, (ds, ok), S1, st, e1, fun J H1 μ1 g1 s1 hJ A hA => ?_⟩
  have st1 : Sim X.K H1 μ1 σ ρ S1 := st.grow g1 s1
  have gA : Grow H1 (upd H1 A (setOf X.w A [] 0)) μ1 μ1 := .new hA
  have sA : StR X.K (upd H1 A (setOf X.w A [] 0)) μ1 S1 := s1.new hA
  have e00 : SetO X.w A (fun _ => false) 0 = setOf X.w A [] 0 := by unfold setOf; congr 1
  rw [e00]
  refine ⟨fun k m F => m = ds.length - k ∧ k ≤ ds.length ∧ ∃ S μ acc c, StR X.K F μ S ∧ Grow H1 F μ1 μ ∧ F A = some (setOf X.w A acc c) ∧ c ≤ acc.length ∧ acc.length ≤ 60 ∧ scL ok g t e (wipeD ρ vs) (ds.drop k) acc S = some (fin, S9),
    ⟨ds.length, by omega, by omega, _, _, [], 0, sA, gA, upd_same, Nat.le_refl _, Nat.zero_le _, e9⟩, ?_⟩
  rintro k m F ⟨rfl, hk, S2, μ2, acc, c, s2, g2, hF, hca, hac, e2⟩
  have w2 : Sim X.K F μ2 (L2.wipe σ vs) (wipeD ρ vs) S2 := (st1.wipe vs).grow g2 s2
  by_cases hlt : k < ds.length
  · rw [List.drop_eq_getElem_cons hlt] at e2
    unfold scL at e2
    split at e2
    · rename_i hok
      obtain ⟨⟨ρ3, S3⟩, e3, e2⟩ := Option.bind_eq_some_iff.mp e2
      obtain ⟨⟨k4, S4⟩, e4, e2⟩ := Option.bind_eq_some_iff.mp e2
      refine .inr ⟨hJ.go k F μ2 S2 g2 s2 hok hlt, fun F' => ∃ S μ acc c, StR X.K F' μ S ∧ Grow H1 F' μ1 μ ∧ F' A = some (setOf X.w A acc c) ∧ c ≤ acc.length ∧ acc.length ≤ 60 ∧ scL ok g t e (wipeD ρ vs) (ds.drop (k + 1)) acc S = some (fin, S9),
        fun F' hN => ⟨ds.length - (k + 1), by omega, rfl, hlt, hN⟩, fun x F' y => ?_⟩
      obtain ⟨g3, s3, r3⟩ := hJ.yld k F μ2 S2 x F' g2 s2 hok y ds[k] (List.getElem?_eq_getElem hlt)
      refine ⟨ds[k], wipeD ρ vs, S2, μ2, ρ3, S3, w2.grow g3 s3, r3, e3, fun σ4 H4 μ4 g4 st4 l4 k4' => ?_⟩
      refine ⟨?_, ρ3, S3, μ4, k4, S4, st4, e4, fun H5 μ5 g5 s5 => ?_⟩
      · rw [wipe_same l4 fun j hj => k4' j fun z => hj (hv j z), wipe_wipe]
      · have gs := (g3.trans g4).trans g5
        cases k4 with
        | false => exact iteF ⟨S4, μ5, acc, c, s5, g2.trans gs, gs.exts _ _ hF, hca, hac, e2⟩
        | true =>
          obtain ⟨⟨y6, S6⟩, e6, e2⟩ := Option.bind_eq_some_iff.mp (show ((e ρ3 S4).bind fun y => (match y.1 with
            | .int z => if acc.length < 60 then scL ok g t e (wipeD ρ vs) (ds.drop (k + 1)) (acc ++ [z]) y.2 else none
            | _ => none)) = some (fin, S9) from e2)
          refine iteT ⟨ρ3, S4, μ5, y6, S6, st4.grow g5 s5, e6, fun v H6 μ6 g6 s6 r6 => ?_⟩
          cases y6 with
          | int z =>
            have e2 : (if acc.length < 60 then scL ok g t e (wipeD ρ vs) (ds.drop (k + 1)) (acc ++ [z]) S6 else none) = some (fin, S9) := e2
            split at e2
            · rename_i hz
              cases r6
              have g26 := g2.trans (gs.trans g6)
              have h6 := (gs.trans g6).exts _ _ hF
              obtain ⟨c', hc', eg⟩ := grown_setOf (w := X.w) (a := A) (acc := acc) (c := c) (z := z)
              refine ⟨z, _, c, rfl, h6, by show c + 1 < scanBound; unfold scanBound; omega, S6, μ6, acc ++ [z], c', ?_, ?_, ?_, by rw [List.length_append, List.length_singleton]; omega, by rw [List.length_append, List.length_singleton]; omega, e2⟩
              · exact s6.keepX h6
              · have nA : ∀ {b : Addr} {o : HO}, H1 b = some o → b ≠ A := fun e z => by subst z; rw [hA] at e; cases e
                exact ⟨fun a xs h => by rw [upd_ne (nA h)]; exact g26.tups _ _ h, fun a o u h => by rw [upd_ne (nA h)]; exact g26.frzs _ _ _ h, fun a φ h => by rw [upd_ne (nA h)]; exact g26.exts _ _ h, g26.pre, fun a o m n h => by rw [upd_ne (nA h)]; exact g26.muts _ _ m n h, g26.fresh, fun a h => g26.alive a (upd_alive h)⟩
              · rw [eg]; exact upd_same
            · cases e2
          | _ => cases e2
    · cases e2
  · have ei : k = ds.length := by omega
    subst ei
    rw [List.drop_length] at e2
    unfold scL at e2
    split at e2
    · rename_i hok
      cases e2
      refine .inl ⟨hJ.stop F μ2 _ g2 s2 hok, A, _, c, rfl, hF, by omega, fun ns p hs hm _ hp => ?_⟩
      have en : ns = sortU fin := rising_ext hs (sortU_sorted fin) fun z => by rw [hm z, mem_sortU, decide_eq_true_eq]
      subst en
      exact q (.ref p) _ (μ2.add p) ((g1.trans g2).trans (.newL hp)) (s2.newL hp RpA.ints) (.lr (by rw [← s2.len]; exact Mu.new))
    · cases e2
section
variable {X : Cx} {elt tg iter : Expr} {ifs : List Expr} {scope : Scope} {own : List (Str × Nat)} {pos q : Pos} {i : MItr} {g : MTg} {t : MTst} {e : MExp} {is : List Nat}
theorem me_sortComp {p : Pos} (hc : X.calm = true) (hN : X.N.Nodup) (hgl : Gl X "sorted") (hm : X.mg "sorted" = none) (hi : MI X tg iter i) (ok : BlkOk X.N X.env.scope scope own)
    (hg : ∀ s H C cl fp, MGl (blkX X scope s H C cl fp) is tg g) (ht : ∀ s H C cl fp, MTs (blkX X scope s H C cl fp) ifs t) (he : ∀ s H C cl fp, ME (blkX X scope s H C cl fp) elt e) (hv : ∀ j ∈ is, j ∈ own.map (·.2))
    (hs : ∀ x, foldedSetIterable iter X.env x = pure x := by intro _; rfl)
    (hs1 : starEach [.SetComp elt [⟨tg, iter, ifs, 0⟩] scope pos] X.env = (false, eval (.SetComp elt [⟨tg, iter, ifs, 0⟩] scope pos) X.env) :: starEach [] X.env := by rfl) :
    ME X (.Call (.Name "sorted" p) [.SetComp elt [⟨tg, iter, ifs, 0⟩] scope pos] [] q) (mSortComp i g t e (own.map (·.2))) :=
  ⟨PE.imp (pe_callB (cr_sortedSet hc) hgl hm (show bootBuiltins "sorted" = some (.builtin "sorted") by decide +kernel)
      (pa_cons (pe_setComp (wi := tI X.K i) (g := tGl X.K is g) (tt := tT X.K t) (te := tE X.K e) hc hN hi.pi ok (fun s H C cl fp => (hg s H C cl fp).pg) (fun s H C cl fp => (ht s H C cl fp).pts) (fun s H C cl fp => (he s H C cl fp).pe) hs) pa_nil hs1) (by decide) (by decide) hs1 (by rfl)) fun σ H Q h => by
    exact tE_sortComp (X := X) hv h⟩
end
end MS

set_option Elab.async false
set_option linter.all false
set_option maxRecDepth 100000
set_option maxHeartbeats 4000000
namespace MS
open PySem PySem.Spec PyProof.Rows L2
/-! ### sorted(xs), a list of ints -/
def insI (x : Int) : List Int → List Int
  | [] => [x]
  | y :: l => if x ≤ y then x :: y :: l else y :: insI x l
def sortI (ns : List Int) : List Int := ns.foldr insI []
theorem insI_perm {x : Int} : ∀ {l : List Int}, (insI x l).Perm (x :: l)
  | [] => .refl _
  | y :: l => by
    unfold insI
    split
    · exact .refl _
    · exact (List.Perm.cons y insI_perm).trans (.swap x y l)
theorem sortI_perm : ∀ (ns : List Int), (sortI ns).Perm ns
  | [] => .refl _
  | x :: ns => insI_perm.trans ((sortI_perm ns).cons x)
theorem insI_sorted {x : Int} : ∀ {l : List Int}, l.Pairwise (· ≤ ·) → (insI x l).Pairwise (· ≤ ·)
  | [], _ => by simp [insI]
  | y :: l, h => by
    obtain ⟨h1, h2⟩ := List.pairwise_cons.mp h
    unfold insI
    split
    · rename_i hx
      refine List.pairwise_cons.mpr ⟨fun z hz => ?_, h⟩
      rcases List.mem_cons.mp hz with rfl | hz
      · exact hx
      · exact Int.le_trans hx (h1 z hz)
    · refine List.pairwise_cons.mpr ⟨fun z hz => ?_, insI_sorted h2⟩
      rcases List.mem_cons.mp (insI_perm.mem_iff.mp hz) with rfl | hz
      · omega
      · exact h1 z hz
theorem sortI_sorted : ∀ (ns : List Int), (sortI ns).Pairwise (· ≤ ·)
  | [] => .nil
  | x :: ns => insI_sorted (sortI_sorted ns)
theorem sorted_one : ∀ {l m : List Int}, l.Perm m → l.Pairwise (· ≤ ·) → m.Pairwise (· ≤ ·) → l = m
  | [], m, h, _, _ => (List.Perm.nil_eq h)
  | a :: l, [], h, _, _ => absurd h.length_eq (by simp)
  | a :: l, b :: m, h, hl, hm => by
    obtain ⟨l1, l2⟩ := List.pairwise_cons.mp hl
    obtain ⟨m1, m2⟩ := List.pairwise_cons.mp hm
    have e : a = b := by
      rcases List.mem_cons.mp (h.mem_iff.mp List.mem_cons_self) with e | ha
      · exact e
      · rcases List.mem_cons.mp (h.mem_iff.mpr List.mem_cons_self) with e | hb
        · exact e.symm
        · have := l1 b hb
          have := m1 a ha
          omega
    subst e
    rw [sorted_one ((List.perm_cons a).mp h) l2 m2]
def cSorted : DCall := fun ds S => match ds with
  | [d] => (latD S d).bind fun es => (intsOf es).map fun ns => (.lr S.length, S ++ [.lst ((sortI ns).map D.int)])
  | _ => none
theorem boot_sorted : bootBuiltins "sorted" = some (.builtin "sorted") := by decide +kernel
theorem c_sorted {X : Cx} : CallR X (.builtin "sorted") (rCM X.K cSorted) := CallR.imp cr_sortedI fun vs H Q ⟨S, μ, ds, d, S', s, r, e, q⟩ => by
  unfold cSorted at e
  split at e
  · obtain ⟨es, e1, e⟩ := Option.bind_eq_some_iff.mp e
    obtain ⟨ns, e2, e⟩ := Option.map_eq_some_iff.mp e
    cases e
    match vs, r with
    | _, .cons r1 .nil =>
      obtain ⟨a, ws, rfl, h1, h2⟩ := s.latD e1 r1
      rw [intsOf_rp e2 h2] at h1
      refine ⟨a, ns, rfl, h1, fun ns' p hp hs hn => ?_⟩
      have en : ns' = sortI ns := sorted_one (hp.trans (sortI_perm ns).symm) hs (sortI_sorted ns)
      subst en
      exact q.lst s RpA.ints hn
  · cases e
theorem ge_sorted {S : Store} {Q : D → Store → Prop} {n : Nat} {ns : List Int} (h1 : lat S n = some (ns.map D.int)) (h : Q (.lr S.length) (S ++ [.lst ((sortI ns).map D.int)])) : GE (cSorted [.lr n] S) Q := by
  show GE ((lat S n).bind fun es => (intsOf es).map fun ns => (D.lr S.length, S ++ [.lst ((sortI ns).map D.int)])) Q
  rw [h1]
  show GE ((intsOf (ns.map D.int)).map fun ns => (D.lr S.length, S ++ [.lst ((sortI ns).map D.int)])) Q
  rw [intsOf_map]
  exact ⟨_, _, rfl, h⟩
/-! ### sorted({..}) run forward -/
theorem ge_sortComp {ρ : Ev} {S : Store} {Q : D → Store → Prop} {i : MItr} {g : MTg} {t : MTst} {e : MExp} {vs : List Nat} (h : GE (i ρ S) fun p S1 => ∃ acc S2, scL p.2 g t e (wipeD ρ vs) p.1 [] S1 = some (acc, S2) ∧ Q (.lr S2.length) (S2 ++ [.lst ((sortU acc).map D.int)])) : GE (mSortComp i g t e vs ρ S) Q :=
  ge_bind (h.mono fun p S1 ⟨acc, S2, e1, h⟩ => ⟨_, _, by show (scL p.2 g t e (wipeD ρ vs) p.1 [] S1).bind _ = _; rw [e1]; rfl, h⟩)
theorem sc_by {ok : Store → Bool} {g : MTg} {t : MTst} {e : MExp} {ρw : Ev} : ∀ (ds : List D) (Pv : Nat → List Int → Store → Prop) (acc : List Int) (S : Store), Pv 0 acc S →
    (∀ i x acc S, ds[i]? = some x → Pv i acc S → ok S = true ∧ GE (g x ρw S) fun ρ1 S1 => GE (t ρ1 S1) fun c S2 =>
      (c = true → acc.length < 60 ∧ GE (e ρ1 S2) fun y S3 => ∃ z, y = .int z ∧ Pv (i + 1) (acc ++ [z]) S3) ∧ (c = false → Pv (i + 1) acc S2)) →
    (∀ acc S, Pv ds.length acc S → ok S = true) → ∃ acc' S', scL ok g t e ρw ds acc S = some (acc', S') ∧ Pv ds.length acc' S'
  | [], Pv, acc, S, h0, _, he => ⟨acc, S, by unfold scL; rw [if_pos (he acc S h0)], h0⟩
  | x :: r, Pv, acc, S, h0, hs, he => by
    obtain ⟨hok, ρ1, S1, e1, c, S2, e2, h1, h2⟩ := hs 0 x acc S rfl h0
    have again : ∀ acc S, Pv 1 acc S → ∃ acc' S', scL ok g t e ρw r acc S = some (acc', S') ∧ Pv (r.length + 1) acc' S' := fun acc S hp =>
      sc_by r (fun i => Pv (i + 1)) acc S hp (fun i y acc S hi hp => hs (i + 1) y acc S (by simpa using hi) hp) (fun acc S hp => he acc S (by simpa using hp))
    cases c with
    | true =>
      obtain ⟨hz, y, S3, e3, z, rfl, hp⟩ := h1 rfl
      obtain ⟨acc', S', e4, hp'⟩ := again _ _ hp
      refine ⟨acc', S', ?_, hp'⟩
      unfold scL
      rw [if_pos hok, e1]
      show ((t ρ1 S1).bind _) = _
      rw [e2]
      show ((e ρ1 S2).bind _) = _
      rw [e3]
      show (if acc.length < 60 then scL ok g t e ρw r (acc ++ [z]) S3 else none) = _
      rw [if_pos hz]
      exact e4
    | false =>
      obtain ⟨acc', S', e4, hp'⟩ := again _ _ (h2 rfl)
      refine ⟨acc', S', ?_, hp'⟩
      unfold scL
      rw [if_pos hok, e1]
      show ((t ρ1 S1).bind _) = _
      rw [e2]
      exact e4
end MS

set_option Elab.async false
set_option linter.all false
set_option maxRecDepth 100000
set_option maxHeartbeats 4000000
namespace MS
open PySem PySem.Spec PyProof.Rows L2
/-! ### {k: v for ..}, k a tuple of ints or texts -/
theorem itemsAre_of {P : Program} {w : World} : ∀ {k : List Key} {its : List Value}, Vals (k.map kV) its → PySem.ItemsAre (mixKind P w) k its
  | [], [], _ => .nil
  | [], _ :: _, h => nomatch h
  | _ :: _, [], h => nomatch h
  | a :: k, u :: its, h => by
    cases h with
    | cons h1 h2 => exact .cons (kV_is h1) (itemsAre_of h2)
theorem keyA {P : Program} {w : World} {h : Heap} {k : List Key} {b : Addr} {its : List Value} (hv : Vals (k.map kV) its) (ht : PyProof.Rows.IsTup h b its.toArray) : IsTupleKey (mixKind P w) h k b := by
  obtain ⟨o, h1, h2, n, h3⟩ := ht
  exact ⟨o, its.toArray, n, h1, h2, h3, itemsAre_of hv⟩
theorem d_dictSetT {X : Cx} {pins : List (Addr × Obj)} {σ : L2.St} {H : Hp} {s : Shared} {E : Value → Shared → Prop} {D b : Addr} {kvs : List (List Key × V)} {k : List Key} {v : V} {r : Value} {Q : Unit → Shared → Prop}
    (hu : X.A.units < cLine) (I : Inv X pins σ H s) (hD : H D = some (.dT kvs)) (hb : H b = some (.tup (k.map kV))) (room : kvs.length < sizeLine) (rv : RelV v r)
    (h : ∀ s', Inv X pins σ (upd H D (.dT (putK kvs k v))) s' → Q () s') : wpAny (model X.prog X.w) X.A (dictSet D (.ref b) r) Q E s := by
  obtain ⟨hl, hm, xs, kt, hd⟩ := dt_of I.hok hD
  have hk : (tupleKind (mixKind X.prog X.w)).is s.heap k b := by
    obtain ⟨_, its, h1, h2⟩ := (show (k.map kV).length ≤ sizeLine ∧ ∃ its, Vals (k.map kV) its ∧ PyProof.Rows.IsTup s.heap b its.toArray from I.hok _ _ hb)
    exact keyA h1 h2
  have hlen : xs.length ≤ sizeLine := by
    have : kvs.length = xs.length := kt.length
    omega
  refine wpAny_dictSet_heap (knd := tupleKind (mixKind X.prog X.w)) (show X.A.units < cLine from hu) hk hd (fun h' hd' sb => h _ ?_) hlen
  have hbD : b ≠ D := fun z => by subst z; rw [hD] at hb; cases hb
  refine d_write I (by rw [hD]; trivial) sb (by obtain ⟨o, _, _, e, _⟩ := hd'; exact ⟨o, e⟩) ?_
  have kt' := (kt.put k hb rv).keeps (H' := upd H D (.dT (putK kvs k v))) fun c ys e => by rw [upd_ne (fun z => by subst z; rw [hD] at e; cases e)]; exact e
  obtain ⟨o, es, ep, e1, e2, e3, e4, e5, e6⟩ := hd'
  unfold ObjOk
  exact ⟨Nat.le_trans (length_putK _ _ _) room, hm, _, kt', o, es, ep, e1, e2, e3, e4, e6⟩
theorem newDict_ok {P : Program} {w : World} {A : Around} {E : Value → Shared → Prop} {s : Shared} {Q : Value → Shared → Prop}
    (h : Q (.ref s.heap.objs.size) { s with heap := s.heap.push { cls := .type "dict", data := .dict #[] } }) : wpAny (model P w) A newDict Q E s := by
  unfold newDict
  refine wpAny_newObj_type ?_
  exact h
section
variable {X : Cx}
/-- what one turn of such a comprehension asks -/
def dcTurn (g : TG) (tt : TT) (tk tv : TE) (vs : List Nat) (a : Addr) (σ : L2.St) (Nx : Hp → Prop) (x : V) (H : Hp) : Prop :=
  g x (L2.wipe σ vs) H fun σ' G => L2.wipe σ' vs = L2.wipe σ vs ∧ tt σ' G fun b G' =>
    if b = true then tk σ' G' fun y G1 => tv σ' G1 fun z G'' => ∃ (kvs : List (List Key × V)) (k : List Key) (c : Addr), y = .ref c ∧ G'' c = some (.tup (k.map kV)) ∧ G'' a = some (.dT kvs) ∧ kvs.length < sizeLine ∧ Nx (upd G'' a (.dT (putK kvs k z))) else Nx G'
def tDcT (wi : TI) (g : TG) (tt : TT) (tk tv : TE) (vs : List Nat) : TE := fun σ H Q => wi σ H fun J G => ∀ a, G a = none →
  ∃ V' : Nat → Nat → Hp → Prop, (∃ m, V' 0 m (upd G a (.dT []))) ∧ ∀ i m F, V' i m F →
    (J.stop i F ∧ Q (.ref a) F) ∨ (J.go i F ∧ ∃ Nx : Hp → Prop, (∀ F', Nx F' → ∃ m', m' < m ∧ V' (i + 1) m' F') ∧ ∀ x F', J.yld i F x F' → dcTurn g tt tk tv vs a σ Nx x F')
theorem pe_dcT {kx vx tg iter : Expr} {ifs : List Expr} {scope : Scope} {own : List (PySem.Str × Nat)} {pos : Pos} {wi : TI} {g : TG} {tt : TT} {tk tv : TE}
    (hu : X.A.units < cLine) (calm : X.calm = true) (nodup : X.N.Nodup) (hi : PI X tg iter wi) (ok : BlkOk X.N X.env.scope scope own)
    (hg : ∀ s H C cl fp, PG (blkX X scope s H C cl fp) tg g) (ht : ∀ s H C cl fp, PTs (blkX X scope s H C cl fp) ifs tt) (hk : ∀ s H C cl fp, PE (blkX X scope s H C cl fp) kx tk) (he : ∀ s H C cl fp, PE (blkX X scope s H C cl fp) vx tv)
    (plain : ∀ x, foldedSetIterable iter X.env x = pure x := by intro _; rfl) : PE X (.DictComp kx vx [⟨tg, iter, ifs, 0⟩] scope pos) (tDcT wi g tt tk tv (own.map (·.2))) := by
  constructor
  intro pins s σ H Q I wish
  rw [arm_eval_DictComp]
  (try dsimp only)
  have closed : ∀ y ∈ scope.names, y.2 = .free → ∃ c, X.env.cells.lookup y.1 = some c := by
    intro y hy e
    exact (ok.free y hy e).elim (fun k => I.ok.has _ (.inl k)) fun k => I.ok.has _ (.inr k)
  refine wpAny_comprehension_free (use := none) rfl plain (closure_ok closed) ok.kind (fun y hy e => by rw [ok.uniq y hy, e]) ?_
  refine thn (hi.run pins s σ H _ I wish) fun _ z1 h1 => thn h1 fun _ z2 h2 => ?_
  obtain ⟨it, own', tn, J, G, rfl, I2, T, t2, free2, q⟩ := h2
  refine newDict_ok (newEnv_comp ?_)
  -- the new, empty set stands at a
  generalize ea : z2.heap.objs.size = a
  have na : G a = none := I2.hok.fresh (Nat.le_of_eq ea)
  obtain ⟨V', ⟨m0, v0⟩, turns⟩ := q a na
  generalize ez3 : ({ z2 with heap := z2.heap.push { cls := .type "dict", data := .dict #[] } } : Shared) = z3
  have e3 : z3.heap = z2.heap.push { cls := .type "dict", data := .dict #[] } := by rw [← ez3]
  have up3 : ∀ b o, z2.heap.get? b = some o → z3.heap.get? b = some o := fun b o e => by rw [e3]; exact Heap.get?_push_of_some _ e
  have I3 : Inv X pins σ (upd G a (.dT [])) z3 := by
    have hz : z3 = { z2 with heap := z3.heap } := by rw [← ez3]
    rw [hz]
    refine I2.laid (t' := z2.toks) up3 (Nat.le_of_eq ea) ?_
    rw [e3, ← ea]
    exact dt_empty z2.heap I2.big
  have below : ∀ b ∈ own', b < z2.heap.objs.size := fun b hb => let ⟨_, e, _⟩ := T.obj _ _ t2 b hb; Heap.lt_size e
  have free3 : ∀ b ∈ own', FpOk X pins (upd G a (.dT [])) b ∧ b < z3.heap.objs.size := by
    intro b hb
    have lt := below b hb
    constructor
    · refine ⟨?_, (free2 b hb).2⟩
      rw [upd_ne (fun z => by rw [z, ← ea] at lt; exact Nat.lt_irrefl _ lt)]
      exact (free2 b hb).1
    · rw [e3, Heap.size_push]
      exact Nat.lt_succ_of_lt lt
  have t3 : tn 0 z3.heap := T.keep _ _ _ t2 fun b _ o e => up3 b o e
  have I4 := block_start I3 ok nodup free3
  generalize eG3 : upd G a (.dT []) = G3 at I3 I4 v0 free3
  generalize ecl : cellsFrom (z3.heap.objs.size + 1) scope.names (cloFrom X.env.cells scope.names []) = cl at I4
  have pg := hg z3 G3 z3.heap.objs.size cl own'
  have pt := ht z3 G3 z3.heap.objs.size cl own'
  have pk := hk z3 G3 z3.heap.objs.size cl own'
  have pe := he z3 G3 z3.heap.objs.size cl own'
  have none3 : ∀ b ∈ own', G3 b = none := fun b hb => (free3 b hb).1.1
  unfold blkX at pg pt pk pe
  show codeAny (model X.prog X.w) X.A (.compStart (.DictComp kx vx [⟨tg, iter, ifs, 0⟩] scope pos) 0 (.ref it) (.ref a) (compEnvC scope cl z3.heap.objs.size X.env)) (compPost (model X.prog X.w) X.A X.xe none (EP X pins σ Q) (.ref a) z3.heap.objs.size) _
  generalize ece : compEnvC scope cl z3.heap.objs.size X.env = ce at I4 pg pt pk pe ⊢
  have lce : ce.locals = z3.heap.objs.size := by subst ece; rfl
  generalize ez4 : ({ z3 with heap := pushCells (z3.heap.push { cls := .type "dict", data := .dict #[] }) scope.names } : Shared) = z4 at I4 ⊢
  have t4 : tn 0 z4.heap := T.keep _ _ _ t3 fun b _ o e => by rw [← ez4]; exact pushCells_keeps _ _ _ _ (Heap.get?_push_of_some _ e)
  generalize eB : X.blk z3 G3 scope ce own' = B at I4 pg pt pk pe
  have Bf : B.prog = X.prog ∧ B.w = X.w ∧ B.K = X.K ∧ B.calm = true ∧ B.A = X.A := by subst eB; exact ⟨rfl, rfl, rfl, calm, rfl⟩
  have loop : codeAny (model X.prog X.w) X.A (.compLoop (.DictComp kx vx [⟨tg, iter, ifs, 0⟩] scope pos) 0 (.ref it) (.ref a) ce) (compPost (model X.prog X.w) X.A X.xe none (EP X pins σ Q) (.ref a) z3.heap.objs.size) z4 := by
    refine L2.compLoop_anyD (fun n z => ∃ i F, Inv B [] (L2.wipe σ (own.map (·.2))) F z ∧ tn i z.heap ∧ (∀ b ∈ own', F b = none) ∧ V' i n F) ?_ m0 ⟨0, G3, I4, t4, none3, v0⟩
    rintro n z5 ⟨i, F5, I5, t5, none5, v5⟩
    have loose : ∀ {σ' : L2.St} {F : Hp} {z : Shared}, Inv B [] σ' F z → (∀ b ∈ own', F b = none) → ∀ b ∈ own', FpOk B [] F b := by
      subst eB
      intro σ' F z I' hn b hb
      exact ⟨hn b hb, (I'.ok.exf b hb).1, I'.ok.exfs b hb, .inl hb, fun x c e => (I'.ok.exf b hb).2 x c e, fun p hp => absurd (show p ∈ ([] : List (Addr × Obj)) ++ [] from hp) (by simp)⟩
    rcases turns i n F5 v5 with ⟨stop, fine⟩ | ⟨go, Nx, next, step⟩
    · have done := T.done B Bf.1 Bf.2.1 Bf.2.2.1 Bf.2.2.2.1 i [] z5 _ F5 (fun _ _ => False) I5 (loose I5 none5) t5 stop
      subst eB
      refine thnF done fun r z6 ⟨er, I6⟩ => ?_
      subst er
      have I7 : Inv X pins σ F5 z6 := I3.call' (ch := own') I6.os I6.base I6.hok I6.bare fun b hb =>
        have f := (free3 b hb).1
        ⟨f.2.2.2.1, f.2.1, f.2.2.2.2.1, f.2.2.2.2.2⟩
      obtain ⟨m, hn, _⟩ := I6.loc
      have hn : z6.heap.Ns z3.heap.objs.size m := by rw [← lce]; exact hn
      have nl : F5 z3.heap.objs.size = none := by rw [← lce]; exact I6.free
      obtain ⟨f0, f1, f2, f3, f4, f5⟩ := I3.fpOk (Nat.le_refl _) nl
      exact ⟨m, hn, fun h'' sb => ⟨.ref a, F5, I7.turned (t' := z6.toks) (fun b o hb e => (sb.2 b hb).trans e) f0 f1 f3 f4 f5, rfl, fine⟩⟩
    · have item := T.item B Bf.1 Bf.2.1 Bf.2.2.1 Bf.2.2.2.1 i [] z5 _ F5 (fun _ _ => False) I5 (loose I5 none5) t5 go
      have loose' := @loose
      clear loose
      subst eB
      refine thnF item fun r z6 ⟨u, er, h6⟩ => ?_
      subst er
      refine thnF h6 fun _ z7 ⟨x, F7, I7, r7, y7, t7, none7⟩ => ?_
      have pinned := I7.pinned (loose' I7 none7) (T.obj _ _ t7)
      refine thnF (pg.run _ z7 _ F7 x u _ pinned r7 (step x F7 y7)) fun _ z8 ⟨σ8, F8, I8, same, q8⟩ => ?_
      refine thnF (pt.run _ z8 σ8 F8 _ I8 q8) fun b z9 ⟨F9, I9, q9⟩ => ?_
      have onward : ∀ {z : Shared} {F : Hp}, Inv (X.blk z3 G3 scope ce own') ([] ++ pinsAt own' z7.heap) σ8 F z → Nx F →
          ∃ m, m < n ∧ ∃ i F, Inv (X.blk z3 G3 scope ce own') [] (L2.wipe σ (own.map (·.2))) F z ∧ tn i z.heap ∧ (∀ b ∈ own', F b = none) ∧ V' i m F := by
        intro z F I' nx
        obtain ⟨m', lt, v'⟩ := next F nx
        have still : ∀ b ∈ own', ∀ o, z7.heap.get? b = some o → z.heap.get? b = some o ∧ F b = none := fun b hb o e => by
          have w := I'.pin (b, o) (List.mem_append_right _ (List.mem_append_right _ (mem_pinsAt hb e)))
          exact ⟨w.1, w.2.1⟩
        have len8 : (L2.wipe σ (own.map (·.2))).length = σ8.length := by rw [← same, wipe_length]
        refine ⟨m', lt, i + 1, F, (I'.unpinned (pins := [])).weak len8 (fun j v e => ?_), T.keep _ _ _ t7 fun b hb o e => (still b hb o e).1, fun b hb => ?_, v'⟩
        · rw [← same] at e
          exact (wipe_some e).1
        · obtain ⟨o, e, _⟩ := T.obj _ _ t7 b hb
          exact (still b hb o e).2
      cases b with
      | false =>
        simp only [Bool.false_eq_true, if_false] at q9 ⊢
        exact onward I9 q9
      | true =>
        simp only [if_true] at q9 ⊢
        refine thnF (pk.run _ z9 σ8 F9 _ I9 q9) fun y z10 ⟨yv, F10, I10, r10, q10⟩ => ?_
        refine thnF (pe.run _ z10 σ8 F10 _ I10 q10) fun v z11 ⟨vv, F11, I11, r11, kvs, k, c, ey, atc, at11, room, nx⟩ => ?_
        subst ey
        have r10 : y = .ref c := r10
        subst r10
        exact d_dictSetT (X := X.blk z3 G3 scope ce own') hu I11 at11 atc room r11 fun z12 I12 => onward I12 nx
  exact codeAny_compStart_dict loop (T.self X.A 0 _ _ _ t4 loop)
end
/-! ### its reading: the new dictionary grows at its handle -/
def dcPut (S : Store) (n : Nat) (y z : D) (r : Store → Option Store) : Option Store := match S[n]?, y with
  | some (.dt kvs), .tup ds => if kvs.length < szl then (keysOf ds).bind fun ks => r (S.set n (.dt (putD kvs ks z))) else none
  | _, _ => none
def dcL (ok : Store → Bool) (g : MTg) (t : MTst) (k v : MExp) (ρw : Ev) (n : Nat) : List D → Store → Option Store
  | [], S => if ok S then some S else none
  | x :: r, S => if ok S then (g x ρw S).bind fun p => (t p.1 p.2).bind fun c => if c.1 then (k p.1 c.2).bind fun y => (v p.1 y.2).bind fun z => dcPut z.2 n y.1 z.1 (dcL ok g t k v ρw n r)
    else dcL ok g t k v ρw n r c.2 else none
def mDictCompT (i : MItr) (g : MTg) (t : MTst) (k v : MExp) (vs : List Nat) : MExp := fun ρ S => (i ρ S).bind fun p =>
  (dcL p.1.2 g t k v (wipeD ρ vs) p.2.length p.1.1 (p.2 ++ [.dt []])).bind fun S2 => some (.lr p.2.length, S2)
theorem dcPut_some {S S' : Store} {n : Nat} {y z : D} {r : Store → Option Store} (h : dcPut S n y z r = some S') : ∃ kvs ds ks, S[n]? = some (.dt kvs) ∧ y = .tup ds ∧ kvs.length < szl ∧ keysOf ds = some ks ∧ r (S.set n (.dt (putD kvs ks z))) = some S' := by
  unfold dcPut at h
  split at h
  · rename_i kvs ds hk
    split at h
    · rename_i hz
      obtain ⟨ks, e1, e2⟩ := Option.bind_eq_some_iff.mp h
      exact ⟨kvs, ds, ks, hk, rfl, hz, e1, e2⟩
    · cases h
  · cases h
theorem tE_dcT {K : PySem.W.Frag} {i : MItr} {g : MTg} {t : MTst} {k v : MExp} {vs is : List Nat} {σ : L2.St} {H : Hp} {Q : VK} (hv : ∀ j ∈ is, j ∈ vs) (h : tE K (mDictCompT i g t k v vs) σ H Q) : tDcT (tI K i) (tGl K is g) (tT K t) (tE K k) (tE K v) vs σ H Q := by
  obtain ⟨ρ, S, μ, d, S', st, e0, q⟩ := h
  obtain ⟨⟨⟨ds, ok⟩, S1⟩, e1, e0⟩ := Option.bind_eq_some_iff.mp e0
  obtain ⟨S9, e9, e0⟩ := Option.bind_eq_some_iff.mp e0
  cases e0
  refine ⟨ρ, S, μ, (ds, ok), S1, st, e1, fun J H1 μ1 g1 s1 hJ A hA => ?_⟩
  have st1 : Sim K H1 μ1 σ ρ S1 := st.grow g1 s1
  have gA : Grow H1 (upd H1 A (.dT [])) μ1 (μ1.add A) := .newL hA
  have sA : StR K (upd H1 A (.dT [])) (μ1.add A) (S1 ++ [.dt []]) := s1.newM hA ⟨[], upd_same, rfl, .nil⟩
  have hnA : (μ1.add A).h[S1.length]? = some A := by rw [← s1.len]; exact Mu.new
  refine ⟨fun i m H => m = ds.length - i ∧ i ≤ ds.length ∧ ∃ S μ, StR K H μ S ∧ Grow (upd H1 A (.dT [])) H (μ1.add A) μ ∧ dcL ok g t k v (wipeD ρ vs) S1.length (ds.drop i) S = some S',
    ⟨ds.length, by omega, by omega, _, _, sA, .refl, e9⟩, ?_⟩
  rintro i m H2 ⟨rfl, hi, S2, μ2, s2, g2, e2⟩
  have g12 := gA.trans g2
  have w2 : Sim K H2 μ2 (wipe σ vs) (wipeD ρ vs) S2 := (st1.wipe vs).grow g12 s2
  have hn2 : μ2.h[S1.length]? = some A := by
    obtain ⟨t, et⟩ := g2.pre
    rw [← et, List.getElem?_append_left (List.getElem?_eq_some_iff.mp hnA).1]
    exact hnA
  by_cases hlt : i < ds.length
  · rw [List.drop_eq_getElem_cons hlt] at e2
    unfold dcL at e2
    split at e2
    · rename_i hok
      obtain ⟨⟨ρ3, S3⟩, e3, e2⟩ := Option.bind_eq_some_iff.mp e2
      obtain ⟨⟨k4, S4⟩, e4, e2⟩ := Option.bind_eq_some_iff.mp e2
      refine .inr ⟨hJ.go i H2 μ2 S2 g12 s2 hok hlt, fun H' => ∃ S μ, StR K H' μ S ∧ Grow (upd H1 A (.dT [])) H' (μ1.add A) μ ∧ dcL ok g t k v (wipeD ρ vs) S1.length (ds.drop (i + 1)) S = some S',
        fun H' hN => ⟨ds.length - (i + 1), by omega, rfl, hlt, hN⟩, fun x H' y => ?_⟩
      obtain ⟨g3, s3, r3⟩ := hJ.yld i H2 μ2 S2 x H' g12 s2 hok y ds[i] (List.getElem?_eq_getElem hlt)
      refine ⟨ds[i], wipeD ρ vs, S2, μ2, ρ3, S3, w2.grow g3 s3, r3, e3, fun σ4 H4 μ4 g4 st4 l4 k4' => ?_⟩
      refine ⟨?_, ρ3, S3, μ4, k4, S4, st4, e4, fun H5 μ5 g5 s5 => ?_⟩
      · rw [wipe_same l4 fun j hj => k4' j fun z => hj (hv j z), wipe_wipe]
      · have gg := ((g2.trans g3).trans g4).trans g5
        cases k4 with
        | false => exact iteF ⟨S4, μ5, s5, gg, e2⟩
        | true =>
          obtain ⟨⟨y6, S6⟩, e6, e2⟩ := Option.bind_eq_some_iff.mp (show ((k ρ3 S4).bind fun y => (v ρ3 y.2).bind fun z => dcPut z.2 S1.length y.1 z.1 (dcL ok g t k v (wipeD ρ vs) S1.length (ds.drop (i + 1)))) = some S' from e2)
          obtain ⟨⟨y7, S7⟩, e7, e2⟩ := Option.bind_eq_some_iff.mp (show ((v ρ3 S6).bind fun z => dcPut z.2 S1.length y6 z.1 (dcL ok g t k v (wipeD ρ vs) S1.length (ds.drop (i + 1)))) = some S' from e2)
          refine iteT ⟨ρ3, S4, μ5, y6, S6, st4.grow g5 s5, e6, fun u6 H6 μ6 g6 s6 r6 => ?_⟩
          refine ⟨ρ3, S6, μ6, y7, S7, (st4.grow g5 s5).grow g6 s6, e7, fun u7 H7 μ7 g7 s7 r7 => ?_⟩
          have gg7 := (gg.trans g6).trans g7
          have hn7 : μ7.h[S1.length]? = some A := by
            obtain ⟨t, et⟩ := gg7.pre
            rw [← et, List.getElem?_append_left (List.getElem?_eq_some_iff.mp hnA).1]
            exact hnA
          replace e2 : dcPut S7 S1.length y6 y7 (dcL ok g t k v (wipeD ρ vs) S1.length (ds.drop (i + 1))) = some S' := e2
          obtain ⟨kvs, ds0, ks, hk, rfl, hz, e8, e2⟩ := dcPut_some e2
          obtain ⟨a', q1, kws, h1, h2⟩ := s7.get hk
          rw [hn7] at q1; cases q1
          cases r6.grow g7 with
          | tup hy ry =>
          have hy := hy
          unfold OwnT at hy
          rw [rp_keys e8 ry] at hy
          have gw : Grow H7 (upd H7 A (.dT (putK kws ks u7))) μ7 μ7 := .wrS s7 hk rfl hn7
          exact ⟨kws, ks, _, rfl, hy, h1, by rw [h2.len]; exact szl_lt hz, _, μ7, s7.wrM (y := .dt (putD kvs ks y7)) hk rfl hn7 ⟨_, upd_same, (h2.put r7).grow gw⟩, gg7.trans gw, e2⟩
    · cases e2
  · have ei : i = ds.length := by omega
    subst ei
    rw [List.drop_length] at e2
    unfold dcL at e2
    split at e2
    · rename_i hok
      cases e2
      exact .inl ⟨hJ.stop H2 μ2 _ g12 s2 hok, q _ H2 μ2 (g1.trans g12) s2 (.lr hn2)⟩
    · cases e2
section
variable {X : Cx} {kx vx tg iter : Expr} {ifs : List Expr} {scope : Scope} {own : List (Str × Nat)} {pos : Pos} {i : MItr} {g : MTg} {t : MTst} {k v : MExp} {is : List Nat}
theorem me_dcT (hu : X.A.units < cLine) (hc : X.calm = true) (hN : X.N.Nodup) (hi : MI X tg iter i) (ok : BlkOk X.N X.env.scope scope own)
    (hg : ∀ s H C cl fp, MGl (blkX X scope s H C cl fp) is tg g) (ht : ∀ s H C cl fp, MTs (blkX X scope s H C cl fp) ifs t) (hk : ∀ s H C cl fp, ME (blkX X scope s H C cl fp) kx k) (he : ∀ s H C cl fp, ME (blkX X scope s H C cl fp) vx v) (hv : ∀ j ∈ is, j ∈ own.map (·.2))
    (hs : ∀ x, foldedSetIterable iter X.env x = pure x := by intro _; rfl) :
    ME X (.DictComp kx vx [⟨tg, iter, ifs, 0⟩] scope pos) (mDictCompT i g t k v (own.map (·.2))) :=
  ⟨PE.imp (pe_dcT (wi := tI X.K i) (g := tGl X.K is g) (tt := tT X.K t) (tk := tE X.K k) (tv := tE X.K v) hu hc hN hi.pi ok (fun s H C cl fp => (hg s H C cl fp).pg) (fun s H C cl fp => (ht s H C cl fp).pts) (fun s H C cl fp => (hk s H C cl fp).pe) (fun s H C cl fp => (he s H C cl fp).pe) hs) fun _ _ _ h => tE_dcT hv h⟩
end
end MS

set_option Elab.async false
set_option linter.all false
set_option maxRecDepth 100000
set_option maxHeartbeats 4000000
namespace MS
open PySem PySem.Spec PyProof.Rows L2
/-! ### any of a list -/
def cAny : DCall := fun ds S => match ds with
  | [d] => (latD S d).bind fun es => (blsOf es).map fun bs => (.bl (bs.any id), S)
  | _ => none
theorem c_any {X : Cx} (hc : X.calm = true) : CallR X (.builtin "any") (rCM X.K cAny) := CallR.imp (cr_any hc) fun vs H Q ⟨S, μ, ds, d, S', s, r, e, q⟩ => by
  unfold cAny at e
  split at e
  · obtain ⟨es, e1, e⟩ := Option.bind_eq_some_iff.mp e
    obtain ⟨bs, e2, e⟩ := Option.map_eq_some_iff.mp e
    cases e
    match vs, r with
    | _, .cons r1 .nil =>
      obtain ⟨a, ws, rfl, h1, h2⟩ := s.latD e1 r1
      rw [blsOf_rp e2 h2] at h1
      exact ⟨a, bs, rfl, h1, q.id s (.bl _)⟩
  · cases e
theorem boot_any : bootBuiltins "any" = some (.builtin "any") := by decide +kernel
theorem ge_any {S : Store} {Q : D → Store → Prop} {n : Nat} {bs : List Bool} (h1 : lat S n = some (bs.map D.bl)) (h : Q (.bl (bs.any id)) S) : GE (cAny [.lr n] S) Q := by
  show GE ((lat S n).bind fun es => (blsOf es).map fun bs => (D.bl (bs.any id), S)) Q
  rw [h1]
  show GE ((blsOf (bs.map D.bl)).map fun bs => (D.bl (bs.any id), S)) Q
  rw [blsOf_map]
  exact ⟨_, _, rfl, h⟩
/-! ### the truth of a list, of a tuple -/
def mTr (m : MExp) : MTst := fun ρ S => (m ρ S).bind fun p => match p.1 with
  | .bl b => some (b, p.2)
  | .non => some (false, p.2)
  | .lr n => (lat p.2 n).map fun es => (!es.isEmpty, p.2)
  | .tup ds => some (!ds.isEmpty, p.2)
  | .lst ds => some (!ds.isEmpty, p.2)
  | _ => none
theorem isEmpty_rp {K : PySem.W.Frag} {H : Hp} {μ : Mu} : ∀ {ds : List D} {vs : List V}, RpA K H μ vs ds → vs.isEmpty = ds.isEmpty
  | [], _, .nil => rfl
  | _ :: _, _, .cons _ _ => rfl
theorem mt_tr {X : Cx} {e : Expr} {m : MExp} (h : ME X e m) (he : ∀ whole, isTrue e X.env whole = (do let v ← whole; standAt e.pos; holding [v] (truthy v)) := by intro _; rfl) : MT X e (mTr m) := ⟨PT.imp (pt_truth h.pe he) fun σ H Q h => by
  obtain ⟨ρ, S, μ, k, S', st, e, q⟩ := h
  unfold mTr at e
  obtain ⟨⟨d, S1⟩, e1, e⟩ := Option.bind_eq_some_iff.mp e
  refine ⟨ρ, S, μ, d, S1, st, e1, fun v H1 μ1 g1 s1 r1 => ?_⟩
  cases d with
  | bl b => cases e; cases r1; exact ⟨_, rfl, q H1 μ1 g1 s1⟩
  | non => cases e; cases r1; exact ⟨_, rfl, q H1 μ1 g1 s1⟩
  | lr n =>
    obtain ⟨es, e2, e3⟩ := Option.map_eq_some_iff.mp (show ((lat S1 n).map fun es => (!es.isEmpty, S1)) = some (k, S') from e)
    cases e3
    obtain ⟨a, ws, rfl, h1, h2⟩ := s1.lat e2 r1
    exact ⟨_, .inl ⟨ws, h1, by rw [isEmpty_rp h2]⟩, q H1 μ1 g1 s1⟩
  | tup ds =>
    cases e
    obtain ⟨a, ws, rfl, h1, h2⟩ : ∃ a ws, v = .ref a ∧ SqT X.K H1 a ws ∧ RpA X.K H1 μ1 ws ds := by
      cases r1 with
      | tup hy ry => exact ⟨_, _, rfl, sq _ _ hy, ry⟩
    exact ⟨_, .inr (.inl ⟨ws, h1, by rw [isEmpty_rp h2]⟩), q H1 μ1 g1 s1⟩
  | lst ds =>
    cases e
    cases r1 with
    | lst h1 h2 => exact ⟨_, .inl ⟨_, h1.sqL, by rw [isEmpty_rp h2]⟩, q H1 μ1 g1 s1⟩
  | _ => cases e⟩
/-! ### in, not in: a list of tuples -/
def fInP (neg : Bool) : DOp2 := fun x y S => (toPy S 64 x).bind fun p => (toPy S 64 y).bind fun q => match q with
  | .list ps => if SeqAt.shaped p && SeqAt.shaped (.list ps) then some (.bl (if neg then !ps.any fun z => PyData.eqv z p else ps.any fun z => PyData.eqv z p), S) else none
  | _ => none
theorem fInP_some {neg : Bool} {x y d : D} {S S' : Store} (e : fInP neg x y S = some (d, S')) : ∃ p ps, toPy S 64 x = some p ∧ toPy S 64 y = some (.list ps) ∧ SeqAt.shaped p = true ∧ SeqAt.shaped (.list ps) = true ∧ d = .bl (if neg then !ps.any fun z => PyData.eqv z p else ps.any fun z => PyData.eqv z p) ∧ S' = S := by
  unfold fInP at e
  obtain ⟨p, e1, e⟩ := Option.bind_eq_some_iff.mp e
  obtain ⟨q, e2, e⟩ := Option.bind_eq_some_iff.mp e
  cases q with
  | list ps =>
    have e : (if SeqAt.shaped p && SeqAt.shaped (.list ps) then some (D.bl (if neg then !ps.any fun z => PyData.eqv z p else ps.any fun z => PyData.eqv z p), S) else none) = some (d, S') := e
    split at e
    · rename_i h
      rw [Bool.and_eq_true] at h
      cases e
      exact ⟨p, ps, e1, e2, h.1, h.2, rfl, rfl⟩
    · cases e
  | _ => cases e
theorem o_inP {X : Cx} (hu : X.A.units + 65 < cLine) : OpR X (compareOp .In) (rM X.K (fInP false)) :=
  OpR.imp (op_inD hu) fun x y H Q ⟨S, μ, dx, dy, d, S', s, rx, ry, e, q⟩ => by
    obtain ⟨p, ps, e1, e2, h1, h2, rfl, rfl⟩ := fInP_some e
    exact ⟨p, ps, dp_of s _ _ _ _ e1 rx, dp_of s _ _ _ _ e2 ry, h1, h2, q.id s (.bl _)⟩
theorem o_notInP {X : Cx} (hu : X.A.units + 65 < cLine) : OpR X (compareOp .NotIn) (rM X.K (fInP true)) :=
  OpR.imp (op_notInD hu) fun x y H Q ⟨S, μ, dx, dy, d, S', s, rx, ry, e, q⟩ => by
    obtain ⟨p, ps, e1, e2, h1, h2, rfl, rfl⟩ := fInP_some e
    exact ⟨p, ps, dp_of s _ _ _ _ e1 rx, dp_of s _ _ _ _ e2 ry, h1, h2, q.id s (.bl _)⟩
theorem ge_inP {S : Store} {Q : D → Store → Prop} {neg : Bool} {x y : D} {p : PyData} {ps : List PyData} (h1 : toPy S 64 x = some p) (h2 : toPy S 64 y = some (.list ps)) (h3 : SeqAt.shaped p = true) (h4 : SeqAt.shaped (.list ps) = true)
    (h : Q (.bl (if neg then !ps.any fun z => PyData.eqv z p else ps.any fun z => PyData.eqv z p)) S) : GE (fInP neg x y S) Q := by
  refine ⟨_, S, ?_, h⟩
  unfold fInP
  rw [h1, h2]
  show (if SeqAt.shaped p && SeqAt.shaped (.list ps) then _ else none) = _
  rw [h3, h4]
  rfl
end MS

set_option Elab.async false
set_option linter.all false
set_option maxRecDepth 100000
set_option maxHeartbeats 4000000
namespace MS
open PySem PySem.Spec PyProof.Rows L2
/-! ### xs.extend(ys) -/
def mExt (m : MExp) (a : MArg) : MExp := fun ρ S => (m ρ S).bind fun p => match p.1 with
  | .lr n => (mat p.2 n).bind fun _ => (a ρ p.2).bind fun q => match q.1 with
    | [.lr k] => (mat q.2 n).bind fun ds => (mat q.2 k).bind fun es => if ds.length + es.length ≤ szl then some (.non, q.2.set n (.lst (ds ++ es))) else none
    | _ => none
  | _ => none
section
variable {X : Cx} {e : Expr} {es : List Expr} {m : MArg}
theorem mExt_some {n : Nat} {ρ : Ev} {S1 S' : Store} {d : D} (e : (match (D.lr n, S1).1 with
  | .lr n => (mat (D.lr n, S1).2 n).bind fun _ => (m ρ (D.lr n, S1).2).bind fun q => match q.1 with
    | [.lr k] => (mat q.2 n).bind fun ds => (mat q.2 k).bind fun es => if ds.length + es.length ≤ szl then some (D.non, q.2.set n (.lst (ds ++ es))) else none
    | _ => none
  | _ => none) = some (d, S')) : ∃ ds0 S2 k ds es, mat S1 n = some ds0 ∧ m ρ S1 = some ([.lr k], S2) ∧ mat S2 n = some ds ∧ mat S2 k = some es ∧ ds.length + es.length ≤ szl ∧ d = .non ∧ S' = S2.set n (.lst (ds ++ es)) := by
  obtain ⟨ds0, e2, e⟩ := Option.bind_eq_some_iff.mp e
  obtain ⟨⟨as, S2⟩, e3, e⟩ := Option.bind_eq_some_iff.mp e
  dsimp only at e
  split at e
  · rename_i k
    obtain ⟨ds, e4, e⟩ := Option.bind_eq_some_iff.mp e
    obtain ⟨es, e5, e⟩ := Option.bind_eq_some_iff.mp e
    split at e
    · rename_i hz
      cases e
      exact ⟨ds0, S2, k, ds, es, e2, e3, e4, e5, hz, rfl, rfl⟩
    · cases e
  · cases e
theorem me_ext {o : Expr} {mo : MExp} {apos cpos : Pos} (ho : ME X o mo) (ha : MA X (e :: es) m)
    (hbase : attributeBase o "extend" X.env (eval o X.env) = eval o X.env := by rfl)
    (hfew : ((backTo cpos (starEach (e :: es) X.env)).all (fun x => !x.1) && (backToKw cpos (keywordEach [] X.env)).all (fun x => x.1.isSome)
      && decide ((e :: es).length + ([] : List Keyword).length + (if ([] : List Keyword).isEmpty then 0 else 1) < 30)) = true := by rfl)
    (hline : (apos.endLine == cpos.line) = true := by rfl) (hs : starEach (e :: es) X.env = (false, eval e X.env) :: starEach es X.env := by rfl) (hplain : (backTo cpos (starEach es X.env)).any (·.1) = false := by rfl) :
    ME X (.Call (.Attribute o "extend" apos) (e :: es) [] cpos) (mExt mo m) :=
  ⟨PE.imp (pe_bm PySem.F.plainAttrs_list PySem.F.slot_list_extend PySem.F.type_list_extend mt_extend ho.pe ha.pa hbase hfew hline hs hplain) fun σ H Q ⟨ρ, S, μ, d, S', st, e, q⟩ => by
    obtain ⟨⟨d1, S1⟩, e1, e⟩ := Option.bind_eq_some_iff.mp e
    refine ⟨ρ, S, μ, d1, S1, st, e1, fun v H1 μ1 g1 s1 r1 => ?_⟩
    cases d1 with
    | lr n =>
      obtain ⟨ds0, S2, k, ds, es, e2, e3, e4, e5, hz, rfl, rfl⟩ := mExt_some e
      obtain ⟨a, vs, rfl, h1, h2, h3⟩ := s1.mat e2 r1
      refine ⟨.inl ⟨rfl, vs, .inl (.inl h2)⟩, ρ, S1, μ1, [.lr k], S2, st.grow g1 s1, e3, fun ws H2 μ2 g2 s2 r2 => ?_⟩
      match ws, r2 with
      | [w], .cons r3 .nil =>
        obtain ⟨a', vs', h4, h5, h6, h7⟩ := s2.mat e4 (r1.grow g2)
        cases h4
        obtain ⟨b, zs, rfl, h8, h9, h10⟩ := s2.mat e5 r3
        refine ⟨a, b, vs', zs, rfl, rfl, h6, h9, by rw [h7.length, h10.length]; exact szl_le hz, ?_⟩
        exact q _ _ μ2 ((g1.trans g2).trans (.wrS s2 (mat_eq e4) rfl h5)) (s2.wr (mat_eq e4) h5 (h7.append h10)) .non
    | _ => cases e⟩
end
theorem ge_ext {ρ : Ev} {S : Store} {Q : D → Store → Prop} {m : MExp} {a : MArg} (h : GE (m ρ S) fun x S1 => ∃ n, x = .lr n ∧ (∃ z, mat S1 n = some z) ∧ GE (a ρ S1) fun xs S2 => ∃ k ds es, xs = [.lr k] ∧ mat S2 n = some ds ∧ mat S2 k = some es ∧ ds.length + es.length ≤ szl ∧ Q .non (S2.set n (.lst (ds ++ es)))) : GE (mExt m a ρ S) Q :=
  ge_bind (h.mono fun x S1 ⟨n, e, ⟨z, hz⟩, h⟩ => by
    subst e
    show GE ((mat S1 n).bind fun _ => _) Q
    rw [hz]
    obtain ⟨xs, S2, e2, k, ds, es, rfl, h1, h2, h3, h4⟩ := h
    refine ⟨_, _, ?_, h4⟩
    show ((a ρ S1).bind _) = _
    rw [e2]
    show ((mat S2 n).bind fun ds => (mat S2 k).bind fun es => if ds.length + es.length ≤ szl then some (D.non, S2.set n (.lst (ds ++ es))) else none) = _
    rw [h1, h2]
    exact if_pos h3)
end MS

set_option Elab.async false
set_option linter.all false
set_option maxRecDepth 100000
set_option maxHeartbeats 4000000
namespace MS
open PySem PySem.Spec PyProof.Rows L2
/-! ### sorted(xs), tuples of ints of any lengths, none empty -/
def lexI : List Int → List Int → Bool
  | [], [] => false
  | [], _ :: _ => true
  | _ :: _, [] => false
  | a :: l, b :: m => if a = b then lexI l m else decide (a < b)
theorem lexI_asym : ∀ l m : List Int, lexI l m = true → lexI m l = false
  | [], [], h => by cases h
  | [], _ :: _, _ => rfl
  | _ :: _, [], h => by cases h
  | a :: l, b :: m, h => by
    unfold lexI at h ⊢
    by_cases e : a = b
    · rw [if_pos e] at h
      rw [if_pos e.symm]
      exact lexI_asym l m h
    · rw [if_neg e] at h
      rw [if_neg fun z => e z.symm]
      have := of_decide_eq_true h
      exact decide_eq_false (by omega)
theorem lexI_tr : ∀ l m n : List Int, lexI m l = false → lexI n m = false → lexI n l = false
  | [], [], [], _, _ => rfl
  | [], [], _ :: _, _, _ => rfl
  | [], _ :: _, [], _, h => by cases h
  | [], _ :: _, _ :: _, _, _ => rfl
  | _ :: _, [], _, h, _ => by cases h
  | _ :: _, _ :: _, [], _, h => by cases h
  | a :: l, b :: m, c :: n, h, k => by
    unfold lexI at h k ⊢
    by_cases e1 : b = a
    · subst e1
      rw [if_pos rfl] at h
      by_cases e2 : c = b
      · subst e2
        rw [if_pos rfl] at k ⊢
        exact lexI_tr l m n h k
      · rw [if_neg e2] at k ⊢
        exact k
    · rw [if_neg e1] at h
      have h := of_decide_eq_false h
      by_cases e2 : c = b
      · subst e2
        rw [if_neg e1]
        exact decide_eq_false h
      · rw [if_neg e2] at k
        have k := of_decide_eq_false k
        rw [if_neg (by omega)]
        exact decide_eq_false (by omega)
theorem lexI_eq : ∀ l m : List Int, lexI l m = false → lexI m l = false → l = m
  | [], [], _, _ => rfl
  | [], _ :: _, h, _ => by cases h
  | _ :: _, [], _, h => by cases h
  | a :: l, b :: m, h, k => by
    unfold lexI at h k
    by_cases e : a = b
    · rw [if_pos e] at h
      rw [if_pos e.symm] at k
      rw [e, lexI_eq l m h k]
    · rw [if_neg e] at h
      rw [if_neg fun z => e z.symm] at k
      have := of_decide_eq_false h
      have := of_decide_eq_false k
      omega
theorem lex_any {prog : Program} {w : World} {A : Around} {s : Shared} {Q : Bool → Shared → Prop} {b fin : Bool} : ∀ {xs ys : List Value} {ns ms : List Int} (i : Nat), IntsAre xs ns → IntsAre ys ms → fin = decide (xs.length < ys.length) → Q (lexI ns ms) s → PySem.W.KatLex prog w A b fin Q (xs.zip ys) i s
  | _, _, _, _, _, .nil, .nil, e, q => PySem.W.kat_nil (by subst e; exact q)
  | _, _, _, _, _, .nil, .cons _ _ _, e, q => PySem.W.kat_nil (by subst e; exact q)
  | _, _, _, _, _, .cons _ _ _, .nil, e, q => PySem.W.kat_nil (by subst e; exact q)
  | _, _, _, _, i, .cons n t h, .cons m u k, e, q => by
    refine PySem.W.kat_cons ((mixKind prog w).eqBool (kV_is (k := .inl n) ⟨t, rfl⟩) (kV_is (k := .inl m) ⟨u, rfl⟩) ?_)
    unfold PySem.W.KatGo
    unfold lexI at q
    by_cases hn : n = m
    · subst hn
      rw [if_pos rfl] at q
      rw [if_pos (decide_eq_true rfl)]
      refine lex_any (i + 1) h k (by rw [e]; simp) q
    · rw [if_neg hn] at q
      have : ¬ (Sum.inl n : Key) = .inl m := fun z => hn (by injection z)
      rw [if_neg (by rw [decide_eq_false this]; exact Bool.false_ne_true)]
      exact TS.oneLt_ints _ q

def IntTup (h : Heap) (v : Value) (ns : List Int) : Prop := ∃ t its, v = .ref t ∧ PyProof.Rows.IsTup h t its.toArray ∧ IntsAre its ns
theorem IntTup.keeps {h h' : Heap} {v : Value} {ns : List Int} {a : Addr} (i : IntTup h v ns) (ha : ∀ o, h.get? a = some o → o.cls ≠ .type "tuple") (hh : ∀ b o, b ≠ a → h.get? b = some o → h'.get? b = some o) : IntTup h' v ns := by
  obtain ⟨t, its, rfl, ⟨o, h1, h2, n, h3⟩, h4⟩ := i
  exact ⟨t, its, rfl, ⟨o, hh _ _ (fun z => by subst z; exact ha _ h1 h2) h1, h2, n, h3⟩, h4⟩
theorem katTups_of {h : Heap} {k : Value → List Int} : ∀ {vs : List Value}, (∀ v ∈ vs, IntTup h v (k v) ∧ k v ≠ []) → ∃ fs, PySem.W.KatTups h vs fs ∧ fs.length = vs.length ∧ ∀ v ∈ fs, ∃ n t, v = .int n t
  | [], _ => ⟨[], trivial, rfl, fun _ z => nomatch z⟩
  | v :: vs, hv => by
    obtain ⟨fs, h1, h2, h3⟩ := katTups_of (vs := vs) fun u hu => hv u (List.mem_cons_of_mem _ hu)
    obtain ⟨⟨t, its, e, ⟨o, g1, g2, n, g3⟩, g4⟩, g5⟩ := hv v (List.mem_cons_self ..)
    cases hk : k v with
    | nil => exact absurd hk g5
    | cons m ms =>
      rw [hk] at g4
      cases g4 with
      | cons _ u r =>
        refine ⟨.int m u :: fs, ⟨⟨t, o, _, n, e, g1, g2, g3, rfl⟩, h1⟩, by rw [List.length_cons, List.length_cons, h2], fun z hz => ?_⟩
        rcases List.mem_cons.mp hz with rfl | hz
        · exact ⟨_, _, rfl⟩
        · exact h3 z hz
theorem tups_sortable {prog : Program} {w : World} {A : Around} {s : Shared} {a : Addr} {vs : List Value} {k : Value → List Int} (h0 : 0 < vs.length) (hv : ∀ v ∈ vs, IntTup s.heap v (k v) ∧ k v ≠ []) (ha : ∀ o, s.heap.get? a = some o → o.cls ≠ .type "tuple") :
    SrtO.SortableO prog w A s a vs fun v u => lexI (k v) (k u) := by
  intro h' hh
  have hv' : ∀ v ∈ vs, IntTup h' v (k v) ∧ k v ≠ [] := fun v hm => ⟨(hv v hm).1.keeps ha hh, (hv v hm).2⟩
  refine ⟨PyProof.Rows.tuples' (Value.type "int" != Value.type "tuple"), fun Q E q => ?_, fun p q hp hq => ?_⟩
  · obtain ⟨fs, h1, h2, h3⟩ := katTups_of hv'
    refine PySem.W.kat_kind (s := { s with heap := h' }) h1 (by omega) (T := .type "int") (fun v hm => ?_) (by decide) q
    obtain ⟨n, t, rfl⟩ := h3 v hm
    exact PySem.W.Looks.now
  · obtain ⟨⟨t, its, e, ⟨o, g1, g2, n, g3⟩, g4⟩, _⟩ := hv' _ hp
    obtain ⟨⟨t', its', e', ⟨o', g1', g2', n', g3'⟩, g4'⟩, _⟩ := hv' _ hq
    rw [e, e']
    refine PySem.W.kat_lt (s := { s with heap := h' }) g1 g3 g1' g3' (lex_any 0 g4 g4' rfl ⟨rfl, ?_⟩)
    show _ = lexI (k p.fst) (k q.fst)
    rfl
theorem swo_lex {k : Value → List Int} : SrtO.Swo fun v u => lexI (k v) (k u) := ⟨fun x y h => lexI_asym _ _ h, fun x y z h1 h2 => lexI_tr _ _ _ h1 h2⟩
end MS

set_option Elab.async false
set_option linter.all false
set_option maxRecDepth 100000
set_option maxHeartbeats 4000000
namespace MS
open PySem PySem.Spec PyProof.Rows L2
def vr : Value → V
  | .ref t => .ref t
  | _ => .non
theorem vals_refs : ∀ {its : List Value}, (∀ v ∈ its, ∃ t, v = .ref t) → Vals (its.map vr) its
  | [], _ => .nil
  | v :: its, h => by
    obtain ⟨t, rfl⟩ := h v (List.mem_cons_self ..)
    exact .cons rfl (vals_refs fun u hu => h u (List.mem_cons_of_mem _ hu))
theorem refs_vals : ∀ {xs : List V} {its : List Value}, Vals xs its → (∀ x ∈ xs, ∃ t, x = .ref t) → xs = its.map vr ∧ ∀ v ∈ its, ∃ t, v = .ref t
  | [], [], _, _ => ⟨rfl, fun _ z => nomatch z⟩
  | x :: xs, u :: its, .cons r h, hx => by
    obtain ⟨h1, h2⟩ := refs_vals h fun y hy => hx y (List.mem_cons_of_mem _ hy)
    obtain ⟨t, rfl⟩ := hx x (List.mem_cons_self ..)
    have r : u = .ref t := r
    subst r
    exact ⟨by rw [List.map_cons, ← h1]; rfl, fun v hv => (List.mem_cons.mp hv).elim (fun e => ⟨t, e⟩) (h2 v)⟩
def rSortedTI (K : PySem.W.Frag) : List V → Hp → VK → Prop := fun vs H Q => ∃ (a : Addr) (xs : List V) (k : V → List Int), vs = [V.ref a] ∧ SqL K H a xs ∧ (∀ x ∈ xs, k x ≠ [] ∧ ∃ t, x = .ref t ∧ H t = some (.tup ((k x).map V.int))) ∧
  ∀ ys p, ys.Perm xs → ys.Pairwise (fun x y => lexI (k y) (k x) = false) → H p = none → Q (.ref p) (upd H p (.lst ys))
theorem cr_sortedTI {X : Cx} : CallR X (.builtin "sorted") (rSortedTI X.K) := by
  intro pins s σ H vs us Q I r ⟨a, xs, k, ex, hq, hk, q⟩
  subst ex
  obtain ⟨its, rv, pl, hz⟩ := I.list hq
  rw [Vals.ref1 r]
  obtain ⟨exs, hr⟩ := refs_vals rv fun x hx => let ⟨t, e, _⟩ := (hk x hx).2; ⟨t, e⟩
  subst exs
  have hlen : its.length ≤ sizeLine := by rw [List.length_map] at hz; exact hz
  have tup : ∀ v ∈ its, IntTup s.heap v (k (vr v)) ∧ k (vr v) ≠ [] := fun v hv => by
    obtain ⟨h1, t, h2, h3⟩ := hk (vr v) (List.mem_map.mpr ⟨v, hv, rfl⟩)
    obtain ⟨t', rfl⟩ := hr v hv
    cases h2
    obtain ⟨_, jts, g1, g2⟩ := (show ((k (.ref t)).map V.int).length ≤ sizeLine ∧ ∃ its, Vals ((k (.ref t)).map V.int) its ∧ PyProof.Rows.IsTup s.heap t its.toArray from I.hok _ _ h3)
    exact ⟨⟨t, jts, rfl, g2, ints_of_vals g1⟩, h1⟩
  have il : s.heap.IsList a its.toArray := by
    obtain ⟨o, n, g1, g2, g3, g4⟩ := pl
    exact ⟨o, g1, g2, n, g4⟩
  refine SrtO.sorted_ord (ltv := fun v u => lexI (k (vr v)) (k (vr u))) (swo_lex (k := fun v => k (vr v))) il hlen (fun h2 h₁ a' e1 e2 => ?_) (fun out h1 h2 => ?_)
  · refine tups_sortable (k := fun v => k (vr v)) (by omega) (fun v hv => ⟨?_, (tup v hv).2⟩) (fun o e => ?_)
    · obtain ⟨t, jts, e, ⟨o, g1, g2, n, g3⟩, g4⟩ := (tup v hv).1
      exact ⟨t, jts, e, ⟨o, (e2 _ _ g1).2, g2, n, g3⟩, g4⟩
    · rw [show o = PyProof.Rows.seqObj "list" its.toArray 0 from Option.some.inj (e.symm.trans e1)]
      intro z
      have z : Value.type "list" = Value.type "tuple" := z
      exact absurd z (by decide)
  · have ho : ∀ v ∈ out, ∃ t, v = .ref t := fun v hv => hr v (h2.perm.mem_iff.mp hv)
    have hn : H (s.heap.objs.size + 1) = none := I.hok.fresh (Nat.le_succ _)
    have J : Inv X pins σ (upd H (s.heap.objs.size + 1) (.lst (out.map vr))) { s with heap := PyProof.Rows.sortedAll s.heap its out.toArray } := by
      refine I.laid (t' := s.toks) (fun b o e => PyProof.Rows.sortedAll_old e) (Nat.le_succ _) ?_
      obtain ⟨e, he⟩ := PyProof.Rows.sortedAll_at s.heap its out.toArray
      unfold ObjOk
      exact ⟨by rw [List.length_map, h2.perm.length_eq]; exact hlen, out, e, vals_refs ho, he⟩
    exact ⟨.ref (s.heap.objs.size + 1), _, J, rfl, q _ _ (h2.perm.map vr) (List.pairwise_map.mpr h1) hn⟩
end MS

set_option Elab.async false
set_option linter.all false
set_option maxRecDepth 100000
set_option maxHeartbeats 4000000
namespace MS
open PySem PySem.Spec PyProof.Rows L2
/-! ### its reading -/
def tupI (ns : List Int) : D := .tup (ns.map D.int)
def tupsOf : List D → Option (List (List Int))
  | [] => some []
  | .tup ds :: r => (intsOf ds).bind fun ns => if ns.isEmpty then none else (tupsOf r).map fun l => ns :: l
  | _ :: _ => none
theorem tupsOf_map : ∀ {l : List (List Int)}, (∀ ns ∈ l, ns ≠ []) → tupsOf (l.map tupI) = some l
  | [], _ => rfl
  | ns :: l, h => by
    rw [List.map_cons]
    show ((intsOf (ns.map D.int)).bind fun ns => if ns.isEmpty then none else (tupsOf (l.map tupI)).map fun l => ns :: l) = _
    rw [intsOf_map]
    show (if ns.isEmpty then none else (tupsOf (l.map tupI)).map fun l => ns :: l) = _
    have : ns.isEmpty = false := by
      cases ns with
      | nil => exact absurd rfl (h [] (List.mem_cons_self ..))
      | cons _ _ => rfl
    rw [this, tupsOf_map fun m hm => h m (List.mem_cons_of_mem _ hm)]
    rfl
def insT (x : List Int) : List (List Int) → List (List Int)
  | [] => [x]
  | y :: l => if lexI y x = false then x :: y :: l else y :: insT x l
def sortT (l : List (List Int)) : List (List Int) := l.foldr insT []
theorem insT_perm {x : List Int} : ∀ {l : List (List Int)}, (insT x l).Perm (x :: l)
  | [] => .refl _
  | y :: l => by
    unfold insT
    split
    · exact .refl _
    · exact (List.Perm.cons y insT_perm).trans (.swap x y l)
theorem sortT_perm : ∀ (l : List (List Int)), (sortT l).Perm l
  | [] => .refl _
  | x :: l => insT_perm.trans ((sortT_perm l).cons x)
abbrev UpT (l : List (List Int)) : Prop := l.Pairwise fun x y => lexI y x = false
theorem insT_up {x : List Int} : ∀ {l : List (List Int)}, UpT l → UpT (insT x l)
  | [], _ => List.pairwise_cons.mpr ⟨fun _ z => (nomatch z), .nil⟩
  | y :: l, h => by
    obtain ⟨h1, h2⟩ := List.pairwise_cons.mp h
    unfold insT
    split
    · rename_i hx
      refine List.pairwise_cons.mpr ⟨fun z hz => ?_, h⟩
      rcases List.mem_cons.mp hz with rfl | hz
      · exact hx
      · exact lexI_tr _ _ _ hx (h1 z hz)
    · rename_i hx
      refine List.pairwise_cons.mpr ⟨fun z hz => ?_, insT_up h2⟩
      rcases List.mem_cons.mp (insT_perm.mem_iff.mp hz) with rfl | hz
      · exact lexI_asym _ _ (by cases h : lexI y z with | true => rfl | false => exact absurd h hx)
      · exact h1 z hz
theorem sortT_up : ∀ (l : List (List Int)), UpT (sortT l)
  | [] => .nil
  | x :: l => insT_up (sortT_up l)
theorem up_one : ∀ {l m : List (List Int)}, l.Perm m → UpT l → UpT m → l = m
  | [], m, h, _, _ => (List.Perm.nil_eq h)
  | a :: l, [], h, _, _ => absurd h.length_eq (by simp)
  | a :: l, b :: m, h, hl, hm => by
    obtain ⟨l1, l2⟩ := List.pairwise_cons.mp hl
    obtain ⟨m1, m2⟩ := List.pairwise_cons.mp hm
    have e : a = b := by
      rcases List.mem_cons.mp (h.mem_iff.mp List.mem_cons_self) with e | ha
      · exact e
      · rcases List.mem_cons.mp (h.mem_iff.mpr List.mem_cons_self) with e | hb
        · exact e.symm
        · exact lexI_eq _ _ (m1 a ha) (l1 b hb)
    subst e
    rw [up_one ((List.perm_cons a).mp h) l2 m2]
def cSortedT : DCall := fun ds S => match ds with
  | [d] => (latD S d).bind fun es => (tupsOf es).map fun l => (.lr S.length, S ++ [.lst ((sortT l).map tupI)])
  | _ => none
def vInts : List V → List Int
  | [] => []
  | .int i :: r => i :: vInts r
  | _ :: r => vInts r
theorem vInts_map : ∀ ns : List Int, vInts (ns.map V.int) = ns
  | [] => rfl
  | n :: ns => by rw [List.map_cons]; unfold vInts; rw [vInts_map]
def inside (H : Hp) : V → List Int
  | .ref t => match H t with
    | some (.tup vs) => vInts vs
    | _ => []
  | _ => []
theorem inside_ref {H : Hp} {t : Addr} {ns : List Int} (h : H t = some (.tup (ns.map V.int))) : inside H (.ref t) = ns := by
  show (match H t with
    | some (.tup vs) => vInts vs
    | _ => []) = ns
  rw [h]
  exact vInts_map ns
theorem intsOf_eq : ∀ {ds : List D} {ns : List Int}, intsOf ds = some ns → ds = ns.map D.int
  | [], _, e => by cases e; rfl
  | .int i :: ds, _, e => by
    unfold intsOf at e
    obtain ⟨ns', e', rfl⟩ := Option.map_eq_some_iff.mp e
    rw [intsOf_eq e']; rfl
theorem tups_rp {K : PySem.W.Frag} {H : Hp} {μ : Mu} : ∀ {ds : List D} {ws : List V} {l : List (List Int)}, tupsOf ds = some l → RpA K H μ ws ds → ws.map (inside H) = l ∧ ∀ x ∈ ws, inside H x ≠ [] ∧ (∃ t, x = .ref t ∧ H t = some (.tup ((inside H x).map V.int))) ∧ Rp K H μ x (tupI (inside H x))
  | [], _, _, e, .nil => by cases e; exact ⟨rfl, fun _ z => nomatch z⟩
  | .tup es :: ds, _, _, e, .cons (v := v) (vs := vs) r rs => by
    obtain ⟨ns, e1, e⟩ := Option.bind_eq_some_iff.mp (show ((intsOf es).bind fun ns => if ns.isEmpty then none else (tupsOf ds).map fun l => ns :: l) = some _ from e)
    split at e
    · cases e
    · rename_i hne
      obtain ⟨l, e2, rfl⟩ := Option.map_eq_some_iff.mp e
      obtain ⟨h1, h2⟩ := tups_rp e2 rs
      cases r with
      | tup hy ry =>
        have r0 : Rp K H μ _ (.tup es) := .tup hy ry
        have hy' := hy
        unfold OwnT at hy'
        rw [intsOf_rp e1 ry] at hy'
        have hi := inside_ref hy'
        refine ⟨by rw [List.map_cons, h1, hi], fun x hx => ?_⟩
        rcases List.mem_cons.mp hx with rfl | hx
        · rw [hi]
          refine ⟨fun z => hne (by rw [z]; rfl), ⟨_, rfl, hy'⟩, ?_⟩
          have : tupI ns = .tup es := by rw [intsOf_eq e1]; rfl
          rw [this]
          exact r0
        · exact h2 x hx
theorem c_sortedT {X : Cx} : CallR X (.builtin "sorted") (rCM X.K cSortedT) := CallR.imp cr_sortedTI fun vs H Q ⟨S, μ, ds, d, S', s, r, e, q⟩ => by
  unfold cSortedT at e
  split at e
  · obtain ⟨es, e1, e⟩ := Option.bind_eq_some_iff.mp e
    obtain ⟨l, e2, e⟩ := Option.map_eq_some_iff.mp e
    cases e
    match vs, r with
    | _, .cons r1 .nil =>
      obtain ⟨a, ws, rfl, h1, h2⟩ := s.latD e1 r1
      obtain ⟨g1, g2⟩ := tups_rp e2 h2
      refine ⟨a, ws, inside H, rfl, h1, fun x hx => ⟨(g2 x hx).1, (g2 x hx).2.1⟩, fun ys p hp hs hn => ?_⟩
      have ek : ys.map (inside H) = sortT l := up_one (((hp.map _).trans (by rw [g1])).trans (sortT_perm l).symm) (List.pairwise_map.mpr hs) (sortT_up l)
      have hr : RpA X.K H μ ys ((sortT l).map tupI) := by
        rw [← ek, List.map_map]
        have : ∀ {zs : List V}, (∀ x ∈ zs, Rp X.K H μ x (tupI (inside H x))) → RpA X.K H μ zs (zs.map (tupI ∘ inside H)) := fun {zs} => by
          induction zs with
          | nil => exact fun _ => .nil
          | cons z zs ih => exact fun h => .cons (h z (List.mem_cons_self ..)) (ih fun x hx => h x (List.mem_cons_of_mem _ hx))
        exact this fun x hx => (g2 x (hp.mem_iff.mp hx)).2.2
      exact q.lst s hr hn
  · cases e
theorem ge_sortedT {S : Store} {Q : D → Store → Prop} {n : Nat} {l : List (List Int)} (h1 : lat S n = some (l.map tupI)) (h2 : ∀ ns ∈ l, ns ≠ []) (h : Q (.lr S.length) (S ++ [.lst ((sortT l).map tupI)])) : GE (cSortedT [.lr n] S) Q := by
  show GE ((lat S n).bind fun es => (tupsOf es).map fun l => (D.lr S.length, S ++ [.lst ((sortT l).map tupI)])) Q
  rw [h1]
  show GE ((tupsOf (l.map tupI)).map fun l => (D.lr S.length, S ++ [.lst ((sortT l).map tupI)])) Q
  rw [tupsOf_map h2]
  exact ⟨_, _, rfl, h⟩
end MS

set_option Elab.async false
set_option linter.all false
set_option maxRecDepth 100000
set_option maxHeartbeats 4000000
namespace MS
open PySem PySem.Spec PyProof.Rows L2
/-! ### a fresh list, dict, instance given up to stand by value -/
def fzD (S : Store) : D → Option (D × Store)
  | .lr n => match S[n]? with
    | some (.lst ds) => some (.lst ds, S.set n .gone)
    | some (.dk kvs) => some (.dk (kvs.map (·.1)) (kvs.map (·.2)), S.set n .gone)
    | some (.dt kvs) => some (.dt (kvs.map (·.1)) (kvs.map (·.2)), S.set n .gone)
    | some (.ins c kvs) => some (.ins c (kvs.map (·.1)) (kvs.map (·.2)), S.set n .gone)
    | _ => none
  | _ => none
def mFz (m : MExp) : MExp := fun ρ S => (m ρ S).bind fun p => fzD p.2 p.1
theorem zip_parts {α β : Type} : ∀ l : List (α × β), (l.map (·.1)).zip (l.map (·.2)) = l
  | [] => rfl
  | (a, b) :: l => by
    show (a, b) :: (l.map (·.1)).zip (l.map (·.2)) = _
    rw [zip_parts l]
theorem RpK.parts {κ : Type} {K : PySem.W.Frag} {H : Hp} {μ : Mu} {kws : List (κ × V)} {kvs : List (κ × D)} (h : RpK K H μ kws kvs) : kws = (kvs.map (·.1)).zip (kws.map (·.2)) ∧ (kvs.map (·.1)).length = (kws.map (·.2)).length := by
  constructor
  · rw [← h.1, zip_parts]
  · rw [← h.1, List.length_map, List.length_map]
theorem fz_rp {K : PySem.W.Frag} {H : Hp} {μ : Mu} {S S' : Store} {d d' : D} {v : V} (s : StR K H μ S) (r : Rp K H μ v d) (e : fzD S d = some (d', S')) : ∃ a, StR K H (μ.drop a) S' ∧ Rp K H (μ.drop a) v d' := by
  unfold fzD at e
  split at e
  · rename_i n
    cases r with
    | lr h1 =>
    rename_i a
    have nm : a ∉ (μ.drop a).lv := fun z => (mem_drop.mp z).2 rfl
    split at e
    · rename_i ds hn
      cases e
      obtain ⟨b, q1, vs, h2, h3⟩ := s.get hn
      rw [h1] at q1; cases q1
      exact ⟨a, s.dropped hn rfl h1, .lst ⟨h2, nm⟩ h3.dropped⟩
    · rename_i kvs hn
      cases e
      obtain ⟨b, q1, kws, h2, h3⟩ := s.get hn
      rw [h1] at q1; cases q1
      obtain ⟨e1, e2⟩ := h3.parts
      exact ⟨a, s.dropped hn rfl h1, .dk (by rw [← e1]; exact h2) nm e2 h3.2.dropped⟩
    · rename_i kvs hn
      cases e
      obtain ⟨b, q1, kws, h2, h3⟩ := s.get hn
      rw [h1] at q1; cases q1
      obtain ⟨e1, e2⟩ := h3.parts
      exact ⟨a, s.dropped hn rfl h1, .dt (by rw [← e1]; exact h2) nm e2 h3.2.dropped⟩
    · rename_i c kvs hn
      cases e
      obtain ⟨b, q1, dx, kws, h2, h3⟩ := s.get hn
      rw [h1] at q1; cases q1
      obtain ⟨e1, e2⟩ := h3.parts
      exact ⟨a, s.dropped hn rfl h1, .ins (by rw [← e1]; exact h2) nm e2 h3.2.dropped⟩
    · cases e
  · cases e
theorem me_fz {X : Cx} {e : Expr} {m : MExp} (h : ME X e m) : ME X e (mFz m) := ⟨PE.imp h.pe fun σ H Q ⟨ρ, S, μ, d, S', st, e, q⟩ => by
  obtain ⟨⟨d1, S1⟩, e1, e⟩ := Option.bind_eq_some_iff.mp e
  refine ⟨ρ, S, μ, d1, S1, st, e1, fun v H1 μ1 g1 s1 r1 => ?_⟩
  obtain ⟨a, s2, r2⟩ := fz_rp s1 r1 e
  exact q v H1 (μ1.drop a) g1.dropped s2 r2⟩
/-- a list display by value -/
def mLstV (m : MArg) : MExp := fun ρ S => (m ρ S).bind fun p => if p.1.length ≤ szl then some (.lst p.1, p.2) else none
theorem me_lstV {X : Cx} {es : List Expr} {m : MArg} {pos : Pos} (h : MA X es m) : ME X (.List es pos) (mLstV m) :=
  ⟨PE.imp (pe_lst h.pa) fun σ H Q ⟨ρ, S, μ, d, S', st, e, q⟩ => by
    unfold mLstV at e
    obtain ⟨⟨ds, S1⟩, e1, e⟩ := Option.bind_eq_some_iff.mp e
    split at e
    · rename_i hz
      cases e
      exact ⟨ρ, S, μ, ds, _, st, e1, fun vs H1 μ1 g1 s1 r1 => ⟨by rw [r1.length]; exact szl_le hz, fun p hp => Aft.lstV (fun v H' μ' g2 => q v H' μ' (g1.trans g2)) s1 r1 hp⟩⟩
    · cases e⟩
/-- xs.extend(ys), ys by value -/
def mExtV (m : MExp) (a : MArg) : MExp := fun ρ S => (m ρ S).bind fun p => match p.1 with
  | .lr n => (mat p.2 n).bind fun _ => (a ρ p.2).bind fun q => match q.1 with
    | [.lst es] => (mat q.2 n).bind fun ds => if ds.length + es.length ≤ szl then some (.non, q.2.set n (.lst (ds ++ es))) else none
    | _ => none
  | _ => none
theorem mExtV_some {m : MArg} {n : Nat} {ρ : Ev} {S1 S' : Store} {d : D} (e : (match (D.lr n, S1).1 with
  | .lr n => (mat (D.lr n, S1).2 n).bind fun _ => (m ρ (D.lr n, S1).2).bind fun q => match q.1 with
    | [.lst es] => (mat q.2 n).bind fun ds => if ds.length + es.length ≤ szl then some (D.non, q.2.set n (.lst (ds ++ es))) else none
    | _ => none
  | _ => none) = some (d, S')) : ∃ ds0 S2 ds es, mat S1 n = some ds0 ∧ m ρ S1 = some ([.lst es], S2) ∧ mat S2 n = some ds ∧ ds.length + es.length ≤ szl ∧ d = .non ∧ S' = S2.set n (.lst (ds ++ es)) := by
  obtain ⟨ds0, e2, e⟩ := Option.bind_eq_some_iff.mp e
  obtain ⟨⟨as, S2⟩, e3, e⟩ := Option.bind_eq_some_iff.mp e
  dsimp only at e
  split at e
  · rename_i es
    obtain ⟨ds, e4, e⟩ := Option.bind_eq_some_iff.mp e
    split at e
    · rename_i hz
      cases e
      exact ⟨ds0, S2, ds, es, e2, e3, e4, hz, rfl, rfl⟩
    · cases e
  · cases e
theorem me_extV {X : Cx} {e : Expr} {es : List Expr} {m : MArg} {o : Expr} {mo : MExp} {apos cpos : Pos} (ho : ME X o mo) (ha : MA X (e :: es) m)
    (hbase : attributeBase o "extend" X.env (eval o X.env) = eval o X.env := by rfl)
    (hfew : ((backTo cpos (starEach (e :: es) X.env)).all (fun x => !x.1) && (backToKw cpos (keywordEach [] X.env)).all (fun x => x.1.isSome)
      && decide ((e :: es).length + ([] : List Keyword).length + (if ([] : List Keyword).isEmpty then 0 else 1) < 30)) = true := by rfl)
    (hline : (apos.endLine == cpos.line) = true := by rfl) (hs : starEach (e :: es) X.env = (false, eval e X.env) :: starEach es X.env := by rfl) (hplain : (backTo cpos (starEach es X.env)).any (·.1) = false := by rfl) :
    ME X (.Call (.Attribute o "extend" apos) (e :: es) [] cpos) (mExtV mo m) :=
  ⟨PE.imp (pe_bm PySem.F.plainAttrs_list PySem.F.slot_list_extend PySem.F.type_list_extend mt_extend ho.pe ha.pa hbase hfew hline hs hplain) fun σ H Q ⟨ρ, S, μ, d, S', st, e, q⟩ => by
    obtain ⟨⟨d1, S1⟩, e1, e⟩ := Option.bind_eq_some_iff.mp e
    refine ⟨ρ, S, μ, d1, S1, st, e1, fun v H1 μ1 g1 s1 r1 => ?_⟩
    cases d1 with
    | lr n =>
      obtain ⟨ds0, S2, ds, es, e2, e3, e4, hz, rfl, rfl⟩ := mExtV_some e
      obtain ⟨a, vs, rfl, h1, h2, h3⟩ := s1.mat e2 r1
      refine ⟨.inl ⟨rfl, vs, .inl (.inl h2)⟩, ρ, S1, μ1, [.lst es], S2, st.grow g1 s1, e3, fun ws H2 μ2 g2 s2 r2 => ?_⟩
      match ws, r2 with
      | [_], .cons (.lst h8 h10) .nil =>
        obtain ⟨a', vs', h4, h5, h6, h7⟩ := s2.mat e4 (r1.grow g2)
        cases h4
        refine ⟨a, _, vs', _, rfl, rfl, h6, h8.1, by rw [h7.length, h10.length]; exact szl_le hz, ?_⟩
        exact q _ _ μ2 ((g1.trans g2).trans (.wrS s2 (mat_eq e4) rfl h5)) (s2.wr (mat_eq e4) h5 (h7.append h10)) .non
    | _ => cases e⟩
/-- a call whose fresh list stands by value -/
def cFz (F : DCall) : DCall := fun ds S => (F ds S).bind fun p => fzD p.2 p.1
theorem c_fz {X : Cx} {f : Value} {F : DCall} (h : CallR X f (rCM X.K F)) : CallR X f (rCM X.K (cFz F)) := CallR.imp h fun vs H Q ⟨S, μ, ds, d, S', s, r, e, q⟩ => by
  obtain ⟨⟨d1, S1⟩, e1, e⟩ := Option.bind_eq_some_iff.mp e
  refine ⟨S, μ, ds, d1, S1, s, r, e1, fun v H1 μ1 g1 s1 r1 => ?_⟩
  obtain ⟨a, s2, r2⟩ := fz_rp s1 r1 e
  exact q v H1 (μ1.drop a) g1.dropped s2 r2
section
variable {X : Cx} {elt tg iter : Expr} {ifs : List Expr} {scope : Scope} {own : List (Str × Nat)} {pos : Pos} {i : MItr} {g : MTg} {t : MTst} {e : MExp} {is : List Nat}
theorem ms_setLcF {j : Nat} {y : Str} {py spos : Pos} (hc : X.calm = true) (hN : X.N.Nodup) (hy : X.N[j]? = some y) (hyl : X.env.scope.names.lookup y = some .local)
    (hsw : swapsWith (.ListComp elt [⟨tg, iter, ifs, 0⟩] scope pos) (some (.Name y py)) spos.line X.env = pure true) (hi : MI X tg iter i) (ok : BlkOk X.N X.env.scope scope own)
    (hg : ∀ (s : Shared) (H : Hp) (C : Addr) (cl : List (Str × Addr)) (fp : List Addr), MGl (X.blk s H scope (compEnvC scope cl C X.env) fp) is tg g) (ht : ∀ (s : Shared) (H : Hp) (C : Addr) (cl : List (Str × Addr)) (fp : List Addr), MTs (X.blk s H scope (compEnvC scope cl C X.env) fp) ifs t)
    (he : ∀ (s : Shared) (H : Hp) (C : Addr) (cl : List (Str × Addr)) (fp : List Addr), ME (X.blk s H scope (compEnvC scope cl C X.env) fp) elt e) (hv : ∀ j ∈ is, j ∈ own.map (·.2)) (hs : ∀ x, foldedSetIterable iter X.env x = pure x := by intro _; rfl) :
    MS_ X (.Assign [.Name y py] (.ListComp elt [⟨tg, iter, ifs, 0⟩] scope pos) spos) (mAsg (mFz (mLc i g t e (own.map (·.2)))) (mName j)) :=
  ⟨PS.imp (ps_setLc hc hN hy hyl hsw hi.pi ok (fun s H C cl fp => (hg s H C cl fp).pg) (fun s H C cl fp => (ht s H C cl fp).pts) (fun s H C cl fp => (he s H C cl fp).pe) hs) fun D_ σ H h => by
    obtain ⟨ρ, S, μ, f, ρ', S', s, e, q⟩ := h
    obtain ⟨⟨d, S1⟩, e1, e⟩ := Option.bind_eq_some_iff.mp e
    cases e
    obtain ⟨⟨d0, S0⟩, e0, e1⟩ := Option.bind_eq_some_iff.mp e1
    exact tE_lc hv ⟨ρ, S, μ, d0, S0, s, e0, fun v H1 μ1 g1 s1 r1 => by
      obtain ⟨a, s2, r2⟩ := fz_rp s1 r1 e1
      exact q _ H1 (μ1.drop a) g1.dropped ((s.grow g1.dropped s2).set j r2)⟩⟩
end
end MS

set_option Elab.async false
set_option linter.all false
set_option maxRecDepth 100000
set_option maxHeartbeats 4000000
/-! Typed functions for the readings of defs: what a def gives of typed arguments, by one term a def. -/
namespace TM
open PySem PySem.Spec PyProof.Rows L2 MS

def All (S S' : Store) : Prop := ∀ (n : Nat) (x : MO), S[n]? = some x → S'[n]? = some x
theorem All.refl {S : Store} : All S S := fun _ _ h => h
theorem All.trans {S S' S'' : Store} (a : All S S') (b : All S' S'') : All S S'' := fun n x h => b n x (a n x h)
theorem All.app {S l : Store} : All S (S ++ l) := fun _ _ h => get_app h
theorem All.len {S S' : Store} (a : All S S') : S.length ≤ S'.length := by
  cases h : S.length with
  | zero => exact Nat.zero_le _
  | succ n =>
    have hn : n < S.length := by omega
    have := a n _ (List.getElem?_eq_getElem hn)
    have := (List.getElem?_eq_some_iff.mp this).1
    omega
theorem All.wr {S S' : Store} {n : Nat} {x : MO} (a : All S S') (h : S.length ≤ n) : All S (S'.set n x) := fun m y e => by
  have hm := (List.getElem?_eq_some_iff.mp e).1
  rw [get_ne (by omega)]
  exact a m y e

/-- F gives r of these arguments -/
def Gv (F : DCall) (args : List D) (r : D) : Prop := ∀ S, ∃ S', F args S = some (r, S') ∧ All S S'
def Gvs {α : Type} (F : DCall) (args : List D) (t : Option α) (E : α → D) : Prop := ∀ a, t = some a → Gv F args (E a)

/-! ### how typed values stand as data -/
abbrev eI : Int → D := D.int
abbrev eB : Bool → D := D.bl
abbrev eS : Str → D := D.str
abbrev eN : Unit → D := fun _ => .non
abbrev eD : D → D := fun d => d
def eO {α : Type} (E : α → D) : Option α → D
  | none => .non
  | some a => E a
abbrev eV {α : Type} (E : α → D) : List α → D := fun xs => .tup (xs.map E)
abbrev eL {α : Type} (E : α → D) : List α → D := fun xs => .lst (xs.map E)
abbrev eT2 {α β : Type} (A : α → D) (B : β → D) : α × β → D := fun p => .tup [A p.1, B p.2]
abbrev eT3 {α β γ : Type} (A : α → D) (B : β → D) (C : γ → D) : α × β × γ → D := fun p => .tup [A p.1, B p.2.1, C p.2.2]
abbrev eT4 {α β γ δ : Type} (A : α → D) (B : β → D) (C : γ → D) (E : δ → D) : α × β × γ × δ → D := fun p => .tup [A p.1, B p.2.1, C p.2.2.1, E p.2.2.2]

/-! ### slots -/
inductive Sl where
  | unk | val (d : D) | own (ds : List D)
structure Sx (S0 : Store) (sl : List Sl) (ρ : Ev) (S : Store) : Prop where
  all : All S0 S
  len : ρ.length = sl.length
  val : ∀ (i : Nat) (d : D), sl[i]? = some (.val d) → ρ[i]? = some (some d)
  own : ∀ (i : Nat) (ds : List D), sl[i]? = some (.own ds) → ∃ h, ρ[i]? = some (some (.lr h)) ∧ S[h]? = some (.lst ds) ∧ S0.length ≤ h
  one : ∀ (i j : Nat) (ds es : List D) (h : Nat), sl[i]? = some (.own ds) → sl[j]? = some (.own es) → ρ[i]? = some (some (.lr h)) → ρ[j]? = some (some (.lr h)) → i = j
section
variable {S0 S S' : Store} {sl sl' : List Sl} {ρ : Ev}
theorem Sx.grow (s : Sx S0 sl ρ S) (a : All S S') : Sx S0 sl ρ S' :=
  ⟨s.all.trans a, s.len, s.val, fun i ds e => let ⟨h, h1, h2, h3⟩ := s.own i ds e; ⟨h, h1, a _ _ h2, h3⟩, s.one⟩
theorem Sx.set {i : Nat} {d : D} (s : Sx S0 sl ρ S) : Sx S0 (sl.set i (.val d)) (ρ.set i (some d)) S := by
  refine ⟨s.all, by rw [List.length_set, List.length_set]; exact s.len, fun j e h => ?_, fun j ds h => ?_, fun j k ds es h h1 h2 h3 h4 => ?_⟩
  · by_cases hj : i = j
    · subst hj
      have hl : i < sl.length := by have := (List.getElem?_eq_some_iff.mp h).1; rwa [List.length_set] at this
      rw [List.getElem?_set_self hl] at h
      cases h
      exact List.getElem?_set_self (by rw [s.len]; exact hl)
    · rw [List.getElem?_set_ne hj] at h ⊢
      exact s.val j e h
  · by_cases hj : i = j
    · subst hj
      have hl : i < sl.length := by have := (List.getElem?_eq_some_iff.mp h).1; rwa [List.length_set] at this
      rw [List.getElem?_set_self hl] at h
      cases h
    · rw [List.getElem?_set_ne hj] at h ⊢
      exact s.own j ds h
  · have ne : ∀ {j : Nat} {ds : List D}, (sl.set i (.val d))[j]? = some (.own ds) → i ≠ j ∧ sl[j]? = some (.own ds) := fun {j ds} h => by
      by_cases hj : i = j
      · subst hj
        have hl : i < sl.length := by have := (List.getElem?_eq_some_iff.mp h).1; rwa [List.length_set] at this
        rw [List.getElem?_set_self hl] at h
        cases h
      · rw [List.getElem?_set_ne hj] at h
        exact ⟨hj, h⟩
    obtain ⟨n1, q1⟩ := ne h1
    obtain ⟨n2, q2⟩ := ne h2
    rw [List.getElem?_set_ne n1] at h3
    rw [List.getElem?_set_ne n2] at h4
    exact s.one j k ds es h q1 q2 h3 h4
/-- a new list in slot i -/
theorem Sx.newF {i n : Nat} {ds : List D} (s : Sx S0 sl ρ S) (a : All S S') (hlo : S0.length ≤ n) (hne : ∀ (j : Nat) (es : List D) (h : Nat), sl[j]? = some (.own es) → ρ[j]? = some (some (.lr h)) → h ≠ n) (hg : S'[n]? = some (.lst ds)) : Sx S0 (sl.set i (.own ds)) (ρ.set i (some (.lr n))) S' := by
  have old : ∀ {j : Nat} {es : List D}, (sl.set i (.own ds))[j]? = some (.own es) → (j = i ∧ es = ds ∧ i < sl.length) ∨ (i ≠ j ∧ sl[j]? = some (.own es)) := fun {j es} h => by
    by_cases hj : i = j
    · subst hj
      have hl : i < sl.length := by have := (List.getElem?_eq_some_iff.mp h).1; rwa [List.length_set] at this
      rw [List.getElem?_set_self hl] at h
      cases h
      exact .inl ⟨rfl, rfl, hl⟩
    · rw [List.getElem?_set_ne hj] at h
      exact .inr ⟨hj, h⟩
  refine ⟨s.all.trans a, by rw [List.length_set, List.length_set]; exact s.len, fun j e h => ?_, fun j es h => ?_, fun j k es fs h h1 h2 h3 h4 => ?_⟩
  · by_cases hj : i = j
    · subst hj
      have hl : i < sl.length := by have := (List.getElem?_eq_some_iff.mp h).1; rwa [List.length_set] at this
      rw [List.getElem?_set_self hl] at h
      cases h
    · rw [List.getElem?_set_ne hj] at h ⊢
      exact s.val j e h
  · rcases old h with ⟨rfl, rfl, hl⟩ | ⟨hj, h⟩
    · exact ⟨n, List.getElem?_set_self (by rw [s.len]; exact hl), hg, hlo⟩
    · obtain ⟨g, q1, q2, q3⟩ := s.own j es h
      exact ⟨g, by rw [List.getElem?_set_ne hj]; exact q1, a _ _ q2, q3⟩
  · rcases old h1 with ⟨rfl, rfl, hl⟩ | ⟨hj, q1⟩
    · rcases old h2 with ⟨rfl, rfl, _⟩ | ⟨hk, q2⟩
      · rfl
      · rw [List.getElem?_set_self (by rw [s.len]; exact hl)] at h3
        rw [List.getElem?_set_ne hk] at h4
        cases h3
        exact absurd rfl (hne _ _ _ q2 h4)
    · rcases old h2 with ⟨rfl, rfl, hl⟩ | ⟨hk, q2⟩
      · rw [List.getElem?_set_self (by rw [s.len]; exact hl)] at h4
        rw [List.getElem?_set_ne hj] at h3
        cases h4
        exact absurd rfl (hne _ _ _ q1 h3)
      · rw [List.getElem?_set_ne hj] at h3
        rw [List.getElem?_set_ne hk] at h4
        exact s.one j k es fs h q1 q2 h3 h4
theorem Sx.own_lt (s : Sx S0 sl ρ S) {j : Nat} {es : List D} {h : Nat} (h1 : sl[j]? = some (.own es)) (h2 : ρ[j]? = some (some (.lr h))) : h < S.length := by
  obtain ⟨h', q1, q2, _⟩ := s.own j es h1
  rw [h2] at q1
  cases q1
  exact (List.getElem?_eq_some_iff.mp q2).1
theorem Sx.new {i n : Nat} {ds : List D} (s : Sx S0 sl ρ S) (a : All S S') (hn : S.length ≤ n) (hg : S'[n]? = some (.lst ds)) : Sx S0 (sl.set i (.own ds)) (ρ.set i (some (.lr n))) S' :=
  s.newF a (Nat.le_trans s.all.len hn) (fun j es h h1 h2 => by have := s.own_lt h1 h2; omega) hg
/-- the list of slot i changed -/
theorem Sx.wr {i : Nat} {ds es : List D} {h : Nat} (s : Sx S0 sl ρ S) (h1 : sl[i]? = some (.own ds)) (h2 : ρ[i]? = some (some (.lr h))) : Sx S0 (sl.set i (.own es)) ρ (S.set h (.lst es)) := by
  obtain ⟨h', q1, q2, q3⟩ := s.own i ds h1
  rw [h2] at q1
  cases q1
  have hl : i < sl.length := (List.getElem?_eq_some_iff.mp h1).1
  refine ⟨s.all.wr q3, by rw [List.length_set]; exact s.len, fun j e g => ?_, fun j fs g => ?_, fun j k fs gs g g1 g2 g3 g4 => ?_⟩
  · by_cases hj : i = j
    · subst hj
      rw [List.getElem?_set_self hl] at g
      cases g
    · rw [List.getElem?_set_ne hj] at g
      exact s.val j e g
  · by_cases hj : i = j
    · subst hj
      rw [List.getElem?_set_self hl] at g
      cases g
      exact ⟨h, h2, get_set q2, q3⟩
    · rw [List.getElem?_set_ne hj] at g
      obtain ⟨k, r1, r2, r3⟩ := s.own j fs g
      refine ⟨k, r1, ?_, r3⟩
      by_cases hk : h = k
      · subst hk
        exact absurd (s.one i j ds fs h h1 g h2 r1) hj
      · rw [get_ne hk]; exact r2
  · have low : ∀ {j : Nat} {fs : List D}, (sl.set i (.own es))[j]? = some (.own fs) → ∃ fs', sl[j]? = some (.own fs') := fun {j fs} g => by
      by_cases hj : i = j
      · subst hj; exact ⟨ds, h1⟩
      · rw [List.getElem?_set_ne hj] at g; exact ⟨fs, g⟩
    obtain ⟨_, q1⟩ := low g1
    obtain ⟨_, q2⟩ := low g2
    exact s.one j k _ _ g q1 q2 g3 g4
/-- slots forgotten -/
inductive Wk : List Sl → List Sl → Prop
  | nil : Wk [] []
  | keep {a : Sl} {l m : List Sl} : Wk l m → Wk (a :: l) (a :: m)
  | drop {a : Sl} {l m : List Sl} : Wk l m → Wk (a :: l) (.unk :: m)
theorem Wk.refl : ∀ {l : List Sl}, Wk l l
  | [] => .nil
  | _ :: _ => .keep Wk.refl
theorem Wk.len : ∀ {l m : List Sl}, Wk l m → m.length = l.length
  | _, _, .nil => rfl
  | _, _, .keep h => by rw [List.length_cons, List.length_cons, h.len]
  | _, _, .drop h => by rw [List.length_cons, List.length_cons, h.len]
theorem Wk.at_ : ∀ {l m : List Sl} {i : Nat} {x : Sl}, Wk l m → m[i]? = some x → x = .unk ∨ l[i]? = some x
  | _, _, i, x, .nil, e => by simp at e
  | _, _, 0, x, .keep h, e => by simp at e; subst e; exact .inr rfl
  | _, _, i + 1, x, .keep h, e => by simpa using h.at_ (i := i) (by simpa using e)
  | _, _, 0, x, .drop h, e => by simp at e; exact .inl e.symm
  | _, _, i + 1, x, .drop h, e => by simpa using h.at_ (i := i) (by simpa using e)
theorem Sx.wk (s : Sx S0 sl ρ S) (w : Wk sl sl') : Sx S0 sl' ρ S :=
  ⟨s.all, by rw [w.len]; exact s.len, fun i d e => (w.at_ e).elim (fun z => nomatch z) (s.val i d), fun i ds e => (w.at_ e).elim (fun z => nomatch z) (s.own i ds),
    fun i j ds es h e1 e2 => (w.at_ e1).elim (fun z => nomatch z) fun e1 => (w.at_ e2).elim (fun z => nomatch z) fun e2 => s.one i j ds es h e1 e2⟩
/-- slots wiped -/
def wipeS (sl : List Sl) : List Nat → List Sl
  | [] => sl
  | i :: is => (wipeS sl is).set i .unk
theorem Sx.unset {i : Nat} (s : Sx S0 sl ρ S) : Sx S0 (sl.set i .unk) (ρ.set i none) S := by
  have low : ∀ {j : Nat} {x : Sl}, (sl.set i .unk)[j]? = some x → x ≠ .unk → i ≠ j ∧ sl[j]? = some x := fun {j x} h n => by
    by_cases hj : i = j
    · subst hj
      have hl : i < sl.length := by have := (List.getElem?_eq_some_iff.mp h).1; rwa [List.length_set] at this
      rw [List.getElem?_set_self hl] at h
      cases h
      exact absurd rfl n
    · rw [List.getElem?_set_ne hj] at h
      exact ⟨hj, h⟩
  refine ⟨s.all, by rw [List.length_set, List.length_set]; exact s.len, fun j d h => ?_, fun j ds h => ?_, fun j k ds es h h1 h2 h3 h4 => ?_⟩
  · obtain ⟨n, q⟩ := low h (fun z => nomatch z)
    rw [List.getElem?_set_ne n]; exact s.val j d q
  · obtain ⟨n, q⟩ := low h (fun z => nomatch z)
    rw [List.getElem?_set_ne n]; exact s.own j ds q
  · obtain ⟨n1, q1⟩ := low h1 (fun z => nomatch z)
    obtain ⟨n2, q2⟩ := low h2 (fun z => nomatch z)
    rw [List.getElem?_set_ne n1] at h3
    rw [List.getElem?_set_ne n2] at h4
    exact s.one j k ds es h q1 q2 h3 h4
end
theorem Sx.wipe {S0 S : Store} : ∀ (vs : List Nat) {sl : List Sl} {ρ : Ev}, Sx S0 sl ρ S → Sx S0 (wipeS sl vs) (wipeD ρ vs) S
  | [], _, _, s => s
  | _ :: vs, _, _, s => (Sx.wipe vs s).unset
end TM

set_option Elab.async false
set_option linter.all false
set_option maxRecDepth 100000
set_option maxHeartbeats 4000000
namespace TM
open PySem PySem.Spec PyProof.Rows L2 MS
/-! ### expressions, tests -/
def XE {α : Type} (S0 : Store) (sl : List Sl) (m : MExp) (t : Option α) (E : α → D) : Prop := ∀ ρ S, Sx S0 sl ρ S → ∀ a, t = some a → ∃ S', m ρ S = some (E a, S') ∧ All S S'
def XT (S0 : Store) (sl : List Sl) (m : MTst) (t : Option Bool) : Prop := ∀ ρ S, Sx S0 sl ρ S → ∀ a, t = some a → ∃ S', m ρ S = some (a, S') ∧ All S S'
def XP (S0 : Store) (sl : List Sl) (m : MPart) (t : Option (Option Int)) : Prop := ∀ ρ S, Sx S0 sl ρ S → ∀ a, t = some a → ∃ S', m ρ S = some (a, S') ∧ All S S'
def XA {α : Type} (S0 : Store) (sl : List Sl) (m : MArg) (t : Option α) (E : α → List D) : Prop := ∀ ρ S, Sx S0 sl ρ S → ∀ a, t = some a → ∃ S', m ρ S = some (E a, S') ∧ All S S'
def XI {α : Type} (S0 : Store) (sl : List Sl) (m : MItr) (t : Option (List α)) (E : α → D) : Prop := ∀ ρ S, Sx S0 sl ρ S → ∀ a, t = some a → ∃ S', m ρ S = some ((a.map E, always), S') ∧ All S S'
def XG (S0 : Store) (sl : List Sl) (g : MTg) (d : D) (sl' : List Sl) : Prop := ∀ ρ S, Sx S0 sl ρ S → ∃ ρ', g d ρ S = some (ρ', S) ∧ Sx S0 sl' ρ' S
def XGs (S0 : Store) (sl : List Sl) (g : MTgs) (d : List D) (sl' : List Sl) : Prop := ∀ ρ S, Sx S0 sl ρ S → ∃ ρ', g d ρ S = some (ρ', S) ∧ Sx S0 sl' ρ' S
def Op2 {α β γ : Type} (f : DOp2) (A : α → D) (B : β → D) (C : γ → D) (k : α → β → Option γ) : Prop := ∀ a b c S, k a b = some c → f (A a) (B b) S = some (C c, S)
section
variable {α β γ δ : Type} {S0 : Store} {sl : List Sl} {m m1 m2 m3 m4 m5 m6 m7 : MExp} {A : α → D} {B : β → D} {C : γ → D} {t : Option α} {t1 : Option α} {t2 : Option β}
theorem bnd {α β : Type} {o : Option α} {f : α → Option β} {b : β} (h : o.bind f = some b) : ∃ a, o = some a ∧ f a = some b := Option.bind_eq_some_iff.mp h
theorem xe_var {i : Nat} {a : α} (E : α → D) (h : sl[i]? = some (.val (E a))) : XE S0 sl (mVar i) (some a) E := fun ρ S s b e => by
  cases e
  exact ⟨S, by unfold mVar; rw [s.val i _ h], .refl⟩
theorem xe_c {d : D} {a : α} (E : α → D) (h : d = E a) : XE S0 sl (mC d) (some a) E := fun ρ S s b e => by cases e; exact ⟨S, by rw [h]; rfl, .refl⟩
theorem xe_bin {f : DOp2} {k : α → β → Option γ} (h1 : XE S0 sl m1 t1 A) (h2 : XE S0 sl m2 t2 B) (hf : Op2 f A B C k) : XE S0 sl (mBin f m1 m2) (t1.bind fun a => t2.bind fun b => k a b) C := fun ρ S s c e => by
  obtain ⟨a, e1, e⟩ := bnd e
  obtain ⟨b, e2, e⟩ := bnd e
  obtain ⟨S1, q1, a1⟩ := h1 ρ S s a e1
  obtain ⟨S2, q2, a2⟩ := h2 ρ S1 (s.grow a1) b e2
  refine ⟨S2, ?_, a1.trans a2⟩
  show ((m1 ρ S).bind fun p => (m2 ρ p.2).bind fun q => f p.1 q.1 q.2) = _
  rw [q1]
  show ((m2 ρ S1).bind fun q => f (A a) q.1 q.2) = _
  rw [q2]
  exact hf a b c S2 e
theorem xe_as {B : α → D} (h : XE S0 sl m t A) (hE : ∀ a, A a = B a) : XE S0 sl m t B := fun ρ S s a e => by
  obtain ⟨S', q, a1⟩ := h ρ S s a e
  exact ⟨S', by rw [q, hE], a1⟩
theorem xe_map {B : β → D} {f : α → β} (h : XE S0 sl m t A) (hE : ∀ a, A a = B (f a)) : XE S0 sl m (t.bind fun a => some (f a)) B := fun ρ S s b e => by
  obtain ⟨a, e1, e⟩ := bnd e
  cases e
  obtain ⟨S', q, a1⟩ := h ρ S s a e1
  exact ⟨S', by rw [q, hE], a1⟩
theorem xe_if {c : MTst} {tc : Option Bool} {ta tb : Option α} (hc : XT S0 sl c tc) (ha : XE S0 sl m1 ta A) (hb : XE S0 sl m2 tb A) : XE S0 sl (mIf c m1 m2) (tc.bind fun k => cond k ta tb) A := fun ρ S s a e => by
  obtain ⟨k, e1, e⟩ := bnd e
  obtain ⟨S1, q1, a1⟩ := hc ρ S s k e1
  show ∃ S', ((c ρ S).bind fun p => if p.1 then m1 ρ p.2 else m2 ρ p.2) = _ ∧ _
  rw [q1]
  cases k with
  | true => obtain ⟨S2, q2, a2⟩ := ha ρ S1 (s.grow a1) a e; exact ⟨S2, q2, a1.trans a2⟩
  | false => obtain ⟨S2, q2, a2⟩ := hb ρ S1 (s.grow a1) a e; exact ⟨S2, q2, a1.trans a2⟩
theorem xe_and {ta tb : Option Bool} (ha : XE S0 sl m1 ta eB) (hb : XE S0 sl m2 tb eB) : XE S0 sl (mAndV m1 m2) (ta.bind fun k => cond k tb (some false)) eB := fun ρ S s a e => by
  obtain ⟨k, e1, e⟩ := bnd e
  obtain ⟨S1, q1, a1⟩ := ha ρ S s k e1
  unfold mAndV
  rw [q1]
  cases k with
  | true => obtain ⟨S2, q2, a2⟩ := hb ρ S1 (s.grow a1) a e; exact ⟨S2, q2, a1.trans a2⟩
  | false => cases e; exact ⟨S1, rfl, a1⟩
theorem xe_or {ta tb : Option Bool} (ha : XE S0 sl m1 ta eB) (hb : XE S0 sl m2 tb eB) : XE S0 sl (mOrV m1 m2) (ta.bind fun k => cond k (some true) tb) eB := fun ρ S s a e => by
  obtain ⟨k, e1, e⟩ := bnd e
  obtain ⟨S1, q1, a1⟩ := ha ρ S s k e1
  unfold mOrV
  rw [q1]
  cases k with
  | true => cases e; exact ⟨S1, rfl, a1⟩
  | false => obtain ⟨S2, q2, a2⟩ := hb ρ S1 (s.grow a1) a e; exact ⟨S2, q2, a1.trans a2⟩
theorem xe_not {ta : Option Bool} (ha : XE S0 sl m1 ta eB) : XE S0 sl (mNotV m1) (ta.bind fun k => some (!k)) eB := fun ρ S s a e => by
  obtain ⟨k, e1, e⟩ := bnd e
  cases e
  obtain ⟨S1, q1, a1⟩ := ha ρ S s k e1
  exact ⟨S1, by unfold mNotV; rw [q1]; rfl, a1⟩
theorem xe_neg {ta : Option Int} (ha : XE S0 sl m1 ta eI) : XE S0 sl (mNeg m1) (ta.bind fun k => some (-k)) eI := fun ρ S s a e => by
  obtain ⟨k, e1, e⟩ := bnd e
  cases e
  obtain ⟨S1, q1, a1⟩ := ha ρ S s k e1
  exact ⟨S1, by unfold mNeg; rw [q1]; rfl, a1⟩
theorem xe_BV {c : MTst} {tc : Option Bool} (hc : XT S0 sl c tc) : XE S0 sl (mBV c) tc eB := fun ρ S s a e => by
  obtain ⟨S1, q1, a1⟩ := hc ρ S s a e
  exact ⟨S1, by unfold mBV; rw [q1]; rfl, a1⟩
theorem xt_B {ta : Option Bool} (ha : XE S0 sl m1 ta eB) : XT S0 sl (mB m1) ta := fun ρ S s a e => by
  obtain ⟨S1, q1, a1⟩ := ha ρ S s a e
  exact ⟨S1, by unfold mB; rw [q1]; rfl, a1⟩
theorem xt_yes : XT S0 sl mYes (some true) := fun ρ S s a e => by cases e; exact ⟨S, rfl, .refl⟩
theorem xt_and {c d : MTst} {ta tb : Option Bool} (ha : XT S0 sl c ta) (hb : XT S0 sl d tb) : XT S0 sl (mAnd c d) (ta.bind fun k => cond k tb (some false)) := fun ρ S s a e => by
  obtain ⟨k, e1, e⟩ := bnd e
  obtain ⟨S1, q1, a1⟩ := ha ρ S s k e1
  unfold mAnd
  rw [q1]
  cases k with
  | true => obtain ⟨S2, q2, a2⟩ := hb ρ S1 (s.grow a1) a e; exact ⟨S2, q2, a1.trans a2⟩
  | false => cases e; exact ⟨S1, rfl, a1⟩
theorem xt_or {c d : MTst} {ta tb : Option Bool} (ha : XT S0 sl c ta) (hb : XT S0 sl d tb) : XT S0 sl (mOr c d) (ta.bind fun k => cond k (some true) tb) := fun ρ S s a e => by
  obtain ⟨k, e1, e⟩ := bnd e
  obtain ⟨S1, q1, a1⟩ := ha ρ S s k e1
  unfold mOr
  rw [q1]
  cases k with
  | true => cases e; exact ⟨S1, rfl, a1⟩
  | false => obtain ⟨S2, q2, a2⟩ := hb ρ S1 (s.grow a1) a e; exact ⟨S2, q2, a1.trans a2⟩
theorem xt_not {c : MTst} {ta : Option Bool} (ha : XT S0 sl c ta) : XT S0 sl (mNot c) (ta.bind fun k => some (!k)) := fun ρ S s a e => by
  obtain ⟨k, e1, e⟩ := bnd e
  cases e
  obtain ⟨S1, q1, a1⟩ := ha ρ S s k e1
  exact ⟨S1, by unfold mNot; rw [q1]; rfl, a1⟩
theorem xt_trV {tx : Option (List α)} (h : XE S0 sl m tx (eV A)) : XT S0 sl (mTr m) (tx.bind fun xs => some (!xs.isEmpty)) := fun ρ S s a e => by
  obtain ⟨xs, e1, e⟩ := bnd e
  cases e
  obtain ⟨S1, q1, a1⟩ := h ρ S s xs e1
  refine ⟨S1, ?_, a1⟩
  unfold mTr
  rw [q1]
  cases xs <;> rfl
theorem xt_trL {tx : Option (List α)} (h : XE S0 sl m tx (eL A)) : XT S0 sl (mTr m) (tx.bind fun xs => some (!xs.isEmpty)) := fun ρ S s a e => by
  obtain ⟨xs, e1, e⟩ := bnd e
  cases e
  obtain ⟨S1, q1, a1⟩ := h ρ S s xs e1
  refine ⟨S1, ?_, a1⟩
  unfold mTr
  rw [q1]
  cases xs <;> rfl
theorem xp_none : XP S0 sl mNoPart (some none) := fun ρ S s a e => by cases e; exact ⟨S, rfl, .refl⟩
theorem xp_some {ta : Option Int} (h : XE S0 sl m ta eI) : XP S0 sl (mPart m) (ta.bind fun k => some (some k)) := fun ρ S s a e => by
  obtain ⟨k, e1, e⟩ := bnd e
  cases e
  obtain ⟨S1, q1, a1⟩ := h ρ S s k e1
  exact ⟨S1, by unfold mPart; rw [q1]; rfl, a1⟩
/-- a slice of a list -/
def cutT {α : Type} (xs : List α) (lo hi : Option Int) : List α := (xs.drop (HT.sIx xs.length 0 lo)).take (HT.sIx xs.length xs.length hi - HT.sIx xs.length 0 lo)
theorem cutT_map {xs : List α} {lo hi : Option Int} : MS.cutD (xs.map A) lo hi = (cutT xs lo hi).map A := by
  unfold MS.cutD cutT
  rw [List.length_map, List.map_take, List.map_drop]
theorem xe_slV {p q : MPart} {tx : Option (List α)} {tp tq : Option (Option Int)} (h : XE S0 sl m tx (eV A)) (hp : XP S0 sl p tp) (hq : XP S0 sl q tq) : XE S0 sl (mSl m p q) (tx.bind fun xs => tp.bind fun l => tq.bind fun r => some (cutT xs l r)) (eV A) := fun ρ S s a e => by
  obtain ⟨xs, e1, e⟩ := bnd e
  obtain ⟨l, e2, e⟩ := bnd e
  obtain ⟨r, e3, e⟩ := bnd e
  cases e
  obtain ⟨S1, q1, a1⟩ := h ρ S s xs e1
  obtain ⟨S2, q2, a2⟩ := hp ρ S1 (s.grow a1) l e2
  obtain ⟨S3, q3, a3⟩ := hq ρ S2 (s.grow (a1.trans a2)) r e3
  refine ⟨S3, ?_, (a1.trans a2).trans a3⟩
  unfold mSl
  rw [q1]
  show ((p ρ S1).bind fun u => (q ρ u.2).bind fun v => fSl (.tup (xs.map A)) u.1 v.1 v.2) = _
  rw [q2]
  show ((q ρ S2).bind fun v => fSl (.tup (xs.map A)) l v.1 v.2) = _
  rw [q3]
  show some (D.tup (MS.cutD (xs.map A) l r), S3) = _
  rw [cutT_map]
theorem xe_slL {p q : MPart} {tx : Option (List α)} {tp tq : Option (Option Int)} (h : XE S0 sl m tx (eL A)) (hp : XP S0 sl p tp) (hq : XP S0 sl q tq) : XE S0 sl (mSl m p q) (tx.bind fun xs => tp.bind fun l => tq.bind fun r => some (cutT xs l r)) (eL A) := fun ρ S s a e => by
  obtain ⟨xs, e1, e⟩ := bnd e
  obtain ⟨l, e2, e⟩ := bnd e
  obtain ⟨r, e3, e⟩ := bnd e
  cases e
  obtain ⟨S1, q1, a1⟩ := h ρ S s xs e1
  obtain ⟨S2, q2, a2⟩ := hp ρ S1 (s.grow a1) l e2
  obtain ⟨S3, q3, a3⟩ := hq ρ S2 (s.grow (a1.trans a2)) r e3
  refine ⟨S3, ?_, (a1.trans a2).trans a3⟩
  unfold mSl
  rw [q1]
  show ((p ρ S1).bind fun u => (q ρ u.2).bind fun v => fSl (.lst (xs.map A)) u.1 v.1 v.2) = _
  rw [q2]
  show ((q ρ S2).bind fun v => fSl (.lst (xs.map A)) l v.1 v.2) = _
  rw [q3]
  show some (D.lst (MS.cutD (xs.map A) l r), S3) = _
  rw [cutT_map]
/-- a slice of a fixed tuple: the parts are written -/
theorem xe_slF {p q : MPart} {l r : Option Int} {f : α → β} (h : XE S0 sl m t A) (hp : XP S0 sl p (some l)) (hq : XP S0 sl q (some r)) (hE : ∀ a S, fSl (A a) l r S = some (B (f a), S)) : XE S0 sl (mSl m p q) (t.bind fun a => some (f a)) B := fun ρ S s b e => by
  obtain ⟨a, e1, e⟩ := bnd e
  cases e
  obtain ⟨S1, q1, a1⟩ := h ρ S s a e1
  obtain ⟨S2, q2, a2⟩ := hp ρ S1 (s.grow a1) l rfl
  obtain ⟨S3, q3, a3⟩ := hq ρ S2 (s.grow (a1.trans a2)) r rfl
  refine ⟨S3, ?_, (a1.trans a2).trans a3⟩
  unfold mSl
  rw [q1]
  show ((p ρ S1).bind fun u => (q ρ u.2).bind fun v => fSl (A a) u.1 v.1 v.2) = _
  rw [q2]
  show ((q ρ S2).bind fun v => fSl (A a) l v.1 v.2) = _
  rw [q3]
  exact hE a S3
theorem xe_revT {tx : Option (List α)} (h : XE S0 sl m tx (eV A)) : XE S0 sl (mRevT m) (tx.bind fun xs => some xs.reverse) (eV A) := fun ρ S s a e => by
  obtain ⟨xs, e1, e⟩ := bnd e
  cases e
  obtain ⟨S1, q1, a1⟩ := h ρ S s xs e1
  refine ⟨S1, ?_, a1⟩
  unfold mRevT
  rw [q1]
  show some (D.tup (xs.map A).reverse, S1) = some (D.tup (xs.reverse.map A), S1)
  rw [List.map_reverse]

theorem xe_call0  {F : DCall} {f : Option γ}  (hf : Gvs F [] (f ) C) : XE S0 sl (mCall F mNil) (f ) C := fun ρ S s c e => by
  obtain ⟨S9, q9, a9⟩ := hf  c e S
  refine ⟨S9, ?_, a9⟩
  exact q9
theorem xe_tup0  {C : γ → D} (f : γ)  (hE : D.tup [] = C (f )) : XE S0 sl (mTup mNil) (some (f )) C := fun ρ S s c e => by
  cases e
  refine ⟨S, ?_, .refl⟩
  show some (D.tup [], S) = _
  rw [hE]
theorem xe_lst0  {C : γ → D} (f : γ)  (hE : D.lst [] = C (f )) : XE S0 sl (mLstV mNil) (some (f )) C := fun ρ S s c e => by
  cases e
  refine ⟨S, ?_, .refl⟩
  show some (D.lst [], S) = _
  rw [hE]
theorem xe_call1 {τ1 : Type} {n1 : MExp} {u1 : Option τ1} {E1 : τ1 → D} {F : DCall} {f : τ1 → Option γ} (h1 : XE S0 sl n1 u1 E1) (hf : ∀ x1, Gvs F [E1 x1] (f x1) C) : XE S0 sl (mCall F (mCons n1 mNil)) (u1.bind fun x1 => f x1) C := fun ρ S s c e => by
  obtain ⟨x1, e1, e⟩ := bnd e
  obtain ⟨S1, q1, a1⟩ := h1 ρ S s x1 e1
  obtain ⟨S9, q9, a9⟩ := hf x1 c e S1
  refine ⟨S9, ?_, a1.trans a9⟩
  have q : (mCons n1 mNil) ρ S = some ([E1 x1], S1) := by simp only [mCons, mNil, q1, Option.bind_some]
  unfold mCall
  rw [q]
  exact q9
theorem xe_tup1 {τ1 : Type} {n1 : MExp} {u1 : Option τ1} {E1 : τ1 → D} {C : γ → D} (f : τ1 → γ) (h1 : XE S0 sl n1 u1 E1) (hE : ∀ x1, D.tup [E1 x1] = C (f x1)) : XE S0 sl (mTup (mCons n1 mNil)) (u1.bind fun x1 => some (f x1)) C := fun ρ S s c e => by
  obtain ⟨x1, e1, e⟩ := bnd e
  cases e
  obtain ⟨S1, q1, a1⟩ := h1 ρ S s x1 e1
  refine ⟨S1, ?_, a1⟩
  have q : (mCons n1 mNil) ρ S = some ([E1 x1], S1) := by simp only [mCons, mNil, q1, Option.bind_some]
  unfold mTup
  rw [q]
  show (if ([E1 x1] : List D).length ≤ szl then some (D.tup [E1 x1], S1) else none) = _
  rw [if_pos (Nat.le_of_ble_eq_true rfl), hE]
theorem xe_lst1 {τ1 : Type} {n1 : MExp} {u1 : Option τ1} {E1 : τ1 → D} {C : γ → D} (f : τ1 → γ) (h1 : XE S0 sl n1 u1 E1) (hE : ∀ x1, D.lst [E1 x1] = C (f x1)) : XE S0 sl (mLstV (mCons n1 mNil)) (u1.bind fun x1 => some (f x1)) C := fun ρ S s c e => by
  obtain ⟨x1, e1, e⟩ := bnd e
  cases e
  obtain ⟨S1, q1, a1⟩ := h1 ρ S s x1 e1
  refine ⟨S1, ?_, a1⟩
  have q : (mCons n1 mNil) ρ S = some ([E1 x1], S1) := by simp only [mCons, mNil, q1, Option.bind_some]
  unfold mLstV
  rw [q]
  show (if ([E1 x1] : List D).length ≤ szl then some (D.lst [E1 x1], S1) else none) = _
  rw [if_pos (Nat.le_of_ble_eq_true rfl), hE]
theorem xe_call2 {τ1 : Type} {n1 : MExp} {u1 : Option τ1} {E1 : τ1 → D} {τ2 : Type} {n2 : MExp} {u2 : Option τ2} {E2 : τ2 → D} {F : DCall} {f : τ1 → τ2 → Option γ} (h1 : XE S0 sl n1 u1 E1) (h2 : XE S0 sl n2 u2 E2) (hf : ∀ x1 x2, Gvs F [E1 x1, E2 x2] (f x1 x2) C) : XE S0 sl (mCall F (mCons n1 (mCons n2 mNil))) (u1.bind fun x1 => u2.bind fun x2 => f x1 x2) C := fun ρ S s c e => by
  obtain ⟨x1, e1, e⟩ := bnd e
  obtain ⟨x2, e2, e⟩ := bnd e
  obtain ⟨S1, q1, a1⟩ := h1 ρ S s x1 e1
  obtain ⟨S2, q2, a2⟩ := h2 ρ S1 (s.grow a1) x2 e2
  obtain ⟨S9, q9, a9⟩ := hf x1 x2 c e S2
  refine ⟨S9, ?_, (a1.trans a2).trans a9⟩
  have q : (mCons n1 (mCons n2 mNil)) ρ S = some ([E1 x1, E2 x2], S2) := by simp only [mCons, mNil, q1, q2, Option.bind_some]
  unfold mCall
  rw [q]
  exact q9
theorem xe_tup2 {τ1 : Type} {n1 : MExp} {u1 : Option τ1} {E1 : τ1 → D} {τ2 : Type} {n2 : MExp} {u2 : Option τ2} {E2 : τ2 → D} {C : γ → D} (f : τ1 → τ2 → γ) (h1 : XE S0 sl n1 u1 E1) (h2 : XE S0 sl n2 u2 E2) (hE : ∀ x1 x2, D.tup [E1 x1, E2 x2] = C (f x1 x2)) : XE S0 sl (mTup (mCons n1 (mCons n2 mNil))) (u1.bind fun x1 => u2.bind fun x2 => some (f x1 x2)) C := fun ρ S s c e => by
  obtain ⟨x1, e1, e⟩ := bnd e
  obtain ⟨x2, e2, e⟩ := bnd e
  cases e
  obtain ⟨S1, q1, a1⟩ := h1 ρ S s x1 e1
  obtain ⟨S2, q2, a2⟩ := h2 ρ S1 (s.grow a1) x2 e2
  refine ⟨S2, ?_, (a1.trans a2)⟩
  have q : (mCons n1 (mCons n2 mNil)) ρ S = some ([E1 x1, E2 x2], S2) := by simp only [mCons, mNil, q1, q2, Option.bind_some]
  unfold mTup
  rw [q]
  show (if ([E1 x1, E2 x2] : List D).length ≤ szl then some (D.tup [E1 x1, E2 x2], S2) else none) = _
  rw [if_pos (Nat.le_of_ble_eq_true rfl), hE]
theorem xe_lst2 {τ1 : Type} {n1 : MExp} {u1 : Option τ1} {E1 : τ1 → D} {τ2 : Type} {n2 : MExp} {u2 : Option τ2} {E2 : τ2 → D} {C : γ → D} (f : τ1 → τ2 → γ) (h1 : XE S0 sl n1 u1 E1) (h2 : XE S0 sl n2 u2 E2) (hE : ∀ x1 x2, D.lst [E1 x1, E2 x2] = C (f x1 x2)) : XE S0 sl (mLstV (mCons n1 (mCons n2 mNil))) (u1.bind fun x1 => u2.bind fun x2 => some (f x1 x2)) C := fun ρ S s c e => by
  obtain ⟨x1, e1, e⟩ := bnd e
  obtain ⟨x2, e2, e⟩ := bnd e
  cases e
  obtain ⟨S1, q1, a1⟩ := h1 ρ S s x1 e1
  obtain ⟨S2, q2, a2⟩ := h2 ρ S1 (s.grow a1) x2 e2
  refine ⟨S2, ?_, (a1.trans a2)⟩
  have q : (mCons n1 (mCons n2 mNil)) ρ S = some ([E1 x1, E2 x2], S2) := by simp only [mCons, mNil, q1, q2, Option.bind_some]
  unfold mLstV
  rw [q]
  show (if ([E1 x1, E2 x2] : List D).length ≤ szl then some (D.lst [E1 x1, E2 x2], S2) else none) = _
  rw [if_pos (Nat.le_of_ble_eq_true rfl), hE]
theorem xe_call3 {τ1 : Type} {n1 : MExp} {u1 : Option τ1} {E1 : τ1 → D} {τ2 : Type} {n2 : MExp} {u2 : Option τ2} {E2 : τ2 → D} {τ3 : Type} {n3 : MExp} {u3 : Option τ3} {E3 : τ3 → D} {F : DCall} {f : τ1 → τ2 → τ3 → Option γ} (h1 : XE S0 sl n1 u1 E1) (h2 : XE S0 sl n2 u2 E2) (h3 : XE S0 sl n3 u3 E3) (hf : ∀ x1 x2 x3, Gvs F [E1 x1, E2 x2, E3 x3] (f x1 x2 x3) C) : XE S0 sl (mCall F (mCons n1 (mCons n2 (mCons n3 mNil)))) (u1.bind fun x1 => u2.bind fun x2 => u3.bind fun x3 => f x1 x2 x3) C := fun ρ S s c e => by
  obtain ⟨x1, e1, e⟩ := bnd e
  obtain ⟨x2, e2, e⟩ := bnd e
  obtain ⟨x3, e3, e⟩ := bnd e
  obtain ⟨S1, q1, a1⟩ := h1 ρ S s x1 e1
  obtain ⟨S2, q2, a2⟩ := h2 ρ S1 (s.grow a1) x2 e2
  obtain ⟨S3, q3, a3⟩ := h3 ρ S2 (s.grow (a1.trans a2)) x3 e3
  obtain ⟨S9, q9, a9⟩ := hf x1 x2 x3 c e S3
  refine ⟨S9, ?_, ((a1.trans a2).trans a3).trans a9⟩
  have q : (mCons n1 (mCons n2 (mCons n3 mNil))) ρ S = some ([E1 x1, E2 x2, E3 x3], S3) := by simp only [mCons, mNil, q1, q2, q3, Option.bind_some]
  unfold mCall
  rw [q]
  exact q9
theorem xe_tup3 {τ1 : Type} {n1 : MExp} {u1 : Option τ1} {E1 : τ1 → D} {τ2 : Type} {n2 : MExp} {u2 : Option τ2} {E2 : τ2 → D} {τ3 : Type} {n3 : MExp} {u3 : Option τ3} {E3 : τ3 → D} {C : γ → D} (f : τ1 → τ2 → τ3 → γ) (h1 : XE S0 sl n1 u1 E1) (h2 : XE S0 sl n2 u2 E2) (h3 : XE S0 sl n3 u3 E3) (hE : ∀ x1 x2 x3, D.tup [E1 x1, E2 x2, E3 x3] = C (f x1 x2 x3)) : XE S0 sl (mTup (mCons n1 (mCons n2 (mCons n3 mNil)))) (u1.bind fun x1 => u2.bind fun x2 => u3.bind fun x3 => some (f x1 x2 x3)) C := fun ρ S s c e => by
  obtain ⟨x1, e1, e⟩ := bnd e
  obtain ⟨x2, e2, e⟩ := bnd e
  obtain ⟨x3, e3, e⟩ := bnd e
  cases e
  obtain ⟨S1, q1, a1⟩ := h1 ρ S s x1 e1
  obtain ⟨S2, q2, a2⟩ := h2 ρ S1 (s.grow a1) x2 e2
  obtain ⟨S3, q3, a3⟩ := h3 ρ S2 (s.grow (a1.trans a2)) x3 e3
  refine ⟨S3, ?_, ((a1.trans a2).trans a3)⟩
  have q : (mCons n1 (mCons n2 (mCons n3 mNil))) ρ S = some ([E1 x1, E2 x2, E3 x3], S3) := by simp only [mCons, mNil, q1, q2, q3, Option.bind_some]
  unfold mTup
  rw [q]
  show (if ([E1 x1, E2 x2, E3 x3] : List D).length ≤ szl then some (D.tup [E1 x1, E2 x2, E3 x3], S3) else none) = _
  rw [if_pos (Nat.le_of_ble_eq_true rfl), hE]
theorem xe_lst3 {τ1 : Type} {n1 : MExp} {u1 : Option τ1} {E1 : τ1 → D} {τ2 : Type} {n2 : MExp} {u2 : Option τ2} {E2 : τ2 → D} {τ3 : Type} {n3 : MExp} {u3 : Option τ3} {E3 : τ3 → D} {C : γ → D} (f : τ1 → τ2 → τ3 → γ) (h1 : XE S0 sl n1 u1 E1) (h2 : XE S0 sl n2 u2 E2) (h3 : XE S0 sl n3 u3 E3) (hE : ∀ x1 x2 x3, D.lst [E1 x1, E2 x2, E3 x3] = C (f x1 x2 x3)) : XE S0 sl (mLstV (mCons n1 (mCons n2 (mCons n3 mNil)))) (u1.bind fun x1 => u2.bind fun x2 => u3.bind fun x3 => some (f x1 x2 x3)) C := fun ρ S s c e => by
  obtain ⟨x1, e1, e⟩ := bnd e
  obtain ⟨x2, e2, e⟩ := bnd e
  obtain ⟨x3, e3, e⟩ := bnd e
  cases e
  obtain ⟨S1, q1, a1⟩ := h1 ρ S s x1 e1
  obtain ⟨S2, q2, a2⟩ := h2 ρ S1 (s.grow a1) x2 e2
  obtain ⟨S3, q3, a3⟩ := h3 ρ S2 (s.grow (a1.trans a2)) x3 e3
  refine ⟨S3, ?_, ((a1.trans a2).trans a3)⟩
  have q : (mCons n1 (mCons n2 (mCons n3 mNil))) ρ S = some ([E1 x1, E2 x2, E3 x3], S3) := by simp only [mCons, mNil, q1, q2, q3, Option.bind_some]
  unfold mLstV
  rw [q]
  show (if ([E1 x1, E2 x2, E3 x3] : List D).length ≤ szl then some (D.lst [E1 x1, E2 x2, E3 x3], S3) else none) = _
  rw [if_pos (Nat.le_of_ble_eq_true rfl), hE]
theorem xe_call4 {τ1 : Type} {n1 : MExp} {u1 : Option τ1} {E1 : τ1 → D} {τ2 : Type} {n2 : MExp} {u2 : Option τ2} {E2 : τ2 → D} {τ3 : Type} {n3 : MExp} {u3 : Option τ3} {E3 : τ3 → D} {τ4 : Type} {n4 : MExp} {u4 : Option τ4} {E4 : τ4 → D} {F : DCall} {f : τ1 → τ2 → τ3 → τ4 → Option γ} (h1 : XE S0 sl n1 u1 E1) (h2 : XE S0 sl n2 u2 E2) (h3 : XE S0 sl n3 u3 E3) (h4 : XE S0 sl n4 u4 E4) (hf : ∀ x1 x2 x3 x4, Gvs F [E1 x1, E2 x2, E3 x3, E4 x4] (f x1 x2 x3 x4) C) : XE S0 sl (mCall F (mCons n1 (mCons n2 (mCons n3 (mCons n4 mNil))))) (u1.bind fun x1 => u2.bind fun x2 => u3.bind fun x3 => u4.bind fun x4 => f x1 x2 x3 x4) C := fun ρ S s c e => by
  obtain ⟨x1, e1, e⟩ := bnd e
  obtain ⟨x2, e2, e⟩ := bnd e
  obtain ⟨x3, e3, e⟩ := bnd e
  obtain ⟨x4, e4, e⟩ := bnd e
  obtain ⟨S1, q1, a1⟩ := h1 ρ S s x1 e1
  obtain ⟨S2, q2, a2⟩ := h2 ρ S1 (s.grow a1) x2 e2
  obtain ⟨S3, q3, a3⟩ := h3 ρ S2 (s.grow (a1.trans a2)) x3 e3
  obtain ⟨S4, q4, a4⟩ := h4 ρ S3 (s.grow ((a1.trans a2).trans a3)) x4 e4
  obtain ⟨S9, q9, a9⟩ := hf x1 x2 x3 x4 c e S4
  refine ⟨S9, ?_, (((a1.trans a2).trans a3).trans a4).trans a9⟩
  have q : (mCons n1 (mCons n2 (mCons n3 (mCons n4 mNil)))) ρ S = some ([E1 x1, E2 x2, E3 x3, E4 x4], S4) := by simp only [mCons, mNil, q1, q2, q3, q4, Option.bind_some]
  unfold mCall
  rw [q]
  exact q9
theorem xe_tup4 {τ1 : Type} {n1 : MExp} {u1 : Option τ1} {E1 : τ1 → D} {τ2 : Type} {n2 : MExp} {u2 : Option τ2} {E2 : τ2 → D} {τ3 : Type} {n3 : MExp} {u3 : Option τ3} {E3 : τ3 → D} {τ4 : Type} {n4 : MExp} {u4 : Option τ4} {E4 : τ4 → D} {C : γ → D} (f : τ1 → τ2 → τ3 → τ4 → γ) (h1 : XE S0 sl n1 u1 E1) (h2 : XE S0 sl n2 u2 E2) (h3 : XE S0 sl n3 u3 E3) (h4 : XE S0 sl n4 u4 E4) (hE : ∀ x1 x2 x3 x4, D.tup [E1 x1, E2 x2, E3 x3, E4 x4] = C (f x1 x2 x3 x4)) : XE S0 sl (mTup (mCons n1 (mCons n2 (mCons n3 (mCons n4 mNil))))) (u1.bind fun x1 => u2.bind fun x2 => u3.bind fun x3 => u4.bind fun x4 => some (f x1 x2 x3 x4)) C := fun ρ S s c e => by
  obtain ⟨x1, e1, e⟩ := bnd e
  obtain ⟨x2, e2, e⟩ := bnd e
  obtain ⟨x3, e3, e⟩ := bnd e
  obtain ⟨x4, e4, e⟩ := bnd e
  cases e
  obtain ⟨S1, q1, a1⟩ := h1 ρ S s x1 e1
  obtain ⟨S2, q2, a2⟩ := h2 ρ S1 (s.grow a1) x2 e2
  obtain ⟨S3, q3, a3⟩ := h3 ρ S2 (s.grow (a1.trans a2)) x3 e3
  obtain ⟨S4, q4, a4⟩ := h4 ρ S3 (s.grow ((a1.trans a2).trans a3)) x4 e4
  refine ⟨S4, ?_, (((a1.trans a2).trans a3).trans a4)⟩
  have q : (mCons n1 (mCons n2 (mCons n3 (mCons n4 mNil)))) ρ S = some ([E1 x1, E2 x2, E3 x3, E4 x4], S4) := by simp only [mCons, mNil, q1, q2, q3, q4, Option.bind_some]
  unfold mTup
  rw [q]
  show (if ([E1 x1, E2 x2, E3 x3, E4 x4] : List D).length ≤ szl then some (D.tup [E1 x1, E2 x2, E3 x3, E4 x4], S4) else none) = _
  rw [if_pos (Nat.le_of_ble_eq_true rfl), hE]
theorem xe_lst4 {τ1 : Type} {n1 : MExp} {u1 : Option τ1} {E1 : τ1 → D} {τ2 : Type} {n2 : MExp} {u2 : Option τ2} {E2 : τ2 → D} {τ3 : Type} {n3 : MExp} {u3 : Option τ3} {E3 : τ3 → D} {τ4 : Type} {n4 : MExp} {u4 : Option τ4} {E4 : τ4 → D} {C : γ → D} (f : τ1 → τ2 → τ3 → τ4 → γ) (h1 : XE S0 sl n1 u1 E1) (h2 : XE S0 sl n2 u2 E2) (h3 : XE S0 sl n3 u3 E3) (h4 : XE S0 sl n4 u4 E4) (hE : ∀ x1 x2 x3 x4, D.lst [E1 x1, E2 x2, E3 x3, E4 x4] = C (f x1 x2 x3 x4)) : XE S0 sl (mLstV (mCons n1 (mCons n2 (mCons n3 (mCons n4 mNil))))) (u1.bind fun x1 => u2.bind fun x2 => u3.bind fun x3 => u4.bind fun x4 => some (f x1 x2 x3 x4)) C := fun ρ S s c e => by
  obtain ⟨x1, e1, e⟩ := bnd e
  obtain ⟨x2, e2, e⟩ := bnd e
  obtain ⟨x3, e3, e⟩ := bnd e
  obtain ⟨x4, e4, e⟩ := bnd e
  cases e
  obtain ⟨S1, q1, a1⟩ := h1 ρ S s x1 e1
  obtain ⟨S2, q2, a2⟩ := h2 ρ S1 (s.grow a1) x2 e2
  obtain ⟨S3, q3, a3⟩ := h3 ρ S2 (s.grow (a1.trans a2)) x3 e3
  obtain ⟨S4, q4, a4⟩ := h4 ρ S3 (s.grow ((a1.trans a2).trans a3)) x4 e4
  refine ⟨S4, ?_, (((a1.trans a2).trans a3).trans a4)⟩
  have q : (mCons n1 (mCons n2 (mCons n3 (mCons n4 mNil)))) ρ S = some ([E1 x1, E2 x2, E3 x3, E4 x4], S4) := by simp only [mCons, mNil, q1, q2, q3, q4, Option.bind_some]
  unfold mLstV
  rw [q]
  show (if ([E1 x1, E2 x2, E3 x3, E4 x4] : List D).length ≤ szl then some (D.lst [E1 x1, E2 x2, E3 x3, E4 x4], S4) else none) = _
  rw [if_pos (Nat.le_of_ble_eq_true rfl), hE]
theorem xe_call5 {τ1 : Type} {n1 : MExp} {u1 : Option τ1} {E1 : τ1 → D} {τ2 : Type} {n2 : MExp} {u2 : Option τ2} {E2 : τ2 → D} {τ3 : Type} {n3 : MExp} {u3 : Option τ3} {E3 : τ3 → D} {τ4 : Type} {n4 : MExp} {u4 : Option τ4} {E4 : τ4 → D} {τ5 : Type} {n5 : MExp} {u5 : Option τ5} {E5 : τ5 → D} {F : DCall} {f : τ1 → τ2 → τ3 → τ4 → τ5 → Option γ} (h1 : XE S0 sl n1 u1 E1) (h2 : XE S0 sl n2 u2 E2) (h3 : XE S0 sl n3 u3 E3) (h4 : XE S0 sl n4 u4 E4) (h5 : XE S0 sl n5 u5 E5) (hf : ∀ x1 x2 x3 x4 x5, Gvs F [E1 x1, E2 x2, E3 x3, E4 x4, E5 x5] (f x1 x2 x3 x4 x5) C) : XE S0 sl (mCall F (mCons n1 (mCons n2 (mCons n3 (mCons n4 (mCons n5 mNil)))))) (u1.bind fun x1 => u2.bind fun x2 => u3.bind fun x3 => u4.bind fun x4 => u5.bind fun x5 => f x1 x2 x3 x4 x5) C := fun ρ S s c e => by
  obtain ⟨x1, e1, e⟩ := bnd e
  obtain ⟨x2, e2, e⟩ := bnd e
  obtain ⟨x3, e3, e⟩ := bnd e
  obtain ⟨x4, e4, e⟩ := bnd e
  obtain ⟨x5, e5, e⟩ := bnd e
  obtain ⟨S1, q1, a1⟩ := h1 ρ S s x1 e1
  obtain ⟨S2, q2, a2⟩ := h2 ρ S1 (s.grow a1) x2 e2
  obtain ⟨S3, q3, a3⟩ := h3 ρ S2 (s.grow (a1.trans a2)) x3 e3
  obtain ⟨S4, q4, a4⟩ := h4 ρ S3 (s.grow ((a1.trans a2).trans a3)) x4 e4
  obtain ⟨S5, q5, a5⟩ := h5 ρ S4 (s.grow (((a1.trans a2).trans a3).trans a4)) x5 e5
  obtain ⟨S9, q9, a9⟩ := hf x1 x2 x3 x4 x5 c e S5
  refine ⟨S9, ?_, ((((a1.trans a2).trans a3).trans a4).trans a5).trans a9⟩
  have q : (mCons n1 (mCons n2 (mCons n3 (mCons n4 (mCons n5 mNil))))) ρ S = some ([E1 x1, E2 x2, E3 x3, E4 x4, E5 x5], S5) := by simp only [mCons, mNil, q1, q2, q3, q4, q5, Option.bind_some]
  unfold mCall
  rw [q]
  exact q9
theorem xe_tup5 {τ1 : Type} {n1 : MExp} {u1 : Option τ1} {E1 : τ1 → D} {τ2 : Type} {n2 : MExp} {u2 : Option τ2} {E2 : τ2 → D} {τ3 : Type} {n3 : MExp} {u3 : Option τ3} {E3 : τ3 → D} {τ4 : Type} {n4 : MExp} {u4 : Option τ4} {E4 : τ4 → D} {τ5 : Type} {n5 : MExp} {u5 : Option τ5} {E5 : τ5 → D} {C : γ → D} (f : τ1 → τ2 → τ3 → τ4 → τ5 → γ) (h1 : XE S0 sl n1 u1 E1) (h2 : XE S0 sl n2 u2 E2) (h3 : XE S0 sl n3 u3 E3) (h4 : XE S0 sl n4 u4 E4) (h5 : XE S0 sl n5 u5 E5) (hE : ∀ x1 x2 x3 x4 x5, D.tup [E1 x1, E2 x2, E3 x3, E4 x4, E5 x5] = C (f x1 x2 x3 x4 x5)) : XE S0 sl (mTup (mCons n1 (mCons n2 (mCons n3 (mCons n4 (mCons n5 mNil)))))) (u1.bind fun x1 => u2.bind fun x2 => u3.bind fun x3 => u4.bind fun x4 => u5.bind fun x5 => some (f x1 x2 x3 x4 x5)) C := fun ρ S s c e => by
  obtain ⟨x1, e1, e⟩ := bnd e
  obtain ⟨x2, e2, e⟩ := bnd e
  obtain ⟨x3, e3, e⟩ := bnd e
  obtain ⟨x4, e4, e⟩ := bnd e
  obtain ⟨x5, e5, e⟩ := bnd e
  cases e
  obtain ⟨S1, q1, a1⟩ := h1 ρ S s x1 e1
  obtain ⟨S2, q2, a2⟩ := h2 ρ S1 (s.grow a1) x2 e2
  obtain ⟨S3, q3, a3⟩ := h3 ρ S2 (s.grow (a1.trans a2)) x3 e3
  obtain ⟨S4, q4, a4⟩ := h4 ρ S3 (s.grow ((a1.trans a2).trans a3)) x4 e4
  obtain ⟨S5, q5, a5⟩ := h5 ρ S4 (s.grow (((a1.trans a2).trans a3).trans a4)) x5 e5
  refine ⟨S5, ?_, ((((a1.trans a2).trans a3).trans a4).trans a5)⟩
  have q : (mCons n1 (mCons n2 (mCons n3 (mCons n4 (mCons n5 mNil))))) ρ S = some ([E1 x1, E2 x2, E3 x3, E4 x4, E5 x5], S5) := by simp only [mCons, mNil, q1, q2, q3, q4, q5, Option.bind_some]
  unfold mTup
  rw [q]
  show (if ([E1 x1, E2 x2, E3 x3, E4 x4, E5 x5] : List D).length ≤ szl then some (D.tup [E1 x1, E2 x2, E3 x3, E4 x4, E5 x5], S5) else none) = _
  rw [if_pos (Nat.le_of_ble_eq_true rfl), hE]
theorem xe_lst5 {τ1 : Type} {n1 : MExp} {u1 : Option τ1} {E1 : τ1 → D} {τ2 : Type} {n2 : MExp} {u2 : Option τ2} {E2 : τ2 → D} {τ3 : Type} {n3 : MExp} {u3 : Option τ3} {E3 : τ3 → D} {τ4 : Type} {n4 : MExp} {u4 : Option τ4} {E4 : τ4 → D} {τ5 : Type} {n5 : MExp} {u5 : Option τ5} {E5 : τ5 → D} {C : γ → D} (f : τ1 → τ2 → τ3 → τ4 → τ5 → γ) (h1 : XE S0 sl n1 u1 E1) (h2 : XE S0 sl n2 u2 E2) (h3 : XE S0 sl n3 u3 E3) (h4 : XE S0 sl n4 u4 E4) (h5 : XE S0 sl n5 u5 E5) (hE : ∀ x1 x2 x3 x4 x5, D.lst [E1 x1, E2 x2, E3 x3, E4 x4, E5 x5] = C (f x1 x2 x3 x4 x5)) : XE S0 sl (mLstV (mCons n1 (mCons n2 (mCons n3 (mCons n4 (mCons n5 mNil)))))) (u1.bind fun x1 => u2.bind fun x2 => u3.bind fun x3 => u4.bind fun x4 => u5.bind fun x5 => some (f x1 x2 x3 x4 x5)) C := fun ρ S s c e => by
  obtain ⟨x1, e1, e⟩ := bnd e
  obtain ⟨x2, e2, e⟩ := bnd e
  obtain ⟨x3, e3, e⟩ := bnd e
  obtain ⟨x4, e4, e⟩ := bnd e
  obtain ⟨x5, e5, e⟩ := bnd e
  cases e
  obtain ⟨S1, q1, a1⟩ := h1 ρ S s x1 e1
  obtain ⟨S2, q2, a2⟩ := h2 ρ S1 (s.grow a1) x2 e2
  obtain ⟨S3, q3, a3⟩ := h3 ρ S2 (s.grow (a1.trans a2)) x3 e3
  obtain ⟨S4, q4, a4⟩ := h4 ρ S3 (s.grow ((a1.trans a2).trans a3)) x4 e4
  obtain ⟨S5, q5, a5⟩ := h5 ρ S4 (s.grow (((a1.trans a2).trans a3).trans a4)) x5 e5
  refine ⟨S5, ?_, ((((a1.trans a2).trans a3).trans a4).trans a5)⟩
  have q : (mCons n1 (mCons n2 (mCons n3 (mCons n4 (mCons n5 mNil))))) ρ S = some ([E1 x1, E2 x2, E3 x3, E4 x4, E5 x5], S5) := by simp only [mCons, mNil, q1, q2, q3, q4, q5, Option.bind_some]
  unfold mLstV
  rw [q]
  show (if ([E1 x1, E2 x2, E3 x3, E4 x4, E5 x5] : List D).length ≤ szl then some (D.lst [E1 x1, E2 x2, E3 x3, E4 x4, E5 x5], S5) else none) = _
  rw [if_pos (Nat.le_of_ble_eq_true rfl), hE]
theorem xe_call6 {τ1 : Type} {n1 : MExp} {u1 : Option τ1} {E1 : τ1 → D} {τ2 : Type} {n2 : MExp} {u2 : Option τ2} {E2 : τ2 → D} {τ3 : Type} {n3 : MExp} {u3 : Option τ3} {E3 : τ3 → D} {τ4 : Type} {n4 : MExp} {u4 : Option τ4} {E4 : τ4 → D} {τ5 : Type} {n5 : MExp} {u5 : Option τ5} {E5 : τ5 → D} {τ6 : Type} {n6 : MExp} {u6 : Option τ6} {E6 : τ6 → D} {F : DCall} {f : τ1 → τ2 → τ3 → τ4 → τ5 → τ6 → Option γ} (h1 : XE S0 sl n1 u1 E1) (h2 : XE S0 sl n2 u2 E2) (h3 : XE S0 sl n3 u3 E3) (h4 : XE S0 sl n4 u4 E4) (h5 : XE S0 sl n5 u5 E5) (h6 : XE S0 sl n6 u6 E6) (hf : ∀ x1 x2 x3 x4 x5 x6, Gvs F [E1 x1, E2 x2, E3 x3, E4 x4, E5 x5, E6 x6] (f x1 x2 x3 x4 x5 x6) C) : XE S0 sl (mCall F (mCons n1 (mCons n2 (mCons n3 (mCons n4 (mCons n5 (mCons n6 mNil))))))) (u1.bind fun x1 => u2.bind fun x2 => u3.bind fun x3 => u4.bind fun x4 => u5.bind fun x5 => u6.bind fun x6 => f x1 x2 x3 x4 x5 x6) C := fun ρ S s c e => by
  obtain ⟨x1, e1, e⟩ := bnd e
  obtain ⟨x2, e2, e⟩ := bnd e
  obtain ⟨x3, e3, e⟩ := bnd e
  obtain ⟨x4, e4, e⟩ := bnd e
  obtain ⟨x5, e5, e⟩ := bnd e
  obtain ⟨x6, e6, e⟩ := bnd e
  obtain ⟨S1, q1, a1⟩ := h1 ρ S s x1 e1
  obtain ⟨S2, q2, a2⟩ := h2 ρ S1 (s.grow a1) x2 e2
  obtain ⟨S3, q3, a3⟩ := h3 ρ S2 (s.grow (a1.trans a2)) x3 e3
  obtain ⟨S4, q4, a4⟩ := h4 ρ S3 (s.grow ((a1.trans a2).trans a3)) x4 e4
  obtain ⟨S5, q5, a5⟩ := h5 ρ S4 (s.grow (((a1.trans a2).trans a3).trans a4)) x5 e5
  obtain ⟨S6, q6, a6⟩ := h6 ρ S5 (s.grow ((((a1.trans a2).trans a3).trans a4).trans a5)) x6 e6
  obtain ⟨S9, q9, a9⟩ := hf x1 x2 x3 x4 x5 x6 c e S6
  refine ⟨S9, ?_, (((((a1.trans a2).trans a3).trans a4).trans a5).trans a6).trans a9⟩
  have q : (mCons n1 (mCons n2 (mCons n3 (mCons n4 (mCons n5 (mCons n6 mNil)))))) ρ S = some ([E1 x1, E2 x2, E3 x3, E4 x4, E5 x5, E6 x6], S6) := by simp only [mCons, mNil, q1, q2, q3, q4, q5, q6, Option.bind_some]
  unfold mCall
  rw [q]
  exact q9
theorem xe_tup6 {τ1 : Type} {n1 : MExp} {u1 : Option τ1} {E1 : τ1 → D} {τ2 : Type} {n2 : MExp} {u2 : Option τ2} {E2 : τ2 → D} {τ3 : Type} {n3 : MExp} {u3 : Option τ3} {E3 : τ3 → D} {τ4 : Type} {n4 : MExp} {u4 : Option τ4} {E4 : τ4 → D} {τ5 : Type} {n5 : MExp} {u5 : Option τ5} {E5 : τ5 → D} {τ6 : Type} {n6 : MExp} {u6 : Option τ6} {E6 : τ6 → D} {C : γ → D} (f : τ1 → τ2 → τ3 → τ4 → τ5 → τ6 → γ) (h1 : XE S0 sl n1 u1 E1) (h2 : XE S0 sl n2 u2 E2) (h3 : XE S0 sl n3 u3 E3) (h4 : XE S0 sl n4 u4 E4) (h5 : XE S0 sl n5 u5 E5) (h6 : XE S0 sl n6 u6 E6) (hE : ∀ x1 x2 x3 x4 x5 x6, D.tup [E1 x1, E2 x2, E3 x3, E4 x4, E5 x5, E6 x6] = C (f x1 x2 x3 x4 x5 x6)) : XE S0 sl (mTup (mCons n1 (mCons n2 (mCons n3 (mCons n4 (mCons n5 (mCons n6 mNil))))))) (u1.bind fun x1 => u2.bind fun x2 => u3.bind fun x3 => u4.bind fun x4 => u5.bind fun x5 => u6.bind fun x6 => some (f x1 x2 x3 x4 x5 x6)) C := fun ρ S s c e => by
  obtain ⟨x1, e1, e⟩ := bnd e
  obtain ⟨x2, e2, e⟩ := bnd e
  obtain ⟨x3, e3, e⟩ := bnd e
  obtain ⟨x4, e4, e⟩ := bnd e
  obtain ⟨x5, e5, e⟩ := bnd e
  obtain ⟨x6, e6, e⟩ := bnd e
  cases e
  obtain ⟨S1, q1, a1⟩ := h1 ρ S s x1 e1
  obtain ⟨S2, q2, a2⟩ := h2 ρ S1 (s.grow a1) x2 e2
  obtain ⟨S3, q3, a3⟩ := h3 ρ S2 (s.grow (a1.trans a2)) x3 e3
  obtain ⟨S4, q4, a4⟩ := h4 ρ S3 (s.grow ((a1.trans a2).trans a3)) x4 e4
  obtain ⟨S5, q5, a5⟩ := h5 ρ S4 (s.grow (((a1.trans a2).trans a3).trans a4)) x5 e5
  obtain ⟨S6, q6, a6⟩ := h6 ρ S5 (s.grow ((((a1.trans a2).trans a3).trans a4).trans a5)) x6 e6
  refine ⟨S6, ?_, (((((a1.trans a2).trans a3).trans a4).trans a5).trans a6)⟩
  have q : (mCons n1 (mCons n2 (mCons n3 (mCons n4 (mCons n5 (mCons n6 mNil)))))) ρ S = some ([E1 x1, E2 x2, E3 x3, E4 x4, E5 x5, E6 x6], S6) := by simp only [mCons, mNil, q1, q2, q3, q4, q5, q6, Option.bind_some]
  unfold mTup
  rw [q]
  show (if ([E1 x1, E2 x2, E3 x3, E4 x4, E5 x5, E6 x6] : List D).length ≤ szl then some (D.tup [E1 x1, E2 x2, E3 x3, E4 x4, E5 x5, E6 x6], S6) else none) = _
  rw [if_pos (Nat.le_of_ble_eq_true rfl), hE]
theorem xe_lst6 {τ1 : Type} {n1 : MExp} {u1 : Option τ1} {E1 : τ1 → D} {τ2 : Type} {n2 : MExp} {u2 : Option τ2} {E2 : τ2 → D} {τ3 : Type} {n3 : MExp} {u3 : Option τ3} {E3 : τ3 → D} {τ4 : Type} {n4 : MExp} {u4 : Option τ4} {E4 : τ4 → D} {τ5 : Type} {n5 : MExp} {u5 : Option τ5} {E5 : τ5 → D} {τ6 : Type} {n6 : MExp} {u6 : Option τ6} {E6 : τ6 → D} {C : γ → D} (f : τ1 → τ2 → τ3 → τ4 → τ5 → τ6 → γ) (h1 : XE S0 sl n1 u1 E1) (h2 : XE S0 sl n2 u2 E2) (h3 : XE S0 sl n3 u3 E3) (h4 : XE S0 sl n4 u4 E4) (h5 : XE S0 sl n5 u5 E5) (h6 : XE S0 sl n6 u6 E6) (hE : ∀ x1 x2 x3 x4 x5 x6, D.lst [E1 x1, E2 x2, E3 x3, E4 x4, E5 x5, E6 x6] = C (f x1 x2 x3 x4 x5 x6)) : XE S0 sl (mLstV (mCons n1 (mCons n2 (mCons n3 (mCons n4 (mCons n5 (mCons n6 mNil))))))) (u1.bind fun x1 => u2.bind fun x2 => u3.bind fun x3 => u4.bind fun x4 => u5.bind fun x5 => u6.bind fun x6 => some (f x1 x2 x3 x4 x5 x6)) C := fun ρ S s c e => by
  obtain ⟨x1, e1, e⟩ := bnd e
  obtain ⟨x2, e2, e⟩ := bnd e
  obtain ⟨x3, e3, e⟩ := bnd e
  obtain ⟨x4, e4, e⟩ := bnd e
  obtain ⟨x5, e5, e⟩ := bnd e
  obtain ⟨x6, e6, e⟩ := bnd e
  cases e
  obtain ⟨S1, q1, a1⟩ := h1 ρ S s x1 e1
  obtain ⟨S2, q2, a2⟩ := h2 ρ S1 (s.grow a1) x2 e2
  obtain ⟨S3, q3, a3⟩ := h3 ρ S2 (s.grow (a1.trans a2)) x3 e3
  obtain ⟨S4, q4, a4⟩ := h4 ρ S3 (s.grow ((a1.trans a2).trans a3)) x4 e4
  obtain ⟨S5, q5, a5⟩ := h5 ρ S4 (s.grow (((a1.trans a2).trans a3).trans a4)) x5 e5
  obtain ⟨S6, q6, a6⟩ := h6 ρ S5 (s.grow ((((a1.trans a2).trans a3).trans a4).trans a5)) x6 e6
  refine ⟨S6, ?_, (((((a1.trans a2).trans a3).trans a4).trans a5).trans a6)⟩
  have q : (mCons n1 (mCons n2 (mCons n3 (mCons n4 (mCons n5 (mCons n6 mNil)))))) ρ S = some ([E1 x1, E2 x2, E3 x3, E4 x4, E5 x5, E6 x6], S6) := by simp only [mCons, mNil, q1, q2, q3, q4, q5, q6, Option.bind_some]
  unfold mLstV
  rw [q]
  show (if ([E1 x1, E2 x2, E3 x3, E4 x4, E5 x5, E6 x6] : List D).length ≤ szl then some (D.lst [E1 x1, E2 x2, E3 x3, E4 x4, E5 x5, E6 x6], S6) else none) = _
  rw [if_pos (Nat.le_of_ble_eq_true rfl), hE]
theorem xe_tup7 {τ1 : Type} {n1 : MExp} {u1 : Option τ1} {E1 : τ1 → D} {τ2 : Type} {n2 : MExp} {u2 : Option τ2} {E2 : τ2 → D} {τ3 : Type} {n3 : MExp} {u3 : Option τ3} {E3 : τ3 → D} {τ4 : Type} {n4 : MExp} {u4 : Option τ4} {E4 : τ4 → D} {τ5 : Type} {n5 : MExp} {u5 : Option τ5} {E5 : τ5 → D} {τ6 : Type} {n6 : MExp} {u6 : Option τ6} {E6 : τ6 → D} {τ7 : Type} {n7 : MExp} {u7 : Option τ7} {E7 : τ7 → D} {C : γ → D} (f : τ1 → τ2 → τ3 → τ4 → τ5 → τ6 → τ7 → γ) (h1 : XE S0 sl n1 u1 E1) (h2 : XE S0 sl n2 u2 E2) (h3 : XE S0 sl n3 u3 E3) (h4 : XE S0 sl n4 u4 E4) (h5 : XE S0 sl n5 u5 E5) (h6 : XE S0 sl n6 u6 E6) (h7 : XE S0 sl n7 u7 E7) (hE : ∀ x1 x2 x3 x4 x5 x6 x7, D.tup [E1 x1, E2 x2, E3 x3, E4 x4, E5 x5, E6 x6, E7 x7] = C (f x1 x2 x3 x4 x5 x6 x7)) : XE S0 sl (mTup (mCons n1 (mCons n2 (mCons n3 (mCons n4 (mCons n5 (mCons n6 (mCons n7 mNil)))))))) (u1.bind fun x1 => u2.bind fun x2 => u3.bind fun x3 => u4.bind fun x4 => u5.bind fun x5 => u6.bind fun x6 => u7.bind fun x7 => some (f x1 x2 x3 x4 x5 x6 x7)) C := fun ρ S s c e => by
  obtain ⟨x1, e1, e⟩ := bnd e
  obtain ⟨x2, e2, e⟩ := bnd e
  obtain ⟨x3, e3, e⟩ := bnd e
  obtain ⟨x4, e4, e⟩ := bnd e
  obtain ⟨x5, e5, e⟩ := bnd e
  obtain ⟨x6, e6, e⟩ := bnd e
  obtain ⟨x7, e7, e⟩ := bnd e
  cases e
  obtain ⟨S1, q1, a1⟩ := h1 ρ S s x1 e1
  obtain ⟨S2, q2, a2⟩ := h2 ρ S1 (s.grow a1) x2 e2
  obtain ⟨S3, q3, a3⟩ := h3 ρ S2 (s.grow (a1.trans a2)) x3 e3
  obtain ⟨S4, q4, a4⟩ := h4 ρ S3 (s.grow ((a1.trans a2).trans a3)) x4 e4
  obtain ⟨S5, q5, a5⟩ := h5 ρ S4 (s.grow (((a1.trans a2).trans a3).trans a4)) x5 e5
  obtain ⟨S6, q6, a6⟩ := h6 ρ S5 (s.grow ((((a1.trans a2).trans a3).trans a4).trans a5)) x6 e6
  obtain ⟨S7, q7, a7⟩ := h7 ρ S6 (s.grow (((((a1.trans a2).trans a3).trans a4).trans a5).trans a6)) x7 e7
  refine ⟨S7, ?_, ((((((a1.trans a2).trans a3).trans a4).trans a5).trans a6).trans a7)⟩
  have q : (mCons n1 (mCons n2 (mCons n3 (mCons n4 (mCons n5 (mCons n6 (mCons n7 mNil))))))) ρ S = some ([E1 x1, E2 x2, E3 x3, E4 x4, E5 x5, E6 x6, E7 x7], S7) := by simp only [mCons, mNil, q1, q2, q3, q4, q5, q6, q7, Option.bind_some]
  unfold mTup
  rw [q]
  show (if ([E1 x1, E2 x2, E3 x3, E4 x4, E5 x5, E6 x6, E7 x7] : List D).length ≤ szl then some (D.tup [E1 x1, E2 x2, E3 x3, E4 x4, E5 x5, E6 x6, E7 x7], S7) else none) = _
  rw [if_pos (Nat.le_of_ble_eq_true rfl), hE]
theorem xe_lst7 {τ1 : Type} {n1 : MExp} {u1 : Option τ1} {E1 : τ1 → D} {τ2 : Type} {n2 : MExp} {u2 : Option τ2} {E2 : τ2 → D} {τ3 : Type} {n3 : MExp} {u3 : Option τ3} {E3 : τ3 → D} {τ4 : Type} {n4 : MExp} {u4 : Option τ4} {E4 : τ4 → D} {τ5 : Type} {n5 : MExp} {u5 : Option τ5} {E5 : τ5 → D} {τ6 : Type} {n6 : MExp} {u6 : Option τ6} {E6 : τ6 → D} {τ7 : Type} {n7 : MExp} {u7 : Option τ7} {E7 : τ7 → D} {C : γ → D} (f : τ1 → τ2 → τ3 → τ4 → τ5 → τ6 → τ7 → γ) (h1 : XE S0 sl n1 u1 E1) (h2 : XE S0 sl n2 u2 E2) (h3 : XE S0 sl n3 u3 E3) (h4 : XE S0 sl n4 u4 E4) (h5 : XE S0 sl n5 u5 E5) (h6 : XE S0 sl n6 u6 E6) (h7 : XE S0 sl n7 u7 E7) (hE : ∀ x1 x2 x3 x4 x5 x6 x7, D.lst [E1 x1, E2 x2, E3 x3, E4 x4, E5 x5, E6 x6, E7 x7] = C (f x1 x2 x3 x4 x5 x6 x7)) : XE S0 sl (mLstV (mCons n1 (mCons n2 (mCons n3 (mCons n4 (mCons n5 (mCons n6 (mCons n7 mNil)))))))) (u1.bind fun x1 => u2.bind fun x2 => u3.bind fun x3 => u4.bind fun x4 => u5.bind fun x5 => u6.bind fun x6 => u7.bind fun x7 => some (f x1 x2 x3 x4 x5 x6 x7)) C := fun ρ S s c e => by
  obtain ⟨x1, e1, e⟩ := bnd e
  obtain ⟨x2, e2, e⟩ := bnd e
  obtain ⟨x3, e3, e⟩ := bnd e
  obtain ⟨x4, e4, e⟩ := bnd e
  obtain ⟨x5, e5, e⟩ := bnd e
  obtain ⟨x6, e6, e⟩ := bnd e
  obtain ⟨x7, e7, e⟩ := bnd e
  cases e
  obtain ⟨S1, q1, a1⟩ := h1 ρ S s x1 e1
  obtain ⟨S2, q2, a2⟩ := h2 ρ S1 (s.grow a1) x2 e2
  obtain ⟨S3, q3, a3⟩ := h3 ρ S2 (s.grow (a1.trans a2)) x3 e3
  obtain ⟨S4, q4, a4⟩ := h4 ρ S3 (s.grow ((a1.trans a2).trans a3)) x4 e4
  obtain ⟨S5, q5, a5⟩ := h5 ρ S4 (s.grow (((a1.trans a2).trans a3).trans a4)) x5 e5
  obtain ⟨S6, q6, a6⟩ := h6 ρ S5 (s.grow ((((a1.trans a2).trans a3).trans a4).trans a5)) x6 e6
  obtain ⟨S7, q7, a7⟩ := h7 ρ S6 (s.grow (((((a1.trans a2).trans a3).trans a4).trans a5).trans a6)) x7 e7
  refine ⟨S7, ?_, ((((((a1.trans a2).trans a3).trans a4).trans a5).trans a6).trans a7)⟩
  have q : (mCons n1 (mCons n2 (mCons n3 (mCons n4 (mCons n5 (mCons n6 (mCons n7 mNil))))))) ρ S = some ([E1 x1, E2 x2, E3 x3, E4 x4, E5 x5, E6 x6, E7 x7], S7) := by simp only [mCons, mNil, q1, q2, q3, q4, q5, q6, q7, Option.bind_some]
  unfold mLstV
  rw [q]
  show (if ([E1 x1, E2 x2, E3 x3, E4 x4, E5 x5, E6 x6, E7 x7] : List D).length ≤ szl then some (D.lst [E1 x1, E2 x2, E3 x3, E4 x4, E5 x5, E6 x6, E7 x7], S7) else none) = _
  rw [if_pos (Nat.le_of_ble_eq_true rfl), hE]
theorem xe_tup8 {τ1 : Type} {n1 : MExp} {u1 : Option τ1} {E1 : τ1 → D} {τ2 : Type} {n2 : MExp} {u2 : Option τ2} {E2 : τ2 → D} {τ3 : Type} {n3 : MExp} {u3 : Option τ3} {E3 : τ3 → D} {τ4 : Type} {n4 : MExp} {u4 : Option τ4} {E4 : τ4 → D} {τ5 : Type} {n5 : MExp} {u5 : Option τ5} {E5 : τ5 → D} {τ6 : Type} {n6 : MExp} {u6 : Option τ6} {E6 : τ6 → D} {τ7 : Type} {n7 : MExp} {u7 : Option τ7} {E7 : τ7 → D} {τ8 : Type} {n8 : MExp} {u8 : Option τ8} {E8 : τ8 → D} {C : γ → D} (f : τ1 → τ2 → τ3 → τ4 → τ5 → τ6 → τ7 → τ8 → γ) (h1 : XE S0 sl n1 u1 E1) (h2 : XE S0 sl n2 u2 E2) (h3 : XE S0 sl n3 u3 E3) (h4 : XE S0 sl n4 u4 E4) (h5 : XE S0 sl n5 u5 E5) (h6 : XE S0 sl n6 u6 E6) (h7 : XE S0 sl n7 u7 E7) (h8 : XE S0 sl n8 u8 E8) (hE : ∀ x1 x2 x3 x4 x5 x6 x7 x8, D.tup [E1 x1, E2 x2, E3 x3, E4 x4, E5 x5, E6 x6, E7 x7, E8 x8] = C (f x1 x2 x3 x4 x5 x6 x7 x8)) : XE S0 sl (mTup (mCons n1 (mCons n2 (mCons n3 (mCons n4 (mCons n5 (mCons n6 (mCons n7 (mCons n8 mNil))))))))) (u1.bind fun x1 => u2.bind fun x2 => u3.bind fun x3 => u4.bind fun x4 => u5.bind fun x5 => u6.bind fun x6 => u7.bind fun x7 => u8.bind fun x8 => some (f x1 x2 x3 x4 x5 x6 x7 x8)) C := fun ρ S s c e => by
  obtain ⟨x1, e1, e⟩ := bnd e
  obtain ⟨x2, e2, e⟩ := bnd e
  obtain ⟨x3, e3, e⟩ := bnd e
  obtain ⟨x4, e4, e⟩ := bnd e
  obtain ⟨x5, e5, e⟩ := bnd e
  obtain ⟨x6, e6, e⟩ := bnd e
  obtain ⟨x7, e7, e⟩ := bnd e
  obtain ⟨x8, e8, e⟩ := bnd e
  cases e
  obtain ⟨S1, q1, a1⟩ := h1 ρ S s x1 e1
  obtain ⟨S2, q2, a2⟩ := h2 ρ S1 (s.grow a1) x2 e2
  obtain ⟨S3, q3, a3⟩ := h3 ρ S2 (s.grow (a1.trans a2)) x3 e3
  obtain ⟨S4, q4, a4⟩ := h4 ρ S3 (s.grow ((a1.trans a2).trans a3)) x4 e4
  obtain ⟨S5, q5, a5⟩ := h5 ρ S4 (s.grow (((a1.trans a2).trans a3).trans a4)) x5 e5
  obtain ⟨S6, q6, a6⟩ := h6 ρ S5 (s.grow ((((a1.trans a2).trans a3).trans a4).trans a5)) x6 e6
  obtain ⟨S7, q7, a7⟩ := h7 ρ S6 (s.grow (((((a1.trans a2).trans a3).trans a4).trans a5).trans a6)) x7 e7
  obtain ⟨S8, q8, a8⟩ := h8 ρ S7 (s.grow ((((((a1.trans a2).trans a3).trans a4).trans a5).trans a6).trans a7)) x8 e8
  refine ⟨S8, ?_, (((((((a1.trans a2).trans a3).trans a4).trans a5).trans a6).trans a7).trans a8)⟩
  have q : (mCons n1 (mCons n2 (mCons n3 (mCons n4 (mCons n5 (mCons n6 (mCons n7 (mCons n8 mNil)))))))) ρ S = some ([E1 x1, E2 x2, E3 x3, E4 x4, E5 x5, E6 x6, E7 x7, E8 x8], S8) := by simp only [mCons, mNil, q1, q2, q3, q4, q5, q6, q7, q8, Option.bind_some]
  unfold mTup
  rw [q]
  show (if ([E1 x1, E2 x2, E3 x3, E4 x4, E5 x5, E6 x6, E7 x7, E8 x8] : List D).length ≤ szl then some (D.tup [E1 x1, E2 x2, E3 x3, E4 x4, E5 x5, E6 x6, E7 x7, E8 x8], S8) else none) = _
  rw [if_pos (Nat.le_of_ble_eq_true rfl), hE]
theorem xe_lst8 {τ1 : Type} {n1 : MExp} {u1 : Option τ1} {E1 : τ1 → D} {τ2 : Type} {n2 : MExp} {u2 : Option τ2} {E2 : τ2 → D} {τ3 : Type} {n3 : MExp} {u3 : Option τ3} {E3 : τ3 → D} {τ4 : Type} {n4 : MExp} {u4 : Option τ4} {E4 : τ4 → D} {τ5 : Type} {n5 : MExp} {u5 : Option τ5} {E5 : τ5 → D} {τ6 : Type} {n6 : MExp} {u6 : Option τ6} {E6 : τ6 → D} {τ7 : Type} {n7 : MExp} {u7 : Option τ7} {E7 : τ7 → D} {τ8 : Type} {n8 : MExp} {u8 : Option τ8} {E8 : τ8 → D} {C : γ → D} (f : τ1 → τ2 → τ3 → τ4 → τ5 → τ6 → τ7 → τ8 → γ) (h1 : XE S0 sl n1 u1 E1) (h2 : XE S0 sl n2 u2 E2) (h3 : XE S0 sl n3 u3 E3) (h4 : XE S0 sl n4 u4 E4) (h5 : XE S0 sl n5 u5 E5) (h6 : XE S0 sl n6 u6 E6) (h7 : XE S0 sl n7 u7 E7) (h8 : XE S0 sl n8 u8 E8) (hE : ∀ x1 x2 x3 x4 x5 x6 x7 x8, D.lst [E1 x1, E2 x2, E3 x3, E4 x4, E5 x5, E6 x6, E7 x7, E8 x8] = C (f x1 x2 x3 x4 x5 x6 x7 x8)) : XE S0 sl (mLstV (mCons n1 (mCons n2 (mCons n3 (mCons n4 (mCons n5 (mCons n6 (mCons n7 (mCons n8 mNil))))))))) (u1.bind fun x1 => u2.bind fun x2 => u3.bind fun x3 => u4.bind fun x4 => u5.bind fun x5 => u6.bind fun x6 => u7.bind fun x7 => u8.bind fun x8 => some (f x1 x2 x3 x4 x5 x6 x7 x8)) C := fun ρ S s c e => by
  obtain ⟨x1, e1, e⟩ := bnd e
  obtain ⟨x2, e2, e⟩ := bnd e
  obtain ⟨x3, e3, e⟩ := bnd e
  obtain ⟨x4, e4, e⟩ := bnd e
  obtain ⟨x5, e5, e⟩ := bnd e
  obtain ⟨x6, e6, e⟩ := bnd e
  obtain ⟨x7, e7, e⟩ := bnd e
  obtain ⟨x8, e8, e⟩ := bnd e
  cases e
  obtain ⟨S1, q1, a1⟩ := h1 ρ S s x1 e1
  obtain ⟨S2, q2, a2⟩ := h2 ρ S1 (s.grow a1) x2 e2
  obtain ⟨S3, q3, a3⟩ := h3 ρ S2 (s.grow (a1.trans a2)) x3 e3
  obtain ⟨S4, q4, a4⟩ := h4 ρ S3 (s.grow ((a1.trans a2).trans a3)) x4 e4
  obtain ⟨S5, q5, a5⟩ := h5 ρ S4 (s.grow (((a1.trans a2).trans a3).trans a4)) x5 e5
  obtain ⟨S6, q6, a6⟩ := h6 ρ S5 (s.grow ((((a1.trans a2).trans a3).trans a4).trans a5)) x6 e6
  obtain ⟨S7, q7, a7⟩ := h7 ρ S6 (s.grow (((((a1.trans a2).trans a3).trans a4).trans a5).trans a6)) x7 e7
  obtain ⟨S8, q8, a8⟩ := h8 ρ S7 (s.grow ((((((a1.trans a2).trans a3).trans a4).trans a5).trans a6).trans a7)) x8 e8
  refine ⟨S8, ?_, (((((((a1.trans a2).trans a3).trans a4).trans a5).trans a6).trans a7).trans a8)⟩
  have q : (mCons n1 (mCons n2 (mCons n3 (mCons n4 (mCons n5 (mCons n6 (mCons n7 (mCons n8 mNil)))))))) ρ S = some ([E1 x1, E2 x2, E3 x3, E4 x4, E5 x5, E6 x6, E7 x7, E8 x8], S8) := by simp only [mCons, mNil, q1, q2, q3, q4, q5, q6, q7, q8, Option.bind_some]
  unfold mLstV
  rw [q]
  show (if ([E1 x1, E2 x2, E3 x3, E4 x4, E5 x5, E6 x6, E7 x7, E8 x8] : List D).length ≤ szl then some (D.lst [E1 x1, E2 x2, E3 x3, E4 x4, E5 x5, E6 x6, E7 x7, E8 x8], S8) else none) = _
  rw [if_pos (Nat.le_of_ble_eq_true rfl), hE]
end
end TM

set_option Elab.async false
set_option linter.all false
set_option maxRecDepth 100000
set_option maxHeartbeats 4000000
namespace TM
open PySem PySem.Spec PyProof.Rows L2 MS
/-! ### statements -/
inductive Out (σ β : Type) where
  | nx (s : σ) | rt (b : β)
def Out.fin {σ β γ : Type} (f : σ → Option γ) (g : β → Option γ) : Out σ β → Option γ
  | .nx s => f s
  | .rt b => g b
def SR {β : Type} (S0 : Store) (sl : List Sl) (m : MStm) (t : Option β) (E : β → D) : Prop := ∀ ρ S, Sx S0 sl ρ S → ∀ b, t = some b → ∃ ρ' S', m ρ S = some (.rt (E b), ρ', S') ∧ All S0 S'
def SN {σ : Type} (S0 : Store) (sl : List Sl) (m : MStm) (t : Option σ) (sl' : σ → List Sl) : Prop := ∀ ρ S, Sx S0 sl ρ S → ∀ a, t = some a → ∃ ρ' S', m ρ S = some (.nx, ρ', S') ∧ Sx S0 (sl' a) ρ' S'
def OutOk {σ β : Type} (S0 : Store) (sl' : σ → List Sl) (E : β → D) (f : Fl) (ρ' : Ev) (S' : Store) : Out σ β → Prop
  | .nx s => f = .nx ∧ Sx S0 (sl' s) ρ' S'
  | .rt b => f = .rt (E b) ∧ All S0 S'
def SB {σ β : Type} (S0 : Store) (sl : List Sl) (m : MStm) (t : Option (Out σ β)) (sl' : σ → List Sl) (E : β → D) : Prop := ∀ ρ S, Sx S0 sl ρ S → ∀ o, t = some o → ∃ f ρ' S', m ρ S = some (f, ρ', S') ∧ OutOk S0 sl' E f ρ' S' o
def XO {α : Type} (S0 : Store) (sl : List Sl) (m : MExp) (t : Option (List α)) (A : α → D) : Prop := ∀ ρ S, Sx S0 sl ρ S → ∀ xs, t = some xs → ∃ n S1, m ρ S = some (.lr n, S1) ∧ All S S1 ∧ S.length ≤ n ∧ S1[n]? = some (.lst (xs.map A))
section
variable {α β γ δ σ τ : Type} {S0 : Store} {sl : List Sl} {m m1 m2 : MExp} {r s1 s2 : MStm} {A : α → D} {B : β → D} {C : γ → D} {t : Option α} {t1 : Option α} {t2 : Option β}
theorem sr_ret (h : XE S0 sl m t A) : SR S0 sl (mRet m) t A := fun ρ S s b e => by
  obtain ⟨S1, q, a⟩ := h ρ S s b e
  exact ⟨ρ, S1, by unfold mRet; rw [q]; rfl, s.all.trans a⟩
theorem sr_seqN {ts : Option σ} {sl1 : σ → List Sl} {tr : σ → Option α} (h : SN S0 sl s1 ts sl1) (hr : ∀ x, SR S0 (sl1 x) r (tr x) A) : SR S0 sl (mSeq s1 r) (ts.bind tr) A := fun ρ S s b e => by
  obtain ⟨x, e1, e⟩ := bnd e
  obtain ⟨ρ1, S1, q, s1⟩ := h ρ S s x e1
  obtain ⟨ρ2, S2, q2, a2⟩ := hr x ρ1 S1 s1 b e
  exact ⟨ρ2, S2, by unfold mSeq; rw [q]; exact q2, a2⟩
theorem sr_seqB {ts : Option (Out σ α)} {sl1 : σ → List Sl} {tr : σ → Option α} (h : SB S0 sl s1 ts sl1 A) (hr : ∀ x, SR S0 (sl1 x) r (tr x) A) : SR S0 sl (mSeq s1 r) (ts.bind fun o => o.fin tr some) A := fun ρ S s b e => by
  obtain ⟨o, e1, e⟩ := bnd e
  obtain ⟨f, ρ1, S1, q, k⟩ := h ρ S s o e1
  cases o with
  | nx x =>
    obtain ⟨rfl, s1⟩ := k
    obtain ⟨ρ2, S2, q2, a2⟩ := hr x ρ1 S1 s1 b e
    exact ⟨ρ2, S2, by unfold mSeq; rw [q]; exact q2, a2⟩
  | rt b' =>
    obtain ⟨rfl, a⟩ := k
    cases e
    exact ⟨ρ1, S1, by unfold mSeq; rw [q]; rfl, a⟩
theorem sr_if {c : MTst} {tc : Option Bool} {ta tb : Option α} (hc : XT S0 sl c tc) (ha : SR S0 sl s1 ta A) (hb : SR S0 sl s2 tb A) : SR S0 sl (mIfS c s1 s2) (tc.bind fun k => cond k ta tb) A := fun ρ S s b e => by
  obtain ⟨k, e1, e⟩ := bnd e
  obtain ⟨S1, q, a1⟩ := hc ρ S s k e1
  unfold mIfS
  rw [q]
  cases k with
  | true => exact ha ρ S1 (s.grow a1) b e
  | false => exact hb ρ S1 (s.grow a1) b e
theorem seq_nx {c : MTst} {ρ : Ev} {S S1 : Store} {k : Bool} (q : c ρ S = some (k, S1)) : mSeq (mIfS c s1 mNx) r ρ S = cond k (mSeq s1 r ρ S1) (r ρ S1) := by
  unfold mSeq mIfS
  rw [q]
  cases k <;> rfl
theorem rt_seq {ρ ρ' : Ev} {S S' : Store} {d : D} (h : s1 ρ S = some (.rt d, ρ', S')) : mSeq s1 r ρ S = some (.rt d, ρ', S') := by unfold mSeq; rw [h]; rfl
theorem sr_ifr {c : MTst} {tc : Option Bool} {ta tb : Option α} (hc : XT S0 sl c tc) (ha : SR S0 sl s1 ta A) (hb : SR S0 sl r tb A) : SR S0 sl (mSeq (mIfS c s1 mNx) r) (tc.bind fun k => cond k ta tb) A := fun ρ S s b e => by
  obtain ⟨k, e1, e⟩ := bnd e
  obtain ⟨S1, q, a1⟩ := hc ρ S s k e1
  rw [seq_nx q]
  cases k with
  | true =>
    obtain ⟨ρ2, S2, q2, a2⟩ := ha ρ S1 (s.grow a1) b e
    exact ⟨ρ2, S2, rt_seq q2, a2⟩
  | false => exact hb ρ S1 (s.grow a1) b e
/-! a test whose answer is known -/
theorem sr_ifT {c : MTst} (hc : XT S0 sl c (some true)) (ha : SR S0 sl s1 t A) : SR S0 sl (mIfS c s1 s2) t A := fun ρ S s b e => by
  obtain ⟨S1, q, a1⟩ := hc ρ S s true rfl
  unfold mIfS
  rw [q]
  exact ha ρ S1 (s.grow a1) b e
theorem sr_ifF {c : MTst} (hc : XT S0 sl c (some false)) (ha : SR S0 sl s2 t A) : SR S0 sl (mIfS c s1 s2) t A := fun ρ S s b e => by
  obtain ⟨S1, q, a1⟩ := hc ρ S s false rfl
  unfold mIfS
  rw [q]
  exact ha ρ S1 (s.grow a1) b e
theorem sr_ifrT {c : MTst} (hc : XT S0 sl c (some true)) (ha : SR S0 sl s1 t A) : SR S0 sl (mSeq (mIfS c s1 mNx) r) t A := fun ρ S s b e => by
  obtain ⟨S1, q, a1⟩ := hc ρ S s true rfl
  rw [seq_nx q]
  obtain ⟨ρ2, S2, q2, a2⟩ := ha ρ S1 (s.grow a1) b e
  exact ⟨ρ2, S2, rt_seq q2, a2⟩
theorem sr_ifrF {c : MTst} (hc : XT S0 sl c (some false)) (ha : SR S0 sl r t A) : SR S0 sl (mSeq (mIfS c s1 mNx) r) t A := fun ρ S s b e => by
  obtain ⟨S1, q, a1⟩ := hc ρ S s false rfl
  rw [seq_nx q]
  exact ha ρ S1 (s.grow a1) b e
theorem sn_ifT {c : MTst} {ts : Option σ} {sl' : σ → List Sl} (hc : XT S0 sl c (some true)) (ha : SN S0 sl s1 ts sl') : SN S0 sl (mIfS c s1 s2) ts sl' := fun ρ S s b e => by
  obtain ⟨S1, q, a1⟩ := hc ρ S s true rfl
  unfold mIfS
  rw [q]
  exact ha ρ S1 (s.grow a1) b e
theorem sn_ifF {c : MTst} {ts : Option σ} {sl' : σ → List Sl} (hc : XT S0 sl c (some false)) (ha : SN S0 sl s2 ts sl') : SN S0 sl (mIfS c s1 s2) ts sl' := fun ρ S s b e => by
  obtain ⟨S1, q, a1⟩ := hc ρ S s false rfl
  unfold mIfS
  rw [q]
  exact ha ρ S1 (s.grow a1) b e
theorem sb_ifrT {c : MTst} {sl' : σ → List Sl} (hc : XT S0 sl c (some true)) (ha : SR S0 sl s1 t A) : SB S0 sl (mSeq (mIfS c s1 mNx) r) (t.bind fun b => some (Out.rt b)) sl' A := fun ρ S s o e => by
  obtain ⟨S1, q, a1⟩ := hc ρ S s true rfl
  rw [seq_nx q]
  obtain ⟨b, e2, e⟩ := bnd e
  cases e
  obtain ⟨ρ2, S2, q2, a2⟩ := ha ρ S1 (s.grow a1) b e2
  exact ⟨_, ρ2, S2, rt_seq q2, rfl, a2⟩
theorem sb_ifrF {c : MTst} {tb : Option (Out σ α)} {sl' : σ → List Sl} (hc : XT S0 sl c (some false)) (ha : SB S0 sl r tb sl' A) : SB S0 sl (mSeq (mIfS c s1 mNx) r) tb sl' A := fun ρ S s o e => by
  obtain ⟨S1, q, a1⟩ := hc ρ S s false rfl
  rw [seq_nx q]
  exact ha ρ S1 (s.grow a1) o e
theorem sb_ifT {c : MTst} {tb : Option (Out σ α)} {sl' : σ → List Sl} (hc : XT S0 sl c (some true)) (ha : SB S0 sl s1 tb sl' A) : SB S0 sl (mIfS c s1 s2) tb sl' A := fun ρ S s b e => by
  obtain ⟨S1, q, a1⟩ := hc ρ S s true rfl
  unfold mIfS
  rw [q]
  exact ha ρ S1 (s.grow a1) b e
theorem sb_ifF {c : MTst} {tb : Option (Out σ α)} {sl' : σ → List Sl} (hc : XT S0 sl c (some false)) (ha : SB S0 sl s2 tb sl' A) : SB S0 sl (mIfS c s1 s2) tb sl' A := fun ρ S s b e => by
  obtain ⟨S1, q, a1⟩ := hc ρ S s false rfl
  unfold mIfS
  rw [q]
  exact ha ρ S1 (s.grow a1) b e
theorem xe_ifT {c : MTst} (hc : XT S0 sl c (some true)) (ha : XE S0 sl m1 t A) : XE S0 sl (mIf c m1 m2) t A := fun ρ S s b e => by
  obtain ⟨S1, q, a1⟩ := hc ρ S s true rfl
  obtain ⟨S2, q2, a2⟩ := ha ρ S1 (s.grow a1) b e
  refine ⟨S2, ?_, a1.trans a2⟩
  show ((c ρ S).bind fun p => if p.1 then m1 ρ p.2 else m2 ρ p.2) = _
  rw [q]
  exact q2
theorem xe_ifF {c : MTst} (hc : XT S0 sl c (some false)) (ha : XE S0 sl m2 t A) : XE S0 sl (mIf c m1 m2) t A := fun ρ S s b e => by
  obtain ⟨S1, q, a1⟩ := hc ρ S s false rfl
  obtain ⟨S2, q2, a2⟩ := ha ρ S1 (s.grow a1) b e
  refine ⟨S2, ?_, a1.trans a2⟩
  show ((c ρ S).bind fun p => if p.1 then m1 ρ p.2 else m2 ρ p.2) = _
  rw [q]
  exact q2
/-! an option's two cases -/
theorem sr_case {slf : Option γ → List Sl} {o : Option γ} {tn : Option α} {ts : γ → Option α} (hn : SR S0 (slf none) r tn A) (hs : ∀ x, SR S0 (slf (some x)) r (ts x) A) : SR S0 (slf o) r (o.elim tn ts) A := by
  cases o with
  | none => exact hn
  | some x => exact hs x
theorem sn_case {slf : Option γ → List Sl} {o : Option γ} {tn : Option σ} {ts : γ → Option σ} {sl' : σ → List Sl} (hn : SN S0 (slf none) r tn sl') (hs : ∀ x, SN S0 (slf (some x)) r (ts x) sl') : SN S0 (slf o) r (o.elim tn ts) sl' := by
  cases o with
  | none => exact hn
  | some x => exact hs x
theorem sb_case {slf : Option γ → List Sl} {o : Option γ} {tn : Option (Out σ α)} {ts : γ → Option (Out σ α)} {sl' : σ → List Sl} (hn : SB S0 (slf none) r tn sl' A) (hs : ∀ x, SB S0 (slf (some x)) r (ts x) sl' A) : SB S0 (slf o) r (o.elim tn ts) sl' A := by
  cases o with
  | none => exact hn
  | some x => exact hs x
theorem xe_case {slf : Option γ → List Sl} {o : Option γ} {tn : Option α} {ts : γ → Option α} (hn : XE S0 (slf none) m tn A) (hs : ∀ x, XE S0 (slf (some x)) m (ts x) A) : XE S0 (slf o) m (o.elim tn ts) A := by
  cases o with
  | none => exact hn
  | some x => exact hs x
theorem xt_case {slf : Option γ → List Sl} {o : Option γ} {c : MTst} {tn : Option Bool} {ts : γ → Option Bool} (hn : XT S0 (slf none) c tn) (hs : ∀ x, XT S0 (slf (some x)) c (ts x)) : XT S0 (slf o) c (o.elim tn ts) := by
  cases o with
  | none => exact hn
  | some x => exact hs x
/-! statements that fall through -/
theorem sn_nx : SN S0 sl mNx (some ()) (fun _ => sl) := fun ρ S s a e => ⟨ρ, S, rfl, s⟩
theorem sn_seq {ts : Option σ} {sl1 : σ → List Sl} {tr : σ → Option τ} {sl' : τ → List Sl} (h : SN S0 sl s1 ts sl1) (hr : ∀ x, SN S0 (sl1 x) r (tr x) sl') : SN S0 sl (mSeq s1 r) (ts.bind tr) sl' := fun ρ S s b e => by
  obtain ⟨x, e1, e⟩ := bnd e
  obtain ⟨ρ1, S1, q, s1⟩ := h ρ S s x e1
  obtain ⟨ρ2, S2, q2, a2⟩ := hr x ρ1 S1 s1 b e
  exact ⟨ρ2, S2, by unfold mSeq; rw [q]; exact q2, a2⟩
theorem sn_asg {i : Nat} (h : XE S0 sl m t A) : SN S0 sl (mAsg m (mName i)) t (fun a => sl.set i (.val (A a))) := fun ρ S s a e => by
  obtain ⟨S1, q, a1⟩ := h ρ S s a e
  exact ⟨_, S1, by unfold mAsg; rw [q]; rfl, (s.grow a1).set⟩
theorem sn_asgG {g : MTg} {sl1 : α → List Sl} (h : XE S0 sl m t A) (hg : ∀ a, XG S0 sl g (A a) (sl1 a)) : SN S0 sl (mAsg m g) t sl1 := fun ρ S s a e => by
  obtain ⟨S1, q, a1⟩ := h ρ S s a e
  obtain ⟨ρ1, q1, s1⟩ := hg a ρ S1 (s.grow a1)
  exact ⟨ρ1, S1, by unfold mAsg; rw [q]; show ((g (A a) ρ S1).bind _) = _; rw [q1]; rfl, s1⟩
theorem sn_own {i : Nat} {tx : Option (List α)} (h : XO S0 sl m tx A) : SN S0 sl (mAsg m (mName i)) tx (fun xs => sl.set i (.own (xs.map A))) := fun ρ S s a e => by
  obtain ⟨n, S1, q, a1, hn, hg⟩ := h ρ S s a e
  exact ⟨_, _, by unfold mAsg; rw [q]; rfl, s.new a1 hn hg⟩
theorem sn_st {ts : Option σ} {sl1 : σ → List Sl} {f : σ → τ} {sl' : τ → List Sl} (h : SN S0 sl s1 ts sl1) (hk : ∀ x, Wk (sl1 x) (sl' (f x))) : SN S0 sl s1 (ts.bind fun x => some (f x)) sl' := fun ρ S s b e => by
  obtain ⟨x, e1, e⟩ := bnd e
  cases e
  obtain ⟨ρ1, S1, q, k⟩ := h ρ S s x e1
  exact ⟨ρ1, S1, q, k.wk (hk x)⟩
theorem sn_if {c : MTst} {tc : Option Bool} {ta tb : Option σ} {sl' : σ → List Sl} (hc : XT S0 sl c tc) (ha : SN S0 sl s1 ta sl') (hb : SN S0 sl s2 tb sl') : SN S0 sl (mIfS c s1 s2) (tc.bind fun k => cond k ta tb) sl' := fun ρ S s b e => by
  obtain ⟨k, e1, e⟩ := bnd e
  obtain ⟨S1, q, a1⟩ := hc ρ S s k e1
  unfold mIfS
  rw [q]
  cases k with
  | true => exact ha ρ S1 (s.grow a1) b e
  | false => exact hb ρ S1 (s.grow a1) b e
/-- x.append(e) -/
def pushM {α : Type} (xs : List α) (a : α) : Option (List α) := cond (Nat.blt xs.length 16777216) (some (xs ++ [a])) none
theorem pushM_some {xs ys : List α} {a : α} (h : pushM xs a = some ys) : xs.length < szl ∧ ys = xs ++ [a] := by
  unfold pushM at h
  cases k : Nat.blt xs.length 16777216 with
  | true => rw [k] at h; cases h; exact ⟨by show xs.length < 16777216; simpa [Nat.blt_eq] using k, rfl⟩
  | false => rw [k] at h; cases h
theorem sn_app {i : Nat} {xs : List α} (h : sl[i]? = some (.own (xs.map A))) (he : XE S0 sl m t A) : SN S0 sl (mDrop (mApp (mVar i) (mCons m mNil))) (t.bind fun a => pushM xs a) (fun ys => sl.set i (.own (ys.map A))) := fun ρ S s ys e => by
  obtain ⟨a, e1, e⟩ := bnd e
  obtain ⟨hz, rfl⟩ := pushM_some e
  obtain ⟨S1, q, a1⟩ := he ρ S s a e1
  obtain ⟨k, k1, k2, k3⟩ := s.own i _ h
  have k2' := a1 _ _ k2
  refine ⟨ρ, S1.set k (.lst ((xs ++ [a]).map A)), ?_, (s.grow a1).wr h k1⟩
  unfold mDrop mApp
  have e1 : mVar i ρ S = some (.lr k, S) := by unfold mVar; rw [k1]
  rw [e1]
  show ((((mat S k).bind fun _ => (mCons m mNil ρ S).bind fun q => match q.1 with
    | [d] => (mat q.2 k).bind fun ds => if ds.length < szl then some (D.non, q.2.set k (.lst (ds ++ [d]))) else none
    | _ => none)).bind fun p => some (Fl.nx, ρ, p.2)) = _
  rw [mat_lst k2]
  have e2 : mCons m mNil ρ S = some ([A a], S1) := by simp only [mCons, mNil, q, Option.bind_some]
  show (((mCons m mNil ρ S).bind fun q => match q.1 with
    | [d] => (mat q.2 k).bind fun ds => if ds.length < szl then some (D.non, q.2.set k (.lst (ds ++ [d]))) else none
    | _ => none).bind fun p => some (Fl.nx, ρ, p.2)) = _
  rw [e2]
  show (((mat S1 k).bind fun ds => if ds.length < szl then some (D.non, S1.set k (.lst (ds ++ [A a]))) else none).bind fun p => some (Fl.nx, ρ, p.2)) = _
  rw [mat_lst k2']
  show ((if (xs.map A).length < szl then some (D.non, S1.set k (.lst (xs.map A ++ [A a]))) else none).bind fun p => some (Fl.nx, ρ, p.2)) = _
  rw [List.length_map, if_pos hz, List.map_append]
  rfl
/-- x.extend(e) -/
def extM {α : Type} (xs ys : List α) : Option (List α) := cond (Nat.ble (xs.length + ys.length) 16777216) (some (xs ++ ys)) none
theorem extM_some {xs ys zs : List α} (h : extM xs ys = some zs) : xs.length + ys.length ≤ szl ∧ zs = xs ++ ys := by
  unfold extM at h
  cases k : Nat.ble (xs.length + ys.length) 16777216 with
  | true => rw [k] at h; cases h; exact ⟨Nat.le_of_ble_eq_true k, rfl⟩
  | false => rw [k] at h; cases h
theorem sn_ext {i : Nat} {xs : List α} {ty : Option (List α)} (h : sl[i]? = some (.own (xs.map A))) (he : XE S0 sl m ty (eL A)) : SN S0 sl (mDrop (mExtV (mVar i) (mCons m mNil))) (ty.bind fun a => extM xs a) (fun ys => sl.set i (.own (ys.map A))) := fun ρ S s ys e => by
  obtain ⟨a, e1, e⟩ := bnd e
  obtain ⟨hz, rfl⟩ := extM_some e
  obtain ⟨S1, q, a1⟩ := he ρ S s a e1
  obtain ⟨k, k1, k2, k3⟩ := s.own i _ h
  have k2' := a1 _ _ k2
  refine ⟨ρ, S1.set k (.lst ((xs ++ a).map A)), ?_, (s.grow a1).wr h k1⟩
  unfold mDrop mExtV
  have e1 : mVar i ρ S = some (.lr k, S) := by unfold mVar; rw [k1]
  rw [e1]
  show (((mat S k).bind fun _ => (mCons m mNil ρ S).bind fun q => match q.1 with
    | [.lst es] => (mat q.2 k).bind fun ds => if ds.length + es.length ≤ szl then some (D.non, q.2.set k (.lst (ds ++ es))) else none
    | _ => none).bind fun p => some (Fl.nx, ρ, p.2)) = _
  rw [mat_lst k2]
  have e2 : mCons m mNil ρ S = some ([eL A a], S1) := by simp only [mCons, mNil, q, Option.bind_some]
  show (((mCons m mNil ρ S).bind fun q => match q.1 with
    | [.lst es] => (mat q.2 k).bind fun ds => if ds.length + es.length ≤ szl then some (D.non, q.2.set k (.lst (ds ++ es))) else none
    | _ => none).bind fun p => some (Fl.nx, ρ, p.2)) = _
  rw [e2]
  show (((mat S1 k).bind fun ds => if ds.length + (a.map A).length ≤ szl then some (D.non, S1.set k (.lst (ds ++ a.map A))) else none).bind fun p => some (Fl.nx, ρ, p.2)) = _
  rw [mat_lst k2']
  show ((if (xs.map A).length + (a.map A).length ≤ szl then some (D.non, S1.set k (.lst (xs.map A ++ a.map A))) else none).bind fun p => some (Fl.nx, ρ, p.2)) = _
  rw [List.length_map, List.length_map, if_pos hz, List.map_append]
  rfl
/-! new lists -/
theorem xo_of {S1 : Store} {ρ : Ev} {S : Store} {xs : List α} (q : m ρ S = some (.lr S1.length, S1 ++ [.lst (xs.map A)])) (a : All S S1) : ∃ n S2, m ρ S = some (.lr n, S2) ∧ All S S2 ∧ S.length ≤ n ∧ S2[n]? = some (.lst (xs.map A)) := ⟨_, _, q, a.trans .app, a.len, get_new⟩
theorem xo_nil : XO S0 sl (mLst mNil) (some ([] : List α)) A := fun ρ S s xs e => by cases e; exact xo_of (S1 := S) rfl .refl
theorem xo_one (h : XE S0 sl m t A) : XO S0 sl (mLst (mCons m mNil)) (t.bind fun a => some [a]) A := fun ρ S s xs e => by
  obtain ⟨a, e1, e⟩ := bnd e
  cases e
  obtain ⟨S1, q, a1⟩ := h ρ S s a e1
  refine xo_of (S1 := S1) ?_ a1
  have e2 : mCons m mNil ρ S = some ([A a], S1) := by simp only [mCons, mNil, q, Option.bind_some]
  unfold mLst
  rw [e2]
  rfl
theorem xo_listV {tx : Option (List α)} (h : XE S0 sl m tx (eV A)) : XO S0 sl (mCall cList (mCons m mNil)) tx A := fun ρ S s xs e => by
  obtain ⟨S1, q, a1⟩ := h ρ S s xs e
  refine xo_of (S1 := S1) ?_ a1
  have e2 : mCons m mNil ρ S = some ([eV A xs], S1) := by simp only [mCons, mNil, q, Option.bind_some]
  unfold mCall
  rw [e2]
  rfl
theorem xo_listL {tx : Option (List α)} (h : XE S0 sl m tx (eL A)) : XO S0 sl (mCall cList (mCons m mNil)) tx A := fun ρ S s xs e => by
  obtain ⟨S1, q, a1⟩ := h ρ S s xs e
  refine xo_of (S1 := S1) ?_ a1
  have e2 : mCons m mNil ρ S = some ([eL A xs], S1) := by simp only [mCons, mNil, q, Option.bind_some]
  unfold mCall
  rw [e2]
  rfl
/-! blocks that return or fall through -/
theorem sb_R {sl' : σ → List Sl} (h : SR S0 sl r t A) : SB S0 sl r (t.bind fun b => some (Out.rt b)) sl' A := fun ρ S s o e => by
  obtain ⟨b, e1, e⟩ := bnd e
  cases e
  obtain ⟨ρ1, S1, q, a⟩ := h ρ S s b e1
  exact ⟨_, ρ1, S1, q, rfl, a⟩
theorem sb_N {ts : Option σ} {sl' : σ → List Sl} (h : SN S0 sl r ts sl') : SB S0 sl r (ts.bind fun b => some (Out.nx b)) sl' A := fun ρ S s o e => by
  obtain ⟨b, e1, e⟩ := bnd e
  cases e
  obtain ⟨ρ1, S1, q, a⟩ := h ρ S s b e1
  exact ⟨_, ρ1, S1, q, rfl, a⟩
theorem sb_seqN {ts : Option σ} {sl1 : σ → List Sl} {tr : σ → Option (Out τ α)} {sl' : τ → List Sl} (h : SN S0 sl s1 ts sl1) (hr : ∀ x, SB S0 (sl1 x) r (tr x) sl' A) : SB S0 sl (mSeq s1 r) (ts.bind tr) sl' A := fun ρ S s b e => by
  obtain ⟨x, e1, e⟩ := bnd e
  obtain ⟨ρ1, S1, q, s1⟩ := h ρ S s x e1
  obtain ⟨f, ρ2, S2, q2, a2⟩ := hr x ρ1 S1 s1 b e
  exact ⟨f, ρ2, S2, by unfold mSeq; rw [q]; exact q2, a2⟩
theorem sb_if {c : MTst} {tc : Option Bool} {ta tb : Option (Out σ α)} {sl' : σ → List Sl} (hc : XT S0 sl c tc) (ha : SB S0 sl s1 ta sl' A) (hb : SB S0 sl s2 tb sl' A) : SB S0 sl (mIfS c s1 s2) (tc.bind fun k => cond k ta tb) sl' A := fun ρ S s b e => by
  obtain ⟨k, e1, e⟩ := bnd e
  obtain ⟨S1, q, a1⟩ := hc ρ S s k e1
  unfold mIfS
  rw [q]
  cases k with
  | true => exact ha ρ S1 (s.grow a1) b e
  | false => exact hb ρ S1 (s.grow a1) b e
theorem sb_ifr {c : MTst} {tc : Option Bool} {ta : Option α} {tb : Option (Out σ α)} {sl' : σ → List Sl} (hc : XT S0 sl c tc) (ha : SR S0 sl s1 ta A) (hb : SB S0 sl r tb sl' A) : SB S0 sl (mSeq (mIfS c s1 mNx) r) (tc.bind fun k => cond k (ta.bind fun b => some (Out.rt b)) tb) sl' A := fun ρ S s o e => by
  obtain ⟨k, e1, e⟩ := bnd e
  obtain ⟨S1, q, a1⟩ := hc ρ S s k e1
  rw [seq_nx q]
  cases k with
  | true =>
    obtain ⟨b, e2, e⟩ := bnd e
    cases e
    obtain ⟨ρ2, S2, q2, a2⟩ := ha ρ S1 (s.grow a1) b e2
    exact ⟨_, ρ2, S2, rt_seq q2, rfl, a2⟩
  | false => exact hb ρ S1 (s.grow a1) o e
theorem sb_seqB {ts : Option (Out σ α)} {sl1 : σ → List Sl} {tr : σ → Option (Out τ α)} {sl' : τ → List Sl} (h : SB S0 sl s1 ts sl1 A) (hr : ∀ x, SB S0 (sl1 x) r (tr x) sl' A) : SB S0 sl (mSeq s1 r) (ts.bind fun o => o.fin tr fun b => some (Out.rt b)) sl' A := fun ρ S s o2 e => by
  obtain ⟨o, e1, e⟩ := bnd e
  obtain ⟨f, ρ1, S1, q, k⟩ := h ρ S s o e1
  cases o with
  | nx x =>
    obtain ⟨rfl, s1⟩ := k
    obtain ⟨f2, ρ2, S2, q2, a2⟩ := hr x ρ1 S1 s1 o2 e
    exact ⟨f2, ρ2, S2, by unfold mSeq; rw [q]; exact q2, a2⟩
  | rt b' =>
    obtain ⟨rfl, a⟩ := k
    cases e
    exact ⟨_, ρ1, S1, by unfold mSeq; rw [q]; rfl, rfl, a⟩
theorem sb_st {ts : Option (Out σ α)} {sl1 : σ → List Sl} {f : σ → τ} {sl' : τ → List Sl} (h : SB S0 sl s1 ts sl1 A) (hk : ∀ x, Wk (sl1 x) (sl' (f x))) : SB S0 sl s1 (ts.bind fun o => o.fin (fun x => some (Out.nx (f x))) fun b => some (Out.rt b)) sl' A := fun ρ S s o2 e => by
  obtain ⟨o, e1, e⟩ := bnd e
  obtain ⟨f, ρ1, S1, q, k⟩ := h ρ S s o e1
  cases o with
  | nx x =>
    cases e
    obtain ⟨rfl, s1⟩ := k
    exact ⟨_, ρ1, S1, q, rfl, s1.wk (hk x)⟩
  | rt b' =>
    cases e
    exact ⟨_, ρ1, S1, q, k⟩
/-! ### targets -/
theorem xg_name {i : Nat} {d : D} : XG S0 sl (mName i) d (sl.set i (.val d)) := fun ρ S s => ⟨_, rfl, s.set⟩
theorem xgs_nil : XGs S0 sl mgNil [] sl := fun ρ S s => ⟨ρ, rfl, s⟩
theorem xgs_cons {g : MTg} {gs : MTgs} {d : D} {ds : List D} {sl1 sl2 : List Sl} (h : XG S0 sl g d sl1) (hr : XGs S0 sl1 gs ds sl2) : XGs S0 sl (mgCons g gs) (d :: ds) sl2 := fun ρ S s => by
  obtain ⟨ρ1, q1, s1⟩ := h ρ S s
  obtain ⟨ρ2, q2, s2⟩ := hr ρ1 S s1
  exact ⟨ρ2, by show ((g d ρ S).bind fun p => gs ds p.1 p.2) = _; rw [q1]; exact q2, s2⟩
theorem xg_tup {gs : MTgs} {ds : List D} {n : Nat} {sl1 : List Sl} (h : XGs S0 sl gs ds sl1) (hn : ds.length = n) : XG S0 sl (mgTup gs n) (.tup ds) sl1 := fun ρ S s => by
  obtain ⟨ρ1, q1, s1⟩ := h ρ S s
  exact ⟨ρ1, by show (if ds.length = n then gs ds ρ S else none) = _; rw [if_pos hn]; exact q1, s1⟩
theorem xg_lst {gs : MTgs} {ds : List D} {n : Nat} {sl1 : List Sl} (h : XGs S0 sl gs ds sl1) (hn : ds.length = n) : XG S0 sl (mgTupL gs n) (.lst ds) sl1 := fun ρ S s => by
  obtain ⟨ρ1, q1, s1⟩ := h ρ S s
  exact ⟨ρ1, by show (if ds.length = n then gs ds ρ S else none) = _; rw [if_pos hn]; exact q1, s1⟩
/-! ### what is walked -/
theorem xi_V {tx : Option (List α)} (h : XE S0 sl m tx (eV A)) : XI S0 sl (mItems m) tx A := fun ρ S s xs e => by
  obtain ⟨S1, q, a1⟩ := h ρ S s xs e
  exact ⟨S1, by unfold mItems; rw [q]; rfl, a1⟩
theorem xi_L {tx : Option (List α)} (h : XE S0 sl m tx (eL A)) : XI S0 sl (mItems m) tx A := fun ρ S s xs e => by
  obtain ⟨S1, q, a1⟩ := h ρ S s xs e
  exact ⟨S1, by unfold mItems; rw [q]; rfl, a1⟩
def rangeI (lo : Int) (n : Nat) : List Int := (List.range n).map fun i : Nat => lo + (i : Int)
theorem rangeI_map {lo : Int} {n : Nat} : rangeD lo n = (rangeI lo n).map eI := by
  unfold rangeD rangeI
  rw [List.map_map]
  rfl
def rng1 (j : Int) : Option (List Int) := cond (r62 j) (some (rangeI 0 j.toNat)) none
def rng2 (i j : Int) : Option (List Int) := cond (r62 i && r62 j) (some (rangeI i (j - i).toNat)) none
theorem xi_range1 {tj : Option Int} (h : XE S0 sl m tj eI) : XI S0 sl (mRange1 (mCons m mNil)) (tj.bind fun j => rng1 j) eI := fun ρ S s xs e => by
  obtain ⟨j, e1, e⟩ := bnd e
  obtain ⟨S1, q, a1⟩ := h ρ S s j e1
  have e2 : mCons m mNil ρ S = some ([eI j], S1) := by simp only [mCons, mNil, q, Option.bind_some]
  refine ⟨S1, ?_, a1⟩
  unfold mRange1
  rw [e2]
  unfold rng1 at e
  cases k : r62 j with
  | true =>
    rw [k] at e
    cases e
    show (if r62 j = true then some ((rangeD 0 j.toNat, always), S1) else none) = _
    rw [if_pos k, rangeI_map]
  | false => rw [k] at e; cases e
theorem xi_range2 {ti tj : Option Int} (h1 : XE S0 sl m1 ti eI) (h2 : XE S0 sl m2 tj eI) : XI S0 sl (mRange2 (mCons m1 (mCons m2 mNil))) (ti.bind fun i => tj.bind fun j => rng2 i j) eI := fun ρ S s xs e => by
  obtain ⟨i, e1, e⟩ := bnd e
  obtain ⟨j, e2, e⟩ := bnd e
  obtain ⟨S1, q1, a1⟩ := h1 ρ S s i e1
  obtain ⟨S2, q2, a2⟩ := h2 ρ S1 (s.grow a1) j e2
  have e2 : mCons m1 (mCons m2 mNil) ρ S = some ([eI i, eI j], S2) := by simp only [mCons, mNil, q1, q2, Option.bind_some]
  refine ⟨S2, ?_, a1.trans a2⟩
  unfold mRange2
  rw [e2]
  unfold rng2 at e
  cases k : (r62 i && r62 j) with
  | true =>
    rw [k] at e
    cases e
    show (if (r62 i && r62 j) = true then some ((rangeD i (j - i).toNat, always), S2) else none) = _
    rw [if_pos k, rangeI_map]
  | false => rw [k] at e; cases e
def enumI {α : Type} (xs : List α) : List (Int × α) := xs.mapIdx fun i a => ((i : Int), a)
theorem enumI_map {xs : List α} : enumD (xs.map A) = (enumI xs).map (eT2 eI A) := by
  unfold enumD enumI
  refine List.ext_getElem? fun i => ?_
  rw [List.getElem?_mapIdx, List.getElem?_map, List.getElem?_map, List.getElem?_mapIdx]
  cases xs[i]? <;> rfl
theorem xi_enumV {tx : Option (List α)} (h : XE S0 sl m tx (eV A)) : XI S0 sl (mEnum (mCons m mNil)) (tx.bind fun xs => some (enumI xs)) (eT2 eI A) := fun ρ S s xs e => by
  obtain ⟨ys, e1, e⟩ := bnd e
  cases e
  obtain ⟨S1, q, a1⟩ := h ρ S s ys e1
  have e2 : mCons m mNil ρ S = some ([eV A ys], S1) := by simp only [mCons, mNil, q, Option.bind_some]
  refine ⟨S1, ?_, a1⟩
  unfold mEnum
  rw [e2]
  show some ((enumD (ys.map A), always), S1) = _
  rw [enumI_map]
theorem xi_enumL {tx : Option (List α)} (h : XE S0 sl m tx (eL A)) : XI S0 sl (mEnum (mCons m mNil)) (tx.bind fun xs => some (enumI xs)) (eT2 eI A) := fun ρ S s xs e => by
  obtain ⟨ys, e1, e⟩ := bnd e
  cases e
  obtain ⟨S1, q, a1⟩ := h ρ S s ys e1
  have e2 : mCons m mNil ρ S = some ([eL A ys], S1) := by simp only [mCons, mNil, q, Option.bind_some]
  refine ⟨S1, ?_, a1⟩
  unfold mEnum
  rw [e2]
  show some ((enumD (ys.map A), always), S1) = _
  rw [enumI_map]
/-! ### loops -/
def loopN {α σ : Type} (f : α → σ → Option σ) : List α → σ → Option σ
  | [], s => some s
  | x :: xs, s => (f x s).bind fun s' => loopN f xs s'
def loopR {α σ β : Type} (f : α → σ → Option (Out σ β)) : List α → σ → Option (Out σ β)
  | [], s => some (.nx s)
  | x :: xs, s => (f x s).bind fun o => o.fin (fun s' => loopR f xs s') fun b => some (.rt b)
def stepL (g : MTg) (b : MStm) (r : List D) : Fl → Ev → Store → Option (Fl × Ev × Store)
  | .nx, ρ, S => forL always g b r ρ S
  | .ct, ρ, S => forL always g b r ρ S
  | .bk, ρ, S => some (.nx, ρ, S)
  | .rt d, ρ, S => some (.rt d, ρ, S)
theorem forL_cons {g : MTg} {b : MStm} {x : D} {r : List D} {ρ ρ1 ρ2 : Ev} {S S1 S2 : Store} {f : Fl} (q1 : g x ρ S = some (ρ1, S1)) (q2 : b ρ1 S1 = some (f, ρ2, S2)) : forL always g b (x :: r) ρ S = stepL g b r f ρ2 S2 := by
  show (if always S = true then (g x ρ S).bind fun p => (b p.1 p.2).bind fun q => (match q.1 with
    | .nx => forL always g b r q.2.1 q.2.2
    | .ct => forL always g b r q.2.1 q.2.2
    | .bk => some (.nx, q.2.1, q.2.2)
    | .rt d => some (.rt d, q.2.1, q.2.2)) else none) = _
  rw [if_pos (show always S = true from rfl), q1]
  show ((b ρ1 S1).bind fun q => (match q.1 with
    | .nx => forL always g b r q.2.1 q.2.2
    | .ct => forL always g b r q.2.1 q.2.2
    | .bk => some (.nx, q.2.1, q.2.2)
    | .rt d => some (.rt d, q.2.1, q.2.2))) = _
  rw [q2]
  cases f <;> rfl
theorem sn_for {i : MItr} {g : MTg} {b : MStm} {ti : Option (List α)} {tb : α → σ → Option σ} {s0 : σ} {slσ : σ → List Sl} {slg : σ → α → List Sl} (hi : XI S0 sl i ti A) (hw : Wk sl (slσ s0)) (hg : ∀ s a, XG S0 (slσ s) g (A a) (slg s a)) (hb : ∀ s a, SN S0 (slg s a) b (tb a s) slσ) :
    SN S0 sl (mFor i g b) (ti.bind fun xs => loopN tb xs s0) slσ := fun ρ S s s' e => by
  obtain ⟨xs, e1, e⟩ := bnd e
  obtain ⟨S1, q, a1⟩ := hi ρ S s xs e1
  have go : ∀ (xs : List α) (s0 : σ) (ρ : Ev) (S : Store), Sx S0 (slσ s0) ρ S → loopN tb xs s0 = some s' → ∃ ρ' S', forL always g b (xs.map A) ρ S = some (.nx, ρ', S') ∧ Sx S0 (slσ s') ρ' S' := by
    intro xs
    induction xs with
    | nil => intro s0 ρ S k e; cases e; exact ⟨ρ, S, rfl, k⟩
    | cons x xs ih =>
      intro s0 ρ S k e
      obtain ⟨s1, e2, e⟩ := bnd e
      obtain ⟨ρ1, q1, k1⟩ := hg s0 x ρ S k
      obtain ⟨ρ2, S2, q2, k2⟩ := hb s0 x ρ1 S k1 s1 e2
      obtain ⟨ρ3, S3, q3, k3⟩ := ih s1 ρ2 S2 k2 e
      exact ⟨ρ3, S3, by rw [List.map_cons, forL_cons q1 q2]; exact q3, k3⟩
  obtain ⟨ρ', S', q2, k2⟩ := go xs s0 ρ S1 ((s.grow a1).wk hw) e
  exact ⟨ρ', S', by unfold mFor; rw [q]; exact q2, k2⟩
theorem sb_for {i : MItr} {g : MTg} {b : MStm} {ti : Option (List α)} {tb : α → σ → Option (Out σ β)} {s0 : σ} {slσ : σ → List Sl} {slg : σ → α → List Sl} (hi : XI S0 sl i ti A) (hw : Wk sl (slσ s0)) (hg : ∀ s a, XG S0 (slσ s) g (A a) (slg s a)) (hb : ∀ s a, SB S0 (slg s a) b (tb a s) slσ B) :
    SB S0 sl (mFor i g b) (ti.bind fun xs => loopR tb xs s0) slσ B := fun ρ S s o e => by
  obtain ⟨xs, e1, e⟩ := bnd e
  obtain ⟨S1, q, a1⟩ := hi ρ S s xs e1
  have go : ∀ (xs : List α) (s0 : σ) (ρ : Ev) (S : Store), Sx S0 (slσ s0) ρ S → loopR tb xs s0 = some o → ∃ f ρ' S', forL always g b (xs.map A) ρ S = some (f, ρ', S') ∧ OutOk S0 slσ B f ρ' S' o := by
    intro xs
    induction xs with
    | nil => intro s0 ρ S k e; cases e; exact ⟨_, ρ, S, rfl, rfl, k⟩
    | cons x xs ih =>
      intro s0 ρ S k e
      obtain ⟨o1, e2, e⟩ := bnd e
      obtain ⟨ρ1, q1, k1⟩ := hg s0 x ρ S k
      obtain ⟨f2, ρ2, S2, q2, k2⟩ := hb s0 x ρ1 S k1 o1 e2
      have un : forL always g b ((x :: xs).map A) ρ S = stepL g b (xs.map A) f2 ρ2 S2 := by rw [List.map_cons, forL_cons q1 q2]
      cases o1 with
      | nx s1 =>
        obtain ⟨rfl, k2⟩ := k2
        obtain ⟨f3, ρ3, S3, q3, k3⟩ := ih s1 ρ2 S2 k2 e
        exact ⟨f3, ρ3, S3, by rw [un]; exact q3, k3⟩
      | rt b' =>
        cases e
        obtain ⟨rfl, k2⟩ := k2
        exact ⟨_, ρ2, S2, by rw [un]; rfl, rfl, k2⟩
  obtain ⟨f, ρ', S', q2, k2⟩ := go xs s0 ρ S1 ((s.grow a1).wk hw) e
  exact ⟨f, ρ', S', by unfold mFor; rw [q]; exact q2, k2⟩
def whileT {σ : Type} (c : σ → Option Bool) (b : σ → Option σ) : Nat → σ → Option σ
  | 0, _ => none
  | n + 1, s => (c s).bind fun k => cond k ((b s).bind fun s' => whileT c b n s') (some s)
theorem sn_while {n : Nat} {c : MTst} {b : MStm} {tc : σ → Option Bool} {tb : σ → Option σ} {s0 : σ} {slσ : σ → List Sl} (hw : Wk sl (slσ s0)) (hc : ∀ s, XT S0 (slσ s) c (tc s)) (hb : ∀ s, SN S0 (slσ s) b (tb s) slσ) :
    SN S0 sl (whileN c b n) (whileT tc tb n s0) slσ := fun ρ S s s' e => by
  have go : ∀ (n : Nat) (s0 : σ) (ρ : Ev) (S : Store), Sx S0 (slσ s0) ρ S → whileT tc tb n s0 = some s' → ∃ ρ' S', whileN c b n ρ S = some (.nx, ρ', S') ∧ Sx S0 (slσ s') ρ' S' := by
    intro n
    induction n with
    | zero => intro s0 ρ S k e; cases e
    | succ n ih =>
      intro s0 ρ S k e
      obtain ⟨k', e2, e⟩ := bnd e
      obtain ⟨S1, q1, a1⟩ := hc s0 ρ S k k' e2
      cases k' with
      | true =>
        obtain ⟨s1, e3, e⟩ := bnd e
        obtain ⟨ρ2, S2, q2, k2⟩ := hb s0 ρ S1 (k.grow a1) s1 e3
        obtain ⟨ρ3, S3, q3, k3⟩ := ih s1 ρ2 S2 k2 e
        refine ⟨ρ3, S3, ?_, k3⟩
        show ((c ρ S).bind fun p => if p.1 then (b ρ p.2).bind fun q => (match q.1 with
          | .nx => whileN c b n q.2.1 q.2.2
          | .ct => whileN c b n q.2.1 q.2.2
          | .bk => some (.nx, q.2.1, q.2.2)
          | .rt d => some (.rt d, q.2.1, q.2.2)) else some (.nx, ρ, p.2)) = _
        rw [q1]
        show ((b ρ S1).bind fun q => (match q.1 with
          | .nx => whileN c b n q.2.1 q.2.2
          | .ct => whileN c b n q.2.1 q.2.2
          | .bk => some (.nx, q.2.1, q.2.2)
          | .rt d => some (.rt d, q.2.1, q.2.2))) = _
        rw [q2]
        exact q3
      | false =>
        cases e
        refine ⟨ρ, S1, ?_, k.grow a1⟩
        show ((c ρ S).bind fun p => if p.1 then (b ρ p.2).bind fun q => (match q.1 with
          | .nx => whileN c b n q.2.1 q.2.2
          | .ct => whileN c b n q.2.1 q.2.2
          | .bk => some (.nx, q.2.1, q.2.2)
          | .rt d => some (.rt d, q.2.1, q.2.2)) else some (.nx, ρ, p.2)) = _
        rw [q1]
        rfl
  exact go n s0 ρ S (s.wk hw) e
/-! ### comprehensions -/
def compGo {α β : Type} (c : α → Option Bool) (f : α → Option β) : List α → Option (List β)
  | [] => some []
  | x :: xs => (c x).bind fun k => cond k ((f x).bind fun y => (compGo c f xs).bind fun ys => some (y :: ys)) (compGo c f xs)
def compM {α β : Type} (c : α → Option Bool) (f : α → Option β) (xs : List α) : Option (List β) := cond (Nat.ble xs.length 16777216) (compGo c f xs) none
theorem compM_some {c : α → Option Bool} {f : α → Option β} {xs : List α} {ys : List β} (h : compM c f xs = some ys) : xs.length ≤ szl ∧ compGo c f xs = some ys := by
  unfold compM at h
  cases k : Nat.ble xs.length 16777216 with
  | true => rw [k] at h; exact ⟨Nat.le_of_ble_eq_true k, h⟩
  | false => rw [k] at h; cases h
theorem xe_lc {i : MItr} {g : MTg} {c : MTst} {e : MExp} {vs : List Nat} {ti : Option (List α)} {tc : α → Option Bool} {te : α → Option β} {slg : α → List Sl} (hi : XI S0 sl i ti A) (hg : ∀ a, XG S0 (wipeS sl vs) g (A a) (slg a)) (hc : ∀ a, XT S0 (slg a) c (tc a)) (he : ∀ a, XE S0 (slg a) e (te a) B) :
    XE S0 sl (mFz (mLc i g c e vs)) (ti.bind fun xs => compM tc te xs) (eL B) := fun ρ S s ys eq => by
  obtain ⟨xs, e1, eq⟩ := bnd eq
  obtain ⟨hz, eq⟩ := compM_some eq
  obtain ⟨S1, q, a1⟩ := hi ρ S s xs e1
  have s1 := (s.grow a1).wipe vs
  have go : ∀ (xs : List α) (ys acc : List β) (T : Store), All S1 T → T[S1.length]? = some (.lst (acc.map B)) → acc.length + xs.length ≤ szl → compGo tc te xs = some ys →
      ∃ T', lcL always g c e (wipeD ρ vs) S1.length (xs.map A) T = some T' ∧ All S1 T' ∧ T'[S1.length]? = some (.lst ((acc ++ ys).map B)) := by
    intro xs
    induction xs with
    | nil => intro ys acc T a h hz eq; cases eq; exact ⟨T, rfl, a, by rw [List.append_nil]; exact h⟩
    | cons x xs ih =>
      intro ys acc T a h hz eq
      obtain ⟨k, e2, eq⟩ := bnd eq
      obtain ⟨ρ1, q1, k1⟩ := hg x (wipeD ρ vs) T (s1.grow a)
      obtain ⟨T2, q2, a2⟩ := hc x ρ1 T k1 k e2
      have hl : acc.length + (xs.length + 1) ≤ szl := hz
      have un : lcL always g c e (wipeD ρ vs) S1.length ((x :: xs).map A) T = (if k = true then (e ρ1 T2).bind fun y => (mat y.2 S1.length).bind fun acc =>
          if acc.length < szl then lcL always g c e (wipeD ρ vs) S1.length (xs.map A) (y.2.set S1.length (.lst (acc ++ [y.1]))) else none
        else lcL always g c e (wipeD ρ vs) S1.length (xs.map A) T2) := by
        show (if always T = true then (g (A x) (wipeD ρ vs) T).bind fun p => (c p.1 p.2).bind fun k => if k.1 then (e p.1 k.2).bind fun y => (mat y.2 S1.length).bind fun acc =>
            if acc.length < szl then lcL always g c e (wipeD ρ vs) S1.length (xs.map A) (y.2.set S1.length (.lst (acc ++ [y.1]))) else none
          else lcL always g c e (wipeD ρ vs) S1.length (xs.map A) k.2 else none) = _
        rw [if_pos (show always T = true from rfl), q1]
        show ((c ρ1 T).bind fun k => if k.1 then (e ρ1 k.2).bind fun y => (mat y.2 S1.length).bind fun acc =>
            if acc.length < szl then lcL always g c e (wipeD ρ vs) S1.length (xs.map A) (y.2.set S1.length (.lst (acc ++ [y.1]))) else none
          else lcL always g c e (wipeD ρ vs) S1.length (xs.map A) k.2) = _
        rw [q2]
        rfl
      cases k with
      | true =>
        obtain ⟨y, e3, eq⟩ := bnd eq
        obtain ⟨zs, e4, eq⟩ := bnd eq
        cases eq
        obtain ⟨T3, q3, a3⟩ := he x ρ1 T2 (k1.grow a2) y e3
        have h3 := a3 _ _ (a2 _ _ h)
        obtain ⟨T4, q4, a4, h4⟩ := ih zs (acc ++ [y]) (T3.set S1.length (.lst ((acc ++ [y]).map B))) (((a.trans a2).trans a3).wr (Nat.le_refl _)) (get_set h3) (by rw [List.length_append, List.length_singleton]; omega) e4
        refine ⟨T4, ?_, a4, by rw [h4, List.append_assoc]; rfl⟩
        rw [un, if_pos rfl, q3]
        show ((mat T3 S1.length).bind fun acc => if acc.length < szl then lcL always g c e (wipeD ρ vs) S1.length (xs.map A) (T3.set S1.length (.lst (acc ++ [B y]))) else none) = _
        rw [mat_lst h3]
        show (if (acc.map B).length < szl then lcL always g c e (wipeD ρ vs) S1.length (xs.map A) (T3.set S1.length (.lst (acc.map B ++ [B y]))) else none) = _
        rw [List.length_map, if_pos (by omega)]
        rw [List.map_append] at q4
        exact q4
      | false =>
        obtain ⟨T4, q4, a4, h4⟩ := ih ys acc T2 (a.trans a2) (a2 _ _ h) (by omega) eq
        exact ⟨T4, by rw [un]; exact q4, a4, h4⟩
  obtain ⟨T, q2, a2, h2⟩ := go xs ys [] (S1 ++ [.lst []]) .app get_new (by rw [List.length_nil, Nat.zero_add]; exact hz) eq
  refine ⟨T.set S1.length .gone, ?_, a1.trans (a2.wr (Nat.le_refl _))⟩
  have e5 : mLc i g c e vs ρ S = some (.lr S1.length, T) := by
    unfold mLc
    rw [q]
    show ((lcL always g c e (wipeD ρ vs) S1.length (xs.map A) (S1 ++ [.lst []])).bind fun S2 => some (D.lr S1.length, S2)) = _
    rw [q2]
    rfl
  unfold mFz
  rw [e5]
  show fzD T (.lr S1.length) = _
  unfold fzD
  simp only [h2, List.nil_append]
/-! ### a def -/
theorem sx_start {S : Store} {ds : List D} {n : Nat} : Sx S (ds.map Sl.val ++ List.replicate (n - ds.length) Sl.unk) (startD n ds) S := by
  unfold startD
  refine ⟨.refl, by simp, fun i d h => ?_, fun i es h => ?_, fun i j es fs g h => ?_⟩
  · by_cases hi : i < ds.length
    · rw [List.getElem?_append_left (by rw [List.length_map]; exact hi), List.getElem?_map] at h
      rw [List.getElem?_append_left (by rw [List.length_map]; exact hi), List.getElem?_map]
      obtain ⟨x, h1, h2⟩ := Option.map_eq_some_iff.mp h
      cases h2
      rw [h1]; rfl
    · rw [List.getElem?_append_right (by rw [List.length_map]; omega), List.getElem?_replicate] at h
      split at h <;> cases h
  · by_cases hi : i < ds.length
    · rw [List.getElem?_append_left (by rw [List.length_map]; exact hi), List.getElem?_map] at h
      obtain ⟨x, h1, h2⟩ := Option.map_eq_some_iff.mp h
      cases h2
    · rw [List.getElem?_append_right (by rw [List.length_map]; omega), List.getElem?_replicate] at h
      split at h <;> cases h
  · by_cases hi : i < ds.length
    · rw [List.getElem?_append_left (by rw [List.length_map]; exact hi), List.getElem?_map] at h
      obtain ⟨x, h1, h2⟩ := Option.map_eq_some_iff.mp h
      cases h2
    · rw [List.getElem?_append_right (by rw [List.length_map]; omega), List.getElem?_replicate] at h
      split at h <;> cases h
theorem gvs_of {np n : Nat} {M : MStm} {ds : List D} (hl : ds.length = np) (h : ∀ S, SR S (ds.map Sl.val ++ List.replicate (n - ds.length) Sl.unk) M t A) : Gvs (den np n M) ds t A := fun a e S => by
  obtain ⟨ρ', S', q, k⟩ := h S _ S sx_start a e
  refine ⟨S', ?_, k⟩
  unfold den
  rw [if_pos hl, q]
end
end TM

set_option Elab.async false
set_option linter.all false
set_option maxRecDepth 100000
set_option maxHeartbeats 4000000
namespace TM
open PySem PySem.Spec PyProof.Rows L2 MS
/-! ### equality by value -/
structure Fa {α : Type} [DecidableEq α] (A : α → D) (dep : Nat) where
  py : α → PyData
  toPy_ : ∀ (n : Nat) (S : Store) (a : α), dep < n → toPy S n (A a) = some (py a)
  can : ∀ a, (py a).canLay0 = true
  dp : ∀ a, (py a).depth ≤ dep
  eq : ∀ a b, PyData.eqv (py a) (py b) = decide (a = b)
theorem beq_dec {α : Type} [DecidableEq α] (a b : α) : (a == b) = decide (a = b) := rfl
def faI : Fa eI 0 := ⟨fun i => .int i, fun n S a h => by cases n with | zero => omega | succ n => rfl, fun _ => rfl, fun _ => Nat.le_refl _, fun a b => by rw [PyData.eqv]; rfl⟩
def faB : Fa eB 0 := ⟨fun i => .bool i, fun n S a h => by cases n with | zero => omega | succ n => rfl, fun _ => rfl, fun _ => Nat.le_refl _, fun a b => by rw [PyData.eqv]; cases a <;> cases b <;> rfl⟩
section
variable {α β γ δ : Type} [DecidableEq α] [DecidableEq β] [DecidableEq γ] [DecidableEq δ] {A : α → D} {B : β → D} {C : γ → D} {E : δ → D} {da db dc de : Nat}
theorem mapM_fa (f : Fa A da) {n : Nat} {S : Store} (h : da < n) : ∀ xs : List α, (xs.map A).mapM (toPy S n) = some (xs.map f.py)
  | [] => rfl
  | x :: xs => by
    rw [List.map_cons, List.mapM_cons, f.toPy_ n S x h, mapM_fa f h xs]
    rfl
theorem canAll_fa (f : Fa A da) : ∀ xs : List α, PyData.canLayAll0 (xs.map f.py) = true
  | [] => rfl
  | x :: xs => by
    show (PyData.canLay0 (f.py x) && PyData.canLayAll0 (xs.map f.py)) = true
    rw [f.can, canAll_fa f xs]; rfl
theorem dpAll_fa (f : Fa A da) : ∀ xs : List α, PyData.depthAll (xs.map f.py) ≤ da
  | [] => Nat.zero_le _
  | x :: xs => by
    show max (PyData.depth (f.py x)) (PyData.depthAll (xs.map f.py)) ≤ da
    exact Nat.max_le.mpr ⟨f.dp x, dpAll_fa f xs⟩
theorem eqvAll_fa (f : Fa A da) : ∀ xs ys : List α, PyData.eqvAll (xs.map f.py) (ys.map f.py) = decide (xs = ys)
  | [], [] => by rw [List.map_nil, PyData.eqvAll]; rfl
  | [], y :: ys => by rw [List.map_nil, List.map_cons, PyData.eqvAll]; rfl
  | x :: xs, [] => by rw [List.map_nil, List.map_cons, PyData.eqvAll]; rfl
  | x :: xs, y :: ys => by
    rw [List.map_cons, List.map_cons, PyData.eqvAll, f.eq, eqvAll_fa f xs ys]
    by_cases h1 : x = y <;> by_cases h2 : xs = ys <;> simp [h1, h2]
def faV (f : Fa A da) : Fa (eV A) (da + 1) where
  py xs := .tuple (xs.map f.py)
  toPy_ n S xs h := by
    cases n with
    | zero => omega
    | succ n => show ((xs.map A).mapM (toPy S n)).map PyData.tuple = _; rw [mapM_fa f (by omega)]; rfl
  can xs := canAll_fa f xs
  dp xs := Nat.succ_le_succ (dpAll_fa f xs)
  eq xs ys := by rw [PyData.eqv, eqvAll_fa]
def faL (f : Fa A da) : Fa (eL A) (da + 1) where
  py xs := .list (xs.map f.py)
  toPy_ n S xs h := by
    cases n with
    | zero => omega
    | succ n => show ((xs.map A).mapM (toPy S n)).map PyData.list = _; rw [mapM_fa f (by omega)]; rfl
  can xs := canAll_fa f xs
  dp xs := Nat.succ_le_succ (dpAll_fa f xs)
  eq xs ys := by rw [PyData.eqv, eqvAll_fa]
def faT2 (f : Fa A da) (g : Fa B db) : Fa (eT2 A B) (max da db + 1) where
  py p := .tuple [f.py p.1, g.py p.2]
  toPy_ n S p h := by
    cases n with
    | zero => omega
    | succ n =>
      show (([A p.1, B p.2] : List D).mapM (toPy S n)).map PyData.tuple = _
      rw [List.mapM_cons, List.mapM_cons, f.toPy_ n S _ (by omega), g.toPy_ n S _ (by omega)]
      rfl
  can p := by show (PyData.canLay0 _ && (PyData.canLay0 _ && true)) = true; rw [f.can, g.can]; rfl
  dp p := by
    have h1 := f.dp p.1
    have h2 := g.dp p.2
    show max (PyData.depth _) (max (PyData.depth _) 0) + 1 ≤ _
    omega
  eq p q := by
    rw [PyData.eqv, PyData.eqvAll, PyData.eqvAll, PyData.eqvAll, f.eq, g.eq]
    by_cases h1 : p.1 = q.1 <;> by_cases h2 : p.2 = q.2 <;> simp [h1, h2, Prod.ext_iff]
def faT3 (f : Fa A da) (g : Fa B db) (k : Fa C dc) : Fa (eT3 A B C) (max da (max db dc) + 1) where
  py p := .tuple [f.py p.1, g.py p.2.1, k.py p.2.2]
  toPy_ n S p h := by
    cases n with
    | zero => omega
    | succ n =>
      show (([A p.1, B p.2.1, C p.2.2] : List D).mapM (toPy S n)).map PyData.tuple = _
      rw [List.mapM_cons, List.mapM_cons, List.mapM_cons, f.toPy_ n S _ (by omega), g.toPy_ n S _ (by omega), k.toPy_ n S _ (by omega)]
      rfl
  can p := by show (PyData.canLay0 _ && (PyData.canLay0 _ && (PyData.canLay0 _ && true))) = true; rw [f.can, g.can, k.can]; rfl
  dp p := by
    have h1 := f.dp p.1
    have h2 := g.dp p.2.1
    have h3 := k.dp p.2.2
    show max (PyData.depth _) (max (PyData.depth _) (max (PyData.depth _) 0)) + 1 ≤ _
    omega
  eq p q := by
    rw [PyData.eqv, PyData.eqvAll, PyData.eqvAll, PyData.eqvAll, PyData.eqvAll, f.eq, g.eq, k.eq]
    by_cases h1 : p.1 = q.1 <;> by_cases h2 : p.2.1 = q.2.1 <;> by_cases h3 : p.2.2 = q.2.2 <;> simp [h1, h2, h3, Prod.ext_iff]
def faT4 (f : Fa A da) (g : Fa B db) (k : Fa C dc) (l : Fa E de) : Fa (eT4 A B C E) (max da (max db (max dc de)) + 1) where
  py p := .tuple [f.py p.1, g.py p.2.1, k.py p.2.2.1, l.py p.2.2.2]
  toPy_ n S p h := by
    cases n with
    | zero => omega
    | succ n =>
      show (([A p.1, B p.2.1, C p.2.2.1, E p.2.2.2] : List D).mapM (toPy S n)).map PyData.tuple = _
      rw [List.mapM_cons, List.mapM_cons, List.mapM_cons, List.mapM_cons, f.toPy_ n S _ (by omega), g.toPy_ n S _ (by omega), k.toPy_ n S _ (by omega), l.toPy_ n S _ (by omega)]
      rfl
  can p := by show (PyData.canLay0 _ && (PyData.canLay0 _ && (PyData.canLay0 _ && (PyData.canLay0 _ && true)))) = true; rw [f.can, g.can, k.can, l.can]; rfl
  dp p := by
    have h1 := f.dp p.1
    have h2 := g.dp p.2.1
    have h3 := k.dp p.2.2.1
    have h4 := l.dp p.2.2.2
    show max (PyData.depth _) (max (PyData.depth _) (max (PyData.depth _) (max (PyData.depth _) 0))) + 1 ≤ _
    omega
  eq p q := by
    rw [PyData.eqv, PyData.eqvAll, PyData.eqvAll, PyData.eqvAll, PyData.eqvAll, PyData.eqvAll, f.eq, g.eq, k.eq, l.eq]
    by_cases h1 : p.1 = q.1 <;> by_cases h2 : p.2.1 = q.2.1 <;> by_cases h3 : p.2.2.1 = q.2.2.1 <;> by_cases h4 : p.2.2.2 = q.2.2.2 <;> simp [h1, h2, h3, h4, Prod.ext_iff]
theorem nn_of {f : Fa A da} (h : ∀ a, (∃ xs, f.py a = .tuple xs) ∨ (∃ xs, f.py a = .list xs) ∨ ∃ i, f.py a = .int i) (a : α) : PyData.eqv .none (f.py a) = false ∧ PyData.eqv (f.py a) .none = false := by
  rcases h a with ⟨xs, e⟩ | ⟨xs, e⟩ | ⟨i, e⟩ <;> rw [e] <;> exact ⟨by rw [PyData.eqv], by rw [PyData.eqv]⟩
def faO (f : Fa A da) (hn : ∀ a, (∃ xs, f.py a = .tuple xs) ∨ (∃ xs, f.py a = .list xs) ∨ ∃ i, f.py a = .int i) : Fa (eO A) da where
  py o := match o with | none => .none | some a => f.py a
  toPy_ n S o h := by
    cases o with
    | none => cases n with | zero => omega | succ n => rfl
    | some a => exact f.toPy_ n S a h
  can o := by cases o with | none => rfl | some a => exact f.can a
  dp o := by cases o with | none => exact Nat.zero_le _ | some a => exact f.dp a
  eq o p := by
    cases o with
    | none => cases p with
      | none => show PyData.eqv .none .none = _; rw [PyData.eqv]; rfl
      | some b => show PyData.eqv .none (f.py b) = _; rw [(nn_of hn b).1]; rfl
    | some a => cases p with
      | none => show PyData.eqv (f.py a) .none = _; rw [(nn_of hn a).2]; rfl
      | some b => show PyData.eqv (f.py a) (f.py b) = _; rw [f.eq]; simp
theorem fEqG_fa (f : Fa A da) (hd : da < 64) {g : Bool → Bool} (a b : α) (S : Store) : fEqG g (A a) (A b) S = some (.bl (g (decide (a = b))), S) := by
  unfold fEqG
  rw [f.toPy_ 64 S a hd, f.toPy_ 64 S b hd]
  have sh : ∀ a, SeqAt.shaped (f.py a) = true := fun a => by
    unfold SeqAt.shaped
    rw [f.can, Bool.true_and]
    have := f.dp a
    exact decide_eq_true (by omega)
  show (if (SeqAt.shaped (f.py a) && SeqAt.shaped (f.py b)) = true then some (D.bl (g (PyData.eqv (f.py a) (f.py b))), S) else none) = _
  rw [sh, sh, if_pos (show (true && true) = true from rfl), f.eq]
theorem toPy_int {S : Store} {n : Nat} {i : Int} {p : PyData} (h : toPy S (n + 1) (.int i) = some p) : p = .int i := by cases h; rfl
theorem toPy_str {S : Store} {n : Nat} {i : Str} {p : PyData} (h : toPy S (n + 1) (.str i) = some p) : p = .str i := by cases h; rfl
theorem op_eq_ (f : Fa A da) (hd : da < 64) : Op2 fEq A A eB (fun a b => some (decide (a = b))) := fun a b c S e => by
  cases e
  unfold fEq
  split
  · rename_i i j h1 h2
    have e1 := toPy_int (h1 ▸ f.toPy_ 64 S a hd)
    have e2 := toPy_int (h2 ▸ f.toPy_ 64 S b hd)
    have := f.eq a b
    rw [e1, e2, PyData.eqv] at this
    show some (D.bl (decide (i = j)), S) = _
    rw [show decide (i = j) = (i == j) from rfl, this]
  · rename_i i j h1 h2
    have e1 := toPy_str (h1 ▸ f.toPy_ 64 S a hd)
    have e2 := toPy_str (h2 ▸ f.toPy_ 64 S b hd)
    have := f.eq a b
    rw [e1, e2, PyData.eqv] at this
    show some (D.bl (decide (i = j)), S) = _
    rw [show decide (i = j) = (i == j) from rfl, this]
  · exact fEqG_fa f hd a b S
theorem op_ne_ (f : Fa A da) (hd : da < 64) : Op2 fNe A A eB (fun a b => some (!decide (a = b))) := fun a b c S e => by
  cases e
  unfold fNe
  split
  · rename_i i j h1 h2
    have e1 := toPy_int (h1 ▸ f.toPy_ 64 S a hd)
    have e2 := toPy_int (h2 ▸ f.toPy_ 64 S b hd)
    have := f.eq a b
    rw [e1, e2, PyData.eqv] at this
    show some (D.bl (!decide (i = j)), S) = _
    rw [show decide (i = j) = (i == j) from rfl, this]
  · rename_i i j h1 h2
    have e1 := toPy_str (h1 ▸ f.toPy_ 64 S a hd)
    have e2 := toPy_str (h2 ▸ f.toPy_ 64 S b hd)
    have := f.eq a b
    rw [e1, e2, PyData.eqv] at this
    show some (D.bl (!decide (i = j)), S) = _
    rw [show decide (i = j) = (i == j) from rfl, this]
  · exact fEqG_fa f hd a b S
end
end TM

set_option Elab.async false
set_option linter.all false
set_option maxRecDepth 100000
set_option maxHeartbeats 4000000
namespace TM
open PySem PySem.Spec PyProof.Rows L2 MS
/-! ### operations -/
theorem op_add : Op2 fAdd eI eI eI (fun a b => some (a + b)) := fun a b c S e => by cases e; rfl
theorem op_sub : Op2 fSub eI eI eI (fun a b => some (a - b)) := fun a b c S e => by cases e; rfl
def mod_ (a b : Int) : Option Int := cond (decide (0 < b)) (some (a % b)) none
theorem op_mod : Op2 fMod eI eI eI mod_ := fun a b c S e => by
  unfold mod_ at e
  cases k : decide (0 < b) with
  | true => rw [k] at e; cases e; show (if decide (0 < b) = true then _ else _) = _; rw [if_pos k]
  | false => rw [k] at e; cases e
def divW_ (a b : Int) : Option Int := cond (decide (0 < b) && decide (b.natAbs.log2 < 9000)) (some (a / b)) none
theorem op_divW : Op2 fDivW eI eI eI divW_ := fun a b c S e => by
  unfold divW_ at e
  cases k : (decide (0 < b) && decide (b.natAbs.log2 < 9000)) with
  | true => rw [k] at e; cases e; show (if (decide (0 < b) && decide (b.natAbs.log2 < 9000)) = true then _ else _) = _; rw [if_pos k]
  | false => rw [k] at e; cases e
def mulW_ (a b : Int) : Option Int := cond (narrow a b) (some (a * b)) none
theorem op_mulW : Op2 fMulW eI eI eI mulW_ := fun a b c S e => by
  unfold mulW_ at e
  cases k : narrow a b with
  | true => rw [k] at e; cases e; show (if narrow a b = true then _ else _) = _; rw [if_pos k]
  | false => rw [k] at e; cases e
def pow_ (i j : Int) : Option Int := cond (decide (0 ≤ j) && decide (j ≤ 1000) && i64 i) (some (i ^ j.toNat)) none
theorem op_pow : Op2 fPow eI eI eI pow_ := fun a b c S e => by
  unfold pow_ at e
  cases k : (decide (0 ≤ b) && decide (b ≤ 1000) && i64 a) with
  | true => rw [k] at e; cases e; show (if (decide (0 ≤ b) && decide (b ≤ 1000) && i64 a) = true then _ else _) = _; rw [if_pos k]
  | false => rw [k] at e; cases e
theorem op_addI : Op2 (fI fun i j => i + j) eI eI eI (fun a b => some (a + b)) := fun a b c S e => by cases e; rfl
theorem op_subI : Op2 (fI fun i j => i - j) eI eI eI (fun a b => some (a - b)) := fun a b c S e => by cases e; rfl
theorem op_lt : Op2 fLt eI eI eB (fun a b => some (decide (a < b))) := fun a b c S e => by cases e; rfl
theorem op_le : Op2 fLe eI eI eB (fun a b => some (decide (a ≤ b))) := fun a b c S e => by cases e; rfl
theorem op_gt : Op2 fGt eI eI eB (fun a b => some (decide (b < a))) := fun a b c S e => by cases e; rfl
theorem op_ge : Op2 fGe eI eI eB (fun a b => some (decide (b ≤ a))) := fun a b c S e => by cases e; rfl
section
variable {α β γ δ : Type} {S0 : Store} {sl : List Sl} {m m1 m2 m3 : MExp} {A : α → D} {B : β → D} {C : γ → D} {t : Option α} {t1 : Option α} {t2 : Option β}
theorem op_catV : Op2 fAdd (eV A) (eV A) (eV A) extM := fun a b c S e => by
  obtain ⟨hz, rfl⟩ := extM_some e
  show (if (a.map A).length + (b.map A).length ≤ szl then some (D.tup (a.map A ++ b.map A), S) else none) = _
  rw [List.length_map, List.length_map, if_pos hz, ← List.map_append]
theorem op_catL : Op2 fAdd (eL A) (eL A) (eL A) extM := fun a b c S e => by
  obtain ⟨hz, rfl⟩ := extM_some e
  show (if (a.map A).length + (b.map A).length ≤ szl then some (D.lst (a.map A ++ b.map A), S) else none) = _
  rw [List.length_map, List.length_map, if_pos hz, ← List.map_append]
def atT {α : Type} (xs : List α) (i : Int) : Option α := L2.atI xs i
theorem atT_map {xs : List α} {i : Int} : L2.atI (xs.map A) i = (atT xs i).map A := by
  unfold atT L2.atI
  rw [List.length_map]
  cases L2.ixN xs.length i with
  | none => rfl
  | some j => simp
theorem op_ixV : Op2 fIx (eV A) eI A atT := fun a b c S e => by
  show (L2.atI (a.map A) b).map (fun d => (d, S)) = _
  rw [atT_map, e]; rfl
theorem op_ixL : Op2 fIx (eL A) eI A atT := fun a b c S e => by
  show (L2.atI (a.map A) b).map (fun d => (d, S)) = _
  rw [atT_map, e]; rfl
/-- a written place of a fixed tuple -/
theorem xe_ixF {k : Int} {f : α → β} (h : XE S0 sl m t A) (hE : ∀ a S, fIx (A a) (.int k) S = some (B (f a), S)) : XE S0 sl (mBin fIx m (mC (.int k))) (t.bind fun a => some (f a)) B := fun ρ S s b e => by
  obtain ⟨a, e1, e⟩ := bnd e
  cases e
  obtain ⟨S1, q1, a1⟩ := h ρ S s a e1
  refine ⟨S1, ?_, a1⟩
  unfold mBin
  rw [q1]
  exact hE a S1
theorem inV_ints (a : Int) : ∀ l : List Int, inV (.int a) (l.map V.int) = decide (a ∈ l)
  | [] => rfl
  | x :: l => by
    have ih := inV_ints a l
    unfold inV at ih ⊢
    rw [List.map_cons, List.any_cons, ih]
    show (decide (_ = _) || _) = _
    by_cases h : a = x
    · subst h; simp
    · have h' : ¬ x = a := fun z => h z.symm
      simp [h, h']
theorem inD_ints (x : Int) (l : List Int) : inD (.int x) (l.map D.int) = decide (x ∈ l) := by
  unfold inD
  rw [List.map_map]
  exact inV_ints x l
theorem flat_ints : ∀ xs : List Int, (xs.map eI).all flatD = true
  | [] => rfl
  | _ :: xs => by rw [List.map_cons, List.all_cons, flat_ints xs]; rfl
theorem op_inV : Op2 (fIn false) eI (eV eI) eB (fun x xs => some (decide (x ∈ xs))) := fun a b c S e => by
  cases e
  show (if (flatD (eI a) && (b.map eI).all flatD) = true then some (D.bl (if false = true then !inD (eI a) (b.map eI) else inD (eI a) (b.map eI)), S) else none) = _
  rw [flat_ints, inD_ints]
  rfl
theorem op_notInV : Op2 (fIn true) eI (eV eI) eB (fun x xs => some (!decide (x ∈ xs))) := fun a b c S e => by
  cases e
  show (if (flatD (eI a) && (b.map eI).all flatD) = true then some (D.bl (if true = true then !inD (eI a) (b.map eI) else inD (eI a) (b.map eI)), S) else none) = _
  rw [flat_ints, inD_ints]
  rfl
theorem op_inL : Op2 (fIn false) eI (eL eI) eB (fun x xs => some (decide (x ∈ xs))) := fun a b c S e => by
  cases e
  show (if (flatD (eI a) && (b.map eI).all flatD) = true then some (D.bl (if false = true then !inD (eI a) (b.map eI) else inD (eI a) (b.map eI)), S) else none) = _
  rw [flat_ints, inD_ints]
  rfl
theorem op_notInL : Op2 (fIn true) eI (eL eI) eB (fun x xs => some (!decide (x ∈ xs))) := fun a b c S e => by
  cases e
  show (if (flatD (eI a) && (b.map eI).all flatD) = true then some (D.bl (if true = true then !inD (eI a) (b.map eI) else inD (eI a) (b.map eI)), S) else none) = _
  rw [flat_ints, inD_ints]
  rfl
/-! is None -/
theorem xe_isN {b : Bool} (h : XE S0 sl m t A) (hb : ∀ a, (A a).isNon = b) : XE S0 sl (mBin fIs m (mC .non)) (t.bind fun _ => some b) eB := fun ρ S s c e => by
  obtain ⟨a, e1, e⟩ := bnd e
  cases e
  obtain ⟨S1, q1, a1⟩ := h ρ S s a e1
  refine ⟨S1, ?_, a1⟩
  unfold mBin
  rw [q1]
  show some (D.bl (A a).isNon, S1) = _
  rw [hb]
theorem xe_isNotN {b : Bool} (h : XE S0 sl m t A) (hb : ∀ a, (A a).isNon = b) : XE S0 sl (mBin fIsNot m (mC .non)) (t.bind fun _ => some (!b)) eB := fun ρ S s c e => by
  obtain ⟨a, e1, e⟩ := bnd e
  cases e
  obtain ⟨S1, q1, a1⟩ := h ρ S s a e1
  refine ⟨S1, ?_, a1⟩
  unfold mBin
  rw [q1]
  show some (D.bl (!(A a).isNon), S1) = _
  rw [hb]
/-- an optional value asked -/
theorem xe_isNO {o : Option (Option α)} (h : XE S0 sl m o (eO A)) (hb : ∀ a, (A a).isNon = false) : XE S0 sl (mBin fIs m (mC .non)) (o.bind fun x => some x.isNone) eB := fun ρ S s c e => by
  obtain ⟨a, e1, e⟩ := bnd e
  cases e
  obtain ⟨S1, q1, a1⟩ := h ρ S s a e1
  refine ⟨S1, ?_, a1⟩
  unfold mBin
  rw [q1]
  show some (D.bl (eO A a).isNon, S1) = _
  cases a with
  | none => rfl
  | some a => show some (D.bl (A a).isNon, S1) = _; rw [hb]; rfl
theorem xe_isNotNO {o : Option (Option α)} (h : XE S0 sl m o (eO A)) (hb : ∀ a, (A a).isNon = false) : XE S0 sl (mBin fIsNot m (mC .non)) (o.bind fun x => some x.isSome) eB := fun ρ S s c e => by
  obtain ⟨a, e1, e⟩ := bnd e
  cases e
  obtain ⟨S1, q1, a1⟩ := h ρ S s a e1
  refine ⟨S1, ?_, a1⟩
  unfold mBin
  rw [q1]
  show some (D.bl (!(eO A a).isNon), S1) = _
  cases a with
  | none => rfl
  | some a => show some (D.bl (!(A a).isNon), S1) = _; rw [hb]; rfl
/-! ### built-ins -/
theorem gv_pure {F : DCall} {ds : List D} {r : α} (h : ∀ S, F ds S = some (A r, S)) : Gvs F ds (some r) A := fun a e S => by cases e; exact ⟨S, h S, .refl⟩
theorem g_lenV {xs : List α} : Gvs cLen [eV A xs] (some (xs.length : Int)) eI := gv_pure fun S => by show some (D.int ((xs.map A).length : Int), S) = _; rw [List.length_map]
theorem g_lenL {xs : List α} : Gvs cLen [eL A xs] (some (xs.length : Int)) eI := gv_pure fun S => by show some (D.int ((xs.map A).length : Int), S) = _; rw [List.length_map]
theorem g_tupleL {xs : List α} : Gvs cTuple [eL A xs] (some xs) (eV A) := gv_pure fun S => rfl
theorem g_tupleV {xs : List α} : Gvs cTuple [eV A xs] (some xs) (eV A) := gv_pure fun S => rfl
theorem cFz_new {F : DCall} {ds es : List D} {S : Store} (h : F ds S = some (.lr S.length, S ++ [.lst es])) : ∃ S', cFz F ds S = some (.lst es, S') ∧ All S S' := by
  refine ⟨(S ++ [MO.lst es]).set S.length .gone, ?_, All.app.wr (Nat.le_refl _)⟩
  unfold cFz
  rw [h]
  show fzD (S ++ [MO.lst es]) (.lr S.length) = _
  unfold fzD
  simp only [get_new]
theorem g_listV {xs : List α} : Gvs (cFz cList) [eV A xs] (some xs) (eL A) := fun a e S => by cases e; exact cFz_new rfl
theorem g_listL {xs : List α} : Gvs (cFz cList) [eL A xs] (some xs) (eL A) := fun a e S => by cases e; exact cFz_new rfl
theorem g_sortedL {xs : List Int} : Gvs (cFz cSorted) [eL eI xs] (some (sortI xs)) (eL eI) := fun a e S => by
  cases e
  refine cFz_new ?_
  show ((intsOf (xs.map D.int)).map fun ns => (D.lr S.length, S ++ [.lst ((sortI ns).map D.int)])) = _
  rw [intsOf_map]; rfl
theorem g_sum {xs : List Int} : Gvs cSum [eL eI xs] (some xs.sum) eI := gv_pure fun S => by
  show ((intsOf (xs.map D.int)).map fun ns => (D.int ns.sum, S)) = _
  rw [intsOf_map]; rfl
theorem g_all {xs : List Bool} : Gvs cAll [eL eB xs] (some (xs.all id)) eB := gv_pure fun S => by
  show ((blsOf (xs.map D.bl)).map fun ns => (D.bl (ns.all id), S)) = _
  rw [blsOf_map]; rfl
theorem g_any {xs : List Bool} : Gvs cAny [eL eB xs] (some (xs.any id)) eB := gv_pure fun S => by
  show ((blsOf (xs.map D.bl)).map fun ns => (D.bl (ns.any id), S)) = _
  rw [blsOf_map]; rfl
theorem g_abs {i : Int} : Gvs cAbs [eI i] (some (if i < 0 then -i else i)) eI := gv_pure fun S => rfl
theorem g_int {i : Int} : Gvs cInt [eI i] (some i) eI := gv_pure fun S => rfl
theorem g_max {i j : Int} : Gvs cMax [eI i, eI j] (some (if j > i then j else i)) eI := gv_pure fun S => rfl
theorem g_min {i j : Int} : Gvs cMin [eI i, eI j] (some (if j < i then j else i)) eI := gv_pure fun S => rfl
def ne_ (l : List (List Int)) : Bool := l.all fun x => !x.isEmpty
theorem g_sortedT {l : List (List Int)} : Gvs (cFz cSortedT) [eL (eV eI) l] (cond (ne_ l) (some (sortT l)) none) (eL (eV eI)) := fun a e S => by
  cases k : ne_ l with
  | true =>
    rw [k] at e
    cases e
    refine cFz_new ?_
    have h2 : ∀ ns ∈ l, ns ≠ [] := fun ns hn z => by
      unfold ne_ at k
      have := List.all_eq_true.mp k ns hn
      rw [z] at this
      cases this
    show ((tupsOf (l.map tupI)).map fun l => (D.lr S.length, S ++ [.lst ((sortT l).map tupI)])) = _
    rw [tupsOf_map h2]
    rfl
  | false => rw [k] at e; cases e
/-! ### a local list read -/
theorem xe_call1O {F : DCall} {i : Nat} {ds : List D} {r : Option γ} (h : sl[i]? = some (.own ds)) (hF : ∀ S k, S[k]? = some (.lst ds) → ∀ c, r = some c → ∃ S', F [.lr k] S = some (C c, S') ∧ All S S') : XE S0 sl (mCall F (mCons (mVar i) mNil)) r C := fun ρ S s c e => by
  obtain ⟨k, k1, k2, k3⟩ := s.own i _ h
  obtain ⟨S', q, a⟩ := hF S k k2 c e
  refine ⟨S', ?_, a⟩
  have e1 : mCons (mVar i) mNil ρ S = some ([.lr k], S) := by
    have : mVar i ρ S = some (.lr k, S) := by unfold mVar; rw [k1]
    simp only [mCons, mNil, this, Option.bind_some]
  unfold mCall
  rw [e1]
  exact q
theorem xe_lenO {i : Nat} {xs : List α} (h : sl[i]? = some (.own (xs.map A))) : XE S0 sl (mCall cLen (mCons (mVar i) mNil)) (some (xs.length : Int)) eI := xe_call1O h fun S k e c q => by
  cases q
  exact ⟨S, by show ((MS.items S (.lr k)).bind fun ys => some (D.int (ys.length : Int), S)) = _; rw [show MS.items S (.lr k) = some (xs.map A) from lat_lst e]; show some (D.int ((xs.map A).length : Int), S) = _; rw [List.length_map], .refl⟩
theorem xe_tupleO {i : Nat} {xs : List α} (h : sl[i]? = some (.own (xs.map A))) : XE S0 sl (mCall cTuple (mCons (mVar i) mNil)) (some xs) (eV A) := xe_call1O h fun S k e c q => by
  cases q
  exact ⟨S, by show ((MS.items S (.lr k)).bind fun ys => some (D.tup ys, S)) = _; rw [show MS.items S (.lr k) = some (xs.map A) from lat_lst e]; rfl, .refl⟩
theorem xe_sortedO {i : Nat} {xs : List Int} (h : sl[i]? = some (.own (xs.map eI))) : XE S0 sl (mCall (cFz cSorted) (mCons (mVar i) mNil)) (some (sortI xs)) (eL eI) := xe_call1O h fun S k e c q => by
  cases q
  refine cFz_new ?_
  show ((lat S k).bind fun es => (intsOf es).map fun ns => (D.lr S.length, S ++ [.lst ((sortI ns).map D.int)])) = _
  rw [lat_lst e]
  show ((intsOf (xs.map D.int)).map fun ns => (D.lr S.length, S ++ [.lst ((sortI ns).map D.int)])) = _
  rw [intsOf_map]; rfl
theorem xe_binO1 {f : DOp2} {i : Nat} {ds : List D} {k : β → Option γ} (h : sl[i]? = some (.own ds)) (h2 : XE S0 sl m t2 B) (hf : ∀ S n b c, S[n]? = some (.lst ds) → k b = some c → f (.lr n) (B b) S = some (C c, S)) : XE S0 sl (mBin f (mVar i) m) (t2.bind fun b => k b) C := fun ρ S s c e => by
  obtain ⟨b, e2, e⟩ := bnd e
  obtain ⟨n, k1, k2, k3⟩ := s.own i _ h
  obtain ⟨S1, q1, a1⟩ := h2 ρ S s b e2
  refine ⟨S1, ?_, a1⟩
  have : mVar i ρ S = some (.lr n, S) := by unfold mVar; rw [k1]
  unfold mBin
  rw [this]
  show ((m ρ S).bind fun q => f (.lr n) q.1 q.2) = _
  rw [q1]
  exact hf S1 n b c (a1 _ _ k2) e
theorem xe_binO2 {f : DOp2} {i : Nat} {ds : List D} {k : β → Option γ} (h2 : XE S0 sl m t2 B) (h : sl[i]? = some (.own ds)) (hf : ∀ S n b c, S[n]? = some (.lst ds) → k b = some c → f (B b) (.lr n) S = some (C c, S)) : XE S0 sl (mBin f m (mVar i)) (t2.bind fun b => k b) C := fun ρ S s c e => by
  obtain ⟨b, e2, e⟩ := bnd e
  obtain ⟨n, k1, k2, k3⟩ := s.own i _ h
  obtain ⟨S1, q1, a1⟩ := h2 ρ S s b e2
  refine ⟨S1, ?_, a1⟩
  have : mVar i ρ S1 = some (.lr n, S1) := by unfold mVar; rw [k1]
  unfold mBin
  rw [q1]
  show ((mVar i ρ S1).bind fun q => f (B b) q.1 q.2) = _
  rw [this]
  exact hf S1 n b c (a1 _ _ k2) e
theorem xe_ixO {i : Nat} {xs : List α} {tj : Option Int} (h : sl[i]? = some (.own (xs.map A))) (h2 : XE S0 sl m tj eI) : XE S0 sl (mBin fIx (mVar i) m) (tj.bind fun j => atT xs j) A := xe_binO1 h h2 fun S n b c e q => by
  show ((lat S n).bind fun ds => (L2.atI ds b).map fun d => (d, S)) = _
  rw [lat_lst e]
  show (L2.atI (xs.map A) b).map (fun d => (d, S)) = _
  rw [atT_map, q]; rfl
theorem xe_inO {i : Nat} {xs : List Int} {tj : Option Int} (h2 : XE S0 sl m tj eI) (h : sl[i]? = some (.own (xs.map eI))) : XE S0 sl (mBin (fIn false) m (mVar i)) (tj.bind fun j => some (decide (j ∈ xs))) eB := xe_binO2 h2 h fun S n b c e q => by
  cases q
  show ((MS.items S (.lr n)).bind fun ds => if (flatD (eI b) && ds.all flatD) = true then some (D.bl (if false = true then !inD (eI b) ds else inD (eI b) ds), S) else none) = _
  rw [show MS.items S (.lr n) = some (xs.map eI) from lat_lst e]
  show (if (flatD (eI b) && (xs.map eI).all flatD) = true then some (D.bl (if false = true then !inD (eI b) (xs.map eI) else inD (eI b) (xs.map eI)), S) else none) = _
  rw [flat_ints, inD_ints]
  rfl
theorem xe_notInO {i : Nat} {xs : List Int} {tj : Option Int} (h2 : XE S0 sl m tj eI) (h : sl[i]? = some (.own (xs.map eI))) : XE S0 sl (mBin (fIn true) m (mVar i)) (tj.bind fun j => some (!decide (j ∈ xs))) eB := xe_binO2 h2 h fun S n b c e q => by
  cases q
  show ((MS.items S (.lr n)).bind fun ds => if (flatD (eI b) && ds.all flatD) = true then some (D.bl (if true = true then !inD (eI b) ds else inD (eI b) ds), S) else none) = _
  rw [show MS.items S (.lr n) = some (xs.map eI) from lat_lst e]
  show (if (flatD (eI b) && (xs.map eI).all flatD) = true then some (D.bl (if true = true then !inD (eI b) (xs.map eI) else inD (eI b) (xs.map eI)), S) else none) = _
  rw [flat_ints, inD_ints]
  rfl
/-- return x, x a local list -/
theorem sr_retO {i : Nat} {xs : List α} (h : sl[i]? = some (.own (xs.map A))) : SR S0 sl (mRet (mFz (mVar i))) (some xs) (eL A) := fun ρ S s c e => by
  cases e
  obtain ⟨k, k1, k2, k3⟩ := s.own i _ h
  refine ⟨ρ, S.set k .gone, ?_, s.all.wr k3⟩
  have : mVar i ρ S = some (.lr k, S) := by unfold mVar; rw [k1]
  unfold mRet mFz
  rw [this]
  show ((fzD S (.lr k)).bind fun p => some (Fl.rt p.1, ρ, p.2)) = _
  unfold fzD
  simp only [k2]
  rfl
/-- a value or a new list, for a slot -/
def SlOk (S S' : Store) (d : D) : Sl → Prop
  | .unk => True
  | .val e => d = e
  | .own ds => ∃ n, d = .lr n ∧ S.length ≤ n ∧ S'[n]? = some (.lst ds)
def XS {α : Type} (S0 : Store) (sl : List Sl) (m : MExp) (t : Option α) (k : α → Sl) : Prop := ∀ ρ S, Sx S0 sl ρ S → ∀ a, t = some a → ∃ d S', m ρ S = some (d, S') ∧ All S S' ∧ SlOk S S' d (k a)
theorem xs_val (h : XE S0 sl m t A) : XS S0 sl m t (fun a => .val (A a)) := fun ρ S s a e => let ⟨S', q, a1⟩ := h ρ S s a e; ⟨_, S', q, a1, rfl⟩
theorem xs_own {tx : Option (List α)} (h : XO S0 sl m tx A) : XS S0 sl m tx (fun xs => .own (xs.map A)) := fun ρ S s a e => let ⟨n, S', q, a1, h1, h2⟩ := h ρ S s a e; ⟨_, S', q, a1, n, rfl, h1, h2⟩
theorem Sx.put {i : Nat} {ρ : Ev} {S1 S2 : Store} {d : D} {k : Sl} (hk : k ≠ .unk) (s : Sx S0 sl ρ S2) (h : SlOk S1 S2 d k) (hlo : S0.length ≤ S1.length) (lt : ∀ (j : Nat) (es : List D) (h : Nat), sl[j]? = some (.own es) → ρ[j]? = some (some (.lr h)) → h < S1.length) : Sx S0 (sl.set i k) (ρ.set i (some d)) S2 := by
  cases k with
  | unk => exact absurd rfl hk
  | val e => cases (show d = e from h); exact s.set
  | own ds =>
    obtain ⟨n, rfl, h1, h2⟩ := h
    exact s.newF .refl (by omega) (fun j es h q1 q2 => by have := lt j es h q1 q2; omega) h2
theorem sn_par {i j : Nat} {k1 : α → Sl} {k2 : β → Sl} (h1 : XS S0 sl m1 t1 k1) (h2 : XS S0 sl m2 t2 k2) (n1 : ∀ a, k1 a ≠ .unk) (n2 : ∀ a, k2 a ≠ .unk) (hij : i ≠ j) :
    SN S0 sl (mPar i j (mCons m1 (mCons m2 mNil))) (t1.bind fun a => t2.bind fun b => some (a, b)) (fun p => (sl.set i (k1 p.1)).set j (k2 p.2)) := fun ρ S s c e => by
  obtain ⟨a, e1, e⟩ := bnd e
  obtain ⟨b, e2, e⟩ := bnd e
  cases e
  obtain ⟨d1, S1, q1, a1, o1⟩ := h1 ρ S s a e1
  obtain ⟨d2, S2, q2, a2, o2⟩ := h2 ρ S1 (s.grow a1) b e2
  have o1' : SlOk S S2 d1 (k1 a) := by
    cases hk : k1 a with
    | unk => trivial
    | val e => rw [hk] at o1; exact o1
    | own ds => rw [hk] at o1; obtain ⟨n, r1, r2, r3⟩ := o1; exact ⟨n, r1, r2, a2 _ _ r3⟩
  have s2 := (s.grow a1).grow a2
  have s3 : Sx S0 (sl.set i (k1 a)) (ρ.set i (some d1)) S2 := s2.put (n1 a) o1' s.all.len fun j es h g1 g2 => s.own_lt g1 g2
  have s4 : Sx S0 ((sl.set i (k1 a)).set j (k2 b)) ((ρ.set i (some d1)).set j (some d2)) S2 := s3.put (n2 b) o2 (Nat.le_trans s.all.len a1.len) fun j' es h g1 g2 => by
    by_cases hj : i = j'
    · subst hj
      have hl : i < sl.length := by have := (List.getElem?_eq_some_iff.mp g1).1; rwa [List.length_set] at this
      rw [List.getElem?_set_self hl] at g1
      rw [List.getElem?_set_self (by rw [s.len]; exact hl)] at g2
      cases g2
      cases hk : k1 a with
      | unk => rw [hk] at g1; cases g1
      | val e => rw [hk] at g1; cases g1
      | own ds =>
        rw [hk] at o1
        obtain ⟨n, r1, r2, r3⟩ := o1
        cases r1
        exact (List.getElem?_eq_some_iff.mp r3).1
    · rw [List.getElem?_set_ne hj] at g1 g2
      have := s.own_lt g1 g2
      have := a1.len
      omega
  refine ⟨_, S2, ?_, s4⟩
  have q : mCons m1 (mCons m2 mNil) ρ S = some ([d1, d2], S2) := by simp only [mCons, mNil, q1, q2, Option.bind_some]
  unfold mPar
  rw [q]
  rfl
/-- x op= e -/
theorem sn_aug {f : DOp2} {i : Nat} {a : α} {k : α → β → Option γ} (h : sl[i]? = some (.val (A a))) (h2 : XE S0 sl m t2 B) (hf : Op2 f A B C k) : SN S0 sl (mAug i f m) (t2.bind fun b => k a b) (fun c => sl.set i (.val (C c))) := fun ρ S s c e => by
  obtain ⟨b, e2, e⟩ := bnd e
  obtain ⟨S1, q1, a1⟩ := h2 ρ S s b e2
  refine ⟨ρ.set i (some (C c)), S1, ?_, (s.grow a1).set⟩
  unfold mAug
  rw [s.val i _ h]
  show ((m ρ S).bind fun p => (f (A a) p.1 p.2).bind fun q => some (Fl.nx, ρ.set i (some q.1), q.2)) = _
  rw [q1]
  show ((f (A a) (B b) S1).bind fun q => some (Fl.nx, ρ.set i (some q.1), q.2)) = _
  rw [hf a b c S1 e]
  rfl
end
end TM

set_option Elab.async false
set_option linter.all false
set_option maxRecDepth 100000
set_option maxHeartbeats 4000000
/-! Defs that draw from a pen: the pen's list is the state that typed functions hand on. -/
namespace TM
open PySem PySem.Spec PyProof.Rows L2 MS
/-- a pen: its cells, the next one's place, what is left of a great number -/
structure Pn where
  ns : List Int
  seat : Int
  rest : Int
def pobj (P : Pn) : MO := .lst [.lst (P.ns.map D.int), .int P.seat, .int P.rest]
abbrev PM (α : Type) := Pn → Option (α × Pn)
def lP {α : Type} (t : Option α) : PM α := fun P => t.bind fun a => some (a, P)
def bP {α β : Type} (t : PM α) (f : α → PM β) : PM β := fun P => (t P).bind fun x => f x.1 x.2
def Out.by {σ β γ : Type} (f : σ → γ) (g : β → γ) : Out σ β → γ
  | .nx s => f s
  | .rt b => g b
def loopP {α σ : Type} (f : α → σ → PM σ) : List α → σ → PM σ
  | [], s => lP (some s)
  | x :: xs, s => bP (f x s) fun s' => loopP f xs s'
def loopRP {α σ β : Type} (f : α → σ → PM (Out σ β)) : List α → σ → PM (Out σ β)
  | [], s => lP (some (.nx s))
  | x :: xs, s => bP (f x s) fun o => o.by (fun s' => loopRP f xs s') fun b => lP (some (.rt b))
def compGoP {α β : Type} (c : α → PM Bool) (f : α → PM β) : List α → PM (List β)
  | [] => lP (some [])
  | x :: xs => bP (c x) fun k => cond k (bP (f x) fun y => bP (compGoP c f xs) fun ys => lP (some (y :: ys))) (compGoP c f xs)
def compP {α β : Type} (c : α → PM Bool) (f : α → PM β) (xs : List α) : PM (List β) := cond (Nat.ble xs.length 16777216) (compGoP c f xs) (fun _ => none)
theorem lP_some {α : Type} {t : Option α} {P P' : Pn} {a : α} (h : lP t P = some (a, P')) : t = some a ∧ P' = P := by
  obtain ⟨b, e1, e⟩ := Option.bind_eq_some_iff.mp h
  cases e
  exact ⟨e1, rfl⟩
theorem bP_some {α β : Type} {t : PM α} {f : α → PM β} {P P' : Pn} {b : β} (h : bP t f P = some (b, P')) : ∃ a P1, t P = some (a, P1) ∧ f a P1 = some (b, P') := by
  obtain ⟨⟨a, P1⟩, e1, e⟩ := Option.bind_eq_some_iff.mp h
  exact ⟨a, P1, e1, e⟩
/-- what a def that takes a pen gives -/
def Gps {α : Type} (F : DCall) (args : List D) (t : PM α) (E : α → D) : Prop := ∀ S p P, S[p]? = some (pobj P) → ∀ a P', t P = some (a, P') → ∃ S', F (.lr p :: args) S = some (E a, S') ∧ All (S.set p (pobj P')) S'
section
variable {α β γ δ σ τ : Type} {S0 S S' : Store} {p : Nat} {sl : List Sl} {m m1 m2 m3 m4 m5 m6 m7 : MExp} {r s1 s2 : MStm} {A : α → D} {B : β → D} {C : γ → D} {t : PM α} {t1 : PM α} {t2 : PM β}
theorem All.setSame {x : MO} (a : All S S') (h : p < S.length) : All (S.set p x) (S'.set p x) := fun n y e => by
  have hl : p < S'.length := by have := a.len; omega
  by_cases hn : n = p
  · subst hn
    rw [List.getElem?_set_self h] at e
    rw [List.getElem?_set_self hl]; exact e
  · rw [List.getElem?_set_ne (fun z => hn z.symm)] at e ⊢
    exact a n y e
structure Pf (S0 : Store) (p : Nat) (sl : List Sl) (P : Pn) (ρ : Ev) (S : Store) : Prop where
  sx : Sx (S0.set p (pobj P)) sl ρ S
  lo : p < S0.length
theorem Pf.at_ {P : Pn} {ρ : Ev} (s : Pf S0 p sl P ρ S) : S[p]? = some (pobj P) := s.sx.all p _ (List.getElem?_set_self s.lo)
theorem Pf.grow {P : Pn} {ρ : Ev} (s : Pf S0 p sl P ρ S) (a : All S S') : Pf S0 p sl P ρ S' := ⟨s.sx.grow a, s.lo⟩
theorem Pf.pen {P P' : Pn} {ρ : Ev} (s : Pf S0 p sl P ρ S) (a : All (S.set p (pobj P')) S') : Pf S0 p sl P' ρ S' := by
  have hl := s.lo
  have a0 : All (S0.set p (pobj P')) (S.set p (pobj P')) := by
    have := s.sx.all.setSame (p := p) (x := pobj P') (by rw [List.length_set]; exact hl)
    rwa [List.set_set] at this
  refine ⟨⟨a0.trans a, s.sx.len, s.sx.val, fun i ds e => ?_, s.sx.one⟩, hl⟩
  obtain ⟨h, h1, h2, h3⟩ := s.sx.own i ds e
  rw [List.length_set] at h3
  refine ⟨h, h1, a _ _ ?_, by rw [List.length_set]; exact h3⟩
  rw [List.getElem?_set_ne (by omega)]
  exact h2
/-- the store grew, the pen stands at P' -/
def St (p : Nat) (P' : Pn) (S S' : Store) : Prop := All (S.set p (pobj P')) S'
theorem St.trans {P1 P2 : Pn} {S1 S2 : Store} (hl : p < S.length) (a : St p P1 S S1) (b : St p P2 S1 S2) : St p P2 S S2 := by
  have := All.setSame (p := p) (x := pobj P2) a (by rw [List.length_set]; exact hl)
  rw [List.set_set] at this
  exact this.trans b
theorem set_same {α : Type} {l : List α} {i : Nat} {x : α} (h : l[i]? = some x) : l.set i x = l := by
  refine List.ext_getElem? fun j => ?_
  by_cases hj : i = j
  · subst hj
    rw [List.getElem?_set_self (List.getElem?_eq_some_iff.mp h).1, h]
  · rw [List.getElem?_set_ne hj]
theorem Pf.lt {P : Pn} {ρ : Ev} (s : Pf S0 p sl P ρ S) : p < S.length := (List.getElem?_eq_some_iff.mp s.at_).1
theorem Pf.st {P : Pn} {ρ : Ev} (s : Pf S0 p sl P ρ S) (a : All S S') : St p P S S' := by
  unfold St
  rw [set_same s.at_]
  exact a
theorem St.get {P' : Pn} (a : St p P' S S') {n : Nat} {x : MO} (hn : n ≠ p) (h : S[n]? = some x) : S'[n]? = some x := a n x (by rw [List.getElem?_set_ne (fun z => hn z.symm)]; exact h)
theorem St.len {P' : Pn} (a : St p P' S S') : S.length ≤ S'.length := by have := All.len a; rwa [List.length_set] at this
theorem St.wr {P' : Pn} (a : St p P' S S') {n : Nat} {x : MO} (h : S.length ≤ n) : St p P' S (S'.set n x) := All.wr a (by rw [List.length_set]; exact h)
theorem St.all {P' : Pn} {S'' : Store} (a : St p P' S S') (b : All S' S'') : St p P' S S'' := All.trans a b
def PX {α : Type} (S0 : Store) (p : Nat) (sl : List Sl) (m : MExp) (t : PM α) (E : α → D) : Prop := ∀ P ρ S, Pf S0 p sl P ρ S → ∀ a P', t P = some (a, P') → ∃ S', m ρ S = some (E a, S') ∧ St p P' S S'
def PT (S0 : Store) (p : Nat) (sl : List Sl) (m : MTst) (t : PM Bool) : Prop := ∀ P ρ S, Pf S0 p sl P ρ S → ∀ a P', t P = some (a, P') → ∃ S', m ρ S = some (a, S') ∧ St p P' S S'
def PI {α : Type} (S0 : Store) (p : Nat) (sl : List Sl) (m : MItr) (t : PM (List α)) (E : α → D) : Prop := ∀ P ρ S, Pf S0 p sl P ρ S → ∀ a P', t P = some (a, P') → ∃ S', m ρ S = some ((a.map E, always), S') ∧ St p P' S S'
def PO {α : Type} (S0 : Store) (p : Nat) (sl : List Sl) (m : MExp) (t : PM (List α)) (A : α → D) : Prop := ∀ P ρ S, Pf S0 p sl P ρ S → ∀ xs P', t P = some (xs, P') → ∃ n S1, m ρ S = some (.lr n, S1) ∧ St p P' S S1 ∧ S.length ≤ n ∧ S1[n]? = some (.lst (xs.map A))
def PR {β : Type} (S0 : Store) (p : Nat) (sl : List Sl) (m : MStm) (t : PM β) (E : β → D) : Prop := ∀ P ρ S, Pf S0 p sl P ρ S → ∀ b P', t P = some (b, P') → ∃ ρ' S', m ρ S = some (.rt (E b), ρ', S') ∧ All (S0.set p (pobj P')) S'
def PN {σ : Type} (S0 : Store) (p : Nat) (sl : List Sl) (m : MStm) (t : PM σ) (sl' : σ → List Sl) : Prop := ∀ P ρ S, Pf S0 p sl P ρ S → ∀ a P', t P = some (a, P') → ∃ ρ' S', m ρ S = some (.nx, ρ', S') ∧ Pf S0 p (sl' a) P' ρ' S'
def OutP {σ β : Type} (S0 : Store) (p : Nat) (sl' : σ → List Sl) (E : β → D) (f : Fl) (P' : Pn) (ρ' : Ev) (S' : Store) : Out σ β → Prop
  | .nx s => f = .nx ∧ Pf S0 p (sl' s) P' ρ' S'
  | .rt b => f = .rt (E b) ∧ All (S0.set p (pobj P')) S'
def PB {σ β : Type} (S0 : Store) (p : Nat) (sl : List Sl) (m : MStm) (t : PM (Out σ β)) (sl' : σ → List Sl) (E : β → D) : Prop := ∀ P ρ S, Pf S0 p sl P ρ S → ∀ o P', t P = some (o, P') → ∃ f ρ' S', m ρ S = some (f, ρ', S') ∧ OutP S0 p sl' E f P' ρ' S' o
/-! what doesn't touch the pen -/
theorem px_of {t : Option α} (h : ∀ S0, XE S0 sl m t A) : PX S0 p sl m (lP t) A := fun P ρ S s a P' e => by
  obtain ⟨e1, rfl⟩ := lP_some e
  obtain ⟨S', q, a1⟩ := h _ ρ S s.sx a e1
  exact ⟨S', q, s.st a1⟩
theorem pt_of {c : MTst} {t : Option Bool} (h : ∀ S0, XT S0 sl c t) : PT S0 p sl c (lP t) := fun P ρ S s a P' e => by
  obtain ⟨e1, rfl⟩ := lP_some e
  obtain ⟨S', q, a1⟩ := h _ ρ S s.sx a e1
  exact ⟨S', q, s.st a1⟩
theorem pi_of {i : MItr} {t : Option (List α)} (h : ∀ S0, XI S0 sl i t A) : PI S0 p sl i (lP t) A := fun P ρ S s a P' e => by
  obtain ⟨e1, rfl⟩ := lP_some e
  obtain ⟨S', q, a1⟩ := h _ ρ S s.sx a e1
  exact ⟨S', q, s.st a1⟩
theorem po_of {t : Option (List α)} (h : ∀ S0, XO S0 sl m t A) : PO S0 p sl m (lP t) A := fun P ρ S s a P' e => by
  obtain ⟨e1, rfl⟩ := lP_some e
  obtain ⟨n, S', q, a1, hn, hg⟩ := h _ ρ S s.sx a e1
  exact ⟨n, S', q, s.st a1, hn, hg⟩
theorem pn_of {t : Option σ} {sl' : σ → List Sl} (h : ∀ S0, SN S0 sl r t sl') : PN S0 p sl r (lP t) sl' := fun P ρ S s a P' e => by
  obtain ⟨e1, rfl⟩ := lP_some e
  obtain ⟨ρ', S', q, k⟩ := h _ ρ S s.sx a e1
  exact ⟨ρ', S', q, k, s.lo⟩
theorem pr_of {t : Option α} (h : ∀ S0, SR S0 sl r t A) : PR S0 p sl r (lP t) A := fun P ρ S s a P' e => by
  obtain ⟨e1, rfl⟩ := lP_some e
  exact h _ ρ S s.sx a e1
theorem pb_of {t : Option (Out σ α)} {sl' : σ → List Sl} (h : ∀ S0, SB S0 sl r t sl' A) : PB S0 p sl r (lP t) sl' A := fun P ρ S s a P' e => by
  obtain ⟨e1, rfl⟩ := lP_some e
  obtain ⟨f, ρ', S', q, k⟩ := h _ ρ S s.sx a e1
  refine ⟨f, ρ', S', q, ?_⟩
  cases a with
  | nx x => exact ⟨k.1, k.2, s.lo⟩
  | rt b => exact k
/-! expressions -/
theorem px_bin {f : DOp2} {k : α → β → Option γ} (h1 : PX S0 p sl m1 t1 A) (h2 : PX S0 p sl m2 t2 B) (hf : Op2 f A B C k) : PX S0 p sl (mBin f m1 m2) (bP t1 fun a => bP t2 fun b => lP (k a b)) C := fun P ρ S s c P' e => by
  obtain ⟨a, P1, e1, e⟩ := bP_some e
  obtain ⟨b, P2, e2, e⟩ := bP_some e
  obtain ⟨e3, rfl⟩ := lP_some e
  obtain ⟨S1, q1, k1⟩ := h1 P ρ S s a P1 e1
  obtain ⟨S2, q2, k2⟩ := h2 P1 ρ S1 (s.pen k1) b _ e2
  refine ⟨S2, ?_, k1.trans s.lt k2⟩
  show ((m1 ρ S).bind fun p => (m2 ρ p.2).bind fun q => f p.1 q.1 q.2) = _
  rw [q1]
  show ((m2 ρ S1).bind fun q => f (A a) q.1 q.2) = _
  rw [q2]
  exact hf a b c S2 e3
theorem px_map {B : β → D} {f : α → β} (h : PX S0 p sl m t A) (hE : ∀ a, A a = B (f a)) : PX S0 p sl m (bP t fun a => lP (some (f a))) B := fun P ρ S s b P' e => by
  obtain ⟨a, P1, e1, e⟩ := bP_some e
  obtain ⟨e2, rfl⟩ := lP_some e
  cases e2
  obtain ⟨S', q, k⟩ := h P ρ S s a _ e1
  exact ⟨S', by rw [q, hE], k⟩
theorem px_if {c : MTst} {tc : PM Bool} {ta tb : PM α} (hc : PT S0 p sl c tc) (ha : PX S0 p sl m1 ta A) (hb : PX S0 p sl m2 tb A) : PX S0 p sl (mIf c m1 m2) (bP tc fun k => cond k ta tb) A := fun P ρ S s a P' e => by
  obtain ⟨k, P1, e1, e⟩ := bP_some e
  obtain ⟨S1, q1, k1⟩ := hc P ρ S s k P1 e1
  show ∃ S', ((c ρ S).bind fun p => if p.1 then m1 ρ p.2 else m2 ρ p.2) = _ ∧ _
  rw [q1]
  cases k with
  | true => obtain ⟨S2, q2, k2⟩ := ha P1 ρ S1 (s.pen k1) a P' e; exact ⟨S2, q2, k1.trans s.lt k2⟩
  | false => obtain ⟨S2, q2, k2⟩ := hb P1 ρ S1 (s.pen k1) a P' e; exact ⟨S2, q2, k1.trans s.lt k2⟩
theorem px_neg {ta : PM Int} (ha : PX S0 p sl m1 ta eI) : PX S0 p sl (mNeg m1) (bP ta fun k => lP (some (-k))) eI := fun P ρ S s a P' e => by
  obtain ⟨k, P1, e1, e⟩ := bP_some e
  obtain ⟨e2, rfl⟩ := lP_some e
  cases e2
  obtain ⟨S1, q1, k1⟩ := ha P ρ S s k _ e1
  exact ⟨S1, by unfold mNeg; rw [q1]; rfl, k1⟩
theorem pt_B {ta : PM Bool} (ha : PX S0 p sl m1 ta eB) : PT S0 p sl (mB m1) ta := fun P ρ S s a P' e => by
  obtain ⟨S1, q1, k1⟩ := ha P ρ S s a P' e
  exact ⟨S1, by unfold mB; rw [q1]; rfl, k1⟩
theorem pt_and {c d : MTst} {ta tb : PM Bool} (ha : PT S0 p sl c ta) (hb : PT S0 p sl d tb) : PT S0 p sl (mAnd c d) (bP ta fun k => cond k tb (lP (some false))) := fun P ρ S s a P' e => by
  obtain ⟨k, P1, e1, e⟩ := bP_some e
  obtain ⟨S1, q1, k1⟩ := ha P ρ S s k P1 e1
  unfold mAnd
  rw [q1]
  cases k with
  | true => obtain ⟨S2, q2, k2⟩ := hb P1 ρ S1 (s.pen k1) a P' e; exact ⟨S2, q2, k1.trans s.lt k2⟩
  | false => rw [cond_false] at e; obtain ⟨e2, rfl⟩ := lP_some e; cases e2; exact ⟨S1, rfl, k1⟩
theorem pt_or {c d : MTst} {ta tb : PM Bool} (ha : PT S0 p sl c ta) (hb : PT S0 p sl d tb) : PT S0 p sl (mOr c d) (bP ta fun k => cond k (lP (some true)) tb) := fun P ρ S s a P' e => by
  obtain ⟨k, P1, e1, e⟩ := bP_some e
  obtain ⟨S1, q1, k1⟩ := ha P ρ S s k P1 e1
  unfold mOr
  rw [q1]
  cases k with
  | true => rw [cond_true] at e; obtain ⟨e2, rfl⟩ := lP_some e; cases e2; exact ⟨S1, rfl, k1⟩
  | false => obtain ⟨S2, q2, k2⟩ := hb P1 ρ S1 (s.pen k1) a P' e; exact ⟨S2, q2, k1.trans s.lt k2⟩
theorem pt_not {c : MTst} {ta : PM Bool} (ha : PT S0 p sl c ta) : PT S0 p sl (mNot c) (bP ta fun k => lP (some (!k))) := fun P ρ S s a P' e => by
  obtain ⟨k, P1, e1, e⟩ := bP_some e
  obtain ⟨e2, rfl⟩ := lP_some e
  cases e2
  obtain ⟨S1, q1, k1⟩ := ha P ρ S s k _ e1
  exact ⟨S1, by unfold mNot; rw [q1]; rfl, k1⟩
/-! what is walked -/
theorem pi_V {tx : PM (List α)} (h : PX S0 p sl m tx (eV A)) : PI S0 p sl (mItems m) tx A := fun P ρ S s xs P' e => by
  obtain ⟨S1, q, a1⟩ := h P ρ S s xs P' e
  exact ⟨S1, by unfold mItems; rw [q]; rfl, a1⟩
theorem pi_L {tx : PM (List α)} (h : PX S0 p sl m tx (eL A)) : PI S0 p sl (mItems m) tx A := fun P ρ S s xs P' e => by
  obtain ⟨S1, q, a1⟩ := h P ρ S s xs P' e
  exact ⟨S1, by unfold mItems; rw [q]; rfl, a1⟩
theorem pi_range1 {tj : PM Int} (h : PX S0 p sl m tj eI) : PI S0 p sl (mRange1 (mCons m mNil)) (bP tj fun j => lP (rng1 j)) eI := fun P ρ S s xs P' e => by
  obtain ⟨j, P1, e1, e⟩ := bP_some e
  obtain ⟨e9, rfl⟩ := lP_some e; have e := e9
  obtain ⟨S1, q, a1⟩ := h P ρ S s j _ e1
  have e2 : mCons m mNil ρ S = some ([eI j], S1) := by simp only [mCons, mNil, q, Option.bind_some]
  refine ⟨S1, ?_, a1⟩
  unfold mRange1
  rw [e2]
  unfold rng1 at e
  cases k : r62 j with
  | true =>
    rw [k] at e
    cases e
    show (if r62 j = true then some ((rangeD 0 j.toNat, always), S1) else none) = _
    rw [if_pos k, rangeI_map]
  | false => rw [k] at e; cases e
theorem pi_range2 {ti tj : PM Int} (h1 : PX S0 p sl m1 ti eI) (h2 : PX S0 p sl m2 tj eI) : PI S0 p sl (mRange2 (mCons m1 (mCons m2 mNil))) (bP ti fun i => bP tj fun j => lP (rng2 i j)) eI := fun P ρ S s xs P' e => by
  obtain ⟨i, P1, e1, e⟩ := bP_some e
  obtain ⟨j, P2, e2, e⟩ := bP_some e
  obtain ⟨e9, rfl⟩ := lP_some e; have e := e9
  obtain ⟨S1, q1, a1⟩ := h1 P ρ S s i _ e1
  obtain ⟨S2, q2, a2⟩ := h2 P1 ρ S1 (s.pen a1) j _ e2
  have e2 : mCons m1 (mCons m2 mNil) ρ S = some ([eI i, eI j], S2) := by simp only [mCons, mNil, q1, q2, Option.bind_some]
  refine ⟨S2, ?_, a1.trans s.lt a2⟩
  unfold mRange2
  rw [e2]
  unfold rng2 at e
  cases k : (r62 i && r62 j) with
  | true =>
    rw [k] at e
    cases e
    show (if (r62 i && r62 j) = true then some ((rangeD i (j - i).toNat, always), S2) else none) = _
    rw [if_pos k, rangeI_map]
  | false => rw [k] at e; cases e
/-! comprehensions -/
theorem compP_some {c : α → PM Bool} {f : α → PM β} {xs : List α} {ys : List β} {P P' : Pn} (h : compP c f xs P = some (ys, P')) : xs.length ≤ szl ∧ compGoP c f xs P = some (ys, P') := by
  unfold compP at h
  cases k : Nat.ble xs.length 16777216 with
  | true => rw [k] at h; exact ⟨Nat.le_of_ble_eq_true k, h⟩
  | false => rw [k] at h; cases h
theorem po_lc {i : MItr} {g : MTg} {c : MTst} {e : MExp} {vs : List Nat} {ti : PM (List α)} {tc : α → PM Bool} {te : α → PM β} {slg : α → List Sl} (hi : PI S0 p sl i ti A) (hg : ∀ a S0, XG S0 (wipeS sl vs) g (A a) (slg a)) (hc : ∀ a, PT S0 p (slg a) c (tc a)) (he : ∀ a, PX S0 p (slg a) e (te a) B) :
    PO S0 p sl (mLc i g c e vs) (bP ti fun xs => compP tc te xs) B := fun P ρ S s ys P' eq => by
  obtain ⟨xs, P1, e1, eq⟩ := bP_some eq
  obtain ⟨hz, eq⟩ := compP_some eq
  obtain ⟨S1, q, a1⟩ := hi P ρ S s xs P1 e1
  have s1 := s.pen a1
  have hp1 : p < S1.length := s1.lt
  have w1 : Pf S0 p (wipeS sl vs) P1 (wipeD ρ vs) S1 := ⟨s1.sx.wipe vs, s1.lo⟩
  have go : ∀ (xs : List α) (ys acc : List β) (T : Store) (P1 P' : Pn), Pf S0 p (wipeS sl vs) P1 (wipeD ρ vs) T → St p P1 S1 T → T[S1.length]? = some (.lst (acc.map B)) → acc.length + xs.length ≤ szl → compGoP tc te xs P1 = some (ys, P') →
      ∃ T', lcL always g c e (wipeD ρ vs) S1.length (xs.map A) T = some T' ∧ St p P' S1 T' ∧ T'[S1.length]? = some (.lst ((acc ++ ys).map B)) := by
    intro xs
    induction xs with
    | nil => intro ys acc T P1 P' w a h hz eq; obtain ⟨e2, rfl⟩ := lP_some eq; cases e2; exact ⟨T, rfl, a, by rw [List.append_nil]; exact h⟩
    | cons x xs ih =>
      intro ys acc T P1 P' w a h hz eq
      obtain ⟨k, P2, e2, eq⟩ := bP_some eq
      obtain ⟨ρ1, q1, k1⟩ := hg x _ (wipeD ρ vs) T w.sx
      have w2 : Pf S0 p (slg x) P1 ρ1 T := ⟨k1, w.lo⟩
      obtain ⟨T2, q2, a2⟩ := hc x P1 ρ1 T w2 k P2 e2
      have hl : acc.length + (xs.length + 1) ≤ szl := hz
      have un : lcL always g c e (wipeD ρ vs) S1.length ((x :: xs).map A) T = (if k = true then (e ρ1 T2).bind fun y => (mat y.2 S1.length).bind fun acc =>
          if acc.length < szl then lcL always g c e (wipeD ρ vs) S1.length (xs.map A) (y.2.set S1.length (.lst (acc ++ [y.1]))) else none
        else lcL always g c e (wipeD ρ vs) S1.length (xs.map A) T2) := by
        show (if always T = true then (g (A x) (wipeD ρ vs) T).bind fun p => (c p.1 p.2).bind fun k => if k.1 then (e p.1 k.2).bind fun y => (mat y.2 S1.length).bind fun acc =>
            if acc.length < szl then lcL always g c e (wipeD ρ vs) S1.length (xs.map A) (y.2.set S1.length (.lst (acc ++ [y.1]))) else none
          else lcL always g c e (wipeD ρ vs) S1.length (xs.map A) k.2 else none) = _
        rw [if_pos (show always T = true from rfl), q1]
        show ((c ρ1 T).bind fun k => if k.1 then (e ρ1 k.2).bind fun y => (mat y.2 S1.length).bind fun acc =>
            if acc.length < szl then lcL always g c e (wipeD ρ vs) S1.length (xs.map A) (y.2.set S1.length (.lst (acc ++ [y.1]))) else none
          else lcL always g c e (wipeD ρ vs) S1.length (xs.map A) k.2) = _
        rw [q2]
        rfl
      have hnp : S1.length ≠ p := by omega
      cases k with
      | true =>
        rw [cond_true] at eq
        obtain ⟨y, P3, e3, eq⟩ := bP_some eq
        obtain ⟨zs, P4, e4, eq⟩ := bP_some eq
        obtain ⟨e5, rfl⟩ := lP_some eq
        cases e5
        obtain ⟨T3, q3, a3⟩ := he x P2 ρ1 T2 (w2.pen a2) y P3 e3
        have h3 := a3.get hnp (a2.get hnp h)
        have a4 : St p P3 T T3 := a2.trans w2.lt a3
        have a5 : St p P3 S1 (T3.set S1.length (.lst ((acc ++ [y]).map B))) := (a.trans hp1 a4).wr (Nat.le_refl _)
        obtain ⟨T4, q4, a6, h4⟩ := ih zs (acc ++ [y]) (T3.set S1.length (.lst ((acc ++ [y]).map B))) P3 _ (w1.pen a5) a5 (get_set h3) (by rw [List.length_append, List.length_singleton]; omega) e4
        refine ⟨T4, ?_, a6, by rw [h4, List.append_assoc]; rfl⟩
        rw [un, if_pos rfl, q3]
        show ((mat T3 S1.length).bind fun acc => if acc.length < szl then lcL always g c e (wipeD ρ vs) S1.length (xs.map A) (T3.set S1.length (.lst (acc ++ [B y]))) else none) = _
        rw [mat_lst h3]
        show (if (acc.map B).length < szl then lcL always g c e (wipeD ρ vs) S1.length (xs.map A) (T3.set S1.length (.lst (acc.map B ++ [B y]))) else none) = _
        rw [List.length_map, if_pos (by omega)]
        rw [List.map_append] at q4
        exact q4
      | false =>
        have a4 : St p P2 S1 T2 := a.trans hp1 a2
        obtain ⟨T4, q4, a5, h4⟩ := ih ys acc T2 P2 _ (w1.pen a4) a4 (a2.get hnp h) (by omega) eq
        exact ⟨T4, by rw [un]; exact q4, a5, h4⟩
  have a0 : All S1 (S1 ++ [.lst []]) := .app
  obtain ⟨T, q2, a2, h2⟩ := go xs ys [] (S1 ++ [.lst []]) P1 P' (w1.pen (w1.st a0)) (w1.st a0) get_new (by rw [List.length_nil, Nat.zero_add]; exact hz) eq
  refine ⟨S1.length, T, ?_, a1.trans s.lt a2, a1.len, h2⟩
  unfold mLc
  rw [q]
  show ((lcL always g c e (wipeD ρ vs) S1.length (xs.map A) (S1 ++ [.lst []])).bind fun S2 => some (D.lr S1.length, S2)) = _
  rw [q2]
  rfl
theorem px_fz {tx : PM (List α)} (h : PO S0 p sl m tx A) : PX S0 p sl (mFz m) tx (eL A) := fun P ρ S s xs P' e => by
  obtain ⟨n, S1, q, a, hn, hg⟩ := h P ρ S s xs P' e
  refine ⟨S1.set n .gone, ?_, a.wr hn⟩
  unfold mFz
  rw [q]
  show fzD S1 (.lr n) = _
  unfold fzD
  simp only [hg]
theorem px_lc {i : MItr} {g : MTg} {c : MTst} {e : MExp} {vs : List Nat} {ti : PM (List α)} {tc : α → PM Bool} {te : α → PM β} {slg : α → List Sl} (hi : PI S0 p sl i ti A) (hg : ∀ a S0, XG S0 (wipeS sl vs) g (A a) (slg a)) (hc : ∀ a, PT S0 p (slg a) c (tc a)) (he : ∀ a, PX S0 p (slg a) e (te a) B) :
    PX S0 p sl (mFz (mLc i g c e vs)) (bP ti fun xs => compP tc te xs) (eL B) := px_fz (po_lc hi hg hc he)
/-! statements -/
theorem pr_ret (h : PX S0 p sl m t A) : PR S0 p sl (mRet m) t A := fun P ρ S s b P' e => by
  obtain ⟨S1, q, a⟩ := h P ρ S s b P' e
  exact ⟨ρ, S1, by unfold mRet; rw [q]; rfl, (s.pen a).sx.all⟩
theorem pr_seqN {ts : PM σ} {sl1 : σ → List Sl} {tr : σ → PM α} (h : PN S0 p sl s1 ts sl1) (hr : ∀ x, PR S0 p (sl1 x) r (tr x) A) : PR S0 p sl (mSeq s1 r) (bP ts tr) A := fun P ρ S s b P' e => by
  obtain ⟨x, P1, e1, e⟩ := bP_some e
  obtain ⟨ρ1, S1, q, s1⟩ := h P ρ S s x P1 e1
  obtain ⟨ρ2, S2, q2, a2⟩ := hr x P1 ρ1 S1 s1 b P' e
  exact ⟨ρ2, S2, by unfold mSeq; rw [q]; exact q2, a2⟩
theorem pr_seqB {ts : PM (Out σ α)} {sl1 : σ → List Sl} {tr : σ → PM α} (h : PB S0 p sl s1 ts sl1 A) (hr : ∀ x, PR S0 p (sl1 x) r (tr x) A) : PR S0 p sl (mSeq s1 r) (bP ts fun o => o.by tr fun b => lP (some b)) A := fun P ρ S s b P' e => by
  obtain ⟨o, P1, e1, e⟩ := bP_some e
  obtain ⟨f, ρ1, S1, q, k⟩ := h P ρ S s o P1 e1
  cases o with
  | nx x =>
    obtain ⟨rfl, s1⟩ := k
    obtain ⟨ρ2, S2, q2, a2⟩ := hr x P1 ρ1 S1 s1 b P' e
    exact ⟨ρ2, S2, by unfold mSeq; rw [q]; exact q2, a2⟩
  | rt b' =>
    obtain ⟨rfl, a⟩ := k
    obtain ⟨e2, rfl⟩ := lP_some e
    cases e2
    exact ⟨ρ1, S1, by unfold mSeq; rw [q]; rfl, a⟩
theorem pr_if {c : MTst} {tc : PM Bool} {ta tb : PM α} (hc : PT S0 p sl c tc) (ha : PR S0 p sl s1 ta A) (hb : PR S0 p sl s2 tb A) : PR S0 p sl (mIfS c s1 s2) (bP tc fun k => cond k ta tb) A := fun P ρ S s b P' e => by
  obtain ⟨k, P1, e1, e⟩ := bP_some e
  obtain ⟨S1, q, a1⟩ := hc P ρ S s k P1 e1
  unfold mIfS
  rw [q]
  cases k with
  | true => exact ha P1 ρ S1 (s.pen a1) b P' e
  | false => exact hb P1 ρ S1 (s.pen a1) b P' e
theorem pr_ifr {c : MTst} {tc : PM Bool} {ta tb : PM α} (hc : PT S0 p sl c tc) (ha : PR S0 p sl s1 ta A) (hb : PR S0 p sl r tb A) : PR S0 p sl (mSeq (mIfS c s1 mNx) r) (bP tc fun k => cond k ta tb) A := fun P ρ S s b P' e => by
  obtain ⟨k, P1, e1, e⟩ := bP_some e
  obtain ⟨S1, q, a1⟩ := hc P ρ S s k P1 e1
  rw [seq_nx q]
  cases k with
  | true =>
    obtain ⟨ρ2, S2, q2, a2⟩ := ha P1 ρ S1 (s.pen a1) b P' e
    exact ⟨ρ2, S2, rt_seq q2, a2⟩
  | false => exact hb P1 ρ S1 (s.pen a1) b P' e
theorem pn_seq {ts : PM σ} {sl1 : σ → List Sl} {tr : σ → PM τ} {sl' : τ → List Sl} (h : PN S0 p sl s1 ts sl1) (hr : ∀ x, PN S0 p (sl1 x) r (tr x) sl') : PN S0 p sl (mSeq s1 r) (bP ts tr) sl' := fun P ρ S s b P' e => by
  obtain ⟨x, P1, e1, e⟩ := bP_some e
  obtain ⟨ρ1, S1, q, s1⟩ := h P ρ S s x P1 e1
  obtain ⟨ρ2, S2, q2, a2⟩ := hr x P1 ρ1 S1 s1 b P' e
  exact ⟨ρ2, S2, by unfold mSeq; rw [q]; exact q2, a2⟩
theorem pn_asg {i : Nat} (h : PX S0 p sl m t A) : PN S0 p sl (mAsg m (mName i)) t (fun a => sl.set i (.val (A a))) := fun P ρ S s a P' e => by
  obtain ⟨S1, q, a1⟩ := h P ρ S s a P' e
  exact ⟨_, S1, by unfold mAsg; rw [q]; rfl, (s.pen a1).sx.set, s.lo⟩
theorem pn_asgG {g : MTg} {sl1 : α → List Sl} (h : PX S0 p sl m t A) (hg : ∀ a S0, XG S0 sl g (A a) (sl1 a)) : PN S0 p sl (mAsg m g) t sl1 := fun P ρ S s a P' e => by
  obtain ⟨S1, q, a1⟩ := h P ρ S s a P' e
  obtain ⟨ρ1, q1, s1⟩ := hg a _ ρ S1 (s.pen a1).sx
  exact ⟨ρ1, S1, by unfold mAsg; rw [q]; show ((g (A a) ρ S1).bind _) = _; rw [q1]; rfl, s1, s.lo⟩
theorem Pf.newO {i n : Nat} {ds : List D} {P P' : Pn} {ρ : Ev} (s : Pf S0 p sl P ρ S) (a : St p P' S S') (hn : S.length ≤ n) (hg : S'[n]? = some (.lst ds)) : Pf S0 p (sl.set i (.own ds)) P' (ρ.set i (some (.lr n))) S' := by
  have s' := s.pen a
  refine ⟨s'.sx.newF .refl ?_ (fun j es h h1 h2 => ?_) hg, s.lo⟩
  · have := s.sx.all.len
    rw [List.length_set] at this ⊢
    omega
  · obtain ⟨h', q1, q2, _⟩ := s.sx.own j es h1
    rw [h2] at q1
    cases q1
    have := (List.getElem?_eq_some_iff.mp q2).1
    omega
theorem pn_own {i : Nat} {tx : PM (List α)} (h : PO S0 p sl m tx A) : PN S0 p sl (mAsg m (mName i)) tx (fun xs => sl.set i (.own (xs.map A))) := fun P ρ S s a P' e => by
  obtain ⟨n, S1, q, a1, hn, hg⟩ := h P ρ S s a P' e
  exact ⟨_, _, by unfold mAsg; rw [q]; rfl, s.newO a1 hn hg⟩
theorem pn_st {ts : PM σ} {sl1 : σ → List Sl} {f : σ → τ} {sl' : τ → List Sl} (h : PN S0 p sl s1 ts sl1) (hk : ∀ x, Wk (sl1 x) (sl' (f x))) : PN S0 p sl s1 (bP ts fun x => lP (some (f x))) sl' := fun P ρ S s b P' e => by
  obtain ⟨x, P1, e1, e⟩ := bP_some e
  obtain ⟨e2, rfl⟩ := lP_some e
  cases e2
  obtain ⟨ρ1, S1, q, k⟩ := h P ρ S s x _ e1
  exact ⟨ρ1, S1, q, k.sx.wk (hk x), k.lo⟩
theorem pn_if {c : MTst} {tc : PM Bool} {ta tb : PM σ} {sl' : σ → List Sl} (hc : PT S0 p sl c tc) (ha : PN S0 p sl s1 ta sl') (hb : PN S0 p sl s2 tb sl') : PN S0 p sl (mIfS c s1 s2) (bP tc fun k => cond k ta tb) sl' := fun P ρ S s b P' e => by
  obtain ⟨k, P1, e1, e⟩ := bP_some e
  obtain ⟨S1, q, a1⟩ := hc P ρ S s k P1 e1
  unfold mIfS
  rw [q]
  cases k with
  | true => exact ha P1 ρ S1 (s.pen a1) b P' e
  | false => exact hb P1 ρ S1 (s.pen a1) b P' e
theorem pn_drop (h : PX S0 p sl m t A) : PN S0 p sl (mDrop m) (bP t fun _ => lP (some ())) (fun _ => sl) := fun P ρ S s a P' e => by
  obtain ⟨x, P1, e1, e⟩ := bP_some e
  obtain ⟨e2, rfl⟩ := lP_some e
  obtain ⟨S1, q, a1⟩ := h P ρ S s x _ e1
  exact ⟨ρ, S1, by unfold mDrop; rw [q]; rfl, s.pen a1⟩
theorem Pf.own_ {P : Pn} {ρ : Ev} {i : Nat} {ds : List D} (s : Pf S0 p sl P ρ S) (h : sl[i]? = some (.own ds)) : ∃ k, ρ[i]? = some (some (.lr k)) ∧ S[k]? = some (.lst ds) ∧ k ≠ p := by
  obtain ⟨k, k1, k2, k3⟩ := s.sx.own i ds h
  rw [List.length_set] at k3
  have := s.lo
  exact ⟨k, k1, k2, by omega⟩
theorem pn_app {i : Nat} {xs : List α} (h : sl[i]? = some (.own (xs.map A))) (he : PX S0 p sl m t A) : PN S0 p sl (mDrop (mApp (mVar i) (mCons m mNil))) (bP t fun a => lP (pushM xs a)) (fun ys => sl.set i (.own (ys.map A))) := fun P ρ S s ys P' e => by
  obtain ⟨a, P1, e1, e⟩ := bP_some e
  obtain ⟨e9, rfl⟩ := lP_some e; have e := e9
  obtain ⟨hz, rfl⟩ := pushM_some e
  obtain ⟨S1, q, a1⟩ := he P ρ S s a _ e1
  obtain ⟨k, k1, k2, k3⟩ := s.own_ h
  have k2' := a1.get k3 k2
  refine ⟨ρ, S1.set k (.lst ((xs ++ [a]).map A)), ?_, (s.pen a1).sx.wr h k1, s.lo⟩
  unfold mDrop mApp
  have e1 : mVar i ρ S = some (.lr k, S) := by unfold mVar; rw [k1]
  rw [e1]
  have e2 : mCons m mNil ρ S = some ([A a], S1) := by simp only [mCons, mNil, q, Option.bind_some]
  show ((((mat S k).bind fun _ => (mCons m mNil ρ S).bind fun q => match q.1 with
    | [d] => (mat q.2 k).bind fun ds => if ds.length < szl then some (D.non, q.2.set k (.lst (ds ++ [d]))) else none
    | _ => none)).bind fun p => some (Fl.nx, ρ, p.2)) = _
  rw [mat_lst k2]
  show (((mCons m mNil ρ S).bind fun q => match q.1 with
    | [d] => (mat q.2 k).bind fun ds => if ds.length < szl then some (D.non, q.2.set k (.lst (ds ++ [d]))) else none
    | _ => none).bind fun p => some (Fl.nx, ρ, p.2)) = _
  rw [e2]
  show (((mat S1 k).bind fun ds => if ds.length < szl then some (D.non, S1.set k (.lst (ds ++ [A a]))) else none).bind fun p => some (Fl.nx, ρ, p.2)) = _
  rw [mat_lst k2']
  show ((if (xs.map A).length < szl then some (D.non, S1.set k (.lst (xs.map A ++ [A a]))) else none).bind fun p => some (Fl.nx, ρ, p.2)) = _
  rw [List.length_map, if_pos hz, List.map_append]
  rfl
theorem pn_ext {i : Nat} {xs : List α} {ty : PM (List α)} (h : sl[i]? = some (.own (xs.map A))) (he : PX S0 p sl m ty (eL A)) : PN S0 p sl (mDrop (mExtV (mVar i) (mCons m mNil))) (bP ty fun a => lP (extM xs a)) (fun ys => sl.set i (.own (ys.map A))) := fun P ρ S s ys P' e => by
  obtain ⟨a, P1, e1, e⟩ := bP_some e
  obtain ⟨e9, rfl⟩ := lP_some e; have e := e9
  obtain ⟨hz, rfl⟩ := extM_some e
  obtain ⟨S1, q, a1⟩ := he P ρ S s a _ e1
  obtain ⟨k, k1, k2, k3⟩ := s.own_ h
  have k2' := a1.get k3 k2
  refine ⟨ρ, S1.set k (.lst ((xs ++ a).map A)), ?_, (s.pen a1).sx.wr h k1, s.lo⟩
  unfold mDrop mExtV
  have e1 : mVar i ρ S = some (.lr k, S) := by unfold mVar; rw [k1]
  rw [e1]
  show (((mat S k).bind fun _ => (mCons m mNil ρ S).bind fun q => match q.1 with
    | [.lst es] => (mat q.2 k).bind fun ds => if ds.length + es.length ≤ szl then some (D.non, q.2.set k (.lst (ds ++ es))) else none
    | _ => none).bind fun p => some (Fl.nx, ρ, p.2)) = _
  rw [mat_lst k2]
  have e2 : mCons m mNil ρ S = some ([eL A a], S1) := by simp only [mCons, mNil, q, Option.bind_some]
  show (((mCons m mNil ρ S).bind fun q => match q.1 with
    | [.lst es] => (mat q.2 k).bind fun ds => if ds.length + es.length ≤ szl then some (D.non, q.2.set k (.lst (ds ++ es))) else none
    | _ => none).bind fun p => some (Fl.nx, ρ, p.2)) = _
  rw [e2]
  show (((mat S1 k).bind fun ds => if ds.length + (a.map A).length ≤ szl then some (D.non, S1.set k (.lst (ds ++ a.map A))) else none).bind fun p => some (Fl.nx, ρ, p.2)) = _
  rw [mat_lst k2']
  show ((if (xs.map A).length + (a.map A).length ≤ szl then some (D.non, S1.set k (.lst (xs.map A ++ a.map A))) else none).bind fun p => some (Fl.nx, ρ, p.2)) = _
  rw [List.length_map, List.length_map, if_pos hz, List.map_append]
  rfl
theorem pn_aug {f : DOp2} {i : Nat} {a : α} {k : α → β → Option γ} (h : sl[i]? = some (.val (A a))) (h2 : PX S0 p sl m t2 B) (hf : Op2 f A B C k) : PN S0 p sl (mAug i f m) (bP t2 fun b => lP (k a b)) (fun c => sl.set i (.val (C c))) := fun P ρ S s c P' e => by
  obtain ⟨b, P1, e1, e⟩ := bP_some e
  obtain ⟨e9, rfl⟩ := lP_some e; have e := e9
  obtain ⟨S1, q1, a1⟩ := h2 P ρ S s b _ e1
  refine ⟨ρ.set i (some (C c)), S1, ?_, (s.pen a1).sx.set, s.lo⟩
  unfold mAug
  rw [s.sx.val i _ h]
  show ((m ρ S).bind fun p => (f (A a) p.1 p.2).bind fun q => some (Fl.nx, ρ.set i (some q.1), q.2)) = _
  rw [q1]
  show ((f (A a) (B b) S1).bind fun q => some (Fl.nx, ρ.set i (some q.1), q.2)) = _
  rw [hf a b c S1 e]
  rfl
/-! blocks that return or fall through -/
theorem pb_R {sl' : σ → List Sl} (h : PR S0 p sl r t A) : PB S0 p sl r (bP t fun b => lP (some (Out.rt b))) sl' A := fun P ρ S s o P' e => by
  obtain ⟨b, P1, e1, e⟩ := bP_some e
  obtain ⟨e9, rfl⟩ := lP_some e; have e := e9
  cases e
  obtain ⟨ρ1, S1, q, a⟩ := h P ρ S s b _ e1
  exact ⟨_, ρ1, S1, q, rfl, a⟩
theorem pb_N {ts : PM σ} {sl' : σ → List Sl} (h : PN S0 p sl r ts sl') : PB S0 p sl r (bP ts fun b => lP (some (Out.nx b))) sl' A := fun P ρ S s o P' e => by
  obtain ⟨b, P1, e1, e⟩ := bP_some e
  obtain ⟨e9, rfl⟩ := lP_some e; have e := e9
  cases e
  obtain ⟨ρ1, S1, q, a⟩ := h P ρ S s b _ e1
  exact ⟨_, ρ1, S1, q, rfl, a⟩
theorem pb_seqN {ts : PM σ} {sl1 : σ → List Sl} {tr : σ → PM (Out τ α)} {sl' : τ → List Sl} (h : PN S0 p sl s1 ts sl1) (hr : ∀ x, PB S0 p (sl1 x) r (tr x) sl' A) : PB S0 p sl (mSeq s1 r) (bP ts tr) sl' A := fun P ρ S s b P' e => by
  obtain ⟨x, P1, e1, e⟩ := bP_some e
  obtain ⟨ρ1, S1, q, s1⟩ := h P ρ S s x P1 e1
  obtain ⟨f, ρ2, S2, q2, a2⟩ := hr x P1 ρ1 S1 s1 b P' e
  exact ⟨f, ρ2, S2, by unfold mSeq; rw [q]; exact q2, a2⟩
theorem pb_if {c : MTst} {tc : PM Bool} {ta tb : PM (Out σ α)} {sl' : σ → List Sl} (hc : PT S0 p sl c tc) (ha : PB S0 p sl s1 ta sl' A) (hb : PB S0 p sl s2 tb sl' A) : PB S0 p sl (mIfS c s1 s2) (bP tc fun k => cond k ta tb) sl' A := fun P ρ S s b P' e => by
  obtain ⟨k, P1, e1, e⟩ := bP_some e
  obtain ⟨S1, q, a1⟩ := hc P ρ S s k P1 e1
  unfold mIfS
  rw [q]
  cases k with
  | true => exact ha P1 ρ S1 (s.pen a1) b P' e
  | false => exact hb P1 ρ S1 (s.pen a1) b P' e
theorem pb_ifr {c : MTst} {tc : PM Bool} {ta : PM α} {tb : PM (Out σ α)} {sl' : σ → List Sl} (hc : PT S0 p sl c tc) (ha : PR S0 p sl s1 ta A) (hb : PB S0 p sl r tb sl' A) : PB S0 p sl (mSeq (mIfS c s1 mNx) r) (bP tc fun k => cond k (bP ta fun b => lP (some (Out.rt b))) tb) sl' A := fun P ρ S s o P' e => by
  obtain ⟨k, P1, e1, e⟩ := bP_some e
  obtain ⟨S1, q, a1⟩ := hc P ρ S s k P1 e1
  rw [seq_nx q]
  cases k with
  | true =>
    rw [cond_true] at e
    obtain ⟨b, P2, e2, e⟩ := bP_some e
    obtain ⟨e9, rfl⟩ := lP_some e; have e := e9
    cases e
    obtain ⟨ρ2, S2, q2, a2⟩ := ha P1 ρ S1 (s.pen a1) b _ e2
    exact ⟨_, ρ2, S2, rt_seq q2, rfl, a2⟩
  | false => exact hb P1 ρ S1 (s.pen a1) o P' e
theorem pb_seqB {ts : PM (Out σ α)} {sl1 : σ → List Sl} {tr : σ → PM (Out τ α)} {sl' : τ → List Sl} (h : PB S0 p sl s1 ts sl1 A) (hr : ∀ x, PB S0 p (sl1 x) r (tr x) sl' A) : PB S0 p sl (mSeq s1 r) (bP ts fun o => o.by tr fun b => lP (some (Out.rt b))) sl' A := fun P ρ S s o2 P' e => by
  obtain ⟨o, P1, e1, e⟩ := bP_some e
  obtain ⟨f, ρ1, S1, q, k⟩ := h P ρ S s o P1 e1
  cases o with
  | nx x =>
    obtain ⟨rfl, s1⟩ := k
    obtain ⟨f2, ρ2, S2, q2, a2⟩ := hr x P1 ρ1 S1 s1 o2 P' e
    exact ⟨f2, ρ2, S2, by unfold mSeq; rw [q]; exact q2, a2⟩
  | rt b' =>
    obtain ⟨rfl, a⟩ := k
    obtain ⟨e9, rfl⟩ := lP_some e; have e := e9
    cases e
    exact ⟨_, ρ1, S1, by unfold mSeq; rw [q]; rfl, rfl, a⟩
theorem pb_st {ts : PM (Out σ α)} {sl1 : σ → List Sl} {f : σ → τ} {sl' : τ → List Sl} (h : PB S0 p sl s1 ts sl1 A) (hk : ∀ x, Wk (sl1 x) (sl' (f x))) : PB S0 p sl s1 (bP ts fun o => o.by (fun x => lP (some (Out.nx (f x)))) fun b => lP (some (Out.rt b))) sl' A := fun P ρ S s o2 P' e => by
  obtain ⟨o, P1, e1, e⟩ := bP_some e
  obtain ⟨f, ρ1, S1, q, k⟩ := h P ρ S s o P1 e1
  cases o with
  | nx x =>
    obtain ⟨e9, rfl⟩ := lP_some e; have e := e9
    cases e
    obtain ⟨rfl, s1⟩ := k
    exact ⟨_, ρ1, S1, q, rfl, s1.sx.wk (hk x), s1.lo⟩
  | rt b' =>
    obtain ⟨e9, rfl⟩ := lP_some e; have e := e9
    cases e
    exact ⟨_, ρ1, S1, q, k⟩
/-! loops -/
theorem pn_for {i : MItr} {g : MTg} {b : MStm} {ti : PM (List α)} {tb : α → σ → PM σ} {s0 : σ} {slσ : σ → List Sl} {slg : σ → α → List Sl} (hi : PI S0 p sl i ti A) (hw : Wk sl (slσ s0)) (hg : ∀ s a S0, XG S0 (slσ s) g (A a) (slg s a)) (hb : ∀ s a, PN S0 p (slg s a) b (tb a s) slσ) :
    PN S0 p sl (mFor i g b) (bP ti fun xs => loopP tb xs s0) slσ := fun P ρ S s s' P' e => by
  obtain ⟨xs, P1, e1, e⟩ := bP_some e
  obtain ⟨S1, q, a1⟩ := hi P ρ S s xs P1 e1
  have go : ∀ (xs : List α) (s0 : σ) (P1 : Pn) (ρ : Ev) (S : Store), Pf S0 p (slσ s0) P1 ρ S → loopP tb xs s0 P1 = some (s', P') → ∃ ρ' S', forL always g b (xs.map A) ρ S = some (.nx, ρ', S') ∧ Pf S0 p (slσ s') P' ρ' S' := by
    intro xs
    induction xs with
    | nil => intro s0 P1 ρ S k e; obtain ⟨e9, rfl⟩ := lP_some e; have e := e9; cases e; exact ⟨ρ, S, rfl, k⟩
    | cons x xs ih =>
      intro s0 P1 ρ S k e
      obtain ⟨s1, P2, e2, e⟩ := bP_some e
      obtain ⟨ρ1, q1, k1⟩ := hg s0 x _ ρ S k.sx
      obtain ⟨ρ2, S2, q2, k2⟩ := hb s0 x P1 ρ1 S ⟨k1, k.lo⟩ s1 P2 e2
      obtain ⟨ρ3, S3, q3, k3⟩ := ih s1 P2 ρ2 S2 k2 e
      exact ⟨ρ3, S3, by rw [List.map_cons, forL_cons q1 q2]; exact q3, k3⟩
  obtain ⟨ρ', S', q2, k2⟩ := go xs s0 P1 ρ S1 ⟨(s.pen a1).sx.wk hw, s.lo⟩ e
  exact ⟨ρ', S', by unfold mFor; rw [q]; exact q2, k2⟩
theorem pb_for {i : MItr} {g : MTg} {b : MStm} {ti : PM (List α)} {tb : α → σ → PM (Out σ β)} {s0 : σ} {slσ : σ → List Sl} {slg : σ → α → List Sl} (hi : PI S0 p sl i ti A) (hw : Wk sl (slσ s0)) (hg : ∀ s a S0, XG S0 (slσ s) g (A a) (slg s a)) (hb : ∀ s a, PB S0 p (slg s a) b (tb a s) slσ B) :
    PB S0 p sl (mFor i g b) (bP ti fun xs => loopRP tb xs s0) slσ B := fun P ρ S s o P' e => by
  obtain ⟨xs, P1, e1, e⟩ := bP_some e
  obtain ⟨S1, q, a1⟩ := hi P ρ S s xs P1 e1
  have go : ∀ (xs : List α) (s0 : σ) (P1 : Pn) (ρ : Ev) (S : Store), Pf S0 p (slσ s0) P1 ρ S → loopRP tb xs s0 P1 = some (o, P') → ∃ f ρ' S', forL always g b (xs.map A) ρ S = some (f, ρ', S') ∧ OutP S0 p slσ B f P' ρ' S' o := by
    intro xs
    induction xs with
    | nil => intro s0 P1 ρ S k e; obtain ⟨e9, rfl⟩ := lP_some e; have e := e9; cases e; exact ⟨_, ρ, S, rfl, rfl, k⟩
    | cons x xs ih =>
      intro s0 P1 ρ S k e
      obtain ⟨o1, P2, e2, e⟩ := bP_some e
      obtain ⟨ρ1, q1, k1⟩ := hg s0 x _ ρ S k.sx
      obtain ⟨f2, ρ2, S2, q2, k2⟩ := hb s0 x P1 ρ1 S ⟨k1, k.lo⟩ o1 P2 e2
      have un : forL always g b ((x :: xs).map A) ρ S = stepL g b (xs.map A) f2 ρ2 S2 := by rw [List.map_cons, forL_cons q1 q2]
      cases o1 with
      | nx s1 =>
        obtain ⟨rfl, k2⟩ := k2
        obtain ⟨f3, ρ3, S3, q3, k3⟩ := ih s1 P2 ρ2 S2 k2 e
        exact ⟨f3, ρ3, S3, by rw [un]; exact q3, k3⟩
      | rt b' =>
        obtain ⟨e9, rfl⟩ := lP_some e; have e := e9
        cases e
        obtain ⟨rfl, k2⟩ := k2
        exact ⟨_, ρ2, S2, by rw [un]; rfl, rfl, k2⟩
  obtain ⟨f, ρ', S', q2, k2⟩ := go xs s0 P1 ρ S1 ⟨(s.pen a1).sx.wk hw, s.lo⟩ e
  exact ⟨f, ρ', S', by unfold mFor; rw [q]; exact q2, k2⟩
/-! a def that takes a pen -/
theorem gps_of {np n : Nat} {M : MStm} {ds : List D} (hl : ds.length + 1 = np) (h : ∀ S p, PR S p (.val (.lr p) :: (ds.map Sl.val ++ List.replicate (n - (ds.length + 1)) Sl.unk)) M t A) : Gps (den np n M) ds t A := fun S p P hp a P' e => by
  have s0 := sx_start (S := S) (ds := .lr p :: ds) (n := n)
  have e1 : (D.lr p :: ds).map Sl.val ++ List.replicate (n - (D.lr p :: ds).length) Sl.unk = .val (.lr p) :: (ds.map Sl.val ++ List.replicate (n - (ds.length + 1)) Sl.unk) := by
    simp
  rw [e1] at s0
  have s1 : Pf S p (.val (.lr p) :: (ds.map Sl.val ++ List.replicate (n - (ds.length + 1)) Sl.unk)) P (startD n (.lr p :: ds)) S := ⟨by rw [set_same hp]; exact s0, (List.getElem?_eq_some_iff.mp hp).1⟩
  obtain ⟨ρ', S', q, k⟩ := h S p P _ S s1 a P' e
  refine ⟨S', ?_, k⟩
  unfold den
  rw [if_pos (by rw [List.length_cons]; exact hl), q]
end
end TM

set_option Elab.async false
set_option linter.all false
set_option maxRecDepth 100000
set_option maxHeartbeats 4000000
namespace TM
open PySem PySem.Spec PyProof.Rows L2 MS
section
variable {α β γ δ : Type} {S0 : Store} {p : Nat} {sl : List Sl} {m m1 m2 m3 m4 m5 m6 m7 : MExp} {A : α → D} {B : β → D} {C : γ → D}
theorem px_pcall0  {i : Nat} {F : DCall} {f : PM γ} (hp : sl[i]? = some (.val (.lr p)))  (hf : Gps F [] (f ) C) : PX S0 p sl (mCall F (mCons (mVar i) mNil)) (f ) C := fun P ρ S s c P9 e => by
  obtain ⟨S9, q9, a9⟩ := hf  S p P (s).at_ c P9 e
  refine ⟨S9, ?_, a9⟩
  have v : mVar i ρ S = some (.lr p, S) := by unfold mVar; rw [s.sx.val i _ hp]
  have q : mCons (mVar i) mNil ρ S = some (.lr p :: [], S) := by simp only [mCons, mNil, v,  Option.bind_some]
  unfold mCall
  rw [q]
  exact q9
theorem px_call1 {τ1 : Type} {n1 : MExp} {u1 : PM τ1} {E1 : τ1 → D} {F : DCall} {f : τ1 → Option γ} (h1 : PX S0 p sl n1 u1 E1) (hf : ∀ x1, Gvs F [E1 x1] (f x1) C) : PX S0 p sl (mCall F (mCons n1 mNil)) (bP u1 fun x1 => lP (f x1)) C := fun P ρ S s c P9 e => by
  obtain ⟨x1, P1, e1, e⟩ := bP_some e
  obtain ⟨S1, q1, a1⟩ := h1 P ρ S s x1 P1 e1
  have s1 := (s).pen a1
  have b1 := a1
  obtain ⟨ey, ez⟩ := lP_some e
  subst ez
  obtain ⟨S9, q9, a9⟩ := hf x1 c ey S1
  refine ⟨S9, ?_, b1.all a9⟩
  have q : (mCons n1 mNil) ρ S = some ([E1 x1], S1) := by simp only [mCons, mNil, q1, Option.bind_some]
  unfold mCall
  rw [q]
  exact q9
theorem px_pcall1 {τ1 : Type} {n1 : MExp} {u1 : PM τ1} {E1 : τ1 → D} {i : Nat} {F : DCall} {f : τ1 → PM γ} (hp : sl[i]? = some (.val (.lr p))) (h1 : PX S0 p sl n1 u1 E1) (hf : ∀ x1, Gps F [E1 x1] (f x1) C) : PX S0 p sl (mCall F (mCons (mVar i) (mCons n1 mNil))) (bP u1 fun x1 => f x1) C := fun P ρ S s c P9 e => by
  obtain ⟨x1, P1, e1, e⟩ := bP_some e
  obtain ⟨S1, q1, a1⟩ := h1 P ρ S s x1 P1 e1
  have s1 := (s).pen a1
  have b1 := a1
  obtain ⟨S9, q9, a9⟩ := hf x1 S1 p P1 (s1).at_ c P9 e
  refine ⟨S9, ?_, b1.trans s.lt a9⟩
  have v : mVar i ρ S = some (.lr p, S) := by unfold mVar; rw [s.sx.val i _ hp]
  have q : mCons (mVar i) (mCons n1 mNil) ρ S = some (.lr p :: [E1 x1], S1) := by simp only [mCons, mNil, v, q1,  Option.bind_some]
  unfold mCall
  rw [q]
  exact q9
theorem px_call2 {τ1 : Type} {n1 : MExp} {u1 : PM τ1} {E1 : τ1 → D} {τ2 : Type} {n2 : MExp} {u2 : PM τ2} {E2 : τ2 → D} {F : DCall} {f : τ1 → τ2 → Option γ} (h1 : PX S0 p sl n1 u1 E1) (h2 : PX S0 p sl n2 u2 E2) (hf : ∀ x1 x2, Gvs F [E1 x1, E2 x2] (f x1 x2) C) : PX S0 p sl (mCall F (mCons n1 (mCons n2 mNil))) (bP u1 fun x1 => bP u2 fun x2 => lP (f x1 x2)) C := fun P ρ S s c P9 e => by
  obtain ⟨x1, P1, e1, e⟩ := bP_some e
  obtain ⟨x2, P2, e2, e⟩ := bP_some e
  obtain ⟨S1, q1, a1⟩ := h1 P ρ S s x1 P1 e1
  have s1 := (s).pen a1
  have b1 := a1
  obtain ⟨S2, q2, a2⟩ := h2 P1 ρ S1 s1 x2 P2 e2
  have s2 := (s1).pen a2
  have b2 := b1.trans s.lt a2
  obtain ⟨ey, ez⟩ := lP_some e
  subst ez
  obtain ⟨S9, q9, a9⟩ := hf x1 x2 c ey S2
  refine ⟨S9, ?_, b2.all a9⟩
  have q : (mCons n1 (mCons n2 mNil)) ρ S = some ([E1 x1, E2 x2], S2) := by simp only [mCons, mNil, q1, q2, Option.bind_some]
  unfold mCall
  rw [q]
  exact q9
theorem px_pcall2 {τ1 : Type} {n1 : MExp} {u1 : PM τ1} {E1 : τ1 → D} {τ2 : Type} {n2 : MExp} {u2 : PM τ2} {E2 : τ2 → D} {i : Nat} {F : DCall} {f : τ1 → τ2 → PM γ} (hp : sl[i]? = some (.val (.lr p))) (h1 : PX S0 p sl n1 u1 E1) (h2 : PX S0 p sl n2 u2 E2) (hf : ∀ x1 x2, Gps F [E1 x1, E2 x2] (f x1 x2) C) : PX S0 p sl (mCall F (mCons (mVar i) (mCons n1 (mCons n2 mNil)))) (bP u1 fun x1 => bP u2 fun x2 => f x1 x2) C := fun P ρ S s c P9 e => by
  obtain ⟨x1, P1, e1, e⟩ := bP_some e
  obtain ⟨x2, P2, e2, e⟩ := bP_some e
  obtain ⟨S1, q1, a1⟩ := h1 P ρ S s x1 P1 e1
  have s1 := (s).pen a1
  have b1 := a1
  obtain ⟨S2, q2, a2⟩ := h2 P1 ρ S1 s1 x2 P2 e2
  have s2 := (s1).pen a2
  have b2 := b1.trans s.lt a2
  obtain ⟨S9, q9, a9⟩ := hf x1 x2 S2 p P2 (s2).at_ c P9 e
  refine ⟨S9, ?_, b2.trans s.lt a9⟩
  have v : mVar i ρ S = some (.lr p, S) := by unfold mVar; rw [s.sx.val i _ hp]
  have q : mCons (mVar i) (mCons n1 (mCons n2 mNil)) ρ S = some (.lr p :: [E1 x1, E2 x2], S2) := by simp only [mCons, mNil, v, q1, q2,  Option.bind_some]
  unfold mCall
  rw [q]
  exact q9
theorem px_call3 {τ1 : Type} {n1 : MExp} {u1 : PM τ1} {E1 : τ1 → D} {τ2 : Type} {n2 : MExp} {u2 : PM τ2} {E2 : τ2 → D} {τ3 : Type} {n3 : MExp} {u3 : PM τ3} {E3 : τ3 → D} {F : DCall} {f : τ1 → τ2 → τ3 → Option γ} (h1 : PX S0 p sl n1 u1 E1) (h2 : PX S0 p sl n2 u2 E2) (h3 : PX S0 p sl n3 u3 E3) (hf : ∀ x1 x2 x3, Gvs F [E1 x1, E2 x2, E3 x3] (f x1 x2 x3) C) : PX S0 p sl (mCall F (mCons n1 (mCons n2 (mCons n3 mNil)))) (bP u1 fun x1 => bP u2 fun x2 => bP u3 fun x3 => lP (f x1 x2 x3)) C := fun P ρ S s c P9 e => by
  obtain ⟨x1, P1, e1, e⟩ := bP_some e
  obtain ⟨x2, P2, e2, e⟩ := bP_some e
  obtain ⟨x3, P3, e3, e⟩ := bP_some e
  obtain ⟨S1, q1, a1⟩ := h1 P ρ S s x1 P1 e1
  have s1 := (s).pen a1
  have b1 := a1
  obtain ⟨S2, q2, a2⟩ := h2 P1 ρ S1 s1 x2 P2 e2
  have s2 := (s1).pen a2
  have b2 := b1.trans s.lt a2
  obtain ⟨S3, q3, a3⟩ := h3 P2 ρ S2 s2 x3 P3 e3
  have s3 := (s2).pen a3
  have b3 := b2.trans s.lt a3
  obtain ⟨ey, ez⟩ := lP_some e
  subst ez
  obtain ⟨S9, q9, a9⟩ := hf x1 x2 x3 c ey S3
  refine ⟨S9, ?_, b3.all a9⟩
  have q : (mCons n1 (mCons n2 (mCons n3 mNil))) ρ S = some ([E1 x1, E2 x2, E3 x3], S3) := by simp only [mCons, mNil, q1, q2, q3, Option.bind_some]
  unfold mCall
  rw [q]
  exact q9
theorem px_pcall3 {τ1 : Type} {n1 : MExp} {u1 : PM τ1} {E1 : τ1 → D} {τ2 : Type} {n2 : MExp} {u2 : PM τ2} {E2 : τ2 → D} {τ3 : Type} {n3 : MExp} {u3 : PM τ3} {E3 : τ3 → D} {i : Nat} {F : DCall} {f : τ1 → τ2 → τ3 → PM γ} (hp : sl[i]? = some (.val (.lr p))) (h1 : PX S0 p sl n1 u1 E1) (h2 : PX S0 p sl n2 u2 E2) (h3 : PX S0 p sl n3 u3 E3) (hf : ∀ x1 x2 x3, Gps F [E1 x1, E2 x2, E3 x3] (f x1 x2 x3) C) : PX S0 p sl (mCall F (mCons (mVar i) (mCons n1 (mCons n2 (mCons n3 mNil))))) (bP u1 fun x1 => bP u2 fun x2 => bP u3 fun x3 => f x1 x2 x3) C := fun P ρ S s c P9 e => by
  obtain ⟨x1, P1, e1, e⟩ := bP_some e
  obtain ⟨x2, P2, e2, e⟩ := bP_some e
  obtain ⟨x3, P3, e3, e⟩ := bP_some e
  obtain ⟨S1, q1, a1⟩ := h1 P ρ S s x1 P1 e1
  have s1 := (s).pen a1
  have b1 := a1
  obtain ⟨S2, q2, a2⟩ := h2 P1 ρ S1 s1 x2 P2 e2
  have s2 := (s1).pen a2
  have b2 := b1.trans s.lt a2
  obtain ⟨S3, q3, a3⟩ := h3 P2 ρ S2 s2 x3 P3 e3
  have s3 := (s2).pen a3
  have b3 := b2.trans s.lt a3
  obtain ⟨S9, q9, a9⟩ := hf x1 x2 x3 S3 p P3 (s3).at_ c P9 e
  refine ⟨S9, ?_, b3.trans s.lt a9⟩
  have v : mVar i ρ S = some (.lr p, S) := by unfold mVar; rw [s.sx.val i _ hp]
  have q : mCons (mVar i) (mCons n1 (mCons n2 (mCons n3 mNil))) ρ S = some (.lr p :: [E1 x1, E2 x2, E3 x3], S3) := by simp only [mCons, mNil, v, q1, q2, q3,  Option.bind_some]
  unfold mCall
  rw [q]
  exact q9
theorem px_call4 {τ1 : Type} {n1 : MExp} {u1 : PM τ1} {E1 : τ1 → D} {τ2 : Type} {n2 : MExp} {u2 : PM τ2} {E2 : τ2 → D} {τ3 : Type} {n3 : MExp} {u3 : PM τ3} {E3 : τ3 → D} {τ4 : Type} {n4 : MExp} {u4 : PM τ4} {E4 : τ4 → D} {F : DCall} {f : τ1 → τ2 → τ3 → τ4 → Option γ} (h1 : PX S0 p sl n1 u1 E1) (h2 : PX S0 p sl n2 u2 E2) (h3 : PX S0 p sl n3 u3 E3) (h4 : PX S0 p sl n4 u4 E4) (hf : ∀ x1 x2 x3 x4, Gvs F [E1 x1, E2 x2, E3 x3, E4 x4] (f x1 x2 x3 x4) C) : PX S0 p sl (mCall F (mCons n1 (mCons n2 (mCons n3 (mCons n4 mNil))))) (bP u1 fun x1 => bP u2 fun x2 => bP u3 fun x3 => bP u4 fun x4 => lP (f x1 x2 x3 x4)) C := fun P ρ S s c P9 e => by
  obtain ⟨x1, P1, e1, e⟩ := bP_some e
  obtain ⟨x2, P2, e2, e⟩ := bP_some e
  obtain ⟨x3, P3, e3, e⟩ := bP_some e
  obtain ⟨x4, P4, e4, e⟩ := bP_some e
  obtain ⟨S1, q1, a1⟩ := h1 P ρ S s x1 P1 e1
  have s1 := (s).pen a1
  have b1 := a1
  obtain ⟨S2, q2, a2⟩ := h2 P1 ρ S1 s1 x2 P2 e2
  have s2 := (s1).pen a2
  have b2 := b1.trans s.lt a2
  obtain ⟨S3, q3, a3⟩ := h3 P2 ρ S2 s2 x3 P3 e3
  have s3 := (s2).pen a3
  have b3 := b2.trans s.lt a3
  obtain ⟨S4, q4, a4⟩ := h4 P3 ρ S3 s3 x4 P4 e4
  have s4 := (s3).pen a4
  have b4 := b3.trans s.lt a4
  obtain ⟨ey, ez⟩ := lP_some e
  subst ez
  obtain ⟨S9, q9, a9⟩ := hf x1 x2 x3 x4 c ey S4
  refine ⟨S9, ?_, b4.all a9⟩
  have q : (mCons n1 (mCons n2 (mCons n3 (mCons n4 mNil)))) ρ S = some ([E1 x1, E2 x2, E3 x3, E4 x4], S4) := by simp only [mCons, mNil, q1, q2, q3, q4, Option.bind_some]
  unfold mCall
  rw [q]
  exact q9
theorem px_pcall4 {τ1 : Type} {n1 : MExp} {u1 : PM τ1} {E1 : τ1 → D} {τ2 : Type} {n2 : MExp} {u2 : PM τ2} {E2 : τ2 → D} {τ3 : Type} {n3 : MExp} {u3 : PM τ3} {E3 : τ3 → D} {τ4 : Type} {n4 : MExp} {u4 : PM τ4} {E4 : τ4 → D} {i : Nat} {F : DCall} {f : τ1 → τ2 → τ3 → τ4 → PM γ} (hp : sl[i]? = some (.val (.lr p))) (h1 : PX S0 p sl n1 u1 E1) (h2 : PX S0 p sl n2 u2 E2) (h3 : PX S0 p sl n3 u3 E3) (h4 : PX S0 p sl n4 u4 E4) (hf : ∀ x1 x2 x3 x4, Gps F [E1 x1, E2 x2, E3 x3, E4 x4] (f x1 x2 x3 x4) C) : PX S0 p sl (mCall F (mCons (mVar i) (mCons n1 (mCons n2 (mCons n3 (mCons n4 mNil)))))) (bP u1 fun x1 => bP u2 fun x2 => bP u3 fun x3 => bP u4 fun x4 => f x1 x2 x3 x4) C := fun P ρ S s c P9 e => by
  obtain ⟨x1, P1, e1, e⟩ := bP_some e
  obtain ⟨x2, P2, e2, e⟩ := bP_some e
  obtain ⟨x3, P3, e3, e⟩ := bP_some e
  obtain ⟨x4, P4, e4, e⟩ := bP_some e
  obtain ⟨S1, q1, a1⟩ := h1 P ρ S s x1 P1 e1
  have s1 := (s).pen a1
  have b1 := a1
  obtain ⟨S2, q2, a2⟩ := h2 P1 ρ S1 s1 x2 P2 e2
  have s2 := (s1).pen a2
  have b2 := b1.trans s.lt a2
  obtain ⟨S3, q3, a3⟩ := h3 P2 ρ S2 s2 x3 P3 e3
  have s3 := (s2).pen a3
  have b3 := b2.trans s.lt a3
  obtain ⟨S4, q4, a4⟩ := h4 P3 ρ S3 s3 x4 P4 e4
  have s4 := (s3).pen a4
  have b4 := b3.trans s.lt a4
  obtain ⟨S9, q9, a9⟩ := hf x1 x2 x3 x4 S4 p P4 (s4).at_ c P9 e
  refine ⟨S9, ?_, b4.trans s.lt a9⟩
  have v : mVar i ρ S = some (.lr p, S) := by unfold mVar; rw [s.sx.val i _ hp]
  have q : mCons (mVar i) (mCons n1 (mCons n2 (mCons n3 (mCons n4 mNil)))) ρ S = some (.lr p :: [E1 x1, E2 x2, E3 x3, E4 x4], S4) := by simp only [mCons, mNil, v, q1, q2, q3, q4,  Option.bind_some]
  unfold mCall
  rw [q]
  exact q9
theorem px_call5 {τ1 : Type} {n1 : MExp} {u1 : PM τ1} {E1 : τ1 → D} {τ2 : Type} {n2 : MExp} {u2 : PM τ2} {E2 : τ2 → D} {τ3 : Type} {n3 : MExp} {u3 : PM τ3} {E3 : τ3 → D} {τ4 : Type} {n4 : MExp} {u4 : PM τ4} {E4 : τ4 → D} {τ5 : Type} {n5 : MExp} {u5 : PM τ5} {E5 : τ5 → D} {F : DCall} {f : τ1 → τ2 → τ3 → τ4 → τ5 → Option γ} (h1 : PX S0 p sl n1 u1 E1) (h2 : PX S0 p sl n2 u2 E2) (h3 : PX S0 p sl n3 u3 E3) (h4 : PX S0 p sl n4 u4 E4) (h5 : PX S0 p sl n5 u5 E5) (hf : ∀ x1 x2 x3 x4 x5, Gvs F [E1 x1, E2 x2, E3 x3, E4 x4, E5 x5] (f x1 x2 x3 x4 x5) C) : PX S0 p sl (mCall F (mCons n1 (mCons n2 (mCons n3 (mCons n4 (mCons n5 mNil)))))) (bP u1 fun x1 => bP u2 fun x2 => bP u3 fun x3 => bP u4 fun x4 => bP u5 fun x5 => lP (f x1 x2 x3 x4 x5)) C := fun P ρ S s c P9 e => by
  obtain ⟨x1, P1, e1, e⟩ := bP_some e
  obtain ⟨x2, P2, e2, e⟩ := bP_some e
  obtain ⟨x3, P3, e3, e⟩ := bP_some e
  obtain ⟨x4, P4, e4, e⟩ := bP_some e
  obtain ⟨x5, P5, e5, e⟩ := bP_some e
  obtain ⟨S1, q1, a1⟩ := h1 P ρ S s x1 P1 e1
  have s1 := (s).pen a1
  have b1 := a1
  obtain ⟨S2, q2, a2⟩ := h2 P1 ρ S1 s1 x2 P2 e2
  have s2 := (s1).pen a2
  have b2 := b1.trans s.lt a2
  obtain ⟨S3, q3, a3⟩ := h3 P2 ρ S2 s2 x3 P3 e3
  have s3 := (s2).pen a3
  have b3 := b2.trans s.lt a3
  obtain ⟨S4, q4, a4⟩ := h4 P3 ρ S3 s3 x4 P4 e4
  have s4 := (s3).pen a4
  have b4 := b3.trans s.lt a4
  obtain ⟨S5, q5, a5⟩ := h5 P4 ρ S4 s4 x5 P5 e5
  have s5 := (s4).pen a5
  have b5 := b4.trans s.lt a5
  obtain ⟨ey, ez⟩ := lP_some e
  subst ez
  obtain ⟨S9, q9, a9⟩ := hf x1 x2 x3 x4 x5 c ey S5
  refine ⟨S9, ?_, b5.all a9⟩
  have q : (mCons n1 (mCons n2 (mCons n3 (mCons n4 (mCons n5 mNil))))) ρ S = some ([E1 x1, E2 x2, E3 x3, E4 x4, E5 x5], S5) := by simp only [mCons, mNil, q1, q2, q3, q4, q5, Option.bind_some]
  unfold mCall
  rw [q]
  exact q9
theorem px_pcall5 {τ1 : Type} {n1 : MExp} {u1 : PM τ1} {E1 : τ1 → D} {τ2 : Type} {n2 : MExp} {u2 : PM τ2} {E2 : τ2 → D} {τ3 : Type} {n3 : MExp} {u3 : PM τ3} {E3 : τ3 → D} {τ4 : Type} {n4 : MExp} {u4 : PM τ4} {E4 : τ4 → D} {τ5 : Type} {n5 : MExp} {u5 : PM τ5} {E5 : τ5 → D} {i : Nat} {F : DCall} {f : τ1 → τ2 → τ3 → τ4 → τ5 → PM γ} (hp : sl[i]? = some (.val (.lr p))) (h1 : PX S0 p sl n1 u1 E1) (h2 : PX S0 p sl n2 u2 E2) (h3 : PX S0 p sl n3 u3 E3) (h4 : PX S0 p sl n4 u4 E4) (h5 : PX S0 p sl n5 u5 E5) (hf : ∀ x1 x2 x3 x4 x5, Gps F [E1 x1, E2 x2, E3 x3, E4 x4, E5 x5] (f x1 x2 x3 x4 x5) C) : PX S0 p sl (mCall F (mCons (mVar i) (mCons n1 (mCons n2 (mCons n3 (mCons n4 (mCons n5 mNil))))))) (bP u1 fun x1 => bP u2 fun x2 => bP u3 fun x3 => bP u4 fun x4 => bP u5 fun x5 => f x1 x2 x3 x4 x5) C := fun P ρ S s c P9 e => by
  obtain ⟨x1, P1, e1, e⟩ := bP_some e
  obtain ⟨x2, P2, e2, e⟩ := bP_some e
  obtain ⟨x3, P3, e3, e⟩ := bP_some e
  obtain ⟨x4, P4, e4, e⟩ := bP_some e
  obtain ⟨x5, P5, e5, e⟩ := bP_some e
  obtain ⟨S1, q1, a1⟩ := h1 P ρ S s x1 P1 e1
  have s1 := (s).pen a1
  have b1 := a1
  obtain ⟨S2, q2, a2⟩ := h2 P1 ρ S1 s1 x2 P2 e2
  have s2 := (s1).pen a2
  have b2 := b1.trans s.lt a2
  obtain ⟨S3, q3, a3⟩ := h3 P2 ρ S2 s2 x3 P3 e3
  have s3 := (s2).pen a3
  have b3 := b2.trans s.lt a3
  obtain ⟨S4, q4, a4⟩ := h4 P3 ρ S3 s3 x4 P4 e4
  have s4 := (s3).pen a4
  have b4 := b3.trans s.lt a4
  obtain ⟨S5, q5, a5⟩ := h5 P4 ρ S4 s4 x5 P5 e5
  have s5 := (s4).pen a5
  have b5 := b4.trans s.lt a5
  obtain ⟨S9, q9, a9⟩ := hf x1 x2 x3 x4 x5 S5 p P5 (s5).at_ c P9 e
  refine ⟨S9, ?_, b5.trans s.lt a9⟩
  have v : mVar i ρ S = some (.lr p, S) := by unfold mVar; rw [s.sx.val i _ hp]
  have q : mCons (mVar i) (mCons n1 (mCons n2 (mCons n3 (mCons n4 (mCons n5 mNil))))) ρ S = some (.lr p :: [E1 x1, E2 x2, E3 x3, E4 x4, E5 x5], S5) := by simp only [mCons, mNil, v, q1, q2, q3, q4, q5,  Option.bind_some]
  unfold mCall
  rw [q]
  exact q9
theorem px_tup1 {τ1 : Type} {n1 : MExp} {u1 : PM τ1} {E1 : τ1 → D} {C : γ → D} (f : τ1 → γ) (h1 : PX S0 p sl n1 u1 E1) (hE : ∀ x1, D.tup [E1 x1] = C (f x1)) : PX S0 p sl (mTup (mCons n1 mNil)) (bP u1 fun x1 => lP (some (f x1))) C := fun P ρ S s c P9 e => by
  obtain ⟨x1, P1, e1, e⟩ := bP_some e
  obtain ⟨S1, q1, a1⟩ := h1 P ρ S s x1 P1 e1
  have s1 := (s).pen a1
  have b1 := a1
  obtain ⟨ey, ez⟩ := lP_some e
  subst ez
  cases ey
  refine ⟨S1, ?_, b1⟩
  have q : (mCons n1 mNil) ρ S = some ([E1 x1], S1) := by simp only [mCons, mNil, q1, Option.bind_some]
  unfold mTup
  rw [q]
  show (if ([E1 x1] : List D).length ≤ szl then some (D.tup [E1 x1], S1) else none) = _
  rw [if_pos (Nat.le_of_ble_eq_true rfl), hE]
theorem px_lst1 {τ1 : Type} {n1 : MExp} {u1 : PM τ1} {E1 : τ1 → D} {C : γ → D} (f : τ1 → γ) (h1 : PX S0 p sl n1 u1 E1) (hE : ∀ x1, D.lst [E1 x1] = C (f x1)) : PX S0 p sl (mLstV (mCons n1 mNil)) (bP u1 fun x1 => lP (some (f x1))) C := fun P ρ S s c P9 e => by
  obtain ⟨x1, P1, e1, e⟩ := bP_some e
  obtain ⟨S1, q1, a1⟩ := h1 P ρ S s x1 P1 e1
  have s1 := (s).pen a1
  have b1 := a1
  obtain ⟨ey, ez⟩ := lP_some e
  subst ez
  cases ey
  refine ⟨S1, ?_, b1⟩
  have q : (mCons n1 mNil) ρ S = some ([E1 x1], S1) := by simp only [mCons, mNil, q1, Option.bind_some]
  unfold mLstV
  rw [q]
  show (if ([E1 x1] : List D).length ≤ szl then some (D.lst [E1 x1], S1) else none) = _
  rw [if_pos (Nat.le_of_ble_eq_true rfl), hE]
theorem px_tup2 {τ1 : Type} {n1 : MExp} {u1 : PM τ1} {E1 : τ1 → D} {τ2 : Type} {n2 : MExp} {u2 : PM τ2} {E2 : τ2 → D} {C : γ → D} (f : τ1 → τ2 → γ) (h1 : PX S0 p sl n1 u1 E1) (h2 : PX S0 p sl n2 u2 E2) (hE : ∀ x1 x2, D.tup [E1 x1, E2 x2] = C (f x1 x2)) : PX S0 p sl (mTup (mCons n1 (mCons n2 mNil))) (bP u1 fun x1 => bP u2 fun x2 => lP (some (f x1 x2))) C := fun P ρ S s c P9 e => by
  obtain ⟨x1, P1, e1, e⟩ := bP_some e
  obtain ⟨x2, P2, e2, e⟩ := bP_some e
  obtain ⟨S1, q1, a1⟩ := h1 P ρ S s x1 P1 e1
  have s1 := (s).pen a1
  have b1 := a1
  obtain ⟨S2, q2, a2⟩ := h2 P1 ρ S1 s1 x2 P2 e2
  have s2 := (s1).pen a2
  have b2 := b1.trans s.lt a2
  obtain ⟨ey, ez⟩ := lP_some e
  subst ez
  cases ey
  refine ⟨S2, ?_, b2⟩
  have q : (mCons n1 (mCons n2 mNil)) ρ S = some ([E1 x1, E2 x2], S2) := by simp only [mCons, mNil, q1, q2, Option.bind_some]
  unfold mTup
  rw [q]
  show (if ([E1 x1, E2 x2] : List D).length ≤ szl then some (D.tup [E1 x1, E2 x2], S2) else none) = _
  rw [if_pos (Nat.le_of_ble_eq_true rfl), hE]
theorem px_lst2 {τ1 : Type} {n1 : MExp} {u1 : PM τ1} {E1 : τ1 → D} {τ2 : Type} {n2 : MExp} {u2 : PM τ2} {E2 : τ2 → D} {C : γ → D} (f : τ1 → τ2 → γ) (h1 : PX S0 p sl n1 u1 E1) (h2 : PX S0 p sl n2 u2 E2) (hE : ∀ x1 x2, D.lst [E1 x1, E2 x2] = C (f x1 x2)) : PX S0 p sl (mLstV (mCons n1 (mCons n2 mNil))) (bP u1 fun x1 => bP u2 fun x2 => lP (some (f x1 x2))) C := fun P ρ S s c P9 e => by
  obtain ⟨x1, P1, e1, e⟩ := bP_some e
  obtain ⟨x2, P2, e2, e⟩ := bP_some e
  obtain ⟨S1, q1, a1⟩ := h1 P ρ S s x1 P1 e1
  have s1 := (s).pen a1
  have b1 := a1
  obtain ⟨S2, q2, a2⟩ := h2 P1 ρ S1 s1 x2 P2 e2
  have s2 := (s1).pen a2
  have b2 := b1.trans s.lt a2
  obtain ⟨ey, ez⟩ := lP_some e
  subst ez
  cases ey
  refine ⟨S2, ?_, b2⟩
  have q : (mCons n1 (mCons n2 mNil)) ρ S = some ([E1 x1, E2 x2], S2) := by simp only [mCons, mNil, q1, q2, Option.bind_some]
  unfold mLstV
  rw [q]
  show (if ([E1 x1, E2 x2] : List D).length ≤ szl then some (D.lst [E1 x1, E2 x2], S2) else none) = _
  rw [if_pos (Nat.le_of_ble_eq_true rfl), hE]
theorem px_tup3 {τ1 : Type} {n1 : MExp} {u1 : PM τ1} {E1 : τ1 → D} {τ2 : Type} {n2 : MExp} {u2 : PM τ2} {E2 : τ2 → D} {τ3 : Type} {n3 : MExp} {u3 : PM τ3} {E3 : τ3 → D} {C : γ → D} (f : τ1 → τ2 → τ3 → γ) (h1 : PX S0 p sl n1 u1 E1) (h2 : PX S0 p sl n2 u2 E2) (h3 : PX S0 p sl n3 u3 E3) (hE : ∀ x1 x2 x3, D.tup [E1 x1, E2 x2, E3 x3] = C (f x1 x2 x3)) : PX S0 p sl (mTup (mCons n1 (mCons n2 (mCons n3 mNil)))) (bP u1 fun x1 => bP u2 fun x2 => bP u3 fun x3 => lP (some (f x1 x2 x3))) C := fun P ρ S s c P9 e => by
  obtain ⟨x1, P1, e1, e⟩ := bP_some e
  obtain ⟨x2, P2, e2, e⟩ := bP_some e
  obtain ⟨x3, P3, e3, e⟩ := bP_some e
  obtain ⟨S1, q1, a1⟩ := h1 P ρ S s x1 P1 e1
  have s1 := (s).pen a1
  have b1 := a1
  obtain ⟨S2, q2, a2⟩ := h2 P1 ρ S1 s1 x2 P2 e2
  have s2 := (s1).pen a2
  have b2 := b1.trans s.lt a2
  obtain ⟨S3, q3, a3⟩ := h3 P2 ρ S2 s2 x3 P3 e3
  have s3 := (s2).pen a3
  have b3 := b2.trans s.lt a3
  obtain ⟨ey, ez⟩ := lP_some e
  subst ez
  cases ey
  refine ⟨S3, ?_, b3⟩
  have q : (mCons n1 (mCons n2 (mCons n3 mNil))) ρ S = some ([E1 x1, E2 x2, E3 x3], S3) := by simp only [mCons, mNil, q1, q2, q3, Option.bind_some]
  unfold mTup
  rw [q]
  show (if ([E1 x1, E2 x2, E3 x3] : List D).length ≤ szl then some (D.tup [E1 x1, E2 x2, E3 x3], S3) else none) = _
  rw [if_pos (Nat.le_of_ble_eq_true rfl), hE]
theorem px_lst3 {τ1 : Type} {n1 : MExp} {u1 : PM τ1} {E1 : τ1 → D} {τ2 : Type} {n2 : MExp} {u2 : PM τ2} {E2 : τ2 → D} {τ3 : Type} {n3 : MExp} {u3 : PM τ3} {E3 : τ3 → D} {C : γ → D} (f : τ1 → τ2 → τ3 → γ) (h1 : PX S0 p sl n1 u1 E1) (h2 : PX S0 p sl n2 u2 E2) (h3 : PX S0 p sl n3 u3 E3) (hE : ∀ x1 x2 x3, D.lst [E1 x1, E2 x2, E3 x3] = C (f x1 x2 x3)) : PX S0 p sl (mLstV (mCons n1 (mCons n2 (mCons n3 mNil)))) (bP u1 fun x1 => bP u2 fun x2 => bP u3 fun x3 => lP (some (f x1 x2 x3))) C := fun P ρ S s c P9 e => by
  obtain ⟨x1, P1, e1, e⟩ := bP_some e
  obtain ⟨x2, P2, e2, e⟩ := bP_some e
  obtain ⟨x3, P3, e3, e⟩ := bP_some e
  obtain ⟨S1, q1, a1⟩ := h1 P ρ S s x1 P1 e1
  have s1 := (s).pen a1
  have b1 := a1
  obtain ⟨S2, q2, a2⟩ := h2 P1 ρ S1 s1 x2 P2 e2
  have s2 := (s1).pen a2
  have b2 := b1.trans s.lt a2
  obtain ⟨S3, q3, a3⟩ := h3 P2 ρ S2 s2 x3 P3 e3
  have s3 := (s2).pen a3
  have b3 := b2.trans s.lt a3
  obtain ⟨ey, ez⟩ := lP_some e
  subst ez
  cases ey
  refine ⟨S3, ?_, b3⟩
  have q : (mCons n1 (mCons n2 (mCons n3 mNil))) ρ S = some ([E1 x1, E2 x2, E3 x3], S3) := by simp only [mCons, mNil, q1, q2, q3, Option.bind_some]
  unfold mLstV
  rw [q]
  show (if ([E1 x1, E2 x2, E3 x3] : List D).length ≤ szl then some (D.lst [E1 x1, E2 x2, E3 x3], S3) else none) = _
  rw [if_pos (Nat.le_of_ble_eq_true rfl), hE]
theorem px_tup4 {τ1 : Type} {n1 : MExp} {u1 : PM τ1} {E1 : τ1 → D} {τ2 : Type} {n2 : MExp} {u2 : PM τ2} {E2 : τ2 → D} {τ3 : Type} {n3 : MExp} {u3 : PM τ3} {E3 : τ3 → D} {τ4 : Type} {n4 : MExp} {u4 : PM τ4} {E4 : τ4 → D} {C : γ → D} (f : τ1 → τ2 → τ3 → τ4 → γ) (h1 : PX S0 p sl n1 u1 E1) (h2 : PX S0 p sl n2 u2 E2) (h3 : PX S0 p sl n3 u3 E3) (h4 : PX S0 p sl n4 u4 E4) (hE : ∀ x1 x2 x3 x4, D.tup [E1 x1, E2 x2, E3 x3, E4 x4] = C (f x1 x2 x3 x4)) : PX S0 p sl (mTup (mCons n1 (mCons n2 (mCons n3 (mCons n4 mNil))))) (bP u1 fun x1 => bP u2 fun x2 => bP u3 fun x3 => bP u4 fun x4 => lP (some (f x1 x2 x3 x4))) C := fun P ρ S s c P9 e => by
  obtain ⟨x1, P1, e1, e⟩ := bP_some e
  obtain ⟨x2, P2, e2, e⟩ := bP_some e
  obtain ⟨x3, P3, e3, e⟩ := bP_some e
  obtain ⟨x4, P4, e4, e⟩ := bP_some e
  obtain ⟨S1, q1, a1⟩ := h1 P ρ S s x1 P1 e1
  have s1 := (s).pen a1
  have b1 := a1
  obtain ⟨S2, q2, a2⟩ := h2 P1 ρ S1 s1 x2 P2 e2
  have s2 := (s1).pen a2
  have b2 := b1.trans s.lt a2
  obtain ⟨S3, q3, a3⟩ := h3 P2 ρ S2 s2 x3 P3 e3
  have s3 := (s2).pen a3
  have b3 := b2.trans s.lt a3
  obtain ⟨S4, q4, a4⟩ := h4 P3 ρ S3 s3 x4 P4 e4
  have s4 := (s3).pen a4
  have b4 := b3.trans s.lt a4
  obtain ⟨ey, ez⟩ := lP_some e
  subst ez
  cases ey
  refine ⟨S4, ?_, b4⟩
  have q : (mCons n1 (mCons n2 (mCons n3 (mCons n4 mNil)))) ρ S = some ([E1 x1, E2 x2, E3 x3, E4 x4], S4) := by simp only [mCons, mNil, q1, q2, q3, q4, Option.bind_some]
  unfold mTup
  rw [q]
  show (if ([E1 x1, E2 x2, E3 x3, E4 x4] : List D).length ≤ szl then some (D.tup [E1 x1, E2 x2, E3 x3, E4 x4], S4) else none) = _
  rw [if_pos (Nat.le_of_ble_eq_true rfl), hE]
theorem px_lst4 {τ1 : Type} {n1 : MExp} {u1 : PM τ1} {E1 : τ1 → D} {τ2 : Type} {n2 : MExp} {u2 : PM τ2} {E2 : τ2 → D} {τ3 : Type} {n3 : MExp} {u3 : PM τ3} {E3 : τ3 → D} {τ4 : Type} {n4 : MExp} {u4 : PM τ4} {E4 : τ4 → D} {C : γ → D} (f : τ1 → τ2 → τ3 → τ4 → γ) (h1 : PX S0 p sl n1 u1 E1) (h2 : PX S0 p sl n2 u2 E2) (h3 : PX S0 p sl n3 u3 E3) (h4 : PX S0 p sl n4 u4 E4) (hE : ∀ x1 x2 x3 x4, D.lst [E1 x1, E2 x2, E3 x3, E4 x4] = C (f x1 x2 x3 x4)) : PX S0 p sl (mLstV (mCons n1 (mCons n2 (mCons n3 (mCons n4 mNil))))) (bP u1 fun x1 => bP u2 fun x2 => bP u3 fun x3 => bP u4 fun x4 => lP (some (f x1 x2 x3 x4))) C := fun P ρ S s c P9 e => by
  obtain ⟨x1, P1, e1, e⟩ := bP_some e
  obtain ⟨x2, P2, e2, e⟩ := bP_some e
  obtain ⟨x3, P3, e3, e⟩ := bP_some e
  obtain ⟨x4, P4, e4, e⟩ := bP_some e
  obtain ⟨S1, q1, a1⟩ := h1 P ρ S s x1 P1 e1
  have s1 := (s).pen a1
  have b1 := a1
  obtain ⟨S2, q2, a2⟩ := h2 P1 ρ S1 s1 x2 P2 e2
  have s2 := (s1).pen a2
  have b2 := b1.trans s.lt a2
  obtain ⟨S3, q3, a3⟩ := h3 P2 ρ S2 s2 x3 P3 e3
  have s3 := (s2).pen a3
  have b3 := b2.trans s.lt a3
  obtain ⟨S4, q4, a4⟩ := h4 P3 ρ S3 s3 x4 P4 e4
  have s4 := (s3).pen a4
  have b4 := b3.trans s.lt a4
  obtain ⟨ey, ez⟩ := lP_some e
  subst ez
  cases ey
  refine ⟨S4, ?_, b4⟩
  have q : (mCons n1 (mCons n2 (mCons n3 (mCons n4 mNil)))) ρ S = some ([E1 x1, E2 x2, E3 x3, E4 x4], S4) := by simp only [mCons, mNil, q1, q2, q3, q4, Option.bind_some]
  unfold mLstV
  rw [q]
  show (if ([E1 x1, E2 x2, E3 x3, E4 x4] : List D).length ≤ szl then some (D.lst [E1 x1, E2 x2, E3 x3, E4 x4], S4) else none) = _
  rw [if_pos (Nat.le_of_ble_eq_true rfl), hE]
theorem px_tup5 {τ1 : Type} {n1 : MExp} {u1 : PM τ1} {E1 : τ1 → D} {τ2 : Type} {n2 : MExp} {u2 : PM τ2} {E2 : τ2 → D} {τ3 : Type} {n3 : MExp} {u3 : PM τ3} {E3 : τ3 → D} {τ4 : Type} {n4 : MExp} {u4 : PM τ4} {E4 : τ4 → D} {τ5 : Type} {n5 : MExp} {u5 : PM τ5} {E5 : τ5 → D} {C : γ → D} (f : τ1 → τ2 → τ3 → τ4 → τ5 → γ) (h1 : PX S0 p sl n1 u1 E1) (h2 : PX S0 p sl n2 u2 E2) (h3 : PX S0 p sl n3 u3 E3) (h4 : PX S0 p sl n4 u4 E4) (h5 : PX S0 p sl n5 u5 E5) (hE : ∀ x1 x2 x3 x4 x5, D.tup [E1 x1, E2 x2, E3 x3, E4 x4, E5 x5] = C (f x1 x2 x3 x4 x5)) : PX S0 p sl (mTup (mCons n1 (mCons n2 (mCons n3 (mCons n4 (mCons n5 mNil)))))) (bP u1 fun x1 => bP u2 fun x2 => bP u3 fun x3 => bP u4 fun x4 => bP u5 fun x5 => lP (some (f x1 x2 x3 x4 x5))) C := fun P ρ S s c P9 e => by
  obtain ⟨x1, P1, e1, e⟩ := bP_some e
  obtain ⟨x2, P2, e2, e⟩ := bP_some e
  obtain ⟨x3, P3, e3, e⟩ := bP_some e
  obtain ⟨x4, P4, e4, e⟩ := bP_some e
  obtain ⟨x5, P5, e5, e⟩ := bP_some e
  obtain ⟨S1, q1, a1⟩ := h1 P ρ S s x1 P1 e1
  have s1 := (s).pen a1
  have b1 := a1
  obtain ⟨S2, q2, a2⟩ := h2 P1 ρ S1 s1 x2 P2 e2
  have s2 := (s1).pen a2
  have b2 := b1.trans s.lt a2
  obtain ⟨S3, q3, a3⟩ := h3 P2 ρ S2 s2 x3 P3 e3
  have s3 := (s2).pen a3
  have b3 := b2.trans s.lt a3
  obtain ⟨S4, q4, a4⟩ := h4 P3 ρ S3 s3 x4 P4 e4
  have s4 := (s3).pen a4
  have b4 := b3.trans s.lt a4
  obtain ⟨S5, q5, a5⟩ := h5 P4 ρ S4 s4 x5 P5 e5
  have s5 := (s4).pen a5
  have b5 := b4.trans s.lt a5
  obtain ⟨ey, ez⟩ := lP_some e
  subst ez
  cases ey
  refine ⟨S5, ?_, b5⟩
  have q : (mCons n1 (mCons n2 (mCons n3 (mCons n4 (mCons n5 mNil))))) ρ S = some ([E1 x1, E2 x2, E3 x3, E4 x4, E5 x5], S5) := by simp only [mCons, mNil, q1, q2, q3, q4, q5, Option.bind_some]
  unfold mTup
  rw [q]
  show (if ([E1 x1, E2 x2, E3 x3, E4 x4, E5 x5] : List D).length ≤ szl then some (D.tup [E1 x1, E2 x2, E3 x3, E4 x4, E5 x5], S5) else none) = _
  rw [if_pos (Nat.le_of_ble_eq_true rfl), hE]
theorem px_lst5 {τ1 : Type} {n1 : MExp} {u1 : PM τ1} {E1 : τ1 → D} {τ2 : Type} {n2 : MExp} {u2 : PM τ2} {E2 : τ2 → D} {τ3 : Type} {n3 : MExp} {u3 : PM τ3} {E3 : τ3 → D} {τ4 : Type} {n4 : MExp} {u4 : PM τ4} {E4 : τ4 → D} {τ5 : Type} {n5 : MExp} {u5 : PM τ5} {E5 : τ5 → D} {C : γ → D} (f : τ1 → τ2 → τ3 → τ4 → τ5 → γ) (h1 : PX S0 p sl n1 u1 E1) (h2 : PX S0 p sl n2 u2 E2) (h3 : PX S0 p sl n3 u3 E3) (h4 : PX S0 p sl n4 u4 E4) (h5 : PX S0 p sl n5 u5 E5) (hE : ∀ x1 x2 x3 x4 x5, D.lst [E1 x1, E2 x2, E3 x3, E4 x4, E5 x5] = C (f x1 x2 x3 x4 x5)) : PX S0 p sl (mLstV (mCons n1 (mCons n2 (mCons n3 (mCons n4 (mCons n5 mNil)))))) (bP u1 fun x1 => bP u2 fun x2 => bP u3 fun x3 => bP u4 fun x4 => bP u5 fun x5 => lP (some (f x1 x2 x3 x4 x5))) C := fun P ρ S s c P9 e => by
  obtain ⟨x1, P1, e1, e⟩ := bP_some e
  obtain ⟨x2, P2, e2, e⟩ := bP_some e
  obtain ⟨x3, P3, e3, e⟩ := bP_some e
  obtain ⟨x4, P4, e4, e⟩ := bP_some e
  obtain ⟨x5, P5, e5, e⟩ := bP_some e
  obtain ⟨S1, q1, a1⟩ := h1 P ρ S s x1 P1 e1
  have s1 := (s).pen a1
  have b1 := a1
  obtain ⟨S2, q2, a2⟩ := h2 P1 ρ S1 s1 x2 P2 e2
  have s2 := (s1).pen a2
  have b2 := b1.trans s.lt a2
  obtain ⟨S3, q3, a3⟩ := h3 P2 ρ S2 s2 x3 P3 e3
  have s3 := (s2).pen a3
  have b3 := b2.trans s.lt a3
  obtain ⟨S4, q4, a4⟩ := h4 P3 ρ S3 s3 x4 P4 e4
  have s4 := (s3).pen a4
  have b4 := b3.trans s.lt a4
  obtain ⟨S5, q5, a5⟩ := h5 P4 ρ S4 s4 x5 P5 e5
  have s5 := (s4).pen a5
  have b5 := b4.trans s.lt a5
  obtain ⟨ey, ez⟩ := lP_some e
  subst ez
  cases ey
  refine ⟨S5, ?_, b5⟩
  have q : (mCons n1 (mCons n2 (mCons n3 (mCons n4 (mCons n5 mNil))))) ρ S = some ([E1 x1, E2 x2, E3 x3, E4 x4, E5 x5], S5) := by simp only [mCons, mNil, q1, q2, q3, q4, q5, Option.bind_some]
  unfold mLstV
  rw [q]
  show (if ([E1 x1, E2 x2, E3 x3, E4 x4, E5 x5] : List D).length ≤ szl then some (D.lst [E1 x1, E2 x2, E3 x3, E4 x4, E5 x5], S5) else none) = _
  rw [if_pos (Nat.le_of_ble_eq_true rfl), hE]
theorem px_tup6 {τ1 : Type} {n1 : MExp} {u1 : PM τ1} {E1 : τ1 → D} {τ2 : Type} {n2 : MExp} {u2 : PM τ2} {E2 : τ2 → D} {τ3 : Type} {n3 : MExp} {u3 : PM τ3} {E3 : τ3 → D} {τ4 : Type} {n4 : MExp} {u4 : PM τ4} {E4 : τ4 → D} {τ5 : Type} {n5 : MExp} {u5 : PM τ5} {E5 : τ5 → D} {τ6 : Type} {n6 : MExp} {u6 : PM τ6} {E6 : τ6 → D} {C : γ → D} (f : τ1 → τ2 → τ3 → τ4 → τ5 → τ6 → γ) (h1 : PX S0 p sl n1 u1 E1) (h2 : PX S0 p sl n2 u2 E2) (h3 : PX S0 p sl n3 u3 E3) (h4 : PX S0 p sl n4 u4 E4) (h5 : PX S0 p sl n5 u5 E5) (h6 : PX S0 p sl n6 u6 E6) (hE : ∀ x1 x2 x3 x4 x5 x6, D.tup [E1 x1, E2 x2, E3 x3, E4 x4, E5 x5, E6 x6] = C (f x1 x2 x3 x4 x5 x6)) : PX S0 p sl (mTup (mCons n1 (mCons n2 (mCons n3 (mCons n4 (mCons n5 (mCons n6 mNil))))))) (bP u1 fun x1 => bP u2 fun x2 => bP u3 fun x3 => bP u4 fun x4 => bP u5 fun x5 => bP u6 fun x6 => lP (some (f x1 x2 x3 x4 x5 x6))) C := fun P ρ S s c P9 e => by
  obtain ⟨x1, P1, e1, e⟩ := bP_some e
  obtain ⟨x2, P2, e2, e⟩ := bP_some e
  obtain ⟨x3, P3, e3, e⟩ := bP_some e
  obtain ⟨x4, P4, e4, e⟩ := bP_some e
  obtain ⟨x5, P5, e5, e⟩ := bP_some e
  obtain ⟨x6, P6, e6, e⟩ := bP_some e
  obtain ⟨S1, q1, a1⟩ := h1 P ρ S s x1 P1 e1
  have s1 := (s).pen a1
  have b1 := a1
  obtain ⟨S2, q2, a2⟩ := h2 P1 ρ S1 s1 x2 P2 e2
  have s2 := (s1).pen a2
  have b2 := b1.trans s.lt a2
  obtain ⟨S3, q3, a3⟩ := h3 P2 ρ S2 s2 x3 P3 e3
  have s3 := (s2).pen a3
  have b3 := b2.trans s.lt a3
  obtain ⟨S4, q4, a4⟩ := h4 P3 ρ S3 s3 x4 P4 e4
  have s4 := (s3).pen a4
  have b4 := b3.trans s.lt a4
  obtain ⟨S5, q5, a5⟩ := h5 P4 ρ S4 s4 x5 P5 e5
  have s5 := (s4).pen a5
  have b5 := b4.trans s.lt a5
  obtain ⟨S6, q6, a6⟩ := h6 P5 ρ S5 s5 x6 P6 e6
  have s6 := (s5).pen a6
  have b6 := b5.trans s.lt a6
  obtain ⟨ey, ez⟩ := lP_some e
  subst ez
  cases ey
  refine ⟨S6, ?_, b6⟩
  have q : (mCons n1 (mCons n2 (mCons n3 (mCons n4 (mCons n5 (mCons n6 mNil)))))) ρ S = some ([E1 x1, E2 x2, E3 x3, E4 x4, E5 x5, E6 x6], S6) := by simp only [mCons, mNil, q1, q2, q3, q4, q5, q6, Option.bind_some]
  unfold mTup
  rw [q]
  show (if ([E1 x1, E2 x2, E3 x3, E4 x4, E5 x5, E6 x6] : List D).length ≤ szl then some (D.tup [E1 x1, E2 x2, E3 x3, E4 x4, E5 x5, E6 x6], S6) else none) = _
  rw [if_pos (Nat.le_of_ble_eq_true rfl), hE]
theorem px_lst6 {τ1 : Type} {n1 : MExp} {u1 : PM τ1} {E1 : τ1 → D} {τ2 : Type} {n2 : MExp} {u2 : PM τ2} {E2 : τ2 → D} {τ3 : Type} {n3 : MExp} {u3 : PM τ3} {E3 : τ3 → D} {τ4 : Type} {n4 : MExp} {u4 : PM τ4} {E4 : τ4 → D} {τ5 : Type} {n5 : MExp} {u5 : PM τ5} {E5 : τ5 → D} {τ6 : Type} {n6 : MExp} {u6 : PM τ6} {E6 : τ6 → D} {C : γ → D} (f : τ1 → τ2 → τ3 → τ4 → τ5 → τ6 → γ) (h1 : PX S0 p sl n1 u1 E1) (h2 : PX S0 p sl n2 u2 E2) (h3 : PX S0 p sl n3 u3 E3) (h4 : PX S0 p sl n4 u4 E4) (h5 : PX S0 p sl n5 u5 E5) (h6 : PX S0 p sl n6 u6 E6) (hE : ∀ x1 x2 x3 x4 x5 x6, D.lst [E1 x1, E2 x2, E3 x3, E4 x4, E5 x5, E6 x6] = C (f x1 x2 x3 x4 x5 x6)) : PX S0 p sl (mLstV (mCons n1 (mCons n2 (mCons n3 (mCons n4 (mCons n5 (mCons n6 mNil))))))) (bP u1 fun x1 => bP u2 fun x2 => bP u3 fun x3 => bP u4 fun x4 => bP u5 fun x5 => bP u6 fun x6 => lP (some (f x1 x2 x3 x4 x5 x6))) C := fun P ρ S s c P9 e => by
  obtain ⟨x1, P1, e1, e⟩ := bP_some e
  obtain ⟨x2, P2, e2, e⟩ := bP_some e
  obtain ⟨x3, P3, e3, e⟩ := bP_some e
  obtain ⟨x4, P4, e4, e⟩ := bP_some e
  obtain ⟨x5, P5, e5, e⟩ := bP_some e
  obtain ⟨x6, P6, e6, e⟩ := bP_some e
  obtain ⟨S1, q1, a1⟩ := h1 P ρ S s x1 P1 e1
  have s1 := (s).pen a1
  have b1 := a1
  obtain ⟨S2, q2, a2⟩ := h2 P1 ρ S1 s1 x2 P2 e2
  have s2 := (s1).pen a2
  have b2 := b1.trans s.lt a2
  obtain ⟨S3, q3, a3⟩ := h3 P2 ρ S2 s2 x3 P3 e3
  have s3 := (s2).pen a3
  have b3 := b2.trans s.lt a3
  obtain ⟨S4, q4, a4⟩ := h4 P3 ρ S3 s3 x4 P4 e4
  have s4 := (s3).pen a4
  have b4 := b3.trans s.lt a4
  obtain ⟨S5, q5, a5⟩ := h5 P4 ρ S4 s4 x5 P5 e5
  have s5 := (s4).pen a5
  have b5 := b4.trans s.lt a5
  obtain ⟨S6, q6, a6⟩ := h6 P5 ρ S5 s5 x6 P6 e6
  have s6 := (s5).pen a6
  have b6 := b5.trans s.lt a6
  obtain ⟨ey, ez⟩ := lP_some e
  subst ez
  cases ey
  refine ⟨S6, ?_, b6⟩
  have q : (mCons n1 (mCons n2 (mCons n3 (mCons n4 (mCons n5 (mCons n6 mNil)))))) ρ S = some ([E1 x1, E2 x2, E3 x3, E4 x4, E5 x5, E6 x6], S6) := by simp only [mCons, mNil, q1, q2, q3, q4, q5, q6, Option.bind_some]
  unfold mLstV
  rw [q]
  show (if ([E1 x1, E2 x2, E3 x3, E4 x4, E5 x5, E6 x6] : List D).length ≤ szl then some (D.lst [E1 x1, E2 x2, E3 x3, E4 x4, E5 x5, E6 x6], S6) else none) = _
  rw [if_pos (Nat.le_of_ble_eq_true rfl), hE]
theorem px_tup7 {τ1 : Type} {n1 : MExp} {u1 : PM τ1} {E1 : τ1 → D} {τ2 : Type} {n2 : MExp} {u2 : PM τ2} {E2 : τ2 → D} {τ3 : Type} {n3 : MExp} {u3 : PM τ3} {E3 : τ3 → D} {τ4 : Type} {n4 : MExp} {u4 : PM τ4} {E4 : τ4 → D} {τ5 : Type} {n5 : MExp} {u5 : PM τ5} {E5 : τ5 → D} {τ6 : Type} {n6 : MExp} {u6 : PM τ6} {E6 : τ6 → D} {τ7 : Type} {n7 : MExp} {u7 : PM τ7} {E7 : τ7 → D} {C : γ → D} (f : τ1 → τ2 → τ3 → τ4 → τ5 → τ6 → τ7 → γ) (h1 : PX S0 p sl n1 u1 E1) (h2 : PX S0 p sl n2 u2 E2) (h3 : PX S0 p sl n3 u3 E3) (h4 : PX S0 p sl n4 u4 E4) (h5 : PX S0 p sl n5 u5 E5) (h6 : PX S0 p sl n6 u6 E6) (h7 : PX S0 p sl n7 u7 E7) (hE : ∀ x1 x2 x3 x4 x5 x6 x7, D.tup [E1 x1, E2 x2, E3 x3, E4 x4, E5 x5, E6 x6, E7 x7] = C (f x1 x2 x3 x4 x5 x6 x7)) : PX S0 p sl (mTup (mCons n1 (mCons n2 (mCons n3 (mCons n4 (mCons n5 (mCons n6 (mCons n7 mNil)))))))) (bP u1 fun x1 => bP u2 fun x2 => bP u3 fun x3 => bP u4 fun x4 => bP u5 fun x5 => bP u6 fun x6 => bP u7 fun x7 => lP (some (f x1 x2 x3 x4 x5 x6 x7))) C := fun P ρ S s c P9 e => by
  obtain ⟨x1, P1, e1, e⟩ := bP_some e
  obtain ⟨x2, P2, e2, e⟩ := bP_some e
  obtain ⟨x3, P3, e3, e⟩ := bP_some e
  obtain ⟨x4, P4, e4, e⟩ := bP_some e
  obtain ⟨x5, P5, e5, e⟩ := bP_some e
  obtain ⟨x6, P6, e6, e⟩ := bP_some e
  obtain ⟨x7, P7, e7, e⟩ := bP_some e
  obtain ⟨S1, q1, a1⟩ := h1 P ρ S s x1 P1 e1
  have s1 := (s).pen a1
  have b1 := a1
  obtain ⟨S2, q2, a2⟩ := h2 P1 ρ S1 s1 x2 P2 e2
  have s2 := (s1).pen a2
  have b2 := b1.trans s.lt a2
  obtain ⟨S3, q3, a3⟩ := h3 P2 ρ S2 s2 x3 P3 e3
  have s3 := (s2).pen a3
  have b3 := b2.trans s.lt a3
  obtain ⟨S4, q4, a4⟩ := h4 P3 ρ S3 s3 x4 P4 e4
  have s4 := (s3).pen a4
  have b4 := b3.trans s.lt a4
  obtain ⟨S5, q5, a5⟩ := h5 P4 ρ S4 s4 x5 P5 e5
  have s5 := (s4).pen a5
  have b5 := b4.trans s.lt a5
  obtain ⟨S6, q6, a6⟩ := h6 P5 ρ S5 s5 x6 P6 e6
  have s6 := (s5).pen a6
  have b6 := b5.trans s.lt a6
  obtain ⟨S7, q7, a7⟩ := h7 P6 ρ S6 s6 x7 P7 e7
  have s7 := (s6).pen a7
  have b7 := b6.trans s.lt a7
  obtain ⟨ey, ez⟩ := lP_some e
  subst ez
  cases ey
  refine ⟨S7, ?_, b7⟩
  have q : (mCons n1 (mCons n2 (mCons n3 (mCons n4 (mCons n5 (mCons n6 (mCons n7 mNil))))))) ρ S = some ([E1 x1, E2 x2, E3 x3, E4 x4, E5 x5, E6 x6, E7 x7], S7) := by simp only [mCons, mNil, q1, q2, q3, q4, q5, q6, q7, Option.bind_some]
  unfold mTup
  rw [q]
  show (if ([E1 x1, E2 x2, E3 x3, E4 x4, E5 x5, E6 x6, E7 x7] : List D).length ≤ szl then some (D.tup [E1 x1, E2 x2, E3 x3, E4 x4, E5 x5, E6 x6, E7 x7], S7) else none) = _
  rw [if_pos (Nat.le_of_ble_eq_true rfl), hE]
theorem px_lst7 {τ1 : Type} {n1 : MExp} {u1 : PM τ1} {E1 : τ1 → D} {τ2 : Type} {n2 : MExp} {u2 : PM τ2} {E2 : τ2 → D} {τ3 : Type} {n3 : MExp} {u3 : PM τ3} {E3 : τ3 → D} {τ4 : Type} {n4 : MExp} {u4 : PM τ4} {E4 : τ4 → D} {τ5 : Type} {n5 : MExp} {u5 : PM τ5} {E5 : τ5 → D} {τ6 : Type} {n6 : MExp} {u6 : PM τ6} {E6 : τ6 → D} {τ7 : Type} {n7 : MExp} {u7 : PM τ7} {E7 : τ7 → D} {C : γ → D} (f : τ1 → τ2 → τ3 → τ4 → τ5 → τ6 → τ7 → γ) (h1 : PX S0 p sl n1 u1 E1) (h2 : PX S0 p sl n2 u2 E2) (h3 : PX S0 p sl n3 u3 E3) (h4 : PX S0 p sl n4 u4 E4) (h5 : PX S0 p sl n5 u5 E5) (h6 : PX S0 p sl n6 u6 E6) (h7 : PX S0 p sl n7 u7 E7) (hE : ∀ x1 x2 x3 x4 x5 x6 x7, D.lst [E1 x1, E2 x2, E3 x3, E4 x4, E5 x5, E6 x6, E7 x7] = C (f x1 x2 x3 x4 x5 x6 x7)) : PX S0 p sl (mLstV (mCons n1 (mCons n2 (mCons n3 (mCons n4 (mCons n5 (mCons n6 (mCons n7 mNil)))))))) (bP u1 fun x1 => bP u2 fun x2 => bP u3 fun x3 => bP u4 fun x4 => bP u5 fun x5 => bP u6 fun x6 => bP u7 fun x7 => lP (some (f x1 x2 x3 x4 x5 x6 x7))) C := fun P ρ S s c P9 e => by
  obtain ⟨x1, P1, e1, e⟩ := bP_some e
  obtain ⟨x2, P2, e2, e⟩ := bP_some e
  obtain ⟨x3, P3, e3, e⟩ := bP_some e
  obtain ⟨x4, P4, e4, e⟩ := bP_some e
  obtain ⟨x5, P5, e5, e⟩ := bP_some e
  obtain ⟨x6, P6, e6, e⟩ := bP_some e
  obtain ⟨x7, P7, e7, e⟩ := bP_some e
  obtain ⟨S1, q1, a1⟩ := h1 P ρ S s x1 P1 e1
  have s1 := (s).pen a1
  have b1 := a1
  obtain ⟨S2, q2, a2⟩ := h2 P1 ρ S1 s1 x2 P2 e2
  have s2 := (s1).pen a2
  have b2 := b1.trans s.lt a2
  obtain ⟨S3, q3, a3⟩ := h3 P2 ρ S2 s2 x3 P3 e3
  have s3 := (s2).pen a3
  have b3 := b2.trans s.lt a3
  obtain ⟨S4, q4, a4⟩ := h4 P3 ρ S3 s3 x4 P4 e4
  have s4 := (s3).pen a4
  have b4 := b3.trans s.lt a4
  obtain ⟨S5, q5, a5⟩ := h5 P4 ρ S4 s4 x5 P5 e5
  have s5 := (s4).pen a5
  have b5 := b4.trans s.lt a5
  obtain ⟨S6, q6, a6⟩ := h6 P5 ρ S5 s5 x6 P6 e6
  have s6 := (s5).pen a6
  have b6 := b5.trans s.lt a6
  obtain ⟨S7, q7, a7⟩ := h7 P6 ρ S6 s6 x7 P7 e7
  have s7 := (s6).pen a7
  have b7 := b6.trans s.lt a7
  obtain ⟨ey, ez⟩ := lP_some e
  subst ez
  cases ey
  refine ⟨S7, ?_, b7⟩
  have q : (mCons n1 (mCons n2 (mCons n3 (mCons n4 (mCons n5 (mCons n6 (mCons n7 mNil))))))) ρ S = some ([E1 x1, E2 x2, E3 x3, E4 x4, E5 x5, E6 x6, E7 x7], S7) := by simp only [mCons, mNil, q1, q2, q3, q4, q5, q6, q7, Option.bind_some]
  unfold mLstV
  rw [q]
  show (if ([E1 x1, E2 x2, E3 x3, E4 x4, E5 x5, E6 x6, E7 x7] : List D).length ≤ szl then some (D.lst [E1 x1, E2 x2, E3 x3, E4 x4, E5 x5, E6 x6, E7 x7], S7) else none) = _
  rw [if_pos (Nat.le_of_ble_eq_true rfl), hE]
theorem px_tup8 {τ1 : Type} {n1 : MExp} {u1 : PM τ1} {E1 : τ1 → D} {τ2 : Type} {n2 : MExp} {u2 : PM τ2} {E2 : τ2 → D} {τ3 : Type} {n3 : MExp} {u3 : PM τ3} {E3 : τ3 → D} {τ4 : Type} {n4 : MExp} {u4 : PM τ4} {E4 : τ4 → D} {τ5 : Type} {n5 : MExp} {u5 : PM τ5} {E5 : τ5 → D} {τ6 : Type} {n6 : MExp} {u6 : PM τ6} {E6 : τ6 → D} {τ7 : Type} {n7 : MExp} {u7 : PM τ7} {E7 : τ7 → D} {τ8 : Type} {n8 : MExp} {u8 : PM τ8} {E8 : τ8 → D} {C : γ → D} (f : τ1 → τ2 → τ3 → τ4 → τ5 → τ6 → τ7 → τ8 → γ) (h1 : PX S0 p sl n1 u1 E1) (h2 : PX S0 p sl n2 u2 E2) (h3 : PX S0 p sl n3 u3 E3) (h4 : PX S0 p sl n4 u4 E4) (h5 : PX S0 p sl n5 u5 E5) (h6 : PX S0 p sl n6 u6 E6) (h7 : PX S0 p sl n7 u7 E7) (h8 : PX S0 p sl n8 u8 E8) (hE : ∀ x1 x2 x3 x4 x5 x6 x7 x8, D.tup [E1 x1, E2 x2, E3 x3, E4 x4, E5 x5, E6 x6, E7 x7, E8 x8] = C (f x1 x2 x3 x4 x5 x6 x7 x8)) : PX S0 p sl (mTup (mCons n1 (mCons n2 (mCons n3 (mCons n4 (mCons n5 (mCons n6 (mCons n7 (mCons n8 mNil))))))))) (bP u1 fun x1 => bP u2 fun x2 => bP u3 fun x3 => bP u4 fun x4 => bP u5 fun x5 => bP u6 fun x6 => bP u7 fun x7 => bP u8 fun x8 => lP (some (f x1 x2 x3 x4 x5 x6 x7 x8))) C := fun P ρ S s c P9 e => by
  obtain ⟨x1, P1, e1, e⟩ := bP_some e
  obtain ⟨x2, P2, e2, e⟩ := bP_some e
  obtain ⟨x3, P3, e3, e⟩ := bP_some e
  obtain ⟨x4, P4, e4, e⟩ := bP_some e
  obtain ⟨x5, P5, e5, e⟩ := bP_some e
  obtain ⟨x6, P6, e6, e⟩ := bP_some e
  obtain ⟨x7, P7, e7, e⟩ := bP_some e
  obtain ⟨x8, P8, e8, e⟩ := bP_some e
  obtain ⟨S1, q1, a1⟩ := h1 P ρ S s x1 P1 e1
  have s1 := (s).pen a1
  have b1 := a1
  obtain ⟨S2, q2, a2⟩ := h2 P1 ρ S1 s1 x2 P2 e2
  have s2 := (s1).pen a2
  have b2 := b1.trans s.lt a2
  obtain ⟨S3, q3, a3⟩ := h3 P2 ρ S2 s2 x3 P3 e3
  have s3 := (s2).pen a3
  have b3 := b2.trans s.lt a3
  obtain ⟨S4, q4, a4⟩ := h4 P3 ρ S3 s3 x4 P4 e4
  have s4 := (s3).pen a4
  have b4 := b3.trans s.lt a4
  obtain ⟨S5, q5, a5⟩ := h5 P4 ρ S4 s4 x5 P5 e5
  have s5 := (s4).pen a5
  have b5 := b4.trans s.lt a5
  obtain ⟨S6, q6, a6⟩ := h6 P5 ρ S5 s5 x6 P6 e6
  have s6 := (s5).pen a6
  have b6 := b5.trans s.lt a6
  obtain ⟨S7, q7, a7⟩ := h7 P6 ρ S6 s6 x7 P7 e7
  have s7 := (s6).pen a7
  have b7 := b6.trans s.lt a7
  obtain ⟨S8, q8, a8⟩ := h8 P7 ρ S7 s7 x8 P8 e8
  have s8 := (s7).pen a8
  have b8 := b7.trans s.lt a8
  obtain ⟨ey, ez⟩ := lP_some e
  subst ez
  cases ey
  refine ⟨S8, ?_, b8⟩
  have q : (mCons n1 (mCons n2 (mCons n3 (mCons n4 (mCons n5 (mCons n6 (mCons n7 (mCons n8 mNil)))))))) ρ S = some ([E1 x1, E2 x2, E3 x3, E4 x4, E5 x5, E6 x6, E7 x7, E8 x8], S8) := by simp only [mCons, mNil, q1, q2, q3, q4, q5, q6, q7, q8, Option.bind_some]
  unfold mTup
  rw [q]
  show (if ([E1 x1, E2 x2, E3 x3, E4 x4, E5 x5, E6 x6, E7 x7, E8 x8] : List D).length ≤ szl then some (D.tup [E1 x1, E2 x2, E3 x3, E4 x4, E5 x5, E6 x6, E7 x7, E8 x8], S8) else none) = _
  rw [if_pos (Nat.le_of_ble_eq_true rfl), hE]
theorem px_lst8 {τ1 : Type} {n1 : MExp} {u1 : PM τ1} {E1 : τ1 → D} {τ2 : Type} {n2 : MExp} {u2 : PM τ2} {E2 : τ2 → D} {τ3 : Type} {n3 : MExp} {u3 : PM τ3} {E3 : τ3 → D} {τ4 : Type} {n4 : MExp} {u4 : PM τ4} {E4 : τ4 → D} {τ5 : Type} {n5 : MExp} {u5 : PM τ5} {E5 : τ5 → D} {τ6 : Type} {n6 : MExp} {u6 : PM τ6} {E6 : τ6 → D} {τ7 : Type} {n7 : MExp} {u7 : PM τ7} {E7 : τ7 → D} {τ8 : Type} {n8 : MExp} {u8 : PM τ8} {E8 : τ8 → D} {C : γ → D} (f : τ1 → τ2 → τ3 → τ4 → τ5 → τ6 → τ7 → τ8 → γ) (h1 : PX S0 p sl n1 u1 E1) (h2 : PX S0 p sl n2 u2 E2) (h3 : PX S0 p sl n3 u3 E3) (h4 : PX S0 p sl n4 u4 E4) (h5 : PX S0 p sl n5 u5 E5) (h6 : PX S0 p sl n6 u6 E6) (h7 : PX S0 p sl n7 u7 E7) (h8 : PX S0 p sl n8 u8 E8) (hE : ∀ x1 x2 x3 x4 x5 x6 x7 x8, D.lst [E1 x1, E2 x2, E3 x3, E4 x4, E5 x5, E6 x6, E7 x7, E8 x8] = C (f x1 x2 x3 x4 x5 x6 x7 x8)) : PX S0 p sl (mLstV (mCons n1 (mCons n2 (mCons n3 (mCons n4 (mCons n5 (mCons n6 (mCons n7 (mCons n8 mNil))))))))) (bP u1 fun x1 => bP u2 fun x2 => bP u3 fun x3 => bP u4 fun x4 => bP u5 fun x5 => bP u6 fun x6 => bP u7 fun x7 => bP u8 fun x8 => lP (some (f x1 x2 x3 x4 x5 x6 x7 x8))) C := fun P ρ S s c P9 e => by
  obtain ⟨x1, P1, e1, e⟩ := bP_some e
  obtain ⟨x2, P2, e2, e⟩ := bP_some e
  obtain ⟨x3, P3, e3, e⟩ := bP_some e
  obtain ⟨x4, P4, e4, e⟩ := bP_some e
  obtain ⟨x5, P5, e5, e⟩ := bP_some e
  obtain ⟨x6, P6, e6, e⟩ := bP_some e
  obtain ⟨x7, P7, e7, e⟩ := bP_some e
  obtain ⟨x8, P8, e8, e⟩ := bP_some e
  obtain ⟨S1, q1, a1⟩ := h1 P ρ S s x1 P1 e1
  have s1 := (s).pen a1
  have b1 := a1
  obtain ⟨S2, q2, a2⟩ := h2 P1 ρ S1 s1 x2 P2 e2
  have s2 := (s1).pen a2
  have b2 := b1.trans s.lt a2
  obtain ⟨S3, q3, a3⟩ := h3 P2 ρ S2 s2 x3 P3 e3
  have s3 := (s2).pen a3
  have b3 := b2.trans s.lt a3
  obtain ⟨S4, q4, a4⟩ := h4 P3 ρ S3 s3 x4 P4 e4
  have s4 := (s3).pen a4
  have b4 := b3.trans s.lt a4
  obtain ⟨S5, q5, a5⟩ := h5 P4 ρ S4 s4 x5 P5 e5
  have s5 := (s4).pen a5
  have b5 := b4.trans s.lt a5
  obtain ⟨S6, q6, a6⟩ := h6 P5 ρ S5 s5 x6 P6 e6
  have s6 := (s5).pen a6
  have b6 := b5.trans s.lt a6
  obtain ⟨S7, q7, a7⟩ := h7 P6 ρ S6 s6 x7 P7 e7
  have s7 := (s6).pen a7
  have b7 := b6.trans s.lt a7
  obtain ⟨S8, q8, a8⟩ := h8 P7 ρ S7 s7 x8 P8 e8
  have s8 := (s7).pen a8
  have b8 := b7.trans s.lt a8
  obtain ⟨ey, ez⟩ := lP_some e
  subst ez
  cases ey
  refine ⟨S8, ?_, b8⟩
  have q : (mCons n1 (mCons n2 (mCons n3 (mCons n4 (mCons n5 (mCons n6 (mCons n7 (mCons n8 mNil)))))))) ρ S = some ([E1 x1, E2 x2, E3 x3, E4 x4, E5 x5, E6 x6, E7 x7, E8 x8], S8) := by simp only [mCons, mNil, q1, q2, q3, q4, q5, q6, q7, q8, Option.bind_some]
  unfold mLstV
  rw [q]
  show (if ([E1 x1, E2 x2, E3 x3, E4 x4, E5 x5, E6 x6, E7 x7, E8 x8] : List D).length ≤ szl then some (D.lst [E1 x1, E2 x2, E3 x3, E4 x4, E5 x5, E6 x6, E7 x7, E8 x8], S8) else none) = _
  rw [if_pos (Nat.le_of_ble_eq_true rfl), hE]
end
end TM

set_option Elab.async false
set_option linter.all false
set_option maxRecDepth 100000
set_option maxHeartbeats 4000000
namespace TM
open PySem PySem.Spec PyProof.Rows L2 MS
section
variable {α β γ δ σ : Type} {S0 S S' : Store} {p : Nat} {sl : List Sl} {m m1 m2 : MExp} {r : MStm} {A : α → D} {B : β → D} {C : γ → D} {t1 : PM α} {t2 : PM β}
theorem px_ixF {t : PM α} {f : α → β} (h : PX S0 p sl m t A) {k : Int} (hf : ∀ a S, fIx (A a) (.int k) S = some (B (f a), S)) : PX S0 p sl (mBin fIx m (mC (.int k))) (bP t fun a => lP (some (f a))) B := fun P ρ S s b P' e => by
  obtain ⟨a, P1, e1, e⟩ := bP_some e
  obtain ⟨e2, rfl⟩ := lP_some e
  cases e2
  obtain ⟨S1, q, a1⟩ := h P ρ S s a _ e1
  refine ⟨S1, ?_, a1⟩
  show ((m ρ S).bind fun p => (mC (.int k) ρ p.2).bind fun q => fIx p.1 q.1 q.2) = _
  rw [q]
  exact hf a S1
theorem px_slF {t : PM α} {p1 q1 : MPart} {l r : Option Int} {f : α → β} (h : PX S0 p sl m t A) (hp : ∀ S0, XP S0 sl p1 (some l)) (hq : ∀ S0, XP S0 sl q1 (some r)) (hE : ∀ a S, fSl (A a) l r S = some (B (f a), S)) : PX S0 p sl (mSl m p1 q1) (bP t fun a => lP (some (f a))) B := fun P ρ S s b P' e => by
  obtain ⟨a, P1, e1, e⟩ := bP_some e
  obtain ⟨e2, rfl⟩ := lP_some e
  cases e2
  obtain ⟨S1, q, a1⟩ := h P ρ S s a _ e1
  have s1 := s.pen a1
  obtain ⟨S2, q2, a2⟩ := hp _ ρ S1 s1.sx l rfl
  obtain ⟨S3, q3, a3⟩ := hq _ ρ S2 (s1.sx.grow a2) r rfl
  refine ⟨S3, ?_, (a1.all a2).all a3⟩
  unfold mSl
  rw [q]
  show ((p1 ρ S1).bind fun l => (q1 ρ l.2).bind fun r => fSl (A a) l.1 r.1 r.2) = _
  rw [q2]
  show ((q1 ρ S2).bind fun r => fSl (A a) l r.1 r.2) = _
  rw [q3]
  exact hE a S3
theorem px_revT {tx : PM (List α)} (h : PX S0 p sl m tx (eV A)) : PX S0 p sl (mRevT m) (bP tx fun xs => lP (some xs.reverse)) (eV A) := fun P ρ S s b P' e => by
  obtain ⟨xs, P1, e1, e⟩ := bP_some e
  obtain ⟨e2, rfl⟩ := lP_some e
  cases e2
  obtain ⟨S1, q, a1⟩ := h P ρ S s xs _ e1
  refine ⟨S1, ?_, a1⟩
  unfold mRevT
  rw [q]
  show some (D.tup (xs.map A).reverse, S1) = _
  rw [← List.map_reverse]
/-! the parts of a pen -/
theorem px_part {i : Nat} {k : Int} {f : Pn → α} (hp : sl[i]? = some (.val (.lr p))) (hf : ∀ P, L2.atI [D.lst (P.ns.map D.int), .int P.seat, .int P.rest] k = some (A (f P))) : PX S0 p sl (mBin fIx (mVar i) (mC (.int k))) (fun P => some (f P, P)) A := fun P ρ S s a P' e => by
  cases e
  refine ⟨S, ?_, s.st .refl⟩
  have v : mVar i ρ S = some (.lr p, S) := by unfold mVar; rw [s.sx.val i _ hp]
  unfold mBin
  rw [v]
  show ((lat S p).bind fun ds => (L2.atI ds k).map fun d => (d, S)) = _
  rw [show lat S p = some [.lst (P.ns.map D.int), .int P.seat, .int P.rest] from lat_lst s.at_]
  show (L2.atI [D.lst (P.ns.map D.int), .int P.seat, .int P.rest] k).map (fun d => (d, S)) = _
  rw [hf]
  rfl
theorem pn_put {i j : Nat} {k : Int} {t : PM α} {f : α → Pn → Pn} (hp : sl[i]? = some (.val (.lr p))) (h : PX S0 p sl m t A) (hk : L2.ixN 3 k = some j) (hf : ∀ a P, MO.lst (List.set [D.lst (P.ns.map D.int), .int P.seat, .int P.rest] j (A a)) = pobj (f a P)) : PN S0 p sl (mAsg m (mgSub (mVar i) (mC (.int k)))) (bP t fun a P => some ((), f a P)) (fun _ => sl) := fun P ρ S s u P' e => by
  obtain ⟨a, P1, e1, e⟩ := bP_some e
  cases e
  obtain ⟨S1, q, a1⟩ := h P ρ S s a P1 e1
  have s1 := s.pen a1
  have v : mVar i ρ S1 = some (.lr p, S1) := by unfold mVar; rw [s1.sx.val i _ hp]
  refine ⟨ρ, S1.set p (pobj (f a P1)), ?_, s1.pen .refl⟩
  unfold mAsg mgSub
  rw [q]
  show (((mVar i ρ S1).bind fun p => (mC (.int k) ρ p.2).bind fun q => match p.1, q.1 with
    | .lr n, .int k => (mat q.2 n).bind fun ds => (L2.ixN ds.length k).bind fun j => some (ρ, q.2.set n (.lst (ds.set j (A a))))
    | _, _ => none).bind fun q => some (Fl.nx, q.1, q.2)) = _
  rw [v]
  show (((mat S1 p).bind fun ds => (L2.ixN ds.length k).bind fun j => some (ρ, S1.set p (.lst (ds.set j (A a))))).bind fun q => some (Fl.nx, q.1, q.2)) = _
  rw [mat_lst s1.at_]
  show ((L2.ixN 3 k).bind fun j => some (ρ, S1.set p (.lst (List.set [D.lst (P1.ns.map D.int), .int P1.seat, .int P1.rest] j (A a))))).bind (fun q => some (Fl.nx, q.1, q.2)) = _
  rw [hk]
  show some (Fl.nx, ρ, S1.set p (.lst (List.set [D.lst (P1.ns.map D.int), .int P1.seat, .int P1.rest] j (A a)))) = _
  rw [hf]
theorem pn_par {i j : Nat} (h1 : PX S0 p sl m1 t1 A) (h2 : PX S0 p sl m2 t2 B) : PN S0 p sl (mPar i j (mCons m1 (mCons m2 mNil))) (bP t1 fun a => bP t2 fun b => lP (some (a, b))) (fun q => (sl.set i (.val (A q.1))).set j (.val (B q.2))) := fun P ρ S s c P' e => by
  obtain ⟨a, P1, e1, e⟩ := bP_some e
  obtain ⟨b, P2, e2, e⟩ := bP_some e
  obtain ⟨e, e3⟩ := lP_some e
  subst e3
  cases e
  obtain ⟨S1, q1, a1⟩ := h1 P ρ S s a P1 e1
  obtain ⟨S2, q2, a2⟩ := h2 P1 ρ S1 (s.pen a1) b _ e2
  refine ⟨_, S2, ?_, (((s.pen a1).pen a2).sx.set).set, s.lo⟩
  have q : mCons m1 (mCons m2 mNil) ρ S = some ([A a, B b], S2) := by simp only [mCons, mNil, q1, q2, Option.bind_some]
  unfold mPar
  rw [q]
  rfl
/-! a list emptied by draws: [xs.pop(..) for ..] -/
def popT {α : Type} (xs : List α) (i : Int) : Option (α × List α) := (L2.ixN xs.length i).bind fun j => (xs[j]?).map fun a => (a, xs.eraseIdx j)
theorem map_eraseIdx_ {f : α → β} : ∀ {l : List α} {j : Nat}, (l.eraseIdx j).map f = (l.map f).eraseIdx j
  | [], _ => rfl
  | _ :: _, 0 => rfl
  | a :: l, j + 1 => by
    show f a :: (l.eraseIdx j).map f = f a :: (l.map f).eraseIdx j
    rw [map_eraseIdx_]
def popsP {α : Type} (te : List α → PM Int) : Nat → List α → PM (List α × List α)
  | 0, xs => lP (some ([], xs))
  | n + 1, xs => bP (te xs) fun k => bP (lP (popT xs k)) fun q => bP (popsP te n q.2) fun r => lP (some (q.1 :: r.1, r.2))
def popsG {α : Type} (te : List α → PM Int) (n : Nat) (xs : List α) : PM (List α × List α) := cond (Nat.ble n 16777216 && Nat.ble xs.length 16777216) (popsP te n xs) (fun _ => none)
theorem popT_some {xs ys : List α} {i : Int} {a : α} (h : popT xs i = some (a, ys)) : ∃ j, L2.ixN xs.length i = some j ∧ xs[j]? = some a ∧ ys = xs.eraseIdx j := by
  obtain ⟨j, e1, e⟩ := Option.bind_eq_some_iff.mp h
  obtain ⟨b, e2, e⟩ := Option.map_eq_some_iff.mp e
  cases e
  exact ⟨j, e1, e2, rfl⟩
theorem Pf.acc {P : Pn} {ρ : Ev} {n : Nat} {x : MO} (s : Pf S0 p sl P ρ S) (hn : S0.length ≤ n) (hne : ∀ (j : Nat) (es : List D) (h : Nat), sl[j]? = some (.own es) → ρ[j]? = some (some (.lr h)) → h ≠ n) : Pf S0 p sl P ρ (S.set n x) := by
  refine ⟨⟨s.sx.all.wr (by rw [List.length_set]; exact hn), s.sx.len, s.sx.val, fun i ds e => ?_, s.sx.one⟩, s.lo⟩
  obtain ⟨h, h1, h2, h3⟩ := s.sx.own i ds e
  exact ⟨h, h1, by rw [List.getElem?_set_ne (fun z => hne i ds h e h1 z.symm)]; exact h2, h3⟩
theorem pn_pops {i j v : Nat} {it : MItr} {e : MExp} {xs : List α} {ti : PM (List γ)} {te : List α → PM Int} (h : sl[i]? = some (.own (xs.map A))) (hi : PI S0 p sl it ti C)
    (hiv : i ≠ v) (he : ∀ ys c, PX S0 p ((sl.set i (.own (ys.map A))).set v (.val (C c))) e (te ys) eI) :
    PN S0 p sl (mAsg (mFz (mLc it (mName v) mYes (mPop (mVar i) (mCons e mNil)) [v])) (mName j)) (bP ti fun cs => popsG te cs.length xs) (fun q => (sl.set i (.own (q.2.map A))).set j (.val (eL A q.1))) := fun P ρ S s q9 P' eq => by
  obtain ⟨cs, P1, e1, eq⟩ := bP_some eq
  obtain ⟨S1, q, a1⟩ := hi P ρ S s cs P1 e1
  have s1 := s.pen a1
  have hp1 : p < S1.length := s1.lt
  obtain ⟨kk, k1, k2, k3⟩ := s1.own_ h
  have hkk : kk < S1.length := (List.getElem?_eq_some_iff.mp k2).1
  have hS0 : S0.length ≤ S1.length := by have := s1.sx.all.len; rwa [List.length_set] at this
  have hli : i < sl.length := (List.getElem?_eq_some_iff.mp h).1
  have hdl : ∀ (ys : List α) (j : Nat) (es : List D) (h : Nat), (sl.set i (.own (ys.map A)))[j]? = some (.own es) → ρ[j]? = some (some (.lr h)) → h ≠ S1.length := fun ys j es h' g1 g2 => by
    by_cases hj : i = j
    · subst hj
      rw [k1] at g2
      cases g2
      omega
    · rw [List.getElem?_set_ne hj] at g1
      have := s1.sx.own_lt g1 g2
      omega
  unfold popsG at eq
  cases hz : (Nat.ble cs.length 16777216 && Nat.ble xs.length 16777216) with
  | false => rw [hz] at eq; cases eq
  | true =>
  rw [hz, cond_true] at eq
  have hz1 := Nat.le_of_ble_eq_true (Bool.and_eq_true _ _ ▸ hz).1
  have hz2 := Nat.le_of_ble_eq_true (Bool.and_eq_true _ _ ▸ hz).2
  have go : ∀ (cs : List γ) (ys : List α) (acc : List α) (T : Store) (P1 P' : Pn) (r : List α × List α), Pf S0 p (sl.set i (.own (ys.map A))) P1 ρ T → T[S1.length]? = some (.lst (acc.map A)) → acc.length + cs.length ≤ 16777216 → ys.length ≤ 16777216 → popsP te cs.length ys P1 = some (r, P') →
      ∃ T', lcL always (mName v) mYes (mPop (mVar i) (mCons e mNil)) (wipeD ρ [v]) S1.length (cs.map C) T = some T' ∧ Pf S0 p (sl.set i (.own (r.2.map A))) P' ρ T' ∧ T'[S1.length]? = some (.lst ((acc ++ r.1).map A)) := by
    intro cs
    induction cs with
    | nil => intro ys acc T P1 P' r w h hz hy eq; obtain ⟨e2, rfl⟩ := lP_some eq; cases e2; exact ⟨T, rfl, w, by rw [List.append_nil]; exact h⟩
    | cons x xs ih =>
      intro ys acc T P1 P' r w h hz hy eq
      obtain ⟨k, P2, e2, eq⟩ := bP_some eq
      obtain ⟨⟨y, ys'⟩, P3, e3', eq2⟩ := bP_some eq
      obtain ⟨r', P4, e4, eq3⟩ := bP_some eq2
      obtain ⟨e3, ez⟩ := lP_some e3'
      obtain ⟨e5, ez2⟩ := lP_some eq3
      subst ez2
      cases e5
      rw [ez] at e4
      obtain ⟨j', j1, j2, j3⟩ := popT_some e3
      have hl : acc.length + (xs.length + 1) ≤ 16777216 := hz
      have w1 : Pf S0 p ((sl.set i (.own (ys.map A))).set v (.val (C x))) P1 ((wipeD ρ [v]).set v (some (C x))) T := by
        refine ⟨?_, w.lo⟩
        have := (w.sx.wipe [v]).set (i := v) (d := C x)
        have e9 : (wipeS (sl.set i (.own (ys.map A))) [v]).set v (.val (C x)) = (sl.set i (.own (ys.map A))).set v (.val (C x)) := by
          show ((sl.set i (.own (ys.map A))).set v .unk).set v (.val (C x)) = _
          rw [List.set_set]
        rwa [e9] at this
      obtain ⟨T2, q2, a2⟩ := he ys x P1 _ T w1 k P2 e2
      have w2 := w.pen a2
      obtain ⟨kk', l1, l2, l3⟩ := w2.own_ (i := i) (ds := ys.map A) (List.getElem?_set_self hli)
      rw [k1] at l1
      cases l1
      have hnk : S1.length ≠ kk := by omega
      have w3 : Pf S0 p (sl.set i (.own (ys'.map A))) P2 ρ (T2.set kk (.lst (ys'.map A))) := by
        refine ⟨?_, w.lo⟩
        have := w2.sx.wr (es := ys'.map A) (List.getElem?_set_self hli) k1
        rwa [List.set_set] at this
      have h3 : (T2.set kk (.lst (ys'.map A)))[S1.length]? = some (.lst (acc.map A)) := by
        rw [List.getElem?_set_ne (fun z => hnk z.symm)]
        exact a2.get (by omega) h
      have hy' : ys'.length ≤ 16777216 := by
        rw [j3]
        have := List.length_eraseIdx_le ys j'
        omega
      obtain ⟨T4, q4, w4, h4⟩ := ih ys' (acc ++ [y]) ((T2.set kk (.lst (ys'.map A))).set S1.length (.lst ((acc ++ [y]).map A))) P2 _ r' (w3.acc hS0 (hdl ys')) (get_set h3) (by rw [List.length_append, List.length_singleton]; omega) hy' e4
      refine ⟨T4, ?_, w4, by rw [h4, List.append_assoc]; rfl⟩
      have ev : mVar i ((wipeD ρ [v]).set v (some (C x))) T = some (.lr kk, T) := by
        have : ((wipeD ρ [v]).set v (some (C x)))[i]? = some (some (.lr kk)) := by
          show ((ρ.set v none).set v (some (C x)))[i]? = _
          rw [List.getElem?_set_ne (fun z => hiv z.symm), List.getElem?_set_ne (fun z => hiv z.symm), k1]
        unfold mVar
        rw [this]
      have lT : T[kk]? = some (.lst (ys.map A)) := by
        obtain ⟨k9, m1, m2, m3⟩ := w.own_ (i := i) (ds := ys.map A) (List.getElem?_set_self hli)
        rw [k1] at m1
        cases m1
        exact m2
      have eA : mCons e mNil ((wipeD ρ [v]).set v (some (C x))) T = some ([eI k], T2) := by simp only [mCons, mNil, q2, Option.bind_some]
      have eP : mPop (mVar i) (mCons e mNil) ((wipeD ρ [v]).set v (some (C x))) T = some (A y, T2.set kk (.lst (ys'.map A))) := by
        unfold mPop
        rw [ev]
        show ((mat T kk).bind fun _ => (mCons e mNil ((wipeD ρ [v]).set v (some (C x))) T).bind fun q => match q.1 with
          | [.int i] => popD q.2 kk i
          | _ => none) = _
        rw [mat_lst lT]
        show ((mCons e mNil ((wipeD ρ [v]).set v (some (C x))) T).bind fun q => match q.1 with
          | [.int i] => popD q.2 kk i
          | _ => none) = _
        rw [eA]
        show popD T2 kk k = _
        unfold popD
        rw [mat_lst l2]
        show (if (ys.map A).length ≤ szl then (L2.ixN (ys.map A).length k).bind fun j => ((ys.map A)[j]?).map fun z => (z, T2.set kk (.lst ((ys.map A).eraseIdx j))) else none) = _
        rw [List.length_map, if_pos (show ys.length ≤ szl from hy), j1]
        show ((ys.map A)[j']?).map (fun z => (z, T2.set kk (.lst ((ys.map A).eraseIdx j')))) = _
        rw [List.getElem?_map, j2, j3]
        show some (A y, T2.set kk (.lst ((ys.map A).eraseIdx j'))) = _
        rw [← map_eraseIdx_]
      show (if always T = true then (mName v (C x) (wipeD ρ [v]) T).bind fun p => (mYes p.1 p.2).bind fun k => if k.1 then (mPop (mVar i) (mCons e mNil) p.1 k.2).bind fun y => (mat y.2 S1.length).bind fun acc =>
          if acc.length < szl then lcL always (mName v) mYes (mPop (mVar i) (mCons e mNil)) (wipeD ρ [v]) S1.length (xs.map C) (y.2.set S1.length (.lst (acc ++ [y.1]))) else none
        else lcL always (mName v) mYes (mPop (mVar i) (mCons e mNil)) (wipeD ρ [v]) S1.length (xs.map C) k.2 else none) = _
      rw [if_pos (show always T = true from rfl)]
      show ((mPop (mVar i) (mCons e mNil) ((wipeD ρ [v]).set v (some (C x))) T).bind fun y => (mat y.2 S1.length).bind fun acc =>
          if acc.length < szl then lcL always (mName v) mYes (mPop (mVar i) (mCons e mNil)) (wipeD ρ [v]) S1.length (xs.map C) (y.2.set S1.length (.lst (acc ++ [y.1]))) else none) = _
      rw [eP]
      show ((mat (T2.set kk (.lst (ys'.map A))) S1.length).bind fun acc => if acc.length < szl then lcL always (mName v) mYes (mPop (mVar i) (mCons e mNil)) (wipeD ρ [v]) S1.length (xs.map C) ((T2.set kk (.lst (ys'.map A))).set S1.length (.lst (acc ++ [A y]))) else none) = _
      rw [mat_lst h3]
      show (if (acc.map A).length < szl then lcL always (mName v) mYes (mPop (mVar i) (mCons e mNil)) (wipeD ρ [v]) S1.length (xs.map C) ((T2.set kk (.lst (ys'.map A))).set S1.length (.lst (acc.map A ++ [A y]))) else none) = _
      rw [List.length_map, if_pos (show acc.length < szl by show acc.length < 16777216; omega)]
      rw [List.map_append] at q4
      exact q4
  have a0 : All S1 (S1 ++ [.lst []]) := .app
  have e0 : sl.set i (.own (xs.map A)) = sl := set_same h
  obtain ⟨T, q2, w2, h2⟩ := go cs xs [] (S1 ++ [.lst []]) P1 P' q9 (by rw [e0]; exact s1.grow a0) get_new (by rw [List.length_nil, Nat.zero_add]; exact hz1) hz2 eq
  refine ⟨ρ.set j (some (eL A q9.1)), T.set S1.length .gone, ?_, ?_⟩
  · have e5 : mLc it (mName v) mYes (mPop (mVar i) (mCons e mNil)) [v] ρ S = some (.lr S1.length, T) := by
      unfold mLc
      rw [q]
      show ((lcL always (mName v) mYes (mPop (mVar i) (mCons e mNil)) (wipeD ρ [v]) S1.length (cs.map C) (S1 ++ [.lst []])).bind fun S2 => some (D.lr S1.length, S2)) = _
      rw [q2]
      rfl
    unfold mAsg mFz
    rw [e5]
    show ((fzD T (.lr S1.length)).bind fun p => (mName j p.1 ρ p.2).bind fun q => some (Fl.nx, q.1, q.2)) = _
    unfold fzD
    simp only [h2, List.nil_append]
    rfl
  · exact ⟨((w2.acc hS0 (hdl q9.2)).sx.set), w2.lo⟩
end

/-- the list of the script, locked -/
abbrev eF_ : List Int → D := fun xs => .fl (xs.map D.int)
end TM

set_option Elab.async false
set_option linter.all false
set_option maxRecDepth 100000
set_option maxHeartbeats 4000000
namespace MS
open PySem PySem.Spec PyProof.Rows L2
local macro_rules | `(tactic| walk_at "sx") => `(tactic| repeat any_goals first | assumption | wp_step)
section
variable {P : Program} {w : World} {A : Around} {E : Value → Shared → Prop} {s : Shared}
/-- a set with nothing in it -/
abbrev newSet (w : World) : Obj := { cls := .type "set", dict := none, data := .set #[] 0 (.fresh 0 0 (!w.params.followText "set-order")) }
/-- what set.__init__ leaves of a list of whole numbers -/
def Filled (w : World) (s : Shared) (ns : List Int) : Value → Shared → Prop := fun r z => r = .none ∧ ∃ h' tk c, z = { s with heap := h', toks := tk } ∧ SetR w h' s.heap.objs.size (fun j => decide (j ∈ ns)) c ∧ ∀ b o, s.heap.get? b = some o → h'.get? b = some o
theorem ints_at {its : Array Value} {ns : List Int} (hit : IntsAre its.toList ns) (i : Nat) (v : Value) (hv : its[i]? = some v) : ∃ k t, ns[i]? = some k ∧ v = .int k t := by
  have hn : i < ns.length := by
    have h1 := IntsAre.length hit
    rw [Array.length_toList] at h1
    rw [← h1]
    exact (Array.getElem?_eq_some_iff.mp hv).1
  obtain ⟨t, e⟩ := IntsAre.int_at hit i v (by rw [Array.getElem?_toList, hv])
  exact ⟨ns[i], t, List.getElem?_eq_getElem hn, by rw [e, List.getD_eq_getElem?_getD, List.getElem?_eq_getElem hn]; rfl⟩
set_option maxHeartbeats 3200000 in
theorem set_of_list {l : Addr} {its : Array Value} (ns : List Int) {Q : Value → Shared → Prop} (hh : A.handled = none) (hl : s.heap.IsList l its) (hit : IntsAre its.toList ns) (hb : ns.length + 1 < scanBound)
    (q : ∀ z c h' tk, z = { s with heap := h', toks := tk } → SetR w h' s.heap.objs.size (fun j => decide (j ∈ ns)) c → (∀ b o, s.heap.get? b = some o → h'.get? b = some o) → Q (.ref s.heap.objs.size) z) :
    wpAny (model P w) A (call (.type "set") [.ref l]) Q E s := by
  have hlen := IntsAre.length hit
  rw [Array.length_toList] at hlen
  have ⟨c, tl, hmro⟩ := F.called_set.mro
  have q1 := F.called_set.made
  have q2 := F.called_set.sub
  have q3 := F.called_set.notType
  have q4 := F.called_set.canCreate
  have q5 := F.typeCall_set_1 (.ref l)
  have q6 := F.called_set.init.lookup
  refine wpAny_call (codeAny_of_tree (show wpAny _ _ (callAny (.type "set") _) _ _ _ from wpAny_pure ⟨Code.quiet_builtin _ (by decide +kernel), codeAny_builtin F.entry_type_call ?_⟩))
  rw [Around.under_plain (weight_type_call_type "set" [.ref l] []) rfl]
  walk_at "sx"
  refine codeAny_mono (code_set_led1 (.ref l) (E := E) (Q₁ := fun v z => v = .ref s.heap.objs.size ∧ z = { s with heap := s.heap.push (newSet w) }) ⟨rfl, rfl⟩) fun r z hr => ?_
  match r, hr with
  | .error _, hr => exact hr
  | .ok (.ret v), hr =>
    obtain ⟨e1, e2⟩ := hr
    subst e1 e2
    have gS : (s.heap.push (newSet w)).get? s.heap.objs.size = some (newSet w) := Heap.get?_push_size _ rfl
    have gT : Shared.TypeIs { s with heap := s.heap.push (newSet w) } (.ref s.heap.objs.size) "set" := ⟨_, gS, rfl⟩
    have q7 := F.called_set.init.bind (.ref s.heap.objs.size)
    walk_at "sx"
    refine codeAny_mono (codeAny_call_builtin (R := wants (Filled w s ns) E) F.called_set.init.plain F.entry_set_init (check_set_init_1 gT ?_)) fun r2 z2 hr2 => ?_
    · obtain ⟨⟨cls, dd, data, sl⟩, ho, hc, n, hd⟩ := hl
      simp only at hc hd
      subst hc hd
      have ho1 : (s.heap.push (newSet w)).get? l = some { cls := .type "list", dict := dd, data := .seq its n, slots := sl } := Heap.get?_push_of_some _ ho
      have q8 := F.sub_list_set
      have q9 := F.sub_list_frozenset
      have q10 : (Value.type "list" == Value.type "dict") = false := by decide
      have hl1 : (s.heap.push (newSet w)).IsList l its := ⟨_, ho1, rfl, n, rfl⟩
      unfold Builtin.«set.__init__» noKeywords Builtin.Frozenset.updateFrom
      generalize hI : pyIter = PI
      wp_walk
      subst hI
      have lS : l < s.heap.objs.size := Heap.lt_size ho
      have z1 : (s.heap.push (newSet w)).objs.size = s.heap.objs.size + 1 := Heap.size_push ..
      refine wpAny_pyIter_list hl1 (wpAny_bind (wpAny_runValue ?_))
      have nI : l ≠ (s.heap.push (newSet w)).objs.size := fun z => Nat.lt_irrefl _ (Nat.lt_trans (Nat.lt_succ_self _) ((z.trans z1) ▸ lS))
      have hA : A.in1.in1.in1.handled = none := by simp [hh]
      refine set_update_ints ((Walks.list hA _ l nI its).toS) s.heap.objs.size ?nf ns hlen hb (ints_at hit) (its.size - 0) 0 _ (by omega) (Nat.zero_le _) ⟨⟨_, Heap.get?_push_size _ rfl, rfl, rfl⟩, hl1.push _⟩ ⟨0, Nat.le_refl 0, setR_new_at (Heap.get?_push_of_some _ gS)⟩ ?fin
      case nf =>
        intro hm
        rcases List.mem_cons.mp hm with e | e
        · exact Nat.ne_of_lt (Nat.lt_succ_self _) (e.trans z1)
        · exact Nat.lt_irrefl _ ((List.mem_singleton.mp e).symm ▸ lS)
      case fin =>
        intro ⟨h', g2, d', tk', os'⟩ c' hm _ hS
        have eg : g2 = s.gens := hm.gens
        have ed : d' = s.drawn := hm.drawn
        have eo : os' = s.os := hm.os
        subst eg ed eo
        show wpAny _ _ _ _ _ _
        refine wpAny_pure ?_
        show wpAny _ _ (ret Value.none) _ _ _
        refine wpAny_pure ⟨rfl, h', tk', c', rfl, hS, fun b o e => ?_⟩
        have lb : b < s.heap.objs.size := Heap.lt_size e
        refine hm.heap b o (fun z => ?_) (Heap.get?_push_of_some _ (Heap.get?_push_of_some _ e))
        rcases List.mem_cons.mp z with e | e
        · exact Nat.ne_of_lt lb e
        · exact Nat.ne_of_lt (Nat.lt_succ_of_lt lb) ((List.mem_singleton.mp e).trans z1)
    · match r2, hr2 with
      | .error _, hr2 => exact hr2
      | .ok (.ret v2), hr2 =>
        obtain ⟨e1, h', tk, c', e2, hS, hk⟩ := hr2
        subst e1 e2
        walk_at "sx"
        exact q _ c' h' tk rfl hS hk
end
theorem nodup_in {α : Type} [DecidableEq α] : ∀ {l m : List α}, l.Nodup → (∀ x ∈ l, x ∈ m) → l.length ≤ m.length
  | [], _, _, _ => Nat.zero_le _
  | a :: l, m, h, s => by
    obtain ⟨h1, h2⟩ := List.nodup_cons.mp h
    have ha := s a (List.mem_cons_self ..)
    have := nodup_in (l := l) (m := m.erase a) h2 fun x hx => (List.mem_erase_of_ne (fun e : x = a => h1 (e ▸ hx))).mpr (s x (List.mem_cons_of_mem _ hx))
    rw [List.length_erase_of_mem ha] at this
    have hp : 0 < m.length := List.length_pos_of_mem ha
    show l.length + 1 ≤ m.length
    omega
/-- a set has no more members than there are different numbers -/
theorem setR_few {w : World} {h : Heap} {a : Addr} {ns : List Int} {c : Nat} (R : SetR w h a (fun j => decide (j ∈ ns)) c) : c ≤ (sortU ns).length := by
  obtain ⟨o, es, ep, t, _, _, _, _, nd, hm, _, _, hn, _⟩ := R
  have := nodup_in (m := sortU ns) nd fun x hx => mem_sortU.mpr (of_decide_eq_true ((hm x).mpr hx))
  rw [List.length_map, Array.length_toList] at this
  omega
/-- set(xs), xs a list of whole numbers -/
def rSetL (K : PySem.W.Frag) (w : World) : List V → Hp → VK → Prop := fun vs H Q => ∃ (a : Addr) (ns : List Int), vs = [V.ref a] ∧ SqL K H a (ns.map V.int) ∧ ns.length < 4000 ∧
  ∀ p c, H p = none → c ≤ (sortU ns).length → Q (.ref p) (upd H p (SetO w p (fun j => decide (j ∈ ns)) c))
theorem cr_setL {X : Cx} (hc : X.calm = true) : CallR X (.type "set") (rSetL X.K X.w) := by
  intro pins s σ H vs us Q I r ⟨a, ns, ex, hq, hl, q⟩
  subst ex
  obtain ⟨its, rv, pt, hz⟩ := I.list hq
  have hi : IntsAre its.toArray.toList ns := ints_of_vals rv
  rw [Vals.ref1 r]
  obtain ⟨⟨cls, dd, data, sl⟩, n, ho, hcl, hdn, hd⟩ := pt
  refine set_of_list ns (I.ok.hd hc) ⟨_, ho, hcl, n, hd⟩ hi (by show ns.length + 1 < 4096; omega) fun z c h' tk ez R k => ?_
  subst ez
  have hn : H s.heap.objs.size = none := I.hok.fresh (Nat.le_refl _)
  have J := I.call (ch := []) (g' := s.gens) (t' := tk) (d' := s.drawn) (Un.laid (o := SetO X.w s.heap.objs.size (fun j => decide (j ∈ ns)) c) k (Nat.le_refl _) hn) (I.hok.laid k (Nat.le_refl _) (setO_new R)) I.bare (fun _ z => nomatch z)
  exact ⟨V.ref s.heap.objs.size, _, J, rfl, q _ c hn (setR_few R)⟩
/-- sorted(set(xs)), xs a list of ints by value -/
def mSortSetL (m : MArg) : MExp := fun ρ S => (m ρ S).bind fun p => match p.1 with
  | [.lst ds] => (intsOf ds).bind fun ns => if ns.length < 4000 ∧ (sortU ns).length < 64 then some (.lst ((sortU ns).map D.int), p.2) else none
  | _ => none
theorem me_sortSetL {X : Cx} {e : Expr} {m : MArg} {p p2 q q2 : Pos} (hc : X.calm = true) (hg : Gl X "sorted") (hm : X.mg "sorted" = none) (hg2 : Gl X "set") (hm2 : X.mg "set" = none) (ha : MA X [e] m)
    (hs1 : starEach [.Call (.Name "set" p2) [e] [] q2] X.env = (false, eval (.Call (.Name "set" p2) [e] [] q2) X.env) :: starEach [] X.env := by rfl)
    (hs : starEach [e] X.env = (false, eval e X.env) :: starEach [] X.env := by rfl) : ME X (.Call (.Name "sorted" p) [.Call (.Name "set" p2) [e] [] q2] [] q) (mSortSetL m) :=
  ⟨PE.imp (pe_callB (cr_sortedSet hc) hg hm (show bootBuiltins "sorted" = some (.builtin "sorted") by decide +kernel) (pa_cons (pe_callTy (cr_setL hc) hg2 hm2 PyProof.Rows.boot_set ha.pa (by decide) (by decide) hs (by rfl)) pa_nil hs1) (by decide) (by decide) hs1 (by rfl)) fun σ H Q ⟨ρ, S, μ, d, S', st, e, q⟩ => by
    obtain ⟨⟨ds, S1⟩, e1, e⟩ := Option.bind_eq_some_iff.mp e
    refine ⟨ρ, S, μ, ds, S1, st, e1, fun vs H1 μ1 g1 s1 r1 => ?_⟩
    match ds, r1, e with
    | [.lst es], .cons (.lst h1 h2) .nil, e =>
      obtain ⟨ns, e2, e⟩ := Option.bind_eq_some_iff.mp (show ((intsOf es).bind fun ns => if ns.length < 4000 ∧ (sortU ns).length < 64 then some (D.lst ((sortU ns).map D.int), S1) else none) = some (d, S') from e)
      split at e
      · rename_i hz
        cases e
        have h1 := h1.sqL (K := X.K)
        rw [intsOf_rp e2 h2] at h1
        refine ⟨_, ns, rfl, h1, hz.1, fun p c hp hcn => ?_⟩
        refine ⟨p, _, c, rfl, upd_same, Nat.lt_of_le_of_lt hcn hz.2, fun ns' p' hs' hm' _ hp' => ?_⟩
        have en : ns' = sortU ns := rising_ext hs' (sortU_sorted ns) fun z => by rw [hm' z, mem_sortU, decide_eq_true_eq]
        subst en
        exact Aft.lstV (fun v H' μ' g => q v H' μ' ((g1.trans (.new hp)).trans g)) (s1.new hp) RpA.ints hp'
      · cases e
    | [], _, e => cases e
    | [.non], _, e => cases e
    | [.bl _], _, e => cases e
    | [.int _], _, e => cases e
    | [.str _], _, e => cases e
    | [.lr _], _, e => cases e
    | d1 :: _ :: _, _, e => (cases d1 <;> cases e)⟩
end MS

set_option Elab.async false
set_option linter.all false
set_option maxRecDepth 100000
set_option maxHeartbeats 4000000
namespace TM
open PySem PySem.Spec PyProof.Rows L2 MS
section
variable {α β γ δ σ : Type} {S0 S S' : Store} {p : Nat} {sl : List Sl} {m m1 m2 : MExp} {r : MStm} {A : α → D} {B : β → D} {C : γ → D} {t : Option α} {t1 : Option α} {t2 : Option β}
theorem xo_lst2 {n1 n2 : MExp} {u1 u2 : Option α} (h1 : XE S0 sl n1 u1 A) (h2 : XE S0 sl n2 u2 A) : XO S0 sl (mLst (mCons n1 (mCons n2 mNil))) (u1.bind fun x1 => u2.bind fun x2 => some [x1, x2]) A := fun ρ S s xs e => by
  obtain ⟨x1, e1, e⟩ := bnd e
  obtain ⟨x2, e2, e⟩ := bnd e
  cases e
  obtain ⟨S1, q1, a1⟩ := h1 ρ S s x1 e1
  obtain ⟨S2, q2, a2⟩ := h2 ρ S1 (s.grow a1) x2 e2
  refine xo_of (S1 := S2) ?_ (a1.trans a2)
  have q : (mCons n1 (mCons n2 mNil)) ρ S = some ([A x1, A x2], S2) := by simp only [mCons, mNil, q1, q2, Option.bind_some]
  unfold mLst
  rw [q]
  rfl
theorem xo_lst3 {n1 n2 n3 : MExp} {u1 u2 u3 : Option α} (h1 : XE S0 sl n1 u1 A) (h2 : XE S0 sl n2 u2 A) (h3 : XE S0 sl n3 u3 A) : XO S0 sl (mLst (mCons n1 (mCons n2 (mCons n3 mNil)))) (u1.bind fun x1 => u2.bind fun x2 => u3.bind fun x3 => some [x1, x2, x3]) A := fun ρ S s xs e => by
  obtain ⟨x1, e1, e⟩ := bnd e
  obtain ⟨x2, e2, e⟩ := bnd e
  obtain ⟨x3, e3, e⟩ := bnd e
  cases e
  obtain ⟨S1, q1, a1⟩ := h1 ρ S s x1 e1
  obtain ⟨S2, q2, a2⟩ := h2 ρ S1 (s.grow a1) x2 e2
  obtain ⟨S3, q3, a3⟩ := h3 ρ S2 (s.grow (a1.trans a2)) x3 e3
  refine xo_of (S1 := S3) ?_ ((a1.trans a2).trans a3)
  have q : (mCons n1 (mCons n2 (mCons n3 mNil))) ρ S = some ([A x1, A x2, A x3], S3) := by simp only [mCons, mNil, q1, q2, q3, Option.bind_some]
  unfold mLst
  rw [q]
  rfl
theorem xo_lst4 {n1 n2 n3 n4 : MExp} {u1 u2 u3 u4 : Option α} (h1 : XE S0 sl n1 u1 A) (h2 : XE S0 sl n2 u2 A) (h3 : XE S0 sl n3 u3 A) (h4 : XE S0 sl n4 u4 A) : XO S0 sl (mLst (mCons n1 (mCons n2 (mCons n3 (mCons n4 mNil))))) (u1.bind fun x1 => u2.bind fun x2 => u3.bind fun x3 => u4.bind fun x4 => some [x1, x2, x3, x4]) A := fun ρ S s xs e => by
  obtain ⟨x1, e1, e⟩ := bnd e
  obtain ⟨x2, e2, e⟩ := bnd e
  obtain ⟨x3, e3, e⟩ := bnd e
  obtain ⟨x4, e4, e⟩ := bnd e
  cases e
  obtain ⟨S1, q1, a1⟩ := h1 ρ S s x1 e1
  obtain ⟨S2, q2, a2⟩ := h2 ρ S1 (s.grow a1) x2 e2
  obtain ⟨S3, q3, a3⟩ := h3 ρ S2 (s.grow (a1.trans a2)) x3 e3
  obtain ⟨S4, q4, a4⟩ := h4 ρ S3 (s.grow ((a1.trans a2).trans a3)) x4 e4
  refine xo_of (S1 := S4) ?_ (((a1.trans a2).trans a3).trans a4)
  have q : (mCons n1 (mCons n2 (mCons n3 (mCons n4 mNil)))) ρ S = some ([A x1, A x2, A x3, A x4], S4) := by simp only [mCons, mNil, q1, q2, q3, q4, Option.bind_some]
  unfold mLst
  rw [q]
  rfl
theorem xo_lst5 {n1 n2 n3 n4 n5 : MExp} {u1 u2 u3 u4 u5 : Option α} (h1 : XE S0 sl n1 u1 A) (h2 : XE S0 sl n2 u2 A) (h3 : XE S0 sl n3 u3 A) (h4 : XE S0 sl n4 u4 A) (h5 : XE S0 sl n5 u5 A) : XO S0 sl (mLst (mCons n1 (mCons n2 (mCons n3 (mCons n4 (mCons n5 mNil)))))) (u1.bind fun x1 => u2.bind fun x2 => u3.bind fun x3 => u4.bind fun x4 => u5.bind fun x5 => some [x1, x2, x3, x4, x5]) A := fun ρ S s xs e => by
  obtain ⟨x1, e1, e⟩ := bnd e
  obtain ⟨x2, e2, e⟩ := bnd e
  obtain ⟨x3, e3, e⟩ := bnd e
  obtain ⟨x4, e4, e⟩ := bnd e
  obtain ⟨x5, e5, e⟩ := bnd e
  cases e
  obtain ⟨S1, q1, a1⟩ := h1 ρ S s x1 e1
  obtain ⟨S2, q2, a2⟩ := h2 ρ S1 (s.grow a1) x2 e2
  obtain ⟨S3, q3, a3⟩ := h3 ρ S2 (s.grow (a1.trans a2)) x3 e3
  obtain ⟨S4, q4, a4⟩ := h4 ρ S3 (s.grow ((a1.trans a2).trans a3)) x4 e4
  obtain ⟨S5, q5, a5⟩ := h5 ρ S4 (s.grow (((a1.trans a2).trans a3).trans a4)) x5 e5
  refine xo_of (S1 := S5) ?_ ((((a1.trans a2).trans a3).trans a4).trans a5)
  have q : (mCons n1 (mCons n2 (mCons n3 (mCons n4 (mCons n5 mNil))))) ρ S = some ([A x1, A x2, A x3, A x4, A x5], S5) := by simp only [mCons, mNil, q1, q2, q3, q4, q5, Option.bind_some]
  unfold mLst
  rw [q]
  rfl
theorem xo_lst6 {n1 n2 n3 n4 n5 n6 : MExp} {u1 u2 u3 u4 u5 u6 : Option α} (h1 : XE S0 sl n1 u1 A) (h2 : XE S0 sl n2 u2 A) (h3 : XE S0 sl n3 u3 A) (h4 : XE S0 sl n4 u4 A) (h5 : XE S0 sl n5 u5 A) (h6 : XE S0 sl n6 u6 A) : XO S0 sl (mLst (mCons n1 (mCons n2 (mCons n3 (mCons n4 (mCons n5 (mCons n6 mNil))))))) (u1.bind fun x1 => u2.bind fun x2 => u3.bind fun x3 => u4.bind fun x4 => u5.bind fun x5 => u6.bind fun x6 => some [x1, x2, x3, x4, x5, x6]) A := fun ρ S s xs e => by
  obtain ⟨x1, e1, e⟩ := bnd e
  obtain ⟨x2, e2, e⟩ := bnd e
  obtain ⟨x3, e3, e⟩ := bnd e
  obtain ⟨x4, e4, e⟩ := bnd e
  obtain ⟨x5, e5, e⟩ := bnd e
  obtain ⟨x6, e6, e⟩ := bnd e
  cases e
  obtain ⟨S1, q1, a1⟩ := h1 ρ S s x1 e1
  obtain ⟨S2, q2, a2⟩ := h2 ρ S1 (s.grow a1) x2 e2
  obtain ⟨S3, q3, a3⟩ := h3 ρ S2 (s.grow (a1.trans a2)) x3 e3
  obtain ⟨S4, q4, a4⟩ := h4 ρ S3 (s.grow ((a1.trans a2).trans a3)) x4 e4
  obtain ⟨S5, q5, a5⟩ := h5 ρ S4 (s.grow (((a1.trans a2).trans a3).trans a4)) x5 e5
  obtain ⟨S6, q6, a6⟩ := h6 ρ S5 (s.grow ((((a1.trans a2).trans a3).trans a4).trans a5)) x6 e6
  refine xo_of (S1 := S6) ?_ (((((a1.trans a2).trans a3).trans a4).trans a5).trans a6)
  have q : (mCons n1 (mCons n2 (mCons n3 (mCons n4 (mCons n5 (mCons n6 mNil)))))) ρ S = some ([A x1, A x2, A x3, A x4, A x5, A x6], S6) := by simp only [mCons, mNil, q1, q2, q3, q4, q5, q6, Option.bind_some]
  unfold mLst
  rw [q]
  rfl
theorem xo_lst7 {n1 n2 n3 n4 n5 n6 n7 : MExp} {u1 u2 u3 u4 u5 u6 u7 : Option α} (h1 : XE S0 sl n1 u1 A) (h2 : XE S0 sl n2 u2 A) (h3 : XE S0 sl n3 u3 A) (h4 : XE S0 sl n4 u4 A) (h5 : XE S0 sl n5 u5 A) (h6 : XE S0 sl n6 u6 A) (h7 : XE S0 sl n7 u7 A) : XO S0 sl (mLst (mCons n1 (mCons n2 (mCons n3 (mCons n4 (mCons n5 (mCons n6 (mCons n7 mNil)))))))) (u1.bind fun x1 => u2.bind fun x2 => u3.bind fun x3 => u4.bind fun x4 => u5.bind fun x5 => u6.bind fun x6 => u7.bind fun x7 => some [x1, x2, x3, x4, x5, x6, x7]) A := fun ρ S s xs e => by
  obtain ⟨x1, e1, e⟩ := bnd e
  obtain ⟨x2, e2, e⟩ := bnd e
  obtain ⟨x3, e3, e⟩ := bnd e
  obtain ⟨x4, e4, e⟩ := bnd e
  obtain ⟨x5, e5, e⟩ := bnd e
  obtain ⟨x6, e6, e⟩ := bnd e
  obtain ⟨x7, e7, e⟩ := bnd e
  cases e
  obtain ⟨S1, q1, a1⟩ := h1 ρ S s x1 e1
  obtain ⟨S2, q2, a2⟩ := h2 ρ S1 (s.grow a1) x2 e2
  obtain ⟨S3, q3, a3⟩ := h3 ρ S2 (s.grow (a1.trans a2)) x3 e3
  obtain ⟨S4, q4, a4⟩ := h4 ρ S3 (s.grow ((a1.trans a2).trans a3)) x4 e4
  obtain ⟨S5, q5, a5⟩ := h5 ρ S4 (s.grow (((a1.trans a2).trans a3).trans a4)) x5 e5
  obtain ⟨S6, q6, a6⟩ := h6 ρ S5 (s.grow ((((a1.trans a2).trans a3).trans a4).trans a5)) x6 e6
  obtain ⟨S7, q7, a7⟩ := h7 ρ S6 (s.grow (((((a1.trans a2).trans a3).trans a4).trans a5).trans a6)) x7 e7
  refine xo_of (S1 := S7) ?_ ((((((a1.trans a2).trans a3).trans a4).trans a5).trans a6).trans a7)
  have q : (mCons n1 (mCons n2 (mCons n3 (mCons n4 (mCons n5 (mCons n6 (mCons n7 mNil))))))) ρ S = some ([A x1, A x2, A x3, A x4, A x5, A x6, A x7], S7) := by simp only [mCons, mNil, q1, q2, q3, q4, q5, q6, q7, Option.bind_some]
  unfold mLst
  rw [q]
  rfl
theorem xo_lst8 {n1 n2 n3 n4 n5 n6 n7 n8 : MExp} {u1 u2 u3 u4 u5 u6 u7 u8 : Option α} (h1 : XE S0 sl n1 u1 A) (h2 : XE S0 sl n2 u2 A) (h3 : XE S0 sl n3 u3 A) (h4 : XE S0 sl n4 u4 A) (h5 : XE S0 sl n5 u5 A) (h6 : XE S0 sl n6 u6 A) (h7 : XE S0 sl n7 u7 A) (h8 : XE S0 sl n8 u8 A) : XO S0 sl (mLst (mCons n1 (mCons n2 (mCons n3 (mCons n4 (mCons n5 (mCons n6 (mCons n7 (mCons n8 mNil))))))))) (u1.bind fun x1 => u2.bind fun x2 => u3.bind fun x3 => u4.bind fun x4 => u5.bind fun x5 => u6.bind fun x6 => u7.bind fun x7 => u8.bind fun x8 => some [x1, x2, x3, x4, x5, x6, x7, x8]) A := fun ρ S s xs e => by
  obtain ⟨x1, e1, e⟩ := bnd e
  obtain ⟨x2, e2, e⟩ := bnd e
  obtain ⟨x3, e3, e⟩ := bnd e
  obtain ⟨x4, e4, e⟩ := bnd e
  obtain ⟨x5, e5, e⟩ := bnd e
  obtain ⟨x6, e6, e⟩ := bnd e
  obtain ⟨x7, e7, e⟩ := bnd e
  obtain ⟨x8, e8, e⟩ := bnd e
  cases e
  obtain ⟨S1, q1, a1⟩ := h1 ρ S s x1 e1
  obtain ⟨S2, q2, a2⟩ := h2 ρ S1 (s.grow a1) x2 e2
  obtain ⟨S3, q3, a3⟩ := h3 ρ S2 (s.grow (a1.trans a2)) x3 e3
  obtain ⟨S4, q4, a4⟩ := h4 ρ S3 (s.grow ((a1.trans a2).trans a3)) x4 e4
  obtain ⟨S5, q5, a5⟩ := h5 ρ S4 (s.grow (((a1.trans a2).trans a3).trans a4)) x5 e5
  obtain ⟨S6, q6, a6⟩ := h6 ρ S5 (s.grow ((((a1.trans a2).trans a3).trans a4).trans a5)) x6 e6
  obtain ⟨S7, q7, a7⟩ := h7 ρ S6 (s.grow (((((a1.trans a2).trans a3).trans a4).trans a5).trans a6)) x7 e7
  obtain ⟨S8, q8, a8⟩ := h8 ρ S7 (s.grow ((((((a1.trans a2).trans a3).trans a4).trans a5).trans a6).trans a7)) x8 e8
  refine xo_of (S1 := S8) ?_ (((((((a1.trans a2).trans a3).trans a4).trans a5).trans a6).trans a7).trans a8)
  have q : (mCons n1 (mCons n2 (mCons n3 (mCons n4 (mCons n5 (mCons n6 (mCons n7 (mCons n8 mNil)))))))) ρ S = some ([A x1, A x2, A x3, A x4, A x5, A x6, A x7, A x8], S8) := by simp only [mCons, mNil, q1, q2, q3, q4, q5, q6, q7, q8, Option.bind_some]
  unfold mLst
  rw [q]
  rfl
theorem xe_revF {f : α → β} (h : XE S0 sl m t A) (hE : ∀ a, ∃ ds, A a = .tup ds ∧ B (f a) = .tup ds.reverse) : XE S0 sl (mRevT m) (t.bind fun a => some (f a)) B := fun ρ S s b e => by
  obtain ⟨a, e1, e⟩ := bnd e
  cases e
  obtain ⟨S1, q, a1⟩ := h ρ S s a e1
  obtain ⟨ds, d1, d2⟩ := hE a
  refine ⟨S1, ?_, a1⟩
  unfold mRevT
  rw [q, d1, d2]
  rfl
theorem px_revF {t : PM α} {f : α → β} (h : PX S0 p sl m t A) (hE : ∀ a, ∃ ds, A a = .tup ds ∧ B (f a) = .tup ds.reverse) : PX S0 p sl (mRevT m) (bP t fun a => lP (some (f a))) B := fun P ρ S s b P' e => by
  obtain ⟨a, P1, e1, e⟩ := bP_some e
  obtain ⟨e2, rfl⟩ := lP_some e
  cases e2
  obtain ⟨S1, q, a1⟩ := h P ρ S s a _ e1
  obtain ⟨ds, d1, d2⟩ := hE a
  refine ⟨S1, ?_, a1⟩
  unfold mRevT
  rw [q, d1, d2]
  rfl
/-- x, y = a, b where the right side stands as a tuple -/
theorem sn_asgT2 {i j : Nat} {k1 : α → Sl} {k2 : β → Sl} (h1 : XS S0 sl m1 t1 k1) (h2 : XS S0 sl m2 t2 k2) (n1 : ∀ a, k1 a ≠ .unk) (n2 : ∀ a, k2 a ≠ .unk) (hij : i ≠ j) :
    SN S0 sl (mAsg (mTup (mCons m1 (mCons m2 mNil))) (mgTup (mgCons (mName i) (mgCons (mName j) mgNil)) 2)) (t1.bind fun a => t2.bind fun b => some (a, b)) (fun p => (sl.set i (k1 p.1)).set j (k2 p.2)) := fun ρ S s c e => by
  obtain ⟨ρ', S', q, k⟩ := sn_par h1 h2 n1 n2 hij ρ S s c e
  refine ⟨ρ', S', ?_, k⟩
  obtain ⟨a, e1, e⟩ := bnd e
  obtain ⟨b, e2, e⟩ := bnd e
  cases e
  obtain ⟨d1, S1, q1, a1, o1⟩ := h1 ρ S s a e1
  obtain ⟨d2, S2, q2, a2, o2⟩ := h2 ρ S1 (s.grow a1) b e2
  have q3 : mCons m1 (mCons m2 mNil) ρ S = some ([d1, d2], S2) := by simp only [mCons, mNil, q1, q2, Option.bind_some]
  unfold mPar at q
  rw [q3] at q
  rw [← q]
  unfold mAsg mTup
  rw [q3]
  rfl
/-! texts, repr -/
theorem op_eqS : Op2 fEq eS eS eB (fun a b => some (decide (a = b))) := fun a b c S e => by cases e; rfl
theorem op_neS : Op2 fNe eS eS eB (fun a b => some (!decide (a = b))) := fun a b c S e => by cases e; rfl
def repr_ (x : PyData) : Option Str := cond (okShow x) (some x.shown) none
theorem g_repr [DecidableEq α] {da : Nat} (f : Fa A da) (hd : da < 64) {a : α} : Gvs cRepr [A a] (repr_ (f.py a)) eS := fun c e S => by
  refine ⟨S, ?_, .refl⟩
  unfold repr_ at e
  cases k : okShow (f.py a) with
  | true =>
    rw [k] at e
    cases e
    show ((toPy S 64 (A a)).bind fun p => if okShow p then some (D.str p.shown, S) else none) = _
    rw [f.toPy_ 64 S a hd]
    show (if okShow (f.py a) then some (D.str (f.py a).shown, S) else none) = _
    rw [if_pos k]
  | false => rw [k] at e; cases e
def mulN_ (a b : Int) : Option Int := cond (i64 a || i64 b) (some (a * b)) none
theorem op_mulN : Op2 fMul eI eI eI mulN_ := fun a b c S e => by
  unfold mulN_ at e
  cases k : (i64 a || i64 b) with
  | true => rw [k] at e; cases e; show (if (i64 a || i64 b) = true then _ else _) = _; rw [if_pos k]
  | false => rw [k] at e; cases e
/-- sorted(set(xs)) -/
def sortS (xs : List Int) : Option (List Int) := cond (Nat.blt xs.length 4000 && Nat.blt (sortU xs).length 64) (some (sortU xs)) none
theorem xe_sortSet {tx : Option (List Int)} (h : XE S0 sl m tx (eL eI)) : XE S0 sl (mSortSetL (mCons m mNil)) (tx.bind fun x => sortS x) (eL eI) := fun ρ S s c e => by
  obtain ⟨xs, e1, e⟩ := bnd e
  obtain ⟨S1, q, a1⟩ := h ρ S s xs e1
  unfold sortS at e
  cases k : (Nat.blt xs.length 4000 && Nat.blt (sortU xs).length 64) with
  | false => rw [k] at e; cases e
  | true =>
    rw [k] at e
    cases e
    have k1 := (Bool.and_eq_true _ _ ▸ k).1
    have k2 := (Bool.and_eq_true _ _ ▸ k).2
    rw [Nat.blt_eq] at k1 k2
    refine ⟨S1, ?_, a1⟩
    have e2 : mCons m mNil ρ S = some ([eL eI xs], S1) := by simp only [mCons, mNil, q, Option.bind_some]
    unfold mSortSetL
    rw [e2]
    show ((intsOf (xs.map D.int)).bind fun ns => if ns.length < 4000 ∧ (sortU ns).length < 64 then some (D.lst ((sortU ns).map D.int), S1) else none) = _
    rw [intsOf_map]
    show (if xs.length < 4000 ∧ (sortU xs).length < 64 then some (D.lst ((sortU xs).map D.int), S1) else none) = _
    rw [if_pos ⟨k1, k2⟩]
theorem g_lenF {xs : List Int} : Gvs cLen [eF_ xs] (some (xs.length : Int)) eI := fun c e S => by
  cases e
  refine ⟨S, ?_, .refl⟩
  show ((MS.items S (.fl (xs.map D.int))).bind fun ys => some (D.int (ys.length : Int), S)) = _
  show some (D.int ((xs.map D.int).length : Int), S) = _
  rw [List.length_map]
end
end TM

set_option Elab.async false
set_option linter.all false
set_option maxRecDepth 100000
set_option maxHeartbeats 4000000
namespace TM
open PySem PySem.Spec PyProof.Rows L2 MS
abbrev N_law_pen : List Str := ["script"]
def M_law_pen : MStm :=
  (mRet (mLst (mCons (mCall (cFz cList) (mCons (mSl (mVar 0) mNoPart (mPart (mC (.int 63)))) mNil)) (mCons (mC (.int 0)) (mCons (mC (.int 0)) mNil)))))
def F_law_pen : DCall := den 1 1 M_law_pen
abbrev N_law_fresh : List Str := ["pen", "cell", "prime", "state", "found", "lap", "seat", "given"]
def M_law_fresh : MStm :=
  (mSeq (mPar 6 7 (mCons (mBin fIx (mVar 0) (mC (.int 1))) (mCons (mBin fIx (mVar 0) (mC (.int 0))) mNil)))
    (mSeq (mAsg (mBin fAdd (mVar 6) (mC (.int 1))) (mgSub (mVar 0) (mC (.int 1))))
    (mSeq (mAsg (mIf (mB (mBin fNe (mVar 7) (mLstV mNil))) (mBin fIx (mVar 7) (mBin fMod (mCall cInt (mCons (mVar 6) mNil)) (mCall cLen (mCons (mVar 7) mNil)))) (mC (.int 0))) (mName 1))
    (mSeq (mIfS (mAnd (mB (mBin fLt (mVar 6) (mCall cLen (mCons (mVar 7) mNil)))) (mB (mBin fGe (mVar 1) (mBin fPow (mC (.int 10)) (mC (.int 18)))))) (mRet (mBin fSub (mVar 1) (mBin fPow (mC (.int 10)) (mC (.int 18))))) mNx)
    (mSeq (mAsg (mC (.int 2305843009213693951)) (mName 2))
    (mSeq (mAsg (mBin fMod (mCall cInt (mCons (mBin fAdd (mBin fAdd (mBin fMul (mVar 1) (mC (.int 48271))) (mBin fMul (mC (.int 60013)) (mVar 6))) (mC (.int 31))) mNil)) (mVar 2)) (mName 3))
    (mSeq (mAsg (mVar 3) (mName 4))
    (mSeq (mFor (mRange1 (mCons (mC (.int 6)) mNil)) (mName 5) (mSeq (mAsg (mBin fMod (mCall cInt (mCons (mBin fAdd (mBin fAdd (mBin fMul (mVar 3) (mVar 3)) (mBin fMul (mBin fMul (mC (.int 70139)) (mBin fAdd (mVar 5) (mC (.int 5)))) (mBin fAdd (mVar 6) (mC (.int 1))))) (mVar 1)) mNil)) (mVar 2)) (mName 3))
    (mAsg (mBin fAdd (mBin fMul (mVar 4) (mVar 2)) (mVar 3)) (mName 4))))
    (mRet (mVar 4))))))))))
def F_law_fresh : DCall := den 1 8 M_law_fresh
abbrev N_law_draw : List Str := ["pen", "bound", "digit"]
def M_law_draw : MStm :=
  (mSeq (mIfS (mB (mBin fLt (mBin fIx (mVar 0) (mC (.int 2))) (mVar 1))) (mAsg (mCall F_law_fresh (mCons (mVar 0) mNil)) (mgSub (mVar 0) (mC (.int 2)))) mNx)
    (mSeq (mAsg (mBin fMod (mCall cInt (mCons (mBin fIx (mVar 0) (mC (.int 2))) mNil)) (mVar 1)) (mName 2))
    (mSeq (mAsg (mBin fDivW (mCall cInt (mCons (mBin fIx (mVar 0) (mC (.int 2))) mNil)) (mVar 1)) (mgSub (mVar 0) (mC (.int 2))))
    (mRet (mVar 2)))))
def F_law_draw : DCall := den 2 3 M_law_draw
abbrev N_law_one_of : List Str := ["pen", "some"]
def M_law_one_of : MStm :=
  (mRet (mBin fIx (mVar 1) (mCall F_law_draw (mCons (mVar 0) (mCons (mCall cLen (mCons (mVar 1) mNil)) mNil)))))
def F_law_one_of : DCall := den 2 2 M_law_one_of
abbrev N_law_two_places : List Str := ["pen", "places", "one"]
def M_law_two_places : MStm :=
  (mSeq (mAsg (mCall F_law_draw (mCons (mVar 0) (mCons (mVar 1) mNil))) (mName 2))
    (mRet (mTup (mCons (mVar 2) (mCons (mBin fMod (mCall cInt (mCons (mBin fAdd (mBin fAdd (mVar 2) (mC (.int 1))) (mCall F_law_draw (mCons (mVar 0) (mCons (mBin fSub (mVar 1) (mC (.int 1))) mNil)))) mNil)) (mVar 1)) mNil)))))
def F_law_two_places : DCall := den 2 3 M_law_two_places
/-- the pen of a script -/
def penOf (xs : List Int) : Pn := ⟨cutT xs none (some 63), 0, 0⟩
theorem s_law_pen (xs : List Int) (S : Store) : ∃ n S', F_law_pen [eF_ xs] S = some (.lr n, S') ∧ All S S' ∧ S'[n]? = some (pobj (penOf xs)) := by
  have s0 := sx_start (S := S) (ds := [eF_ xs]) (n := 1)
  have h1 : XE S [.val (eF_ xs)] (mCall (cFz cList) (mCons (mSl (mVar 0) mNoPart (mPart (mC (.int 63)))) mNil)) _ (eL eI) := xe_call1 (xe_slF (B := eL eI) (f := fun x => cutT x none (some 63)) (xe_var eF_ rfl) xp_none (xp_some (xe_c eI rfl)) (fun a S => by
    show some (D.lst (MS.cutD (a.map D.int) none (some 63)), S) = _
    rw [cutT_map])) (fun _ => g_listL)
  have h2 := xo_lst3 (A := eD) (xe_map (B := eD) (f := fun x => eL eI x) h1 (fun _ => rfl)) (xe_c (d := .int 0) (a := .int 0) eD rfl) (xe_c (d := .int 0) (a := .int 0) eD rfl)
  obtain ⟨n, S1, q, a, hn, hg⟩ := h2 _ S s0 [.lst ((cutT xs none (some 63)).map D.int), .int 0, .int 0] rfl
  refine ⟨n, S1, ?_, a, hg⟩
  unfold F_law_pen den M_law_pen mRet
  rw [if_pos (show ([eF_ xs] : List D).length = 1 from rfl), q]
  rfl
/-- a law that draws -/
theorem law_start {n i : Nat} {tail : MStm} {xs : List Int} {t : PM Bool} {P' : Pn} {a : Bool} (hb : ∀ S0 p, PR S0 p ((Sl.val (eF_ xs) :: List.replicate (n - 1) Sl.unk).set i (.val (.lr p))) tail t eB) (h : t (penOf xs) = some (a, P')) :
    ∃ S', den 1 n (mSeq (mAsg (mCall F_law_pen (mCons (mVar 0) mNil)) (mName i)) tail) [eF_ xs] [] = some (.bl a, S') := by
  have s0 : Sx [] (Sl.val (eF_ xs) :: List.replicate (n - 1) Sl.unk) (startD n [eF_ xs]) [] := sx_start (S := []) (ds := [eF_ xs]) (n := n)
  obtain ⟨p, S1, q, a1, hp⟩ := s_law_pen xs []
  have s1 : Pf S1 p ((Sl.val (eF_ xs) :: List.replicate (n - 1) Sl.unk).set i (.val (.lr p))) (penOf xs) ((startD n [eF_ xs]).set i (some (.lr p))) S1 := by
    refine ⟨?_, (List.getElem?_eq_some_iff.mp hp).1⟩
    rw [set_same hp]
    refine Sx.set ⟨.refl, s0.len, s0.val, fun j ds e => ?_, fun j k ds es h e1 e2 => ?_⟩
    · obtain ⟨h', _, q2, _⟩ := s0.own j ds e
      simp at q2
    · obtain ⟨h', _, q2, _⟩ := s0.own j ds e1
      simp at q2
  obtain ⟨ρ', S', q2, k⟩ := hb S1 p (penOf xs) _ S1 s1 a P' h
  refine ⟨S', ?_⟩
  have v : mVar 0 (startD n [eF_ xs]) [] = some (eF_ xs, []) := by unfold mVar; rw [s0.val 0 _ rfl]
  have q3 : mCons (mVar 0) mNil (startD n [eF_ xs]) [] = some ([eF_ xs], []) := by simp only [mCons, mNil, v, Option.bind_some]
  unfold den
  rw [if_pos (show ([eF_ xs] : List D).length = 1 from rfl)]
  have q4 : mSeq (mAsg (mCall F_law_pen (mCons (mVar 0) mNil)) (mName i)) tail (startD n [eF_ xs]) [] = some (.rt (.bl a), ρ', S') := by
    have q5 : mAsg (mCall F_law_pen (mCons (mVar 0) mNil)) (mName i) (startD n [eF_ xs]) [] = some (.nx, (startD n [eF_ xs]).set i (some (.lr p)), S1) := by
      unfold mAsg mCall
      rw [q3]
      show ((F_law_pen [eF_ xs] []).bind fun p => (mName i p.1 (startD n [eF_ xs]) p.2).bind fun q => some (Fl.nx, q.1, q.2)) = _
      rw [q]
      rfl
    unfold mSeq
    rw [q5]
    exact q2
  rw [q4]
def t_law_fresh  : PM Int :=
  (bP (bP (fun P => some (P.seat, P)) fun x2 => (bP (fun P => some (P.ns, P)) fun x3 => (lP (some (x2, x3))))) fun x1 => (bP (bP (lP (((some x1.1)).bind fun x4 => ((some (1 : Int))).bind fun x5 => some (x4 + x5))) fun x6 => (fun P => some ((), { P with seat := x6 }))) fun x7 => (lP (((((((some x1.2)).bind fun x9 => ((some ([] : (List Int)))).bind fun x10 => some (!decide (x9 = x10)))).bind fun x17 => cond x17 (((some x1.2)).bind fun x15 => ((((((some x1.1)).bind fun x11 => some x11)).bind fun x13 => ((((some x1.2)).bind fun x12 => some (x12.length : Int))).bind fun x14 => mod_ x13 x14)).bind fun x16 => atT x15 x16) (some (0 : Int)))).bind fun x8 => (((((((some x1.1)).bind fun x24 => ((((some x1.2)).bind fun x23 => some (x23.length : Int))).bind fun x25 => some (decide (x24 < x25)))).bind fun x26 => cond x26 (((some x8)).bind fun x21 => ((((some (10 : Int))).bind fun x19 => ((some (18 : Int))).bind fun x20 => pow_ x19 x20)).bind fun x22 => some (decide (x22 ≤ x21))) (some false))).bind fun x18 => cond x18 (((some x8)).bind fun x29 => ((((some (10 : Int))).bind fun x27 => ((some (18 : Int))).bind fun x28 => pow_ x27 x28)).bind fun x30 => some (x29 - x30)) (((some (2305843009213693951 : Int))).bind fun x31 => (((((((((((((some x8)).bind fun x33 => ((some (48271 : Int))).bind fun x34 => mulN_ x33 x34)).bind fun x37 => ((((some (60013 : Int))).bind fun x35 => ((some x1.1)).bind fun x36 => mulN_ x35 x36)).bind fun x38 => some (x37 + x38))).bind fun x39 => ((some (31 : Int))).bind fun x40 => some (x39 + x40))).bind fun x41 => some x41)).bind fun x42 => ((some x31)).bind fun x43 => mod_ x42 x43)).bind fun x32 => (((some x32)).bind fun x44 => (((((((some (6 : Int))).bind fun x46 => rng1 x46)).bind fun x48 => loopN (fun a47 (s45 : Int × Int) => (((((((((((((some s45.1)).bind fun x50 => ((some s45.1)).bind fun x51 => mulN_ x50 x51)).bind fun x60 => ((((((some (70139 : Int))).bind fun x54 => ((((some a47)).bind fun x52 => ((some (5 : Int))).bind fun x53 => some (x52 + x53))).bind fun x55 => mulN_ x54 x55)).bind fun x58 => ((((some x1.1)).bind fun x56 => ((some (1 : Int))).bind fun x57 => some (x56 + x57))).bind fun x59 => mulN_ x58 x59)).bind fun x61 => some (x60 + x61))).bind fun x62 => ((some x8)).bind fun x63 => some (x62 + x63))).bind fun x64 => some x64)).bind fun x65 => ((some x31)).bind fun x66 => mod_ x65 x66)).bind fun x49 => (((((((some s45.2)).bind fun x68 => ((some x31)).bind fun x69 => mulN_ x68 x69)).bind fun x70 => ((some x49)).bind fun x71 => some (x70 + x71))).bind fun x67 => some (x49, x67)))) x48 (x32, x44))).bind fun s72 => (some s72.2))))))))))
theorem s_law_fresh  : Gps F_law_fresh [] (t_law_fresh ) eI := gps_of rfl fun S0 p => by
  unfold M_law_fresh t_law_fresh
  exact (pr_seqN (pn_par (px_part (A := eI) (f := fun P => P.seat) rfl (fun _ => rfl)) (px_part (A := (eL eI)) (f := fun P => P.ns) rfl (fun _ => rfl))) (fun x1 => (pr_seqN (pn_put (A := eI) (f := fun a P => { P with seat := a }) rfl (px_of fun _ => (xe_bin (xe_var eI rfl) (xe_c eI rfl) op_add)) rfl (fun _ _ => rfl)) (fun x7 => (pr_of fun _ => (sr_seqN (sn_asg (xe_if (xt_B (xe_bin (xe_var (eL eI) rfl) (xe_lst0 (C := (eL eI)) ([] : (List Int))  rfl) (op_ne_ (faL faI) (by decide)))) (xe_bin (xe_var (eL eI) rfl) (xe_bin (xe_call1 (xe_var eI rfl) (fun _ => g_int)) (xe_call1 (xe_var (eL eI) rfl) (fun _ => g_lenL)) op_mod) op_ixL) (xe_c eI rfl))) (fun x8 => (sr_ifr (xt_and (xt_B (xe_bin (xe_var eI rfl) (xe_call1 (xe_var (eL eI) rfl) (fun _ => g_lenL)) op_lt)) (xt_B (xe_bin (xe_var eI rfl) (xe_bin (xe_c eI rfl) (xe_c eI rfl) op_pow) op_ge))) (sr_ret (xe_bin (xe_var eI rfl) (xe_bin (xe_c eI rfl) (xe_c eI rfl) op_pow) op_sub)) (sr_seqN (sn_asg (xe_c eI rfl)) (fun x31 => (sr_seqN (sn_asg (xe_bin (xe_call1 (xe_bin (xe_bin (xe_bin (xe_var eI rfl) (xe_c eI rfl) op_mulN) (xe_bin (xe_c eI rfl) (xe_var eI rfl) op_mulN) op_add) (xe_c eI rfl) op_add) (fun _ => g_int)) (xe_var eI rfl) op_mod)) (fun x32 => (sr_seqN (sn_asg (xe_var eI rfl)) (fun x44 => (sr_seqN (sn_for (slσ := fun s45 : Int × Int => [.val (.lr p), .val (eI x8), .val (eI x31), .val (eI s45.1), .val (eI s45.2), .unk, .val (eI x1.1), .val ((eL eI) x1.2)]) (xi_range1 (xe_c eI rfl)) (.keep (.keep (.keep (.keep (.keep (.keep (.keep (.keep .nil)))))))) (fun s45 a47 => xg_name) (fun s45 a47 => (sn_seq (sn_asg (xe_bin (xe_call1 (xe_bin (xe_bin (xe_bin (xe_var eI rfl) (xe_var eI rfl) op_mulN) (xe_bin (xe_bin (xe_c eI rfl) (xe_bin (xe_var eI rfl) (xe_c eI rfl) op_add) op_mulN) (xe_bin (xe_var eI rfl) (xe_c eI rfl) op_add) op_mulN) op_add) (xe_var eI rfl) op_add) (fun _ => g_int)) (xe_var eI rfl) op_mod)) (fun x49 => (sn_st (f := fun x67 => (x49, x67)) (sl' := fun s45 : Int × Int => [.val (.lr p), .val (eI x8), .val (eI x31), .val (eI s45.1), .val (eI s45.2), .unk, .val (eI x1.1), .val ((eL eI) x1.2)]) (sn_asg (xe_bin (xe_bin (xe_var eI rfl) (xe_var eI rfl) op_mulN) (xe_var eI rfl) op_add)) (fun x67 => (.keep (.keep (.keep (.keep (.keep (.drop (.keep (.keep .nil)))))))))))))) (fun s72 => (sr_ret (xe_var eI rfl))))))))))))))))))
def t_law_draw (v_bound : Int) : PM Int :=
  (bP (bP (bP (fun P => some (P.rest, P)) fun x5 => (lP (((some v_bound)).bind fun x6 => some (decide (x5 < x6))))) fun x7 => (cond x7 (bP (bP t_law_fresh fun x8 => (fun P => some ((), { P with rest := x8 }))) fun x9 => (lP (some ()))) (lP ((some ()).bind fun _ => some ())))) fun s4 => (bP (bP (bP (fun P => some (P.rest, P)) fun x11 => (lP (some x11))) fun x12 => (lP (((some v_bound)).bind fun x13 => mod_ x12 x13))) fun x10 => (bP (bP (bP (bP (fun P => some (P.rest, P)) fun x14 => (lP (some x14))) fun x15 => (lP (((some v_bound)).bind fun x16 => divW_ x15 x16))) fun x17 => (fun P => some ((), { P with rest := x17 }))) fun x18 => (lP (some x10)))))
theorem s_law_draw (v_bound : Int) : Gps F_law_draw [eI v_bound] (t_law_draw v_bound) eI := gps_of rfl fun S0 p => by
  unfold M_law_draw t_law_draw
  exact (pr_seqN (pn_if (pt_B (px_bin (px_part (A := eI) (f := fun P => P.rest) rfl (fun _ => rfl)) (px_of fun _ => (xe_var eI rfl)) op_lt)) (pn_st (f := fun x9 => ()) (sl' := fun s4 : Unit => [.val (.lr p), .val (eI v_bound), .unk]) (pn_put (A := eI) (f := fun a P => { P with rest := a }) rfl (px_pcall0 rfl (s_law_fresh)) rfl (fun _ _ => rfl)) (fun x9 => (.keep (.keep (.keep .nil))))) (pn_of fun _ => (sn_st (f := fun _ => ()) (sl' := fun s4 : Unit => [.val (.lr p), .val (eI v_bound), .unk]) sn_nx (fun _ => (.keep (.keep (.keep .nil))))))) (fun s4 => (pr_seqN (pn_asg (px_bin (px_call1 (px_part (A := eI) (f := fun P => P.rest) rfl (fun _ => rfl)) (fun _ => g_int)) (px_of fun _ => (xe_var eI rfl)) op_mod)) (fun x10 => (pr_seqN (pn_put (A := eI) (f := fun a P => { P with rest := a }) rfl (px_bin (px_call1 (px_part (A := eI) (f := fun P => P.rest) rfl (fun _ => rfl)) (fun _ => g_int)) (px_of fun _ => (xe_var eI rfl)) op_divW) rfl (fun _ _ => rfl)) (fun x18 => (pr_of fun _ => (sr_ret (xe_var eI rfl)))))))))
/-- one of a list -/
def t_law_one_of {α : Type} (xs : List α) : PM α := bP (lP (some xs)) fun a => bP (bP (lP ((some xs).bind fun x => some (x.length : Int))) fun n => t_law_draw n) fun i => lP (atT a i)
theorem s_law_one_ofL {α : Type} {A : α → D} (xs : List α) : Gps F_law_one_of [eL A xs] (t_law_one_of xs) A := gps_of rfl fun S0 p => by
  unfold M_law_one_of t_law_one_of
  exact pr_ret (px_bin (px_of fun _ => xe_var (eL A) rfl) (px_pcall1 rfl (px_of fun _ => xe_call1 (xe_var (eL A) rfl) (fun _ => g_lenL)) (fun _ => s_law_draw _)) op_ixL)
theorem s_law_one_ofV {α : Type} {A : α → D} (xs : List α) : Gps F_law_one_of [eV A xs] (t_law_one_of xs) A := gps_of rfl fun S0 p => by
  unfold M_law_one_of t_law_one_of
  exact pr_ret (px_bin (px_of fun _ => xe_var (eV A) rfl) (px_pcall1 rfl (px_of fun _ => xe_call1 (xe_var (eV A) rfl) (fun _ => g_lenV)) (fun _ => s_law_draw _)) op_ixV)
def t_law_two_places (v_places : Int) : PM (Int × Int) :=
  (bP (bP (lP (some v_places)) fun x2 => (t_law_draw x2)) fun x1 => (bP (lP (some x1)) fun x13 => (bP (bP (bP (bP (lP (((some x1)).bind fun x3 => ((some (1 : Int))).bind fun x4 => some (x3 + x4))) fun x8 => (bP (bP (lP (((some v_places)).bind fun x5 => ((some (1 : Int))).bind fun x6 => some (x5 - x6))) fun x7 => (t_law_draw x7)) fun x9 => (lP (some (x8 + x9))))) fun x10 => (lP (some x10))) fun x11 => (lP (((some v_places)).bind fun x12 => mod_ x11 x12))) fun x14 => (lP (some (x13, x14))))))
theorem s_law_two_places (v_places : Int) : Gps F_law_two_places [eI v_places] (t_law_two_places v_places) (eT2 eI eI) := gps_of rfl fun S0 p => by
  unfold M_law_two_places t_law_two_places
  exact (pr_seqN (pn_asg (px_pcall1 rfl (px_of fun _ => (xe_var eI rfl)) (fun _ => s_law_draw _))) (fun x1 => (pr_ret (px_tup2 (C := (eT2 eI eI)) (fun x13 x14 => (x13, x14)) (px_of fun _ => (xe_var eI rfl)) (px_bin (px_call1 (px_bin (px_of fun _ => (xe_bin (xe_var eI rfl) (xe_c eI rfl) op_add)) (px_pcall1 rfl (px_of fun _ => (xe_bin (xe_var eI rfl) (xe_c eI rfl) op_sub)) (fun _ => s_law_draw _)) op_add) (fun _ => g_int)) (px_of fun _ => (xe_var eI rfl)) op_mod) (fun _ _ => rfl)))))
end TM

set_option Elab.async false
set_option linter.all false
set_option maxRecDepth 100000
set_option maxHeartbeats 4000000
/-! What typed functions give: rules for reading them forward, and the pen. -/
namespace TM
open PySem PySem.Spec PyProof.Rows L2 MS
def wo {α : Type} (t : Option α) (Q : α → Prop) : Prop := ∃ a, t = some a ∧ Q a
def wp {α : Type} (t : PM α) (P : Pn) (Q : α → Pn → Prop) : Prop := ∃ a P', t P = some (a, P') ∧ Q a P'
section
variable {α β σ : Type} {Q : β → Pn → Prop} {P : Pn}
theorem wo_some {a : α} {Q : α → Prop} (h : Q a) : wo (some a) Q := ⟨a, rfl, h⟩
theorem wo_b {t : Option α} {f : α → Option β} {Q : β → Prop} (h : wo t fun a => wo (f a) Q) : wo (t.bind f) Q := by
  obtain ⟨a, e, b, e2, q⟩ := h
  exact ⟨b, by rw [e]; exact e2, q⟩
theorem wo.mono {t : Option α} {Q R : α → Prop} (h : wo t Q) (hk : ∀ a, Q a → R a) : wo t R := let ⟨a, e, q⟩ := h; ⟨a, e, hk a q⟩
theorem wo_if {k : Bool} {a b : Option α} {Q : α → Prop} (h1 : k = true → wo a Q) (h2 : k = false → wo b Q) : wo (cond k a b) Q := by
  cases k with
  | true => exact h1 rfl
  | false => exact h2 rfl
theorem wp_l {t : Option β} (h : wo t fun a => Q a P) : wp (lP t) P Q := let ⟨a, e, q⟩ := h; ⟨a, P, by unfold lP; rw [e]; rfl, q⟩
theorem wp_b {t : PM α} {f : α → PM β} (h : wp t P fun a P1 => wp (f a) P1 Q) : wp (bP t f) P Q := by
  obtain ⟨a, P1, e, b, P2, e2, q⟩ := h
  exact ⟨b, P2, by unfold bP; rw [e]; exact e2, q⟩
theorem wp.mono {t : PM α} {Q R : α → Pn → Prop} (h : wp t P Q) (hk : ∀ a P', Q a P' → R a P') : wp t P R := let ⟨a, P', e, q⟩ := h; ⟨a, P', e, hk a P' q⟩
theorem wp_if {k : Bool} {a b : PM β} (h1 : k = true → wp a P Q) (h2 : k = false → wp b P Q) : wp (cond k a b) P Q := by
  cases k with
  | true => exact h1 rfl
  | false => exact h2 rfl
theorem wp_f {f : Pn → Option (β × Pn)} {b : β} {P' : Pn} (e : f P = some (b, P')) (h : Q b P') : wp f P Q := ⟨b, P', e, h⟩
/-- a loop, s of its state after i items -/
theorem wp_loop {f : α → σ → PM σ} (Inv : Nat → σ → Pn → Prop) {Q : σ → Pn → Prop} : ∀ {xs : List α} {s0 : σ} {P : Pn} {i : Nat}, Inv i s0 P → (∀ (j : Nat) (x : α) (s : σ) (P : Pn), xs[j]? = some x → Inv (i + j) s P → wp (f x s) P fun s' P' => Inv (i + j + 1) s' P') → (∀ s P, Inv (i + xs.length) s P → Q s P) → wp (loopP f xs s0) P Q
  | [], s0, P, i, h0, _, hQ => ⟨s0, P, rfl, hQ s0 P h0⟩
  | x :: xs, s0, P, i, h0, hs, hQ => by
    refine wp_b ((hs 0 x s0 P rfl h0).mono fun s' P' h1 => ?_)
    refine wp_loop (i := i + 1) Inv h1 (fun j y s P hy hi => ?_) fun s P hl => hQ s P (by rw [List.length_cons]; rw [show i + (xs.length + 1) = i + 1 + xs.length by omega]; exact hl)
    have := hs (j + 1) y s P hy (by rw [show i + (j + 1) = i + 1 + j by omega]; exact hi)
    rw [show i + (j + 1) + 1 = i + 1 + j + 1 by omega] at this
    exact this
theorem wp_loopR {ρ : Type} {f : α → σ → PM (Out σ ρ)} (Inv : Nat → σ → Pn → Prop) (R : ρ → Pn → Prop) {Q : Out σ ρ → Pn → Prop} : ∀ {xs : List α} {s0 : σ} {P : Pn} {i : Nat}, Inv i s0 P → (∀ (j : Nat) (x : α) (s : σ) (P : Pn), xs[j]? = some x → Inv (i + j) s P → wp (f x s) P fun o P' => match o with | .nx s' => Inv (i + j + 1) s' P' | .rt r => R r P') → (∀ s P, Inv (i + xs.length) s P → Q (.nx s) P) → (∀ r P, R r P → Q (.rt r) P) → wp (loopRP f xs s0) P Q
  | [], s0, P, i, h0, _, hQ, _ => ⟨.nx s0, P, rfl, hQ s0 P h0⟩
  | x :: xs, s0, P, i, h0, hs, hQ, hR => by
    refine wp_b ((hs 0 x s0 P rfl h0).mono fun o P' h1 => ?_)
    cases o with
    | nx s' =>
      show wp (loopRP f xs s') P' Q
      refine wp_loopR (i := i + 1) Inv R h1 (fun j y s P hy hi => ?_) (fun s P hl => hQ s P (by rw [List.length_cons]; rw [show i + (xs.length + 1) = i + 1 + xs.length by omega]; exact hl)) hR
      have := hs (j + 1) y s P hy (by rw [show i + (j + 1) = i + 1 + j by omega]; exact hi)
      rw [show i + (j + 1) + 1 = i + 1 + j + 1 by omega] at this
      exact this
    | rt r => exact wp_l (wo_some (hR r P' h1))
/-- a comprehension without a test -/
theorem wp_compGo {f : α → PM β} (J : Pn → Prop) (R : β → Prop) {Q : List β → Pn → Prop} : ∀ {xs : List α} {P : Pn}, J P → (∀ (x : α) (P : Pn), x ∈ xs → J P → wp (f x) P fun y P' => R y ∧ J P') → (∀ ys P, ys.length = xs.length → (∀ y ∈ ys, R y) → J P → Q ys P) → wp (compGoP (fun _ => lP (some true)) f xs) P Q
  | [], P, h0, _, hQ => ⟨[], P, rfl, hQ [] P rfl (fun _ h => nomatch h) h0⟩
  | x :: xs, P, h0, hs, hQ => by
    refine wp_b (wp_l (wo_some ?_))
    show wp (bP (f x) fun y => bP (compGoP (fun _ => lP (some true)) f xs) fun ys => lP (some (y :: ys))) P Q
    refine wp_b ((hs x P (List.mem_cons_self ..) h0).mono fun y P1 h1 => ?_)
    refine wp_b (wp_compGo J R h1.2 (fun z P hz => hs z P (List.mem_cons_of_mem _ hz)) fun ys P2 hl hR hJ => ?_)
    refine wp_l (wo_some (hQ _ P2 (by rw [List.length_cons, List.length_cons, hl]) (fun z hz => ?_) hJ))
    rcases List.mem_cons.mp hz with e | h
    · rw [e]; exact h1.1
    · exact hR z h
theorem wp_comp {f : α → PM β} (J : Pn → Prop) (R : β → Prop) {Q : List β → Pn → Prop} {xs : List α} {P : Pn} (hz : xs.length ≤ 16777216) (h0 : J P) (hs : ∀ (x : α) (P : Pn), x ∈ xs → J P → wp (f x) P fun y P' => R y ∧ J P') (hQ : ∀ ys P, ys.length = xs.length → (∀ y ∈ ys, R y) → J P → Q ys P) : wp (compP (fun _ => lP (some true)) f xs) P Q := by
  unfold compP
  rw [Nat.ble_eq_true_of_le hz]
  exact wp_compGo J R h0 hs hQ
/-! numbers -/
theorem wo_mod {i j : Int} {Q : Int → Prop} (h : 0 < j) (q : Q (i % j)) : wo (mod_ i j) Q := by
  unfold mod_
  rw [decide_eq_true h]
  exact wo_some q
theorem wo_div {i j : Int} {Q : Int → Prop} (h : 0 < j) (h2 : j < 2 ^ 64) (q : Q (i / j)) : wo (divW_ i j) Q := by
  unfold divW_
  have : j.natAbs.log2 < 9000 := by
    have h3 : j.natAbs < 2 ^ 64 := by omega
    have h4 : j.natAbs ≠ 0 := by omega
    have := (Nat.log2_lt h4).mpr h3
    omega
  rw [decide_eq_true h, decide_eq_true this]
  exact wo_some q
theorem i64_of {i : Int} (h1 : -(2 ^ 64) < i) (h2 : i < 2 ^ 64) : i64 i = true := by
  unfold i64
  rw [decide_eq_true h1, decide_eq_true h2]
  rfl
theorem wo_mul {i j : Int} {Q : Int → Prop} (h : narrow i j = true) (q : Q (i * j)) : wo (mulW_ i j) Q := by
  unfold mulW_
  rw [h]
  exact wo_some q
theorem wo_atI {xs : List α} {i : Int} {Q : α → Prop} (h0 : 0 ≤ i) (h1 : i < xs.length) (q : ∀ x, x ∈ xs → xs[i.toNat]? = some x → Q x) : wo (atT xs i) Q := by
  have hi : i.toNat < xs.length := by omega
  refine ⟨xs[i.toNat], ?_, q _ (List.getElem_mem hi) (List.getElem?_eq_getElem hi)⟩
  unfold atT
  have := L2.atI_nat (j := i.toNat) (List.getElem?_eq_getElem hi)
  rwa [Int.toNat_of_nonneg h0] at this
theorem wo_rng1 {j : Int} {Q : List Int → Prop} (h : -1000 ≤ j) (h2 : j < 1000000000) (q : Q (rangeI 0 j.toNat)) : wo (rng1 j) Q := by
  unfold rng1
  have : r62 j = true := by
    unfold r62
    rw [decide_eq_true (show -(2 ^ 62) ≤ j by omega), decide_eq_true (show j < 2 ^ 62 by omega)]
    rfl
  rw [this]
  exact wo_some q
theorem wo_rng2 {i j : Int} {Q : List Int → Prop} (h : -1000 ≤ j) (h2 : j < 1000000000) (h3 : -1000 ≤ i) (h4 : i < 1000000000) (q : Q (rangeI i (j - i).toNat)) : wo (rng2 i j) Q := by
  unfold rng2
  have e : ∀ {j : Int}, -1000 ≤ j → j < 1000000000 → r62 j = true := fun {j} h h2 => by
    unfold r62
    rw [decide_eq_true (show -(2 ^ 62) ≤ j by omega), decide_eq_true (show j < 2 ^ 62 by omega)]
    rfl
  rw [e h h2, e h3 h4]
  exact wo_some q
theorem wo_push {xs : List α} {a : α} {Q : List α → Prop} (h : xs.length < 16777216) (q : Q (xs ++ [a])) : wo (pushM xs a) Q := by
  unfold pushM
  rw [show Nat.blt xs.length 16777216 = true by rw [Nat.blt_eq]; exact h]
  exact wo_some q
theorem rangeI_mem {lo : Int} {n : Nat} {x : Int} (h : x ∈ rangeI lo n) : lo ≤ x ∧ x < lo + n := by
  obtain ⟨i, hi, rfl⟩ := List.mem_map.mp h
  have := List.mem_range.mp hi
  omega
theorem rangeI_len {lo : Int} {n : Nat} : (rangeI lo n).length = n := by unfold rangeI; rw [List.length_map, List.length_range]
theorem rangeI_get {lo : Int} {n j : Nat} {x : Int} (h : (rangeI lo n)[j]? = some x) : x = lo + j ∧ j < n := by
  unfold rangeI at h
  rw [List.getElem?_map] at h
  obtain ⟨k, e1, e2⟩ := Option.map_eq_some_iff.mp h
  obtain ⟨h1, h2⟩ := List.getElem?_eq_some_iff.mp e1
  rw [List.getElem_range] at h2
  rw [List.length_range] at h1
  exact ⟨by rw [← e2, ← h2], h1⟩
end
/-! ### the pen -/
def Good (P : Pn) : Prop := 0 ≤ P.seat ∧ 0 ≤ P.rest
local macro_rules | `(tactic| walk_at "st") => `(tactic| first
  | with_reducible refine wp_b ?_ | with_reducible refine wp_l ?_ | with_reducible refine wo_b ?_ | with_reducible refine wo_some ?_
  | (with_reducible refine wo_mod ?hc ?_; (case hc => first | assumption | decide | omega))
  | (with_reducible refine wo_if (fun hk => ?_) (fun hk => ?_)) | (with_reducible refine wp_if (fun hk => ?_) (fun hk => ?_)))
theorem wo_mulN {i j : Int} {Q : Int → Prop} (h : (i64 i || i64 j) = true) (q : Q (i * j)) : wo (mulN_ i j) Q := by
  unfold mulN_
  rw [h]
  exact wo_some q
theorem wo_pow10 {Q : Int → Prop} (q : Q (10 ^ 18)) : wo (pow_ 10 18) Q := ⟨10 ^ 18, by decide +kernel, q⟩
theorem i64_l {i j : Int} (h : i64 i = true) : (i64 i || i64 j) = true := by rw [h]; rfl
theorem i64_r {i j : Int} (h : i64 j = true) : (i64 i || i64 j) = true := by rw [h]; exact Bool.or_true _
theorem mod_lt_ {i j : Int} (h : 0 < j) : 0 ≤ i % j ∧ i % j < j := ⟨Int.emod_nonneg _ (by omega), Int.emod_lt_of_pos _ h⟩
theorem wo_loop {α σ : Type} {f : α → σ → Option σ} (Inv : Nat → σ → Prop) {Q : σ → Prop} : ∀ {xs : List α} {s0 : σ} {i : Nat}, Inv i s0 → (∀ (j : Nat) (x : α) (s : σ), xs[j]? = some x → Inv (i + j) s → wo (f x s) fun s' => Inv (i + j + 1) s') → (∀ s, Inv (i + xs.length) s → Q s) → wo (loopN f xs s0) Q
  | [], s0, i, h0, _, hQ => ⟨s0, rfl, hQ s0 h0⟩
  | x :: xs, s0, i, h0, hs, hQ => by
    refine wo_b ((hs 0 x s0 rfl h0).mono fun s' h1 => ?_)
    refine wo_loop (i := i + 1) Inv h1 (fun j y s hy hi => ?_) fun s hl => hQ s (by rw [List.length_cons]; rw [show i + (xs.length + 1) = i + 1 + xs.length by omega]; exact hl)
    have := hs (j + 1) y s hy (by rw [show i + (j + 1) = i + 1 + j by omega]; exact hi)
    rw [show i + (j + 1) + 1 = i + 1 + j + 1 by omega] at this
    exact this
theorem fresh_ok {P : Pn} (h : Good P) : wp t_law_fresh P fun v P' => 0 ≤ v ∧ Good P' := by
  obtain ⟨ns, seat, rest⟩ := P
  obtain ⟨h0, h1⟩ := h
  have h0 : 0 ≤ seat := h0
  have h1 : 0 ≤ rest := h1
  unfold t_law_fresh
  refine wp_b (wp_b (wp_f rfl ?_))
  refine wp_b (wp_f rfl ?_)
  refine wp_l (wo_some ?_)
  refine wp_b (wp_b (wp_l (wo_b (wo_some (wo_b (wo_some (wo_some ?_)))))))
  refine wp_f rfl ?_
  have g : Good ⟨ns, seat + 1, rest⟩ := ⟨show 0 ≤ seat + 1 by omega, h1⟩
  refine wp_l ?_
  have tail : ∀ x8 : Int, wo (((((((some (seat, ns).1)).bind fun x24 => ((((some (seat, ns).2)).bind fun x23 => some (x23.length : Int))).bind fun x25 => some (decide (x24 < x25)))).bind fun x26 => cond x26 (((some x8)).bind fun x21 => ((((some (10 : Int))).bind fun x19 => ((some (18 : Int))).bind fun x20 => pow_ x19 x20)).bind fun x22 => some (decide (x22 ≤ x21))) (some false))).bind fun x18 => cond x18 (((some x8)).bind fun x29 => ((((some (10 : Int))).bind fun x27 => ((some (18 : Int))).bind fun x28 => pow_ x27 x28)).bind fun x30 => some (x29 - x30)) (((some (2305843009213693951 : Int))).bind fun x31 => (((((((((((((some x8)).bind fun x33 => ((some (48271 : Int))).bind fun x34 => mulN_ x33 x34)).bind fun x37 => ((((some (60013 : Int))).bind fun x35 => ((some (seat, ns).1)).bind fun x36 => mulN_ x35 x36)).bind fun x38 => some (x37 + x38))).bind fun x39 => ((some (31 : Int))).bind fun x40 => some (x39 + x40))).bind fun x41 => some x41)).bind fun x42 => ((some x31)).bind fun x43 => mod_ x42 x43)).bind fun x32 => (((some x32)).bind fun x44 => (((((((some (6 : Int))).bind fun x46 => rng1 x46)).bind fun x48 => loopN (fun a47 (s45 : Int × Int) => (((((((((((((some s45.1)).bind fun x50 => ((some s45.1)).bind fun x51 => mulN_ x50 x51)).bind fun x60 => ((((((some (70139 : Int))).bind fun x54 => ((((some a47)).bind fun x52 => ((some (5 : Int))).bind fun x53 => some (x52 + x53))).bind fun x55 => mulN_ x54 x55)).bind fun x58 => ((((some (seat, ns).1)).bind fun x56 => ((some (1 : Int))).bind fun x57 => some (x56 + x57))).bind fun x59 => mulN_ x58 x59)).bind fun x61 => some (x60 + x61))).bind fun x62 => ((some x8)).bind fun x63 => some (x62 + x63))).bind fun x64 => some x64)).bind fun x65 => ((some x31)).bind fun x66 => mod_ x65 x66)).bind fun x49 => (((((((some s45.2)).bind fun x68 => ((some x31)).bind fun x69 => mulN_ x68 x69)).bind fun x70 => ((some x49)).bind fun x71 => some (x70 + x71))).bind fun x67 => some (x49, x67)))) x48 (x32, x44))).bind fun s72 => (some s72.2)))))) fun v => 0 ≤ v := by
    intro c
    have rest_ : wo (((some (2305843009213693951 : Int))).bind fun x31 => (((((((((((((some c)).bind fun x33 => ((some (48271 : Int))).bind fun x34 => mulN_ x33 x34)).bind fun x37 => ((((some (60013 : Int))).bind fun x35 => ((some (seat, ns).1)).bind fun x36 => mulN_ x35 x36)).bind fun x38 => some (x37 + x38))).bind fun x39 => ((some (31 : Int))).bind fun x40 => some (x39 + x40))).bind fun x41 => some x41)).bind fun x42 => ((some x31)).bind fun x43 => mod_ x42 x43)).bind fun x32 => (((some x32)).bind fun x44 => (((((((some (6 : Int))).bind fun x46 => rng1 x46)).bind fun x48 => loopN (fun a47 (s45 : Int × Int) => (((((((((((((some s45.1)).bind fun x50 => ((some s45.1)).bind fun x51 => mulN_ x50 x51)).bind fun x60 => ((((((some (70139 : Int))).bind fun x54 => ((((some a47)).bind fun x52 => ((some (5 : Int))).bind fun x53 => some (x52 + x53))).bind fun x55 => mulN_ x54 x55)).bind fun x58 => ((((some (seat, ns).1)).bind fun x56 => ((some (1 : Int))).bind fun x57 => some (x56 + x57))).bind fun x59 => mulN_ x58 x59)).bind fun x61 => some (x60 + x61))).bind fun x62 => ((some c)).bind fun x63 => some (x62 + x63))).bind fun x64 => some x64)).bind fun x65 => ((some x31)).bind fun x66 => mod_ x65 x66)).bind fun x49 => (((((((some s45.2)).bind fun x68 => ((some x31)).bind fun x69 => mulN_ x68 x69)).bind fun x70 => ((some x49)).bind fun x71 => some (x70 + x71))).bind fun x67 => some (x49, x67)))) x48 (x32, x44))).bind fun s72 => (some s72.2))))) fun v => 0 ≤ v := by
      repeat walk_at "st"
      refine wo_mulN (i64_r (by decide)) ?_
      repeat walk_at "st"
      refine wo_mulN (i64_l (by decide)) ?_
      repeat walk_at "st"
      have hm := mod_lt_ (i := c * 48271 + 60013 * seat + 31) (j := 2305843009213693951) (by decide)
      refine wo_rng1 (by decide) (by decide) ?_
      refine wo_loop (i := 0) (fun _ s => 0 ≤ s.1 ∧ s.1 < 2305843009213693951 ∧ 0 ≤ s.2) ⟨hm.1, hm.2, hm.1⟩ (fun j x s hx hi => ?_) (fun s hi => ?_)
      · obtain ⟨a1, a2, a3⟩ := hi
        obtain ⟨rfl, hj⟩ := rangeI_get hx
        have hj6 : j < 6 := hj
        repeat walk_at "st"
        refine wo_mulN (i64_l (i64_of (by omega) (by omega))) ?_
        repeat walk_at "st"
        refine wo_mulN (i64_l (by decide)) ?_
        repeat walk_at "st"
        refine wo_mulN (i64_l (i64_of (by omega) (by omega))) ?_
        repeat walk_at "st"
        refine wo_mulN (i64_r (by decide)) ?_
        repeat walk_at "st"
        have hm := mod_lt_ (i := s.1 * s.1 + 70139 * (0 + (j : Int) + 5) * (seat + 1) + c) (j := 2305843009213693951) (by decide)
        refine ⟨hm.1, hm.2, ?_⟩
        have := Int.mul_nonneg a3 (by decide : (0 : Int) ≤ 2305843009213693951)
        show 0 ≤ s.2 * 2305843009213693951 + (s.1 * s.1 + 70139 * (0 + (j : Int) + 5) * (seat + 1) + c) % 2305843009213693951
        omega
      · exact wo_some hi.2.2
    refine wo_b (wo_b ?_)
    refine wo_b (wo_some (wo_b (wo_b (wo_some (wo_some ?_)))))
    refine wo_some ?_
    refine wo_if (fun hk => ?_) (fun hk => ?_)
    · refine wo_b (wo_some (wo_b (wo_b (wo_some (wo_b (wo_some (wo_pow10 ?_)))))))
      refine wo_some ?_
      refine wo_if (fun hk => ?_) (fun hk => rest_)
      refine wo_b (wo_some (wo_b (wo_b (wo_some (wo_b (wo_some (wo_pow10 ?_)))))))
      refine wo_some ?_
      have := of_decide_eq_true hk
      omega
    · exact wo_some rest_
  refine wo_b (wo_b (wo_b (wo_some ?_)))
  refine wo_b (wo_some (wo_some ?_))
  refine wo_if (fun hk => ?_) (fun hk => ?_)
  · have hne : ns ≠ [] := by
      intro z
      subst z
      exact absurd (show (!decide (([] : List Int) = [])) = true from hk) (by decide)
    have hl : 0 < (ns.length : Int) := by
      cases ns with
      | nil => exact absurd rfl hne
      | cons a b => show 0 < ((b.length + 1 : Nat) : Int); omega
    refine wo_b (wo_some (wo_b (wo_b (wo_b (wo_some (wo_some ?_))))))
    refine wo_b (wo_b (wo_some (wo_some ?_)))
    have hm := mod_lt_ (i := seat) hl
    refine wo_mod hl (wo_atI hm.1 hm.2 fun x _ _ => ?_)
    exact (tail x).mono fun v hv => ⟨hv, g⟩
  · exact wo_some ((tail 0).mono fun v hv => ⟨hv, g⟩)
theorem draw_ok {P : Pn} {b : Int} (h : Good P) (hb : 1 ≤ b) (hb2 : b < 2 ^ 64) : wp (t_law_draw b) P fun d P' => 0 ≤ d ∧ d < b ∧ Good P' := by
  unfold t_law_draw
  have tail : ∀ P1 : Pn, Good P1 → wp (bP (bP (bP (fun P => some (P.rest, P)) fun x11 => (lP (some x11))) fun x12 => (lP (((some b)).bind fun x13 => mod_ x12 x13))) fun x10 => (bP (bP (bP (bP (fun P => some (P.rest, P)) fun x14 => (lP (some x14))) fun x15 => (lP (((some b)).bind fun x16 => divW_ x15 x16))) fun x17 => (fun P => some ((), { P with rest := x17 }))) fun x18 => (lP (some x10)))) P1 fun d P' => 0 ≤ d ∧ d < b ∧ Good P' := by
    intro P1 g
    refine wp_b (wp_b (wp_b (wp_f rfl (wp_l (wo_some ?_)))))
    refine wp_l (wo_b (wo_some (wo_mod (by omega) ?_)))
    have hm := mod_lt_ (i := P1.rest) (j := b) (by omega)
    refine wp_b (wp_b (wp_b (wp_b (wp_f rfl (wp_l (wo_some ?_))))))
    refine wp_l (wo_b (wo_some (wo_div (by omega) hb2 ?_)))
    refine wp_f rfl (wp_l (wo_some ⟨hm.1, hm.2, g.1, ?_⟩))
    exact Int.ediv_nonneg g.2 (by omega)
  refine wp_b (wp_b (wp_b (wp_f rfl (wp_l (wo_b (wo_some (wo_some ?_)))))))
  refine wp_if (fun hk => ?_) (fun hk => ?_)
  · refine wp_b (wp_b ((fresh_ok h).mono fun v P1 hv => wp_f rfl (wp_l (wo_some ?_))))
    exact tail _ ⟨hv.2.1, hv.1⟩
  · exact wp_l (wo_b (wo_some (wo_some (tail P h))))
theorem one_of_ok {α : Type} {P : Pn} {xs : List α} (h : Good P) (hx : xs ≠ []) (hl : xs.length < 2 ^ 60) : wp (t_law_one_of xs) P fun x P' => x ∈ xs ∧ Good P' := by
  unfold t_law_one_of
  refine wp_b (wp_l (wo_some (wp_b (wp_b (wp_l (wo_b (wo_some (wo_some ?_))))))))
  have h1 : 1 ≤ (xs.length : Int) := by
    cases xs with
    | nil => exact absurd rfl hx
    | cons a b => show 1 ≤ ((b.length + 1 : Nat) : Int); omega
  refine (draw_ok h h1 (by omega)).mono fun d P1 hd => wp_l (wo_atI hd.1 hd.2.1 fun x hx _ => ⟨hx, hd.2.2⟩)
theorem two_places_ok {P : Pn} {n : Int} (h : Good P) (hn : 2 ≤ n) (hn2 : n < 2 ^ 60) : wp (t_law_two_places n) P fun w P' => (0 ≤ w.1 ∧ w.1 < n ∧ 0 ≤ w.2 ∧ w.2 < n ∧ w.1 ≠ w.2) ∧ Good P' := by
  unfold t_law_two_places
  refine wp_b (wp_b (wp_l (wo_some ((draw_ok h (by omega) (by omega)).mono fun d P1 hd => ?_))))
  refine wp_b (wp_l (wo_some (wp_b (wp_b (wp_b (wp_b ?_))))))
  refine wp_l (wo_b (wo_some (wo_b (wo_some (wo_some ?_)))))
  refine wp_b (wp_b (wp_l (wo_b (wo_some (wo_b (wo_some (wo_some ?_)))))))
  refine (draw_ok hd.2.2 (by omega) (by omega)).mono fun e P2 he => ?_
  refine wp_l (wo_some (wp_l (wo_some (wp_l (wo_b (wo_some (wo_mod (by omega) (wp_l (wo_some ⟨⟨hd.1, hd.2.1, ?_⟩, he.2.2⟩)))))))))
  have hm := mod_lt_ (i := d + 1 + e) (j := n) (by omega)
  refine ⟨hm.1, hm.2, fun z => ?_⟩
  have z : d = (d + 1 + e) % n := z
  have hd1 := hd.1
  have hd2 := hd.2.1
  have he1 := he.1
  have he2 := he.2.1
  by_cases hc : d + 1 + e < n
  · rw [Int.emod_eq_of_lt (by omega) hc] at z
    omega
  · have : (d + 1 + e) % n = d + 1 + e - n := by
      rw [← Int.sub_emod_right (d + 1 + e) n] 
      exact Int.emod_eq_of_lt (by omega) (by omega)
    omega
theorem good_pen (xs : List Int) : Good (penOf xs) := ⟨Int.le_refl _, Int.le_refl _⟩
end TM

set_option Elab.async false
set_option linter.all false
set_option maxRecDepth 100000
set_option maxHeartbeats 4000000
namespace TM
open PySem PySem.Spec PyProof.Rows L2 MS
abbrev N_law_mine : List Str := ["pen", "most", "many", "places", "x", "lap", "ways", "pair", "inlet", "outlet"]
def M_law_mine : MStm :=
  (mSeq (mAsg (mCall F_law_one_of (mCons (mVar 0) (mCons (mLstV (mCons (mC (.int 2)) (mCons (mC (.int 3)) (mCons (mVar 1) (mCons (mVar 1) (mCons (mBin fAdd (mC (.int 2)) (mCall F_law_draw (mCons (mVar 0) (mCons (mBin fSub (mVar 1) (mC (.int 1))) mNil)))) mNil)))))) mNil))) (mName 3))
    (mSeq (mPar 3 6 (mCons (mCall cMin (mCons (mVar 3) (mCons (mBin fAdd (mVar 2) (mC (.int 1))) mNil))) (mCons (mLst mNil) mNil)))
    (mSeq (mFor (mRange2 (mCons (mC (.int 1)) (mCons (mVar 3) mNil))) (mName 4) (mSeq (mAsg (mTup (mCons (mVar 4) (mCons (mCall F_law_draw (mCons (mVar 0) (mCons (mVar 4) mNil))) mNil))) (mName 7))
    (mDrop (mApp (mVar 6) (mCons (mIf (mB (mBin fEq (mCall F_law_draw (mCons (mVar 0) (mCons (mC (.int 2)) mNil))) (mC (.int 0)))) (mVar 7) (mRevT (mVar 7))) mNil)))))
    (mSeq (mFor (mRange1 (mCons (mCall F_law_draw (mCons (mVar 0) (mCons (mBin fAdd (mBin fSub (mVar 2) (mCall cLen (mCons (mVar 6) mNil))) (mC (.int 1))) mNil))) mNil)) (mName 5) (mDrop (mApp (mVar 6) (mCons (mCall F_law_two_places (mCons (mVar 0) (mCons (mVar 3) mNil))) mNil))))
    (mSeq (mAsg (mCall F_law_two_places (mCons (mVar 0) (mCons (mVar 3) mNil))) (mgTup (mgCons (mName 8) (mgCons (mName 9) mgNil)) 2))
    (mRet (mTup (mCons (mVar 3) (mCons (mCall cTuple (mCons (mVar 6) mNil)) (mCons (mVar 8) (mCons (mVar 9) mNil)))))))))))
def F_law_mine : DCall := den 3 10 M_law_mine
abbrev N_law_bridge : List Str := ["pen", "order", "lap", "names", "ways", "one", "other", "pair"]
def M_law_bridge : MStm :=
  (mSeq (mAsg (mTup (mCons (mLst (mCons (mC (.int 0)) (mCons (mC (.int 1)) (mCons (mC (.int 2)) (mCons (mC (.int 3)) mNil))))) (mCons (mLst mNil) mNil))) (mgTup (mgCons (mName 3) (mgCons (mName 4) mgNil)) 2))
    (mSeq (mAsg (mFz (mLc (mRange1 (mCons (mC (.int 4)) mNil)) (mName 2) mYes (mPop (mVar 3) (mCons (mCall F_law_draw (mCons (mVar 0) (mCons (mCall cLen (mCons (mVar 3) mNil)) mNil))) mNil)) [2])) (mName 1))
    (mSeq (mFor (mItems (mTup (mCons (mTup (mCons (mC (.int 0)) (mCons (mC (.int 1)) mNil))) (mCons (mTup (mCons (mC (.int 0)) (mCons (mC (.int 2)) mNil))) (mCons (mTup (mCons (mC (.int 1)) (mCons (mC (.int 2)) mNil))) (mCons (mTup (mCons (mC (.int 1)) (mCons (mC (.int 3)) mNil))) (mCons (mTup (mCons (mC (.int 2)) (mCons (mC (.int 3)) mNil))) mNil))))))) (mgTup (mgCons (mName 5) (mgCons (mName 6) mgNil)) 2) (mSeq (mAsg (mTup (mCons (mBin fIx (mVar 1) (mVar 5)) (mCons (mBin fIx (mVar 1) (mVar 6)) mNil))) (mName 7))
    (mDrop (mApp (mVar 4) (mCons (mIf (mB (mBin fEq (mCall F_law_draw (mCons (mVar 0) (mCons (mC (.int 2)) mNil))) (mC (.int 0)))) (mVar 7) (mRevT (mVar 7))) mNil)))))
    (mSeq (mFor (mRange1 (mCons (mCall F_law_draw (mCons (mVar 0) (mCons (mC (.int 3)) mNil))) mNil)) (mName 2) (mDrop (mApp (mVar 4) (mCons (mCall F_law_two_places (mCons (mVar 0) (mCons (mC (.int 4)) mNil))) mNil))))
    (mRet (mTup (mCons (mC (.int 4)) (mCons (mCall cTuple (mCons (mVar 4) mNil)) (mCons (mBin fIx (mVar 1) (mC (.int 0))) (mCons (mBin fIx (mVar 1) (mC (.int 3))) mNil))))))))))
def F_law_bridge : DCall := den 1 8 M_law_bridge
abbrev N_law_loose : List Str := ["pen", "mine", "ways", "lap"]
def M_law_loose : MStm :=
  (mSeq (mIfS (mB (mBin fGt (mCall F_law_draw (mCons (mVar 0) (mCons (mC (.int 3)) mNil))) (mC (.int 0)))) (mRet (mVar 1)) mNx)
    (mSeq (mAsg (mFz (mLc (mRange1 (mCons (mBin fAdd (mC (.int 1)) (mCall F_law_draw (mCons (mVar 0) (mCons (mC (.int 6)) mNil)))) mNil)) (mName 3) mYes (mCall F_law_two_places (mCons (mVar 0) (mCons (mBin fIx (mVar 1) (mC (.int 0))) mNil))) [3])) (mName 2))
    (mRet (mTup (mCons (mBin fIx (mVar 1) (mC (.int 0))) (mCons (mCall cTuple (mCons (mVar 2) mNil)) (mCons (mBin fIx (mVar 1) (mC (.int 2))) (mCons (mBin fIx (mVar 1) (mC (.int 3))) mNil))))))))
def F_law_loose : DCall := den 2 4 M_law_loose
def t_law_mine (v_most : Int) (v_many : Int) : PM (Int × (List (Int × Int)) × Int × Int) :=
  (bP (bP (bP (lP (some (2 : Int))) fun x7 => (bP (lP (some (3 : Int))) fun x8 => (bP (lP (some v_most)) fun x9 => (bP (lP (some v_most)) fun x10 => (bP (bP (lP (some (2 : Int))) fun x5 => (bP (bP (lP (((some v_most)).bind fun x2 => ((some (1 : Int))).bind fun x3 => some (x2 - x3))) fun x4 => (t_law_draw x4)) fun x6 => (lP (some (x5 + x6))))) fun x11 => (lP (some [x7, x8, x9, x10, x11]))))))) fun x12 => (t_law_one_of x12)) fun x1 => (bP (lP (((((some x1)).bind fun x16 => ((((some v_many)).bind fun x14 => ((some (1 : Int))).bind fun x15 => some (x14 + x15))).bind fun x17 => some (if x17 < x16 then x17 else x16))).bind fun x18 => ((some ([] : List (Int × Int)))).bind fun x19 => some (x18, x19))) fun x13 => (bP (bP (lP (((some (1 : Int))).bind fun x21 => ((some x13.1)).bind fun x22 => rng2 x21 x22)) fun x24 => (loopP (fun a23 (s20 : (List (Int × Int))) => (bP (bP (lP (some a23)) fun x27 => (bP (bP (lP (some a23)) fun x26 => (t_law_draw x26)) fun x28 => (lP (some (x27, x28))))) fun x25 => (bP (bP (bP (bP (bP (lP (some (2 : Int))) fun x31 => (t_law_draw x31)) fun x32 => (bP (lP (some (0 : Int))) fun x33 => (lP (some (decide (x32 = x33)))))) fun x35 => (cond x35 (lP (some x25)) (lP (((some x25)).bind fun x34 => some (x34.2, x34.1))))) fun x30 => (lP (pushM s20 x30))) fun x29 => (lP (some x29))))) x24 x13.2)) fun s36 => (bP (bP (bP (bP (lP (((((some v_many)).bind fun x38 => ((some ((s36).length : Int))).bind fun x39 => some (x38 - x39))).bind fun x40 => ((some (1 : Int))).bind fun x41 => some (x40 + x41))) fun x42 => (t_law_draw x42)) fun x43 => (lP (rng1 x43))) fun x45 => (loopP (fun a44 (s37 : (List (Int × Int))) => (bP (bP (bP (lP (some x13.1)) fun x48 => (t_law_two_places x48)) fun x47 => (lP (pushM s37 x47))) fun x46 => (lP (some x46)))) x45 s36)) fun s49 => (bP (bP (lP (some x13.1)) fun x51 => (t_law_two_places x51)) fun x50 => (lP (((some x13.1)).bind fun x52 => ((some s49)).bind fun x53 => ((some x50.1)).bind fun x54 => ((some x50.2)).bind fun x55 => some (x52, x53, x54, x55))))))))
theorem s_law_mine (v_most : Int) (v_many : Int) : Gps F_law_mine [eI v_most, eI v_many] (t_law_mine v_most v_many) (eT4 eI (eV (eT2 eI eI)) eI eI) := gps_of rfl fun S0 p => by
  unfold M_law_mine t_law_mine
  exact (pr_seqN (pn_asg (px_pcall1 rfl (px_lst5 (C := (eL eI)) (fun x7 x8 x9 x10 x11 => [x7, x8, x9, x10, x11]) (px_of fun _ => (xe_c eI rfl)) (px_of fun _ => (xe_c eI rfl)) (px_of fun _ => (xe_var eI rfl)) (px_of fun _ => (xe_var eI rfl)) (px_bin (px_of fun _ => (xe_c eI rfl)) (px_pcall1 rfl (px_of fun _ => (xe_bin (xe_var eI rfl) (xe_c eI rfl) op_sub)) (fun _ => s_law_draw _)) op_add) (fun _ _ _ _ _ => rfl)) (fun _ => s_law_one_ofL _))) (fun x1 => (pr_seqN (pn_of fun _ => (sn_par (xs_val (xe_call2 (xe_var eI rfl) (xe_bin (xe_var eI rfl) (xe_c eI rfl) op_add) (fun _ _ => g_min))) (xs_own (A := (eT2 eI eI)) xo_nil) (fun _ z => nomatch z) (fun _ z => nomatch z) (by decide))) (fun x13 => (pr_seqN (pn_for (slσ := fun s20 : (List (Int × Int)) => [.val (.lr p), .val (eI v_most), .val (eI v_many), .val (eI x13.1), .unk, .unk, .own ((s20).map (eT2 eI eI)), .unk, .unk, .unk]) (pi_of fun _ => (xi_range2 (xe_c eI rfl) (xe_var eI rfl))) (.keep (.keep (.keep (.keep (.keep (.keep (.keep (.keep (.keep (.keep .nil)))))))))) (fun s20 a23 _ => xg_name) (fun s20 a23 => (pn_seq (pn_asg (px_tup2 (C := (eT2 eI eI)) (fun x27 x28 => (x27, x28)) (px_of fun _ => (xe_var eI rfl)) (px_pcall1 rfl (px_of fun _ => (xe_var eI rfl)) (fun _ => s_law_draw _)) (fun _ _ => rfl))) (fun x25 => (pn_st (f := fun x29 => x29) (sl' := fun s20 : (List (Int × Int)) => [.val (.lr p), .val (eI v_most), .val (eI v_many), .val (eI x13.1), .unk, .unk, .own ((s20).map (eT2 eI eI)), .unk, .unk, .unk]) (pn_app (A := (eT2 eI eI)) (xs := s20) rfl (px_if (pt_B (px_bin (px_pcall1 rfl (px_of fun _ => (xe_c eI rfl)) (fun _ => s_law_draw _)) (px_of fun _ => (xe_c eI rfl)) (op_eq_ faI (by decide)))) (px_of fun _ => (xe_var (eT2 eI eI) rfl)) (px_of fun _ => (xe_revF (B := (eT2 eI eI)) (f := fun x34 => (x34.2, x34.1)) (xe_var (eT2 eI eI) rfl) (fun _ => ⟨_, rfl, rfl⟩))))) (fun x29 => (.keep (.keep (.keep (.keep (.drop (.keep (.keep (.drop (.keep (.keep .nil)))))))))))))))) (fun s36 => (pr_seqN (pn_for (slσ := fun s37 : (List (Int × Int)) => [.val (.lr p), .val (eI v_most), .val (eI v_many), .val (eI x13.1), .unk, .unk, .own ((s37).map (eT2 eI eI)), .unk, .unk, .unk]) (pi_range1 (px_pcall1 rfl (px_of fun _ => (xe_bin (xe_bin (xe_var eI rfl) (xe_lenO (A := (eT2 eI eI)) (xs := s36) rfl) op_sub) (xe_c eI rfl) op_add)) (fun _ => s_law_draw _))) (.keep (.keep (.keep (.keep (.keep (.keep (.keep (.keep (.keep (.keep .nil)))))))))) (fun s37 a44 _ => xg_name) (fun s37 a44 => (pn_st (f := fun x46 => x46) (sl' := fun s37 : (List (Int × Int)) => [.val (.lr p), .val (eI v_most), .val (eI v_many), .val (eI x13.1), .unk, .unk, .own ((s37).map (eT2 eI eI)), .unk, .unk, .unk]) (pn_app (A := (eT2 eI eI)) (xs := s37) rfl (px_pcall1 rfl (px_of fun _ => (xe_var eI rfl)) (fun _ => s_law_two_places _))) (fun x46 => (.keep (.keep (.keep (.keep (.keep (.drop (.keep (.keep (.keep (.keep .nil)))))))))))))) (fun s49 => (pr_seqN (pn_asgG (px_pcall1 rfl (px_of fun _ => (xe_var eI rfl)) (fun _ => s_law_two_places _)) (fun x50 _ => (xg_tup (xgs_cons xg_name (xgs_cons xg_name xgs_nil)) rfl))) (fun x50 => (pr_of fun _ => (sr_ret (xe_tup4 (C := (eT4 eI (eV (eT2 eI eI)) eI eI)) (fun x52 x53 x54 x55 => (x52, x53, x54, x55)) (xe_var eI rfl) (xe_tupleO (A := (eT2 eI eI)) (xs := s49) rfl) (xe_var eI rfl) (xe_var eI rfl) (fun _ _ _ _ => rfl))))))))))))))

def t_law_bridge  : PM (Int × (List (Int × Int)) × Int × Int) :=
  (bP (lP (((((some (0 : Int))).bind fun x2 => ((some (1 : Int))).bind fun x3 => ((some (2 : Int))).bind fun x4 => ((some (3 : Int))).bind fun x5 => some [x2, x3, x4, x5])).bind fun x6 => ((some ([] : List (Int × Int)))).bind fun x7 => some (x6, x7))) fun x1 => (bP (bP (lP (((some (4 : Int))).bind fun x8 => rng1 x8)) fun x13 => (popsG (fun y9 => (bP (lP (some ((y9).length : Int))) fun x12 => (t_law_draw x12))) x13.length x1.1)) fun x11 => (bP (bP (lP (((((some (0 : Int))).bind fun x17 => ((some (1 : Int))).bind fun x18 => some (x17, x18))).bind fun x27 => ((((some (0 : Int))).bind fun x19 => ((some (2 : Int))).bind fun x20 => some (x19, x20))).bind fun x28 => ((((some (1 : Int))).bind fun x21 => ((some (2 : Int))).bind fun x22 => some (x21, x22))).bind fun x29 => ((((some (1 : Int))).bind fun x23 => ((some (3 : Int))).bind fun x24 => some (x23, x24))).bind fun x30 => ((((some (2 : Int))).bind fun x25 => ((some (3 : Int))).bind fun x26 => some (x25, x26))).bind fun x31 => some [x27, x28, x29, x30, x31])) fun x33 => (loopP (fun a32 (s14 : (List (Int × Int))) => (bP (lP (((((some x11.1)).bind fun x35 => ((some a32.1)).bind fun x36 => atT x35 x36)).bind fun x39 => ((((some x11.1)).bind fun x37 => ((some a32.2)).bind fun x38 => atT x37 x38)).bind fun x40 => some (x39, x40))) fun x34 => (bP (bP (bP (bP (bP (lP (some (2 : Int))) fun x43 => (t_law_draw x43)) fun x44 => (bP (lP (some (0 : Int))) fun x45 => (lP (some (decide (x44 = x45)))))) fun x47 => (cond x47 (lP (some x34)) (lP (((some x34)).bind fun x46 => some (x46.2, x46.1))))) fun x42 => (lP (pushM s14 x42))) fun x41 => (lP (some x41))))) x33 x1.2)) fun s48 => (bP (bP (bP (bP (lP (some (3 : Int))) fun x50 => (t_law_draw x50)) fun x51 => (lP (rng1 x51))) fun x53 => (loopP (fun a52 (s49 : (List (Int × Int))) => (bP (bP (bP (lP (some (4 : Int))) fun x56 => (t_law_two_places x56)) fun x55 => (lP (pushM s49 x55))) fun x54 => (lP (some x54)))) x53 s48)) fun s57 => (lP (((some (4 : Int))).bind fun x62 => ((some s57)).bind fun x63 => ((((some x11.1)).bind fun x58 => ((some (0 : Int))).bind fun x59 => atT x58 x59)).bind fun x64 => ((((some x11.1)).bind fun x60 => ((some (3 : Int))).bind fun x61 => atT x60 x61)).bind fun x65 => some (x62, x63, x64, x65)))))))
theorem s_law_bridge  : Gps F_law_bridge [] (t_law_bridge ) (eT4 eI (eV (eT2 eI eI)) eI eI) := gps_of rfl fun S0 p => by
  unfold M_law_bridge t_law_bridge
  exact (pr_seqN (pn_of fun _ => (sn_asgT2 (xs_own (A := eI) (xo_lst4 (xe_c eI rfl) (xe_c eI rfl) (xe_c eI rfl) (xe_c eI rfl))) (xs_own (A := (eT2 eI eI)) xo_nil) (fun _ z => nomatch z) (fun _ z => nomatch z) (by decide))) (fun x1 => (pr_seqN (pn_pops (A := eI) (xs := x1.1) rfl (pi_of fun _ => (xi_range1 (xe_c eI rfl))) (by decide) (fun y9 a10 => (px_pcall1 rfl (px_of fun _ => (xe_lenO (A := eI) (xs := y9) rfl)) (fun _ => s_law_draw _)))) (fun x11 => (pr_seqN (pn_for (slσ := fun s14 : (List (Int × Int)) => [.val (.lr p), .val ((eL eI) x11.1), .unk, .own ((x11.2).map eI), .own ((s14).map (eT2 eI eI)), .unk, .unk, .unk]) (pi_of fun _ => (xi_V (xe_tup5 (C := (eV (eT2 eI eI))) (fun x27 x28 x29 x30 x31 => [x27, x28, x29, x30, x31]) (xe_tup2 (C := (eT2 eI eI)) (fun x17 x18 => (x17, x18)) (xe_c eI rfl) (xe_c eI rfl) (fun _ _ => rfl)) (xe_tup2 (C := (eT2 eI eI)) (fun x19 x20 => (x19, x20)) (xe_c eI rfl) (xe_c eI rfl) (fun _ _ => rfl)) (xe_tup2 (C := (eT2 eI eI)) (fun x21 x22 => (x21, x22)) (xe_c eI rfl) (xe_c eI rfl) (fun _ _ => rfl)) (xe_tup2 (C := (eT2 eI eI)) (fun x23 x24 => (x23, x24)) (xe_c eI rfl) (xe_c eI rfl) (fun _ _ => rfl)) (xe_tup2 (C := (eT2 eI eI)) (fun x25 x26 => (x25, x26)) (xe_c eI rfl) (xe_c eI rfl) (fun _ _ => rfl)) (fun _ _ _ _ _ => rfl)))) (.keep (.keep (.keep (.keep (.keep (.keep (.keep (.keep .nil)))))))) (fun s14 a32 _ => (xg_tup (xgs_cons xg_name (xgs_cons xg_name xgs_nil)) rfl)) (fun s14 a32 => (pn_seq (pn_of fun _ => (sn_asg (xe_tup2 (C := (eT2 eI eI)) (fun x39 x40 => (x39, x40)) (xe_bin (xe_var (eL eI) rfl) (xe_var eI rfl) op_ixL) (xe_bin (xe_var (eL eI) rfl) (xe_var eI rfl) op_ixL) (fun _ _ => rfl)))) (fun x34 => (pn_st (f := fun x41 => x41) (sl' := fun s14 : (List (Int × Int)) => [.val (.lr p), .val ((eL eI) x11.1), .unk, .own ((x11.2).map eI), .own ((s14).map (eT2 eI eI)), .unk, .unk, .unk]) (pn_app (A := (eT2 eI eI)) (xs := s14) rfl (px_if (pt_B (px_bin (px_pcall1 rfl (px_of fun _ => (xe_c eI rfl)) (fun _ => s_law_draw _)) (px_of fun _ => (xe_c eI rfl)) (op_eq_ faI (by decide)))) (px_of fun _ => (xe_var (eT2 eI eI) rfl)) (px_of fun _ => (xe_revF (B := (eT2 eI eI)) (f := fun x46 => (x46.2, x46.1)) (xe_var (eT2 eI eI) rfl) (fun _ => ⟨_, rfl, rfl⟩))))) (fun x41 => (.keep (.keep (.keep (.keep (.keep (.drop (.drop (.drop .nil)))))))))))))) (fun s48 => (pr_seqN (pn_for (slσ := fun s49 : (List (Int × Int)) => [.val (.lr p), .val ((eL eI) x11.1), .unk, .own ((x11.2).map eI), .own ((s49).map (eT2 eI eI)), .unk, .unk, .unk]) (pi_range1 (px_pcall1 rfl (px_of fun _ => (xe_c eI rfl)) (fun _ => s_law_draw _))) (.keep (.keep (.keep (.keep (.keep (.keep (.keep (.keep .nil)))))))) (fun s49 a52 _ => xg_name) (fun s49 a52 => (pn_st (f := fun x54 => x54) (sl' := fun s49 : (List (Int × Int)) => [.val (.lr p), .val ((eL eI) x11.1), .unk, .own ((x11.2).map eI), .own ((s49).map (eT2 eI eI)), .unk, .unk, .unk]) (pn_app (A := (eT2 eI eI)) (xs := s49) rfl (px_pcall1 rfl (px_of fun _ => (xe_c eI rfl)) (fun _ => s_law_two_places _))) (fun x54 => (.keep (.keep (.drop (.keep (.keep (.keep (.keep (.keep .nil)))))))))))) (fun s57 => (pr_of fun _ => (sr_ret (xe_tup4 (C := (eT4 eI (eV (eT2 eI eI)) eI eI)) (fun x62 x63 x64 x65 => (x62, x63, x64, x65)) (xe_c eI rfl) (xe_tupleO (A := (eT2 eI eI)) (xs := s57) rfl) (xe_bin (xe_var (eL eI) rfl) (xe_c eI rfl) op_ixL) (xe_bin (xe_var (eL eI) rfl) (xe_c eI rfl) op_ixL) (fun _ _ _ _ => rfl))))))))))))

def t_law_loose (v_mine : (Int × (List (Int × Int)) × Int × Int)) : PM (Int × (List (Int × Int)) × Int × Int) :=
  (bP (bP (bP (lP (some (3 : Int))) fun x2 => (t_law_draw x2)) fun x3 => (bP (lP (some (0 : Int))) fun x4 => (lP (some (decide (x4 < x3)))))) fun x1 => (cond x1 (lP (some v_mine)) (bP (bP (bP (bP (lP (some (1 : Int))) fun x7 => (bP (bP (lP (some (6 : Int))) fun x6 => (t_law_draw x6)) fun x8 => (lP (some (x7 + x8))))) fun x9 => (lP (rng1 x9))) fun x13 => (compP (fun a10 => (lP (some true))) (fun a10 => (bP (lP (((some v_mine)).bind fun x11 => some x11.1)) fun x12 => (t_law_two_places x12))) x13)) fun x5 => (lP (((((some v_mine)).bind fun x14 => some x14.1)).bind fun x18 => ((((some x5)).bind fun x15 => some x15)).bind fun x19 => ((((some v_mine)).bind fun x16 => some x16.2.2.1)).bind fun x20 => ((((some v_mine)).bind fun x17 => some x17.2.2.2)).bind fun x21 => some (x18, x19, x20, x21))))))
theorem s_law_loose (v_mine : (Int × (List (Int × Int)) × Int × Int)) : Gps F_law_loose [(eT4 eI (eV (eT2 eI eI)) eI eI) v_mine] (t_law_loose v_mine) (eT4 eI (eV (eT2 eI eI)) eI eI) := gps_of rfl fun S0 p => by
  unfold M_law_loose t_law_loose
  exact (pr_ifr (pt_B (px_bin (px_pcall1 rfl (px_of fun _ => (xe_c eI rfl)) (fun _ => s_law_draw _)) (px_of fun _ => (xe_c eI rfl)) op_gt)) (pr_of fun _ => (sr_ret (xe_var (eT4 eI (eV (eT2 eI eI)) eI eI) rfl))) (pr_seqN (pn_asg (px_lc (pi_range1 (px_bin (px_of fun _ => (xe_c eI rfl)) (px_pcall1 rfl (px_of fun _ => (xe_c eI rfl)) (fun _ => s_law_draw _)) op_add)) (fun a10 _ => xg_name) (fun a10 => (pt_of fun _ => xt_yes)) (fun a10 => (px_pcall1 rfl (px_of fun _ => (xe_ixF (B := eI) (f := fun x11 => x11.1) (xe_var (eT4 eI (eV (eT2 eI eI)) eI eI) rfl) (fun _ _ => rfl))) (fun _ => s_law_two_places _))))) (fun x5 => (pr_of fun _ => (sr_ret (xe_tup4 (C := (eT4 eI (eV (eT2 eI eI)) eI eI)) (fun x18 x19 x20 x21 => (x18, x19, x20, x21)) (xe_ixF (B := eI) (f := fun x14 => x14.1) (xe_var (eT4 eI (eV (eT2 eI eI)) eI eI) rfl) (fun _ _ => rfl)) (xe_call1 (xe_var (eL (eT2 eI eI)) rfl) (fun _ => g_tupleL)) (xe_ixF (B := eI) (f := fun x16 => x16.2.2.1) (xe_var (eT4 eI (eV (eT2 eI eI)) eI eI) rfl) (fun _ _ => rfl)) (xe_ixF (B := eI) (f := fun x17 => x17.2.2.2) (xe_var (eT4 eI (eV (eT2 eI eI)) eI eI) rfl) (fun _ _ => rfl)) (fun _ _ _ _ => rfl)))))))

end TM

set_option Elab.async false
set_option linter.all false
set_option maxRecDepth 100000
set_option maxHeartbeats 4000000
namespace MS
open PySem PySem.Spec PyProof.Rows L2
/-- zip of a tuple or a list by value with a list by value -/
def mZipV (m : MArg) : MItr := fun ρ S => (m ρ S).bind fun p => match p.1 with
  | [.tup ds, .lst es] => some ((zipD ds es, always), p.2)
  | [.lst ds, .lst es] => some ((zipD ds es, always), p.2)
  | _ => none
section
variable {X : Cx} {e e2 : Expr} {p pos tpos : Pos} {elts : List Expr} {kk : Nat}
theorem isIt_zipTV {K : PySem.W.Frag} {H0 : Hp} {μ0 : Mu} {a b : Addr} {vs ws : List V} {ds es : List D} (h1 : SqT K H0 a vs) (h2 : RpA K H0 μ0 vs ds) (k1 : LsV H0 μ0 b ws) (k2 : RpA K H0 μ0 ws es) : IsIt K (ItzM K a b) H0 μ0 (zipD ds es) always where
  go := fun i H μ S g s h hi => by
    obtain ⟨l1, l2⟩ := zipD_lt hi
    exact ⟨vs, ws, vs[i]'(by rw [h2.length]; exact l1), ws[i]'(by rw [k2.length]; exact l2), g.sqT h1, (k1.grow g).sqL, List.getElem?_eq_getElem _, List.getElem?_eq_getElem _⟩
  stop := fun H μ S g s h => ⟨vs, ws, g.sqT h1, (k1.grow g).sqL, by unfold zipD; rw [List.length_zipWith, h2.length, k2.length]⟩
  yld := fun i H μ S x H' g s h y d hd => by
    obtain ⟨T, z, t, rfl, hT, rfl, y1, y2⟩ := y
    obtain ⟨d1, d2, e1, e2, rfl⟩ := zipD_get hd
    obtain ⟨w, h5, h6⟩ := (h2.grow g).get e1
    obtain ⟨w', h5', h6'⟩ := (k2.grow g).get e2
    rw [y1 vs (g.sqT h1)] at h5
    rw [y2 ws (k1.grow g).sqL] at h5'
    cases h5; cases h5'
    exact pairNew s hT h6 h6'
theorem isIt_zipVV {K : PySem.W.Frag} {H0 : Hp} {μ0 : Mu} {a b : Addr} {vs ws : List V} {ds es : List D} (h1 : LsV H0 μ0 a vs) (h2 : RpA K H0 μ0 vs ds) (k1 : LsV H0 μ0 b ws) (k2 : RpA K H0 μ0 ws es) : IsIt K (Itz K a b) H0 μ0 (zipD ds es) always where
  go := fun i H μ S g s h hi => by
    obtain ⟨l1, l2⟩ := zipD_lt hi
    exact ⟨vs, ws, vs[i]'(by rw [h2.length]; exact l1), ws[i]'(by rw [k2.length]; exact l2), (h1.grow g).sqL, (k1.grow g).sqL, List.getElem?_eq_getElem _, List.getElem?_eq_getElem _⟩
  stop := fun H μ S g s h => by
    refine ⟨vs, ws, (h1.grow g).sqL, (k1.grow g).sqL, ?_⟩
    unfold zipD; rw [List.length_zipWith, h2.length, k2.length]; omega
  yld := fun i H μ S x H' g s h y d hd => by
    obtain ⟨T, z, t, rfl, hT, rfl, y1, y2⟩ := y
    obtain ⟨d1, d2, e1, e2, rfl⟩ := zipD_get hd
    obtain ⟨w, h5, h6⟩ := (h2.grow g).get e1
    obtain ⟨w', h5', h6'⟩ := (k2.grow g).get e2
    rw [y1 vs (h1.grow g).sqL] at h5
    rw [y2 ws (k1.grow g).sqL] at h5'
    cases h5; cases h5'
    exact pairNew s hT h6 h6'
theorem mi_zipV {m : MArg} (hg : Gl X "zip") (hm : X.mg "zip" = none) (ha : MA X [e, e2] m) (hs : starEach [e, e2] X.env = (false, eval e X.env) :: starEach [e2] X.env := by rfl) (hpl : (backTo pos (starEach [e2] X.env)).any (·.1) = false := by rfl) :
    MI X (.Tuple elts kk tpos) (.Call (.Name "zip" p) [e, e2] [] pos) (mZipV m) := by
  refine ⟨⟨fun pins s σ H R I h => ?_⟩⟩
  obtain ⟨ρ, S, μ, q0, S', st, e1, q⟩ := h
  obtain ⟨⟨ds, S1⟩, e2', e1⟩ := Option.bind_eq_some_iff.mp e1
  dsimp only at e1
  split at e1
  · cases e1
    refine (pi_zipM hg hm ha.pa hs hpl).run pins s σ H R I ⟨ρ, S, μ, _, _, st, e2', fun vs H1 μ1 g1 s1 r1 => ?_⟩
    match vs, r1 with
    | _, .cons (.tup h1 h2) (.cons (.lst k1 k2) .nil) => exact ⟨_, _, _, _, rfl, sq _ _ h1, k1.sqL, q _ H1 μ1 g1 s1 (isIt_zipTV (sq _ _ h1) h2 k1 k2)⟩
  · cases e1
    refine (pi_zip hg hm ha.pa hs hpl).run pins s σ H R I ⟨ρ, S, μ, _, _, st, e2', fun vs H1 μ1 g1 s1 r1 => ?_⟩
    match vs, r1 with
    | _, .cons (.lst h1 h2) (.cons (.lst k1 k2) .nil) => exact ⟨_, _, _, _, rfl, h1.sqL, k1.sqL, q _ H1 μ1 g1 s1 (isIt_zipVV h1 h2 k1 k2)⟩
  · cases e1
end
end MS

set_option Elab.async false
set_option linter.all false
set_option maxRecDepth 100000
set_option maxHeartbeats 4000000
namespace TM
open PySem PySem.Spec PyProof.Rows L2 MS
section
variable {α β γ δ σ : Type} {S0 : Store} {sl : List Sl} {m m1 m2 mi : MExp} {r : MStm} {A : α → D} {B : β → D} {C : γ → D} {t : Option α} {t1 : Option α} {t2 : Option β}
theorem zip_map : ∀ (xs : List α) (ys : List β), zipD (xs.map A) (ys.map B) = (xs.zip ys).map (eT2 A B)
  | [], _ => rfl
  | _ :: _, [] => rfl
  | x :: xs, y :: ys => by
    show D.tup [A x, B y] :: zipD (xs.map A) (ys.map B) = D.tup [A x, B y] :: (xs.zip ys).map (eT2 A B)
    rw [zip_map xs ys]
theorem xi_zipVL {tx : Option (List α)} {ty : Option (List β)} (h1 : XE S0 sl m1 tx (eV A)) (h2 : XE S0 sl m2 ty (eL B)) : XI S0 sl (mZipV (mCons m1 (mCons m2 mNil))) (tx.bind fun xs => ty.bind fun ys => some (xs.zip ys)) (eT2 A B) := fun ρ S s zs e => by
  obtain ⟨xs, e1, e⟩ := bnd e
  obtain ⟨ys, e2, e⟩ := bnd e
  cases e
  obtain ⟨S1, q1, a1⟩ := h1 ρ S s xs e1
  obtain ⟨S2, q2, a2⟩ := h2 ρ S1 (s.grow a1) ys e2
  have q : mCons m1 (mCons m2 mNil) ρ S = some ([eV A xs, eL B ys], S2) := by simp only [mCons, mNil, q1, q2, Option.bind_some]
  refine ⟨S2, ?_, a1.trans a2⟩
  unfold mZipV
  rw [q]
  show some ((zipD (xs.map A) (ys.map B), always), S2) = _
  rw [zip_map]
theorem xi_zipLL {tx : Option (List α)} {ty : Option (List β)} (h1 : XE S0 sl m1 tx (eL A)) (h2 : XE S0 sl m2 ty (eL B)) : XI S0 sl (mZipV (mCons m1 (mCons m2 mNil))) (tx.bind fun xs => ty.bind fun ys => some (xs.zip ys)) (eT2 A B) := fun ρ S s zs e => by
  obtain ⟨xs, e1, e⟩ := bnd e
  obtain ⟨ys, e2, e⟩ := bnd e
  cases e
  obtain ⟨S1, q1, a1⟩ := h1 ρ S s xs e1
  obtain ⟨S2, q2, a2⟩ := h2 ρ S1 (s.grow a1) ys e2
  have q : mCons m1 (mCons m2 mNil) ρ S = some ([eL A xs, eL B ys], S2) := by simp only [mCons, mNil, q1, q2, Option.bind_some]
  refine ⟨S2, ?_, a1.trans a2⟩
  unfold mZipV
  rw [q]
  show some ((zipD (xs.map A) (ys.map B), always), S2) = _
  rw [zip_map]
/-- [a] * k -/
def repT {α : Type} (a : α) (k : Int) : Option (List α) := cond (decide (-(2 ^ 63) ≤ k) && decide (k < 2 ^ 63) && Nat.ble k.toNat 16777216) (some (List.replicate k.toNat a)) none
theorem xo_rep {tk : Option Int} (h1 : XE S0 sl m1 t A) (h2 : XE S0 sl m2 tk eI) : XO S0 sl (mBin fMulW (mLst (mCons m1 mNil)) m2) (t.bind fun a => tk.bind fun k => repT a k) A := fun ρ S s xs e => by
  obtain ⟨a, e1, e⟩ := bnd e
  obtain ⟨k, e2, e⟩ := bnd e
  obtain ⟨S1, q1, a1⟩ := h1 ρ S s a e1
  have a1' : All S (S1 ++ [.lst [A a]]) := a1.trans .app
  obtain ⟨S2, q2, a2⟩ := h2 ρ (S1 ++ [.lst [A a]]) (s.grow a1') k e2
  unfold repT at e
  cases c : (decide (-(2 ^ 63) ≤ k) && decide (k < 2 ^ 63) && Nat.ble k.toNat 16777216) with
  | false => rw [c] at e; cases e
  | true =>
    rw [c] at e
    cases e
    rw [Bool.and_eq_true, Bool.and_eq_true, decide_eq_true_eq, decide_eq_true_eq] at c
    have c3 := Nat.le_of_ble_eq_true c.2
    have hg : S2[S1.length]? = some (.lst [A a]) := a2 _ _ get_new
    refine xo_of (S1 := S2) ?_ (a1'.trans a2)
    have q3 : mLst (mCons m1 mNil) ρ S = some (.lr S1.length, S1 ++ [.lst [A a]]) := by
      have : mCons m1 mNil ρ S = some ([A a], S1) := by simp only [mCons, mNil, q1, Option.bind_some]
      unfold mLst
      rw [this]
      rfl
    unfold mBin
    rw [q3]
    show ((m2 ρ (S1 ++ [.lst [A a]])).bind fun q => fMulW (.lr S1.length) q.1 q.2) = _
    rw [q2]
    show ((mat S2 S1.length).bind fun a => if -(2 ^ 63) ≤ k ∧ k < 2 ^ 63 ∧ a.length * k.toNat ≤ szl then some (D.lr S2.length, S2 ++ [.lst (repD a k)]) else none) = _
    rw [mat_lst hg]
    show (if -(2 ^ 63) ≤ k ∧ k < 2 ^ 63 ∧ 1 * k.toNat ≤ szl then some (D.lr S2.length, S2 ++ [.lst (repD [A a] k)]) else none) = _
    rw [if_pos ⟨c.1.1, c.1.2, by rw [Nat.one_mul]; exact c3⟩]
    have er : repD [A a] k = (List.replicate k.toNat a).map A := by
      unfold repD
      rw [List.map_replicate]
      generalize k.toNat = n
      induction n with
      | zero => rfl
      | succ n ih => rw [List.replicate_succ, List.flatten_cons, ih, List.replicate_succ]; rfl
    rw [er]
/-- xs[j] = a -/
def putT {α : Type} (xs : List α) (j : Int) (a : α) : Option (List α) := (L2.ixN xs.length j).map fun k => xs.set k a
theorem sn_put {i : Nat} {xs : List α} {tj : Option Int} (h : sl[i]? = some (.own (xs.map A))) (he : XE S0 sl m t A) (hj : XE S0 sl mi tj eI) : SN S0 sl (mAsg m (mgSub (mVar i) mi)) (t.bind fun a => tj.bind fun j => putT xs j a) (fun ys => sl.set i (.own (ys.map A))) := fun ρ S s ys e => by
  obtain ⟨a, e1, e⟩ := bnd e
  obtain ⟨j, e2, e⟩ := bnd e
  obtain ⟨k, e3, e⟩ := Option.map_eq_some_iff.mp e
  subst e
  obtain ⟨S1, q1, a1⟩ := he ρ S s a e1
  obtain ⟨S2, q2, a2⟩ := hj ρ S1 (s.grow a1) j e2
  have s2 := (s.grow a1).grow a2
  obtain ⟨n, k1, k2, k3⟩ := s2.own i _ h
  refine ⟨ρ, S2.set n (.lst ((xs.set k a).map A)), ?_, s2.wr h k1⟩
  have v : mVar i ρ S1 = some (.lr n, S1) := by unfold mVar; rw [k1]
  unfold mAsg mgSub
  rw [q1]
  show (((mVar i ρ S1).bind fun p => (mi ρ p.2).bind fun q => match p.1, q.1 with
    | .lr n, .int k => (mat q.2 n).bind fun ds => (L2.ixN ds.length k).bind fun j => some (ρ, q.2.set n (.lst (ds.set j (A a))))
    | _, _ => none).bind fun q => some (Fl.nx, q.1, q.2)) = _
  rw [v]
  show (((mi ρ S1).bind fun q => match D.lr n, q.1 with
    | .lr n, .int k => (mat q.2 n).bind fun ds => (L2.ixN ds.length k).bind fun j => some (ρ, q.2.set n (.lst (ds.set j (A a))))
    | _, _ => none).bind fun q => some (Fl.nx, q.1, q.2)) = _
  rw [q2]
  show (((mat S2 n).bind fun ds => (L2.ixN ds.length j).bind fun j => some (ρ, S2.set n (.lst (ds.set j (A a))))).bind fun q => some (Fl.nx, q.1, q.2)) = _
  rw [mat_lst k2]
  show ((L2.ixN (xs.map A).length j).bind fun j => some (ρ, S2.set n (.lst ((xs.map A).set j (A a))))).bind (fun q => some (Fl.nx, q.1, q.2)) = _
  rw [List.length_map, e3]
  show some (Fl.nx, ρ, S2.set n (.lst ((xs.map A).set k (A a)))) = _
  rw [List.map_set]
/-- xs[j] op= b -/
def augT {α β : Type} (op : α → β → Option α) (xs : List α) (j : Int) (b : β) : Option (List α) := cond (decide (0 ≤ j)) ((L2.ixN xs.length j).bind fun k => (xs[k]?).bind fun old => (op old b).map fun c => xs.set k c) none
theorem sn_augI {f : DOp2} {op : α → β → Option α} {i : Nat} {xs : List α} {tj : Option Int} (h : sl[i]? = some (.own (xs.map A))) (hj : XE S0 sl mi tj eI) (he : XE S0 sl m t2 B) (hf : Op2 f A B A op) : SN S0 sl (mAugS f (mVar i) mi m) (tj.bind fun j => t2.bind fun b => augT op xs j b) (fun ys => sl.set i (.own (ys.map A))) := fun ρ S s ys e => by
  obtain ⟨j, e1, e⟩ := bnd e
  obtain ⟨b, e2, e⟩ := bnd e
  unfold augT at e
  cases c : decide (0 ≤ j) with
  | false => rw [c] at e; cases e
  | true =>
    rw [c] at e
    obtain ⟨k, e3, e⟩ := Option.bind_eq_some_iff.mp (show ((L2.ixN xs.length j).bind fun k => (xs[k]?).bind fun old => (op old b).map fun c => xs.set k c) = some ys from e)
    obtain ⟨old, e4, e⟩ := bnd e
    obtain ⟨z, e5, e⟩ := Option.map_eq_some_iff.mp e
    subst e
    obtain ⟨S1, q1, a1⟩ := hj ρ S s j e1
    have s1 := s.grow a1
    obtain ⟨S2, q2, a2⟩ := he ρ S1 s1 b e2
    obtain ⟨n, k1, k2, k3⟩ := s1.own i _ h
    have k2' := a2 _ _ k2
    refine ⟨ρ, S2.set n (.lst ((xs.set k z).map A)), ?_, (s1.grow a2).wr h k1⟩
    have v : mVar i ρ S = some (.lr n, S) := by unfold mVar; rw [k1]
    unfold mAugS
    rw [v]
    show ((mi ρ S).bind fun q => match D.lr n, q.1 with
      | .lr n, .int k => augL f m n k ρ q.2
      | _, _ => none) = _
    rw [q1]
    show augL f m n j ρ S1 = _
    unfold augL
    rw [if_pos (of_decide_eq_true c), mat_lst k2]
    show ((L2.ixN (xs.map A).length j).bind fun j => ((xs.map A)[j]?).bind fun old => (m ρ S1).bind fun r => (f old r.1 r.2).bind fun z => (mat z.2 n).bind fun ds' => if ds'.length = (xs.map A).length then some (Fl.nx, ρ, z.2.set n (.lst (ds'.set j z.1))) else none) = _
    rw [List.length_map, e3]
    show (((xs.map A)[k]?).bind fun old => (m ρ S1).bind fun r => (f old r.1 r.2).bind fun z => (mat z.2 n).bind fun ds' => if ds'.length = xs.length then some (Fl.nx, ρ, z.2.set n (.lst (ds'.set k z.1))) else none) = _
    rw [List.getElem?_map, e4]
    show ((m ρ S1).bind fun r => (f (A old) r.1 r.2).bind fun z => (mat z.2 n).bind fun ds' => if ds'.length = xs.length then some (Fl.nx, ρ, z.2.set n (.lst (ds'.set k z.1))) else none) = _
    rw [q2]
    show ((f (A old) (B b) S2).bind fun z => (mat z.2 n).bind fun ds' => if ds'.length = xs.length then some (Fl.nx, ρ, z.2.set n (.lst (ds'.set k z.1))) else none) = _
    rw [hf old b z S2 e5]
    show ((mat S2 n).bind fun ds' => if ds'.length = xs.length then some (Fl.nx, ρ, S2.set n (.lst (ds'.set k (A z)))) else none) = _
    rw [mat_lst k2']
    show (if (xs.map A).length = xs.length then some (Fl.nx, ρ, S2.set n (.lst ((xs.map A).set k (A z)))) else none) = _
    rw [if_pos (List.length_map ..), List.map_set]
theorem g_gcd {a b : Int} : Gvs cGcd [eI a, eI b] (some ((Nat.gcd a.natAbs b.natAbs : Nat) : Int)) eI := fun c e S => by cases e; exact ⟨S, rfl, .refl⟩
def lcmT (a b : Int) : Option Int := cond (decide (a.natAbs.log2 < 2000) && decide (b.natAbs.log2 < 2000)) (some ((Nat.lcm a.natAbs b.natAbs : Nat) : Int)) none
theorem g_lcm {a b : Int} : Gvs cLcm [eI a, eI b] (lcmT a b) eI := fun c e S => by
  unfold lcmT at e
  cases k : (decide (a.natAbs.log2 < 2000) && decide (b.natAbs.log2 < 2000)) with
  | false => rw [k] at e; cases e
  | true =>
    rw [k] at e
    cases e
    rw [Bool.and_eq_true, decide_eq_true_eq, decide_eq_true_eq] at k
    refine ⟨S, ?_, .refl⟩
    show (if a.natAbs.log2 < 2000 ∧ b.natAbs.log2 < 2000 then some (D.int ((Nat.lcm a.natAbs b.natAbs : Nat) : Int), S) else none) = _
    rw [if_pos k]
/-! what can't be -/
theorem sn_none {sl' : σ → List Sl} : SN S0 sl r (none : Option σ) sl' := fun ρ S s a e => nomatch e
theorem sr_none : SR S0 sl r (none : Option α) A := fun ρ S s a e => nomatch e
theorem sb_none {sl' : σ → List Sl} : SB S0 sl r (none : Option (Out σ α)) sl' A := fun ρ S s a e => nomatch e
/-! sorted of a set comprehension -/
def setM {α : Type} (c : α → Option Bool) (f : α → Option Int) (xs : List α) : Option (List Int) := (compGo c f xs).bind fun ys => cond (Nat.ble ys.length 60) (some (sortU ys)) none
theorem xe_sc {i : MItr} {g : MTg} {c : MTst} {e : MExp} {vs : List Nat} {ti : Option (List α)} {tc : α → Option Bool} {te : α → Option Int} {slg : α → List Sl} (hi : XI S0 sl i ti A) (hg : ∀ a, XG S0 (wipeS sl vs) g (A a) (slg a)) (hc : ∀ a, XT S0 (slg a) c (tc a)) (he : ∀ a, XE S0 (slg a) e (te a) eI) :
    XE S0 sl (mFz (mSortComp i g c e vs)) (ti.bind fun xs => setM tc te xs) (eL eI) := fun ρ S s zs eq => by
  obtain ⟨xs, e1, eq⟩ := bnd eq
  obtain ⟨ys, e2, eq⟩ := bnd eq
  obtain ⟨S1, q, a1⟩ := hi ρ S s xs e1
  have s1 := (s.grow a1).wipe vs
  cases hz : Nat.ble ys.length 60 with
  | false => rw [hz] at eq; cases eq
  | true =>
  rw [hz] at eq
  cases eq
  have hz := Nat.le_of_ble_eq_true hz
  have go : ∀ (xs : List α) (ys acc : List Int) (T : Store), All S1 T → acc.length + ys.length ≤ 60 → compGo tc te xs = some ys → ∃ T', scL always g c e (wipeD ρ vs) (xs.map A) acc T = some (acc ++ ys, T') ∧ All S1 T' := by
    intro xs
    induction xs with
    | nil => intro ys acc T a hz eq; cases eq; exact ⟨T, by rw [List.append_nil]; rfl, a⟩
    | cons x xs ih =>
      intro ys acc T a hz eq
      obtain ⟨k, e2, eq⟩ := bnd eq
      obtain ⟨ρ1, q1, k1⟩ := hg x (wipeD ρ vs) T (s1.grow a)
      obtain ⟨T2, q2, a2⟩ := hc x ρ1 T k1 k e2
      have un : scL always g c e (wipeD ρ vs) ((x :: xs).map A) acc T = (if k = true then (e ρ1 T2).bind fun y => match y.1 with
          | .int z => if acc.length < 60 then scL always g c e (wipeD ρ vs) (xs.map A) (acc ++ [z]) y.2 else none
          | _ => none
        else scL always g c e (wipeD ρ vs) (xs.map A) acc T2) := by
        show (if always T = true then (g (A x) (wipeD ρ vs) T).bind fun p => (c p.1 p.2).bind fun k => if k.1 then (e p.1 k.2).bind fun y => (match y.1 with
            | .int z => if acc.length < 60 then scL always g c e (wipeD ρ vs) (xs.map A) (acc ++ [z]) y.2 else none
            | _ => none)
          else scL always g c e (wipeD ρ vs) (xs.map A) acc k.2 else none) = _
        rw [if_pos (show always T = true from rfl), q1]
        show ((c ρ1 T).bind fun k => if k.1 then (e ρ1 k.2).bind fun y => (match y.1 with
            | .int z => if acc.length < 60 then scL always g c e (wipeD ρ vs) (xs.map A) (acc ++ [z]) y.2 else none
            | _ => none)
          else scL always g c e (wipeD ρ vs) (xs.map A) acc k.2) = _
        rw [q2]
        rfl
      cases k with
      | true =>
        rw [cond_true] at eq
        obtain ⟨y, e3, eq⟩ := bnd eq
        obtain ⟨zs, e4, eq⟩ := bnd eq
        cases eq
        have hz : acc.length + (zs.length + 1) ≤ 60 := hz
        obtain ⟨T3, q3, a3⟩ := he x ρ1 T2 (k1.grow a2) y e3
        obtain ⟨T4, q4, a4⟩ := ih zs (acc ++ [y]) T3 ((a.trans a2).trans a3) (by rw [List.length_append, List.length_singleton]; omega) e4
        refine ⟨T4, ?_, a4⟩
        rw [un, if_pos rfl, q3]
        show (if acc.length < 60 then scL always g c e (wipeD ρ vs) (xs.map A) (acc ++ [y]) T3 else none) = _
        rw [if_pos (by omega), q4, List.append_assoc]
        rfl
      | false =>
        obtain ⟨T4, q4, a4⟩ := ih ys acc T2 (a.trans a2) hz eq
        exact ⟨T4, by rw [un]; exact q4, a4⟩
  obtain ⟨T, q2, a2⟩ := go xs ys [] S1 .refl (by rw [List.length_nil, Nat.zero_add]; exact hz) e2
  refine ⟨(T ++ [MO.lst ((sortU ys).map D.int)]).set T.length .gone, ?_, (a1.trans a2).trans (All.app.wr (Nat.le_refl _))⟩
  have e5 : mSortComp i g c e vs ρ S = some (.lr T.length, T ++ [.lst ((sortU ys).map D.int)]) := by
    unfold mSortComp
    rw [q]
    show ((scL always g c e (wipeD ρ vs) (xs.map A) [] S1).bind fun r => some (D.lr r.2.length, r.2 ++ [.lst ((sortU r.1).map D.int)])) = _
    rw [q2]
    rfl
  unfold mFz
  rw [e5]
  show fzD (T ++ [.lst ((sortU ys).map D.int)]) (.lr T.length) = _
  unfold fzD
  simp only [get_new]
end
end TM

set_option Elab.async false
set_option linter.all false
set_option maxRecDepth 100000
set_option maxHeartbeats 4000000
/-! Own lists handed on: frozen where they are named for the last time. -/
namespace TM
open PySem PySem.Spec PyProof.Rows L2 MS
def XZ {α : Type} (S0 : Store) (sl : List Sl) (m : MExp) (t : Option α) (E : α → D) (sl' : List Sl) : Prop := ∀ ρ S, Sx S0 sl ρ S → ∀ a, t = some a → ∃ S', m ρ S = some (E a, S') ∧ Sx S0 sl' ρ S'
section
variable {α β γ δ σ : Type} {S0 S : Store} {sl sl' : List Sl} {ρ : Ev} {m : MExp} {r : MStm} {A : α → D} {B : β → D} {C : γ → D} {t : Option α}
theorem xz_of (h : XE S0 sl m t A) : XZ S0 sl m t A sl := fun ρ S s a e => let ⟨S', q, a1⟩ := h ρ S s a e; ⟨S', q, s.grow a1⟩
theorem Sx.gone {i n : Nat} {ds : List D} (s : Sx S0 sl ρ S) (h1 : sl[i]? = some (.own ds)) (h2 : ρ[i]? = some (some (.lr n))) : Sx S0 (sl.set i .unk) ρ (S.set n .gone) := by
  have low : ∀ {j : Nat} {x : Sl}, (sl.set i .unk)[j]? = some x → x ≠ .unk → i ≠ j ∧ sl[j]? = some x := fun {j x} h k => by
    by_cases hj : i = j
    · subst hj
      have hl : i < sl.length := by have := (List.getElem?_eq_some_iff.mp h).1; rwa [List.length_set] at this
      rw [List.getElem?_set_self hl] at h
      cases h
      exact absurd rfl k
    · rw [List.getElem?_set_ne hj] at h
      exact ⟨hj, h⟩
  obtain ⟨n', q1, q2, q3⟩ := s.own i _ h1
  rw [h2] at q1
  cases q1
  refine ⟨s.all.wr q3, by rw [List.length_set]; exact s.len, fun j d h => s.val j d (low h (fun z => nomatch z)).2, fun j es h => ?_, fun j k es fs g g1 g2 g3 g4 => s.one j k es fs g (low g1 (fun z => nomatch z)).2 (low g2 (fun z => nomatch z)).2 g3 g4⟩
  obtain ⟨hj, h⟩ := low h (fun z => nomatch z)
  obtain ⟨k, r1, r2, r3⟩ := s.own j es h
  refine ⟨k, r1, ?_, r3⟩
  by_cases hk : n = k
  · subst hk
    exact absurd (s.one i j ds es n h1 h h2 r1) hj
  · rw [get_ne hk]; exact r2
theorem xz_fz {i : Nat} {xs : List α} (h : sl[i]? = some (.own (xs.map A))) : XZ S0 sl (mFz (mVar i)) (some xs) (eL A) (sl.set i .unk) := fun ρ S s a e => by
  cases e
  obtain ⟨n, q1, q2, q3⟩ := s.own i _ h
  refine ⟨S.set n .gone, ?_, s.gone h q1⟩
  have v : mVar i ρ S = some (.lr n, S) := by unfold mVar; rw [q1]
  unfold mFz
  rw [v]
  show fzD S (.lr n) = _
  unfold fzD
  simp only [q2]
theorem sn_asgZ {i : Nat} (h : XZ S0 sl m t A sl') : SN S0 sl (mAsg m (mName i)) t (fun a => sl'.set i (.val (A a))) := fun ρ S s a e => by
  obtain ⟨S1, q, s1⟩ := h ρ S s a e
  exact ⟨_, S1, by unfold mAsg; rw [q]; rfl, s1.set⟩
theorem sn_asgGZ {g : MTg} {sl1 : α → List Sl} (h : XZ S0 sl m t A sl') (hg : ∀ a, XG S0 sl' g (A a) (sl1 a)) : SN S0 sl (mAsg m g) t sl1 := fun ρ S s a e => by
  obtain ⟨S1, q, s1⟩ := h ρ S s a e
  obtain ⟨ρ1, q1, s2⟩ := hg a ρ S1 s1
  exact ⟨ρ1, S1, by unfold mAsg; rw [q]; show ((g (A a) ρ S1).bind _) = _; rw [q1]; rfl, s2⟩
theorem sr_retZ (h : XZ S0 sl m t A sl') : SR S0 sl (mRet m) t A := fun ρ S s b e => by
  obtain ⟨S1, q, s1⟩ := h ρ S s b e
  exact ⟨ρ, S1, by unfold mRet; rw [q]; rfl, s1.all⟩
theorem xz_map {B : β → D} {f : α → β} (h : XZ S0 sl m t A sl') (hE : ∀ a, A a = B (f a)) : XZ S0 sl m (t.bind fun a => some (f a)) B sl' := fun ρ S s b e => by
  obtain ⟨a, e1, e⟩ := bnd e
  cases e
  obtain ⟨S', q, s1⟩ := h ρ S s a e1
  exact ⟨S', by rw [q, hE], s1⟩
theorem xz_call1 {τ1 : Type} {n1 : MExp} {u1 : Option τ1} {E1 : τ1 → D} {l1 : List Sl} {F : DCall} {f : τ1 → Option γ} (h1 : XZ S0 sl n1 u1 E1 l1) (hf : ∀ x1, Gvs F [E1 x1] (f x1) C) : XZ S0 sl (mCall F (mCons n1 mNil)) (u1.bind fun x1 => f x1) C l1 := fun ρ S s c e => by
  obtain ⟨x1, e1, e⟩ := bnd e
  obtain ⟨S1, q1, s1⟩ := h1 ρ S s x1 e1
  obtain ⟨S9, q9, a9⟩ := hf x1 c e S1
  refine ⟨S9, ?_, s1.grow a9⟩
  have q : (mCons n1 mNil) ρ S = some ([E1 x1], S1) := by simp only [mCons, mNil, q1, Option.bind_some]
  unfold mCall
  rw [q]
  exact q9
theorem xz_call2 {τ1 : Type} {n1 : MExp} {u1 : Option τ1} {E1 : τ1 → D} {l1 : List Sl} {τ2 : Type} {n2 : MExp} {u2 : Option τ2} {E2 : τ2 → D} {l2 : List Sl} {F : DCall} {f : τ1 → τ2 → Option γ} (h1 : XZ S0 sl n1 u1 E1 l1) (h2 : XZ S0 l1 n2 u2 E2 l2) (hf : ∀ x1 x2, Gvs F [E1 x1, E2 x2] (f x1 x2) C) : XZ S0 sl (mCall F (mCons n1 (mCons n2 mNil))) (u1.bind fun x1 => u2.bind fun x2 => f x1 x2) C l2 := fun ρ S s c e => by
  obtain ⟨x1, e1, e⟩ := bnd e
  obtain ⟨x2, e2, e⟩ := bnd e
  obtain ⟨S1, q1, s1⟩ := h1 ρ S s x1 e1
  obtain ⟨S2, q2, s2⟩ := h2 ρ S1 s1 x2 e2
  obtain ⟨S9, q9, a9⟩ := hf x1 x2 c e S2
  refine ⟨S9, ?_, s2.grow a9⟩
  have q : (mCons n1 (mCons n2 mNil)) ρ S = some ([E1 x1, E2 x2], S2) := by simp only [mCons, mNil, q1, q2, Option.bind_some]
  unfold mCall
  rw [q]
  exact q9
theorem xz_call3 {τ1 : Type} {n1 : MExp} {u1 : Option τ1} {E1 : τ1 → D} {l1 : List Sl} {τ2 : Type} {n2 : MExp} {u2 : Option τ2} {E2 : τ2 → D} {l2 : List Sl} {τ3 : Type} {n3 : MExp} {u3 : Option τ3} {E3 : τ3 → D} {l3 : List Sl} {F : DCall} {f : τ1 → τ2 → τ3 → Option γ} (h1 : XZ S0 sl n1 u1 E1 l1) (h2 : XZ S0 l1 n2 u2 E2 l2) (h3 : XZ S0 l2 n3 u3 E3 l3) (hf : ∀ x1 x2 x3, Gvs F [E1 x1, E2 x2, E3 x3] (f x1 x2 x3) C) : XZ S0 sl (mCall F (mCons n1 (mCons n2 (mCons n3 mNil)))) (u1.bind fun x1 => u2.bind fun x2 => u3.bind fun x3 => f x1 x2 x3) C l3 := fun ρ S s c e => by
  obtain ⟨x1, e1, e⟩ := bnd e
  obtain ⟨x2, e2, e⟩ := bnd e
  obtain ⟨x3, e3, e⟩ := bnd e
  obtain ⟨S1, q1, s1⟩ := h1 ρ S s x1 e1
  obtain ⟨S2, q2, s2⟩ := h2 ρ S1 s1 x2 e2
  obtain ⟨S3, q3, s3⟩ := h3 ρ S2 s2 x3 e3
  obtain ⟨S9, q9, a9⟩ := hf x1 x2 x3 c e S3
  refine ⟨S9, ?_, s3.grow a9⟩
  have q : (mCons n1 (mCons n2 (mCons n3 mNil))) ρ S = some ([E1 x1, E2 x2, E3 x3], S3) := by simp only [mCons, mNil, q1, q2, q3, Option.bind_some]
  unfold mCall
  rw [q]
  exact q9
theorem xz_call4 {τ1 : Type} {n1 : MExp} {u1 : Option τ1} {E1 : τ1 → D} {l1 : List Sl} {τ2 : Type} {n2 : MExp} {u2 : Option τ2} {E2 : τ2 → D} {l2 : List Sl} {τ3 : Type} {n3 : MExp} {u3 : Option τ3} {E3 : τ3 → D} {l3 : List Sl} {τ4 : Type} {n4 : MExp} {u4 : Option τ4} {E4 : τ4 → D} {l4 : List Sl} {F : DCall} {f : τ1 → τ2 → τ3 → τ4 → Option γ} (h1 : XZ S0 sl n1 u1 E1 l1) (h2 : XZ S0 l1 n2 u2 E2 l2) (h3 : XZ S0 l2 n3 u3 E3 l3) (h4 : XZ S0 l3 n4 u4 E4 l4) (hf : ∀ x1 x2 x3 x4, Gvs F [E1 x1, E2 x2, E3 x3, E4 x4] (f x1 x2 x3 x4) C) : XZ S0 sl (mCall F (mCons n1 (mCons n2 (mCons n3 (mCons n4 mNil))))) (u1.bind fun x1 => u2.bind fun x2 => u3.bind fun x3 => u4.bind fun x4 => f x1 x2 x3 x4) C l4 := fun ρ S s c e => by
  obtain ⟨x1, e1, e⟩ := bnd e
  obtain ⟨x2, e2, e⟩ := bnd e
  obtain ⟨x3, e3, e⟩ := bnd e
  obtain ⟨x4, e4, e⟩ := bnd e
  obtain ⟨S1, q1, s1⟩ := h1 ρ S s x1 e1
  obtain ⟨S2, q2, s2⟩ := h2 ρ S1 s1 x2 e2
  obtain ⟨S3, q3, s3⟩ := h3 ρ S2 s2 x3 e3
  obtain ⟨S4, q4, s4⟩ := h4 ρ S3 s3 x4 e4
  obtain ⟨S9, q9, a9⟩ := hf x1 x2 x3 x4 c e S4
  refine ⟨S9, ?_, s4.grow a9⟩
  have q : (mCons n1 (mCons n2 (mCons n3 (mCons n4 mNil)))) ρ S = some ([E1 x1, E2 x2, E3 x3, E4 x4], S4) := by simp only [mCons, mNil, q1, q2, q3, q4, Option.bind_some]
  unfold mCall
  rw [q]
  exact q9
theorem g_intB {b : Bool} : Gvs cInt [eB b] (some (if b then 1 else 0 : Int)) eI := fun c e S => by cases e; exact ⟨S, rfl, .refl⟩
end
end TM

set_option Elab.async false
set_option linter.all false
set_option maxRecDepth 100000
set_option maxHeartbeats 4000000
/-! xs.pop(draw) in a statement. -/
namespace TM
open PySem PySem.Spec PyProof.Rows L2 MS
section
variable {α β γ σ : Type} {S0 : Store} {p : Nat} {sl : List Sl} {m e : MExp} {A : α → D} {B : β → D}
theorem popt_ok {xs ys : List α} {k : Int} {a : α} {S2 : Store} {n : Nat} (hz : xs.length ≤ 16777216) (h : popT xs k = some (a, ys)) (l : S2[n]? = some (.lst (xs.map A))) : popD S2 n k = some (A a, S2.set n (.lst (ys.map A))) := by
  obtain ⟨j, j1, j2, j3⟩ := popT_some h
  unfold popD
  rw [mat_lst l]
  show (if (xs.map A).length ≤ szl then (L2.ixN (xs.map A).length k).bind fun j => ((xs.map A)[j]?).map fun z => (z, S2.set n (.lst ((xs.map A).eraseIdx j))) else none) = _
  rw [List.length_map, if_pos (show xs.length ≤ szl from hz), j1]
  show ((xs.map A)[j]?).map (fun z => (z, S2.set n (.lst ((xs.map A).eraseIdx j)))) = _
  rw [List.getElem?_map, j2, j3]
  show some (A a, S2.set n (.lst ((xs.map A).eraseIdx j))) = _
  rw [← map_eraseIdx_]
def popC {α : Type} (xs : List α) (k : Int) : Option (α × List α) := cond (Nat.ble xs.length 16777216) (popT xs k) none
theorem popC_some {xs : List α} {k : Int} {q : α × List α} (h : popC xs k = some q) : xs.length ≤ 16777216 ∧ popT xs k = some q := by
  unfold popC at h
  cases c : Nat.ble xs.length 16777216 with
  | true => rw [c] at h; exact ⟨Nat.le_of_ble_eq_true c, h⟩
  | false => rw [c] at h; cases h
/-- what xs.pop(e) gives, and the store behind it -/
theorem pop_run {i : Nat} {xs : List α} {te : PM Int} (h : sl[i]? = some (.own (xs.map A))) (he : PX S0 p sl e te eI) {P P' : Pn} {ρ : Ev} {S : Store} {q : α × List α} (s : Pf S0 p sl P ρ S) (eq : bP te (fun k => lP (popC xs k)) P = some (q, P')) :
    ∃ S', mPop (mVar i) (mCons e mNil) ρ S = some (A q.1, S') ∧ Pf S0 p (sl.set i (.own (q.2.map A))) P' ρ S' := by
  obtain ⟨k, P1, e1, eq2⟩ := bP_some eq
  obtain ⟨e3, ez⟩ := lP_some eq2
  subst ez
  obtain ⟨hz, e4⟩ := popC_some e3
  obtain ⟨S1, q1, a1⟩ := he P ρ S s k _ e1
  have s1 := s.pen a1
  obtain ⟨n, k1, k2, k3⟩ := s.own_ h
  have k2' := a1.get k3 k2
  refine ⟨S1.set n (.lst (q.2.map A)), ?_, s1.sx.wr h k1, s.lo⟩
  have v : mVar i ρ S = some (.lr n, S) := by unfold mVar; rw [k1]
  have eA : mCons e mNil ρ S = some ([eI k], S1) := by simp only [mCons, mNil, q1, Option.bind_some]
  unfold mPop
  rw [v]
  show ((mat S n).bind fun _ => (mCons e mNil ρ S).bind fun q => match q.1 with
    | [.int i] => popD q.2 n i
    | _ => none) = _
  rw [mat_lst k2]
  show ((mCons e mNil ρ S).bind fun q => match q.1 with
    | [.int i] => popD q.2 n i
    | _ => none) = _
  rw [eA]
  exact popt_ok hz e4 k2'
/-- a, b = xs.pop(e) -/
theorem pn_popG {i : Nat} {xs : List α} {te : PM Int} {g : MTg} {sl1 : α × List α → List Sl} (h : sl[i]? = some (.own (xs.map A))) (he : PX S0 p sl e te eI) (hg : ∀ q S0, XG S0 (sl.set i (.own (q.2.map A))) g (A q.1) (sl1 q)) :
    PN S0 p sl (mAsg (mPop (mVar i) (mCons e mNil)) g) (bP te fun k => lP (popC xs k)) sl1 := fun P ρ S s q P' eq => by
  obtain ⟨S1, q1, s1⟩ := pop_run h he s eq
  obtain ⟨ρ1, q2, s2⟩ := hg q _ ρ S1 s1.sx
  exact ⟨ρ1, S1, by unfold mAsg; rw [q1]; show ((g (A q.1) ρ S1).bind _) = _; rw [q2]; rfl, s2, s.lo⟩
/-- ys.append(xs.pop(e)) -/
theorem pn_appPop {i j : Nat} {xs ys : List α} {te : PM Int} (h : sl[i]? = some (.own (xs.map A))) (hj : sl[j]? = some (.own (ys.map A))) (hij : i ≠ j) (he : PX S0 p sl e te eI) :
    PN S0 p sl (mDrop (mApp (mVar j) (mCons (mPop (mVar i) (mCons e mNil)) mNil))) (bP (bP te fun k => lP (popC xs k)) fun q => lP ((pushM ys q.1).bind fun zs => some (q.2, zs))) (fun r => (sl.set i (.own (r.1.map A))).set j (.own (r.2.map A))) := fun P ρ S s r P' eq => by
  obtain ⟨q, P1, e1, eq2⟩ := bP_some eq
  obtain ⟨e3, ez⟩ := lP_some eq2
  subst ez
  obtain ⟨zs, e4, e5⟩ := bnd e3
  cases e5
  obtain ⟨hz, rfl⟩ := pushM_some e4
  obtain ⟨S1, q1, s1⟩ := pop_run h he s e1
  obtain ⟨n, k1, k2, k3⟩ := s.own_ hj
  have hj' : (sl.set i (.own (q.2.map A)))[j]? = some (.own (ys.map A)) := by rw [List.getElem?_set_ne hij]; exact hj
  obtain ⟨n', l1, l2, l3⟩ := s1.own_ hj'
  rw [k1] at l1
  cases l1
  refine ⟨ρ, S1.set n (.lst ((ys ++ [q.1]).map A)), ?_, s1.sx.wr hj' k1, s.lo⟩
  have v : mVar j ρ S = some (.lr n, S) := by unfold mVar; rw [k1]
  have eA : mCons (mPop (mVar i) (mCons e mNil)) mNil ρ S = some ([A q.1], S1) := by simp only [mCons, mNil, q1, Option.bind_some]
  unfold mDrop mApp
  rw [v]
  show ((((mat S n).bind fun _ => (mCons (mPop (mVar i) (mCons e mNil)) mNil ρ S).bind fun q => match q.1 with
    | [d] => (mat q.2 n).bind fun ds => if ds.length < szl then some (D.non, q.2.set n (.lst (ds ++ [d]))) else none
    | _ => none)).bind fun p => some (Fl.nx, ρ, p.2)) = _
  rw [mat_lst k2]
  show (((mCons (mPop (mVar i) (mCons e mNil)) mNil ρ S).bind fun q => match q.1 with
    | [d] => (mat q.2 n).bind fun ds => if ds.length < szl then some (D.non, q.2.set n (.lst (ds ++ [d]))) else none
    | _ => none).bind fun p => some (Fl.nx, ρ, p.2)) = _
  rw [eA]
  show (((mat S1 n).bind fun ds => if ds.length < szl then some (D.non, S1.set n (.lst (ds ++ [A q.1]))) else none).bind fun p => some (Fl.nx, ρ, p.2)) = _
  rw [mat_lst l2]
  show ((if (ys.map A).length < szl then some (D.non, S1.set n (.lst (ys.map A ++ [A q.1]))) else none).bind fun p => some (Fl.nx, ρ, p.2)) = _
  rw [List.length_map, if_pos hz, List.map_append]
  rfl
end
end TM

set_option Elab.async false
set_option linter.all false
set_option maxRecDepth 100000
set_option maxHeartbeats 4000000
namespace TM
open PySem PySem.Spec PyProof.Rows L2 MS
section
variable {α β γ σ : Type} {S0 : Store} {p : Nat} {sl : List Sl} {m : MExp} {A : α → D} {B : β → D}
/-- a local list held against a list -/
theorem xe_neO [DecidableEq α] {da : Nat} (f : Fa A da) (hd : da < 60) {i : Nat} {xs : List α} {ty : Option (List α)} (h : sl[i]? = some (.own (xs.map A))) (h2 : XE S0 sl m ty (eL A)) : XE S0 sl (mBin fNe (mVar i) m) (ty.bind fun y => some (!decide (xs = y))) eB := xe_binO1 (k := fun y => some (!decide (xs = y))) h h2 fun S n b c e q => by
  cases q
  have l : toPy S 64 (.lr n) = toPy S 64 (.lst (xs.map A)) := by
    show ((lat S n).bind fun ds => (ds.mapM (toPy S 63)).map PyData.list) = _
    rw [lat_lst e]
    rfl
  have := fEqG_fa (faL f) (by omega) (g := not) xs b S
  show fEqG not (.lr n) (eL A b) S = _
  unfold fEqG at this ⊢
  rw [l]
  exact this
theorem xe_eqO [DecidableEq α] {da : Nat} (f : Fa A da) (hd : da < 60) {i : Nat} {xs : List α} {ty : Option (List α)} (h : sl[i]? = some (.own (xs.map A))) (h2 : XE S0 sl m ty (eL A)) : XE S0 sl (mBin fEq (mVar i) m) (ty.bind fun y => some (decide (xs = y))) eB := xe_binO1 (k := fun y => some (decide (xs = y))) h h2 fun S n b c e q => by
  cases q
  have l : toPy S 64 (.lr n) = toPy S 64 (.lst (xs.map A)) := by
    show ((lat S n).bind fun ds => (ds.mapM (toPy S 63)).map PyData.list) = _
    rw [lat_lst e]
    rfl
  have := fEqG_fa (faL f) (by omega) (g := id) xs b S
  show fEqG id (.lr n) (eL A b) S = _
  unfold fEqG at this ⊢
  rw [l]
  exact this
def whileP {σ : Type} (c : σ → PM Bool) (b : σ → PM σ) : Nat → σ → PM σ
  | 0, _ => fun _ => none
  | n + 1, s => bP (c s) fun k => cond k (bP (b s) fun s' => whileP c b n s') (lP (some s))
theorem pn_while {n : Nat} {c : MTst} {b : MStm} {tc : σ → PM Bool} {tb : σ → PM σ} {s0 : σ} {slσ : σ → List Sl} (hw : Wk sl (slσ s0)) (hc : ∀ s, PT S0 p (slσ s) c (tc s)) (hb : ∀ s, PN S0 p (slσ s) b (tb s) slσ) :
    PN S0 p sl (whileN c b n) (whileP tc tb n s0) slσ := fun P ρ S s s' P' e => by
  have go : ∀ (n : Nat) (s0 : σ) (P : Pn) (ρ : Ev) (S : Store), Pf S0 p (slσ s0) P ρ S → whileP tc tb n s0 P = some (s', P') → ∃ ρ' S', whileN c b n ρ S = some (.nx, ρ', S') ∧ Pf S0 p (slσ s') P' ρ' S' := by
    intro n
    induction n with
    | zero => intro s0 P ρ S k e; cases e
    | succ n ih =>
      intro s0 P ρ S k e
      obtain ⟨k', P1, e2, e⟩ := bP_some e
      obtain ⟨S1, q1, a1⟩ := hc s0 P ρ S k k' P1 e2
      cases k' with
      | true =>
        rw [cond_true] at e
        obtain ⟨s1, P2, e3, e⟩ := bP_some e
        obtain ⟨ρ2, S2, q2, k2⟩ := hb s0 P1 ρ S1 (k.pen a1) s1 P2 e3
        obtain ⟨ρ3, S3, q3, k3⟩ := ih s1 P2 ρ2 S2 k2 e
        refine ⟨ρ3, S3, ?_, k3⟩
        show ((c ρ S).bind fun p => if p.1 then (b ρ p.2).bind fun q => (match q.1 with
          | .nx => whileN c b n q.2.1 q.2.2
          | .ct => whileN c b n q.2.1 q.2.2
          | .bk => some (.nx, q.2.1, q.2.2)
          | .rt d => some (.rt d, q.2.1, q.2.2)) else some (.nx, ρ, p.2)) = _
        rw [q1]
        show ((b ρ S1).bind fun q => (match q.1 with
          | .nx => whileN c b n q.2.1 q.2.2
          | .ct => whileN c b n q.2.1 q.2.2
          | .bk => some (.nx, q.2.1, q.2.2)
          | .rt d => some (.rt d, q.2.1, q.2.2))) = _
        rw [q2]
        exact q3
      | false =>
        rw [cond_false] at e
        obtain ⟨e4, ez⟩ := lP_some e
        cases e4
        refine ⟨ρ, S1, ?_, by rw [ez]; exact k.pen a1⟩
        show ((c ρ S).bind fun p => if p.1 then (b ρ p.2).bind fun q => (match q.1 with
          | .nx => whileN c b n q.2.1 q.2.2
          | .ct => whileN c b n q.2.1 q.2.2
          | .bk => some (.nx, q.2.1, q.2.2)
          | .rt d => some (.rt d, q.2.1, q.2.2)) else some (.nx, ρ, p.2)) = _
        rw [q1]
        rfl
  exact go n s0 P ρ S ⟨s.sx.wk hw, s.lo⟩ e
end
end TM

set_option Elab.async false
set_option linter.all false
set_option maxRecDepth 100000
set_option maxHeartbeats 4000000
namespace MS
open PySem PySem.Spec PyProof.Rows L2
/-- list(range(n)) -/
def mListRg (m : MExp) : MExp := fun ρ S => (m ρ S).bind fun p => match p.1 with
  | .int n => if r62 n = true ∧ n.toNat ≤ 16777216 then some (.lr p.2.length, p.2 ++ [.lst (rangeD 0 n.toNat)]) else none
  | _ => none
theorem rp_range {K : PySem.W.Frag} {H : Hp} {μ : Mu} {n : Int} : RpA K H μ (rgV 0 n) (rangeD 0 n.toNat) := by
  have e1 : rgV 0 n = ((List.range n.toNat).map fun i : Nat => 0 + (i : Int)).map V.int := by
    unfold rgV
    rw [List.map_map, Int.sub_zero]
    rfl
  have e2 : rangeD 0 n.toNat = ((List.range n.toNat).map fun i : Nat => 0 + (i : Int)).map D.int := by
    unfold rangeD
    rw [List.map_map]
    rfl
  rw [e1, e2]
  exact RpA.ints
theorem me_listRg {X : Cx} {a : Expr} {m : MExp} {p p2 q q2 : Pos} (hc : X.calm = true) (hg : Gl X "list") (hm : X.mg "list" = none) (hg2 : Gl X "range") (hm2 : X.mg "range" = none) (ha : ME X a m)
    (n1 : starEach [a] X.env = (false, eval a X.env) :: starEach [] X.env := by rfl) (n2 : starEach [.Call (.Name "range" p2) [a] [] q2] X.env = (false, eval (.Call (.Name "range" p2) [a] [] q2) X.env) :: starEach [] X.env := by rfl) :
    ME X (.Call (.Name "list" p) [.Call (.Name "range" p2) [a] [] q2] [] q) (mListRg m) :=
  ⟨PE.imp (pe_listRg hc hg hm (prg_1 hg2 hm2 ha.pe n1) n2) fun σ H Q ⟨ρ, S, μ, d, S', st, e, k⟩ => by
    obtain ⟨⟨d1, S1⟩, e1, e⟩ := Option.bind_eq_some_iff.mp e
    refine ⟨ρ, S, μ, d1, S1, st, e1, fun v H1 μ1 g1 s1 r1 => ?_⟩
    cases d1 with
    | int n =>
      obtain ⟨hz, e⟩ := (show (r62 n = true ∧ n.toNat ≤ 16777216) ∧ some (D.lr S1.length, S1 ++ [.lst (rangeD 0 n.toNat)]) = some (d, S') by
        have e : (if r62 n = true ∧ n.toNat ≤ 16777216 then some (D.lr S1.length, S1 ++ [.lst (rangeD 0 n.toNat)]) else none) = some (d, S') := e
        split at e
        · exact ⟨by assumption, e⟩
        · cases e)
      cases e
      cases r1
      have hr := r62_iff hz.1
      refine ⟨n, rfl, ⟨by omega, by omega, hr.1, hr.2, by rw [Int.sub_zero]; exact hz.2⟩, fun q hq => ?_⟩
      exact Aft.lst (fun v H' μ' g => k v H' μ' (g1.trans g)) s1 rp_range hq
    | _ => cases e⟩
end MS

set_option Elab.async false
set_option linter.all false
set_option maxRecDepth 100000
set_option maxHeartbeats 4000000
namespace TM
open PySem PySem.Spec PyProof.Rows L2 MS
section
variable {α β γ σ τ : Type} {S0 : Store} {p : Nat} {sl : List Sl} {m m1 m2 m3 : MExp} {A : α → D} {B : β → D} {C : γ → D}
/-- list(range(j)) -/
def lrg (j : Int) : Option (List Int) := cond (r62 j && Nat.ble j.toNat 16777216) (some (rangeI 0 j.toNat)) none
theorem xo_listRg {tj : Option Int} (h : XE S0 sl m tj eI) : XO S0 sl (mListRg m) (tj.bind fun j => lrg j) eI := fun ρ S s xs e => by
  obtain ⟨j, e1, e⟩ := bnd e
  unfold lrg at e
  cases c : (r62 j && Nat.ble j.toNat 16777216) with
  | false => rw [c] at e; cases e
  | true =>
    rw [c] at e
    cases e
    rw [Bool.and_eq_true] at c
    obtain ⟨S1, q, a⟩ := h ρ S s j e1
    refine xo_of (S1 := S1) ?_ a
    unfold mListRg
    rw [q]
    show (if r62 j = true ∧ j.toNat ≤ 16777216 then some (D.lr S1.length, S1 ++ [.lst (rangeD 0 j.toNat)]) else none) = _
    rw [if_pos ⟨c.1, Nat.le_of_ble_eq_true c.2⟩, rangeI_map]
theorem xe_fzO {tx : Option (List α)} (h : XO S0 sl m tx A) : XE S0 sl (mFz m) tx (eL A) := fun ρ S s xs e => by
  obtain ⟨n, S1, q, a, hn, hg⟩ := h ρ S s xs e
  refine ⟨S1.set n .gone, ?_, a.wr hn⟩
  unfold mFz
  rw [q]
  show fzD S1 (.lr n) = _
  unfold fzD
  simp only [hg]
theorem SlOk.mono {S S' S'' : Store} {d : D} {k : Sl} (h : SlOk S S' d k) (a : All S' S'') : SlOk S S'' d k := by
  cases k with
  | unk => trivial
  | val e => exact h
  | own ds => obtain ⟨n, r1, r2, r3⟩ := h; exact ⟨n, r1, r2, a _ _ r3⟩
theorem own_lt_put {i : Nat} {ρ : Ev} {S S1 : Store} {d : D} {k : Sl} (hl : ρ.length = sl.length) (hS : S1.length ≤ S.length) (lt : ∀ (j : Nat) (es : List D) (h : Nat), sl[j]? = some (.own es) → ρ[j]? = some (some (.lr h)) → h < S1.length) (hd : ∀ n, d = .lr n → k ≠ .unk → (∀ e, k = .val e → False) → n < S.length) :
    ∀ (j : Nat) (es : List D) (h : Nat), (sl.set i k)[j]? = some (.own es) → (ρ.set i (some d))[j]? = some (some (.lr h)) → h < S.length := fun j es h g1 g2 => by
  by_cases hj : i = j
  · subst hj
    have hi : i < sl.length := by have := (List.getElem?_eq_some_iff.mp g1).1; rwa [List.length_set] at this
    rw [List.getElem?_set_self hi] at g1
    rw [List.getElem?_set_self (by rw [hl]; exact hi)] at g2
    cases g2
    cases g1
    exact hd h rfl (fun z => nomatch z) (fun e z => nomatch z)
  · rw [List.getElem?_set_ne hj] at g1 g2
    exact Nat.lt_of_lt_of_le (lt j es h g1 g2) hS
theorem SlOk.lt {S S' : Store} {d : D} {k : Sl} (h : SlOk S S' d k) : ∀ n, d = .lr n → k ≠ .unk → (∀ e, k = .val e → False) → n < S'.length := fun n e hk hv => by
  cases k with
  | unk => exact absurd rfl hk
  | val e' => exact (hv e' rfl).elim
  | own ds =>
    obtain ⟨n', r1, _, r3⟩ := h
    rw [e] at r1
    cases r1
    exact (List.getElem?_eq_some_iff.mp r3).1
/-- x, y, z = a, b, c -/
theorem sn_asgT3 {i j l : Nat} {t1 : Option α} {t2 : Option β} {t3 : Option γ} {k1 : α → Sl} {k2 : β → Sl} {k3 : γ → Sl} (h1 : XS S0 sl m1 t1 k1) (h2 : XS S0 sl m2 t2 k2) (h3 : XS S0 sl m3 t3 k3) (n1 : ∀ a, k1 a ≠ .unk) (n2 : ∀ a, k2 a ≠ .unk) (n3 : ∀ a, k3 a ≠ .unk) :
    SN S0 sl (mAsg (mTup (mCons m1 (mCons m2 (mCons m3 mNil)))) (mgTup (mgCons (mName i) (mgCons (mName j) (mgCons (mName l) mgNil))) 3)) (t1.bind fun a => t2.bind fun b => t3.bind fun c => some (a, b, c)) (fun p => ((sl.set i (k1 p.1)).set j (k2 p.2.1)).set l (k3 p.2.2)) := fun ρ S s c e => by
  obtain ⟨a, e1, e⟩ := bnd e
  obtain ⟨b, e2, e⟩ := bnd e
  obtain ⟨c', e3, e⟩ := bnd e
  cases e
  obtain ⟨d1, S1, q1, a1, o1⟩ := h1 ρ S s a e1
  obtain ⟨d2, S2, q2, a2, o2⟩ := h2 ρ S1 (s.grow a1) b e2
  obtain ⟨d3, S3, q3, a3, o3⟩ := h3 ρ S2 ((s.grow a1).grow a2) c' e3
  have l1 := a1.len
  have l2 := a2.len
  have l3 := a3.len
  have s0 := ((s.grow a1).grow a2).grow a3
  have lt0 : ∀ (j : Nat) (es : List D) (h : Nat), sl[j]? = some (.own es) → ρ[j]? = some (some (.lr h)) → h < S.length := fun j es h g1 g2 => s.own_lt g1 g2
  have p1 : Sx S0 (sl.set i (k1 a)) (ρ.set i (some d1)) S3 := s0.put (n1 a) ((o1.mono a2).mono a3) s.all.len lt0
  have lt1 := own_lt_put (i := i) s.len l1 lt0 o1.lt
  have p2 : Sx S0 ((sl.set i (k1 a)).set j (k2 b)) ((ρ.set i (some d1)).set j (some d2)) S3 := p1.put (n2 b) (o2.mono a3) (Nat.le_trans s.all.len l1) lt1
  have lt2 := own_lt_put (i := j) p1.len l2 lt1 o2.lt
  have p3 : Sx S0 (((sl.set i (k1 a)).set j (k2 b)).set l (k3 c')) (((ρ.set i (some d1)).set j (some d2)).set l (some d3)) S3 := p2.put (n3 c') o3 (Nat.le_trans (Nat.le_trans s.all.len l1) l2) lt2
  refine ⟨_, S3, ?_, p3⟩
  have q : mCons m1 (mCons m2 (mCons m3 mNil)) ρ S = some ([d1, d2, d3], S3) := by simp only [mCons, mNil, q1, q2, q3, Option.bind_some]
  unfold mAsg mTup
  rw [q]
  rfl
/-- xs[j], y = a, b -/
theorem sn_putPar {i l : Nat} {xs : List α} {t1 : Option α} {t2 : Option β} {tj : Option Int} (h : sl[i]? = some (.own (xs.map A))) (h1 : XE S0 sl m1 t1 A) (h2 : XE S0 sl m2 t2 B) (hj : XE S0 sl m3 tj eI) :
    SN S0 sl (mAsg (mTup (mCons m1 (mCons m2 mNil))) (mgTup (mgCons (mgSub (mVar i) m3) (mgCons (mName l) mgNil)) 2)) (t1.bind fun a => t2.bind fun b => tj.bind fun j => (putT xs j a).bind fun ys => some (ys, b)) (fun q => (sl.set i (.own (q.1.map A))).set l (.val (B q.2))) := fun ρ S s q e => by
  obtain ⟨a, e1, e⟩ := bnd e
  obtain ⟨b, e2, e⟩ := bnd e
  obtain ⟨j, e3, e⟩ := bnd e
  obtain ⟨ys, e4, e⟩ := bnd e
  cases e
  obtain ⟨k, e5, e6⟩ := Option.map_eq_some_iff.mp e4
  subst e6
  obtain ⟨S1, q1, a1⟩ := h1 ρ S s a e1
  obtain ⟨S2, q2, a2⟩ := h2 ρ S1 (s.grow a1) b e2
  have s2 := (s.grow a1).grow a2
  obtain ⟨S3, q3, a3⟩ := hj ρ S2 s2 j e3
  have s3 := s2.grow a3
  obtain ⟨n, k1, k2, k3⟩ := s3.own i _ h
  refine ⟨ρ.set l (some (B b)), S3.set n (.lst ((xs.set k a).map A)), ?_, (s3.wr h k1).set⟩
  have v : mVar i ρ S2 = some (.lr n, S2) := by unfold mVar; rw [k1]
  have qa : mCons m1 (mCons m2 mNil) ρ S = some ([A a, B b], S2) := by simp only [mCons, mNil, q1, q2, Option.bind_some]
  have qt : mTup (mCons m1 (mCons m2 mNil)) ρ S = some (.tup [A a, B b], S2) := by
    unfold mTup
    rw [qa]
    rfl
  have qg : mgSub (mVar i) m3 (A a) ρ S2 = some (ρ, S3.set n (.lst ((xs.set k a).map A))) := by
    unfold mgSub
    rw [v]
    show ((m3 ρ S2).bind fun q => match D.lr n, q.1 with
      | .lr n, .int k => (mat q.2 n).bind fun ds => (L2.ixN ds.length k).bind fun j => some (ρ, q.2.set n (.lst (ds.set j (A a))))
      | _, _ => none) = _
    rw [q3]
    show ((mat S3 n).bind fun ds => (L2.ixN ds.length j).bind fun j => some (ρ, S3.set n (.lst (ds.set j (A a))))) = _
    rw [mat_lst k2]
    show ((L2.ixN (xs.map A).length j).bind fun j => some (ρ, S3.set n (.lst ((xs.map A).set j (A a))))) = _
    rw [List.length_map, e5]
    show some (ρ, S3.set n (.lst ((xs.map A).set k (A a)))) = _
    rw [List.map_set]
  unfold mAsg
  rw [qt]
  show ((mgTup (mgCons (mgSub (mVar i) m3) (mgCons (mName l) mgNil)) 2 (.tup [A a, B b]) ρ S2).bind fun q => some (Fl.nx, q.1, q.2)) = _
  show (((mgSub (mVar i) m3 (A a) ρ S2).bind fun p => (mgCons (mName l) mgNil) [B b] p.1 p.2).bind fun q => some (Fl.nx, q.1, q.2)) = _
  rw [qg]
  rfl
theorem g_maxL {xs : List Int} : Gvs cMaxA [eL eI xs] (maxI xs) eI := fun c e S => ⟨S, by
  show ((intsOf (xs.map D.int)).bind fun ns => (maxI ns).map fun m => (D.int m, S)) = _
  rw [intsOf_map]
  show (maxI xs).map (fun m => (D.int m, S)) = _
  rw [e]
  rfl, .refl⟩
theorem g_maxV {xs : List Int} : Gvs cMaxA [eV eI xs] (maxI xs) eI := fun c e S => ⟨S, by
  show ((intsOf (xs.map D.int)).bind fun ns => (maxI ns).map fun m => (D.int m, S)) = _
  rw [intsOf_map]
  show (maxI xs).map (fun m => (D.int m, S)) = _
  rw [e]
  rfl, .refl⟩
theorem g_minL {xs : List Int} : Gvs cMinA [eL eI xs] (minI xs) eI := fun c e S => ⟨S, by
  show ((intsOf (xs.map D.int)).bind fun ns => (minI ns).map fun m => (D.int m, S)) = _
  rw [intsOf_map]
  show (minI xs).map (fun m => (D.int m, S)) = _
  rw [e]
  rfl, .refl⟩
theorem g_minV {xs : List Int} : Gvs cMinA [eV eI xs] (minI xs) eI := fun c e S => ⟨S, by
  show ((intsOf (xs.map D.int)).bind fun ns => (minI ns).map fun m => (D.int m, S)) = _
  rw [intsOf_map]
  show (minI xs).map (fun m => (D.int m, S)) = _
  rw [e]
  rfl, .refl⟩
end
end TM

set_option Elab.async false
set_option linter.all false
set_option maxRecDepth 100000
set_option maxHeartbeats 4000000
/-! Drawn mines. -/
namespace TM
open PySem PySem.Spec PyProof.Rows L2 MS
abbrev Mi := Int × List (Int × Int) × Int × Int
def WOk (n : Int) (w : Int × Int) : Prop := 0 ≤ w.1 ∧ w.1 < n ∧ 0 ≤ w.2 ∧ w.2 < n ∧ w.1 ≠ w.2
structure MOk (M : Mi) : Prop where
  lo : 2 ≤ M.1
  hi : M.1 ≤ 8
  ways : ∀ w ∈ M.2.1, WOk M.1 w
  ends : WOk M.1 (M.2.2.1, M.2.2.2)
/-- every place but 0 has a way to a lower one -/
def Tre (n : Int) (ws : List (Int × Int)) : Prop := ∀ x : Int, 1 ≤ x → x < n → ∃ y : Int, 0 ≤ y ∧ y < x ∧ ((x, y) ∈ ws ∨ (y, x) ∈ ws)
local macro_rules | `(tactic| walk_at "st") => `(tactic| first
  | with_reducible refine wp_b ?_ | with_reducible refine wp_l ?_ | with_reducible refine wo_b ?_ | with_reducible refine wo_some ?_)
theorem mine_ok {P : Pn} {most many : Int} (h : Good P) (hm : 2 ≤ most) (hm8 : most ≤ 8) (hw : 1 ≤ many) (hw2 : many ≤ 1000) :
    wp (t_law_mine most many) P fun M P' => Good P' ∧ MOk M ∧ Tre M.1 M.2.1 ∧ (M.2.1.length : Int) ≤ many ∧ M.1 ≤ (if most < 3 then 3 else most) ∧ M.1 ≤ many + 1 ∧ M.1 ≤ M.2.1.length + 1 := by
  unfold t_law_mine
  repeat walk_at "st"
  refine (draw_ok h (by omega) (by omega)).mono fun d P1 hd => ?_
  repeat walk_at "st"
  refine (one_of_ok (xs := [2, 3, most, most, 2 + d]) hd.2.2 (List.cons_ne_nil _ _) (show 5 < 2 ^ 60 by decide)).mono fun x P2 hx => ?_
  have hx1 : 2 ≤ x ∧ x ≤ (if most < 3 then 3 else most) := by
    have := hx.1
    simp only [List.mem_cons, List.not_mem_nil, or_false] at this
    have := hd.1
    have := hd.2.1
    split <;> omega
  repeat walk_at "st"
  have hp1 : 2 ≤ (if many + 1 < x then many + 1 else x) ∧ (if many + 1 < x then many + 1 else x) ≤ (if most < 3 then 3 else most) ∧ (if many + 1 < x then many + 1 else x) ≤ many + 1 := by
    split <;> omega
  generalize (if many + 1 < x then many + 1 else x) = p at hp1
  obtain ⟨p1, p2, p3⟩ := hp1
  have p8 : p ≤ 8 := by split at p2 <;> omega
  refine wo_rng2 (by show -1000 ≤ p; omega) (by show p < 1000000000; omega) (by omega) (by omega) ?_
  refine wp_loop (i := 0) (fun i (s : List (Int × Int)) P => Good P ∧ s.length = i ∧ (∀ w ∈ s, WOk p w) ∧ Tre (1 + (i : Int)) s) ⟨hx.2, rfl, (fun _ z => nomatch z), fun x h1 (h2 : x < 1 + ((0 : Nat) : Int)) => by omega⟩ (fun j k s P3 hk hi => ?_) (fun s P3 hi => ?_)
  · obtain ⟨g, hl, hws, ht⟩ := hi
    obtain ⟨rfl, hj⟩ := rangeI_get hk
    have hj : j < (p - 1).toNat := hj
    repeat walk_at "st"
    refine (draw_ok g (by omega) (by omega)).mono fun y P4 hy => ?_
    repeat walk_at "st"
    refine (draw_ok hy.2.2 (by omega) (by omega)).mono fun c P5 hc => ?_
    repeat walk_at "st"
    have step : ∀ w : Int × Int, (w = (1 + (j : Int), y) ∨ w = (y, 1 + (j : Int))) → wo (pushM s w) fun a => wp (lP (some a)) P5 fun s' P' => Good P' ∧ s'.length = 0 + j + 1 ∧ (∀ w ∈ s', WOk p w) ∧ Tre (1 + ((0 + j + 1 : Nat) : Int)) s' := fun w hwv => by
      refine wo_push (by omega) (wp_l (wo_some ⟨hc.2.2, by rw [List.length_append, hl]; rfl, fun v hv => ?_, fun x h1 h2 => ?_⟩))
      · rcases List.mem_append.mp hv with hv | hv
        · exact hws v hv
        · rw [List.mem_singleton.mp hv]
          have := hy.1
          have := hy.2.1
          rcases hwv with rfl | rfl
          · exact ⟨by show 0 ≤ 1 + (j : Int); omega, by show 1 + (j : Int) < p; omega, hy.1, by show y < p; omega, by show 1 + (j : Int) ≠ y; omega⟩
          · exact ⟨hy.1, by show y < p; omega, by show 0 ≤ 1 + (j : Int); omega, by show 1 + (j : Int) < p; omega, by show y ≠ 1 + (j : Int); omega⟩
      · by_cases hxe : x = 1 + (j : Int)
        · subst hxe
          refine ⟨y, hy.1, hy.2.1, ?_⟩
          rcases hwv with rfl | rfl
          · exact .inl (List.mem_append_right _ (List.mem_singleton.mpr rfl))
          · exact .inr (List.mem_append_right _ (List.mem_singleton.mpr rfl))
        · obtain ⟨z, z1, z2, z3⟩ := ht x h1 (by show x < 1 + ((0 + j : Nat) : Int); have : x < 1 + ((0 + j + 1 : Nat) : Int) := h2; omega)
          exact ⟨z, z1, z2, z3.imp (List.mem_append_left _) (List.mem_append_left _)⟩
    refine wp_if (fun hk => ?_) (fun hk => ?_)
    · repeat walk_at "st"
      exact step _ (.inl rfl)
    · repeat walk_at "st"
      exact step _ (.inr rfl)
  · obtain ⟨g, hl, hws, ht⟩ := hi
    rw [rangeI_len] at hl ht
    have hl : s.length = 0 + (p - 1).toNat := hl
    have ht : Tre (1 + ((0 + (p - 1).toNat : Nat) : Int)) s := ht
    rw [show 1 + ((0 + (p - 1).toNat : Nat) : Int) = p by omega] at ht
    repeat walk_at "st"
    refine (draw_ok g (by omega) (by omega)).mono fun n P4 hn => ?_
    have hn1 := hn.1
    have hn2 := hn.2.1
    repeat walk_at "st"
    refine wo_rng1 (by omega) (by omega) ?_
    refine wp_loop (i := 0) (fun i (s' : List (Int × Int)) P => Good P ∧ s'.length = s.length + i ∧ (∀ w ∈ s', WOk p w) ∧ Tre p s') ⟨hn.2.2, rfl, hws, ht⟩ (fun j k s' P3 hk hi => ?_) (fun s' P3 hi => ?_)
    · obtain ⟨g, hl', hws', ht'⟩ := hi
      obtain ⟨rfl, hj⟩ := rangeI_get hk
      repeat walk_at "st"
      refine (two_places_ok g (by omega) (by show p < 2 ^ 60; omega)).mono fun w P5 hw5 => ?_
      repeat walk_at "st"
      refine wo_push (by omega) ?_
      repeat walk_at "st"
      refine ⟨hw5.2, by rw [List.length_append, hl']; show s.length + (0 + j) + 1 = _; omega, fun v hv => ?_, fun x h1 h2 => ?_⟩
      · rcases List.mem_append.mp hv with hv | hv
        · exact hws' v hv
        · rw [List.mem_singleton.mp hv]; exact hw5.1
      · obtain ⟨z, z1, z2, z3⟩ := ht' x h1 h2
        exact ⟨z, z1, z2, z3.imp (List.mem_append_left _) (List.mem_append_left _)⟩
    · obtain ⟨g, hl', hws', ht'⟩ := hi
      rw [rangeI_len] at hl'
      repeat walk_at "st"
      refine (two_places_ok g (by omega) (by show p < 2 ^ 60; omega)).mono fun w P5 hw5 => ?_
      repeat walk_at "st"
      refine ⟨hw5.2, ⟨p1, p8, hws', hw5.1⟩, ht', ?_, p2, p3, ?_⟩
      · show (s'.length : Int) ≤ many
        omega
      · show p ≤ (s'.length : Int) + 1
        omega
theorem loose_ok {P : Pn} {M : Mi} (h : Good P) (ok : MOk M) : wp (t_law_loose M) P fun M' P' => Good P' ∧ (M' = M ∨ MOk M' ∧ M'.1 = M.1 ∧ M'.2.1.length ≤ 6) := by
  have h1 := ok.lo
  have h2 := ok.hi
  unfold t_law_loose
  repeat walk_at "st"
  refine (draw_ok h (by decide) (by decide)).mono fun d P1 hd => ?_
  repeat walk_at "st"
  refine wp_if (fun hk => ?_) (fun hk => ?_)
  · exact wp_l (wo_some ⟨hd.2.2, .inl rfl⟩)
  repeat walk_at "st"
  refine (draw_ok hd.2.2 (by decide) (by decide)).mono fun n P2 hn => ?_
  have hn1 := hn.1
  have hn2 := hn.2.1
  repeat walk_at "st"
  refine wo_rng1 (by omega) (by omega) ?_
  refine wp_comp Good (WOk M.1) (by rw [rangeI_len]; omega) hn.2.2 (fun x P3 hx g => ?_) (fun ys P3 hl hys g => ?_)
  · repeat walk_at "st"
    exact (two_places_ok g h1 (by omega)).mono fun w P4 hw => hw
  · repeat walk_at "st"
    rw [rangeI_len] at hl
    refine ⟨g, .inr ⟨⟨h1, h2, hys, ok.ends⟩, rfl, ?_⟩⟩
    show ys.length ≤ 6
    omega
end TM

set_option Elab.async false
set_option linter.all false
set_option maxRecDepth 100000
set_option maxHeartbeats 4000000
namespace TM
open PySem PySem.Spec PyProof.Rows L2 MS
local macro_rules | `(tactic| walk_at "st") => `(tactic| first
  | with_reducible refine wp_b ?_ | with_reducible refine wp_l ?_ | with_reducible refine wo_b ?_ | with_reducible refine wo_some ?_)
theorem eraseIdx_perm {α : Type} {a : α} : ∀ {l : List α} {j : Nat}, l[j]? = some a → (a :: l.eraseIdx j).Perm l
  | [], _, h => by simp at h
  | b :: l, 0, h => by simp at h; subst h; exact .refl _
  | b :: l, j + 1, h => by
    have := eraseIdx_perm (l := l) (j := j) (by simpa using h)
    exact (List.Perm.swap b a _).trans (this.cons b)
theorem wp_pops {α : Type} {te : List α → PM Int} (J : Pn → Prop) {Q : List α × List α → Pn → Prop} : ∀ {n : Nat} {xs : List α} {P : Pn}, J P → n ≤ xs.length → (∀ (ys : List α) (P : Pn), ys ≠ [] → ys.length ≤ xs.length → J P → wp (te ys) P fun k P' => 0 ≤ k ∧ k < ys.length ∧ J P') → (∀ ys rest P, ys.length = n → (ys ++ rest).Perm xs → J P → Q (ys, rest) P) → wp (popsP te n xs) P Q
  | 0, xs, P, h0, _, _, hQ => wp_l (wo_some (hQ [] xs P rfl (.refl _) h0))
  | n + 1, xs, P, h0, hn, ht, hQ => by
    refine wp_b ((ht xs P (by intro z; subst z; cases hn) (Nat.le_refl _) h0).mono fun k P1 hk => ?_)
    have hi : k.toNat < xs.length := by omega
    have hx : L2.ixN xs.length k = some k.toNat := by
      unfold L2.ixN
      rw [if_pos hk.1, if_pos hk.2.1]
    refine wp_b (wp_l ⟨(xs[k.toNat], xs.eraseIdx k.toNat), by unfold popT; rw [hx]; show (xs[k.toNat]?).map _ = _; rw [List.getElem?_eq_getElem hi]; rfl, ?_⟩)
    refine wp_b (wp_pops J hk.2.2 (by rw [List.length_eraseIdx, if_pos hi]; omega) (fun ys P h1 h2 => ht ys P h1 (Nat.le_trans h2 (List.length_eraseIdx_le ..))) fun ys rest P2 hl hp g => ?_)
    refine wp_l (wo_some (hQ _ _ P2 (by show ys.length + 1 = n + 1; omega) ?_ g))
    exact ((hp.cons xs[k.toNat])).trans (eraseIdx_perm (List.getElem?_eq_getElem hi))
theorem wp_popsG {α : Type} {te : List α → PM Int} {Q : List α × List α → Pn → Prop} {n : Nat} {xs : List α} {P : Pn} (h1 : n ≤ 16777216) (h2 : xs.length ≤ 16777216) (h : wp (popsP te n xs) P Q) : wp (popsG te n xs) P Q := by
  unfold popsG
  rw [Nat.ble_eq_true_of_le h1, Nat.ble_eq_true_of_le h2]
  exact h
theorem len_pos {α : Type} {xs : List α} (hne : xs ≠ []) : 1 ≤ (xs.length : Int) := by
  cases xs with
  | nil => exact absurd rfl hne
  | cons a b => show 1 ≤ ((b.length + 1 : Nat) : Int); omega
/-- an order of the first n places -/
structure Ord_ (n : Nat) (ys : List Int) : Prop where
  len : ys.length = n
  nd : ys.Nodup
  bd : ∀ y ∈ ys, 0 ≤ y ∧ y < n
theorem bridge_ok {P : Pn} (h : Good P) : wp t_law_bridge P fun M P' => Good P' ∧ MOk M ∧ M.1 = 4 ∧ M.2.1.length ≤ 7 := by
  unfold t_law_bridge
  repeat walk_at "st"
  refine wo_rng1 (by decide) (by decide) ?_
  refine wp_popsG (by decide) (by decide) (wp_pops Good h (by decide) (fun xs P1 hne hx g => ?_) (fun ys rest P1 hl hp g => ?_))
  · repeat walk_at "st"
    have h1 := len_pos hne
    have hx : xs.length ≤ 4 := hx
    exact draw_ok g h1 (by omega)
  have hl : ys.length = 4 := hl
  have hp : (ys ++ rest).Perm [0, 1, 2, 3] := hp
  have hr : rest = [] := by
    have := hp.length_eq
    rw [List.length_append, hl] at this
    exact List.eq_nil_of_length_eq_zero (by have : 4 + rest.length = 4 := this; omega)
  subst hr
  rw [List.append_nil] at hp
  have o : Ord_ 4 ys := ⟨hl, hp.nodup_iff.mpr (by decide), fun y hy => by
    have := hp.mem_iff.mp hy
    simp only [List.mem_cons, List.not_mem_nil, or_false] at this
    omega⟩
  clear hp
  repeat walk_at "st"
  refine wp_loop (i := 0) (fun i (s : List (Int × Int)) P => Good P ∧ s.length = i ∧ ∀ w ∈ s, WOk 4 w) ⟨g, rfl, (fun _ z => nomatch z)⟩ (fun j w s P3 hk hi => ?_) (fun s P3 hi => ?_)
  · obtain ⟨g, hl, hws⟩ := hi
    have hj : j < 5 := (List.getElem?_eq_some_iff.mp hk).1
    have hw : 0 ≤ w.1 ∧ w.1 < w.2 ∧ w.2 < 4 := by
      have hm := List.mem_of_getElem? hk
      simp only [List.mem_cons, List.not_mem_nil, or_false] at hm
      rcases hm with e | e | e | e | e <;> (rw [e]; decide)
    repeat walk_at "st"
    refine wo_atI hw.1 (by rw [o.len]; show w.1 < 4; omega) fun x hx gx => ?_
    repeat walk_at "st"
    refine wo_atI (by omega) (by rw [o.len]; exact hw.2.2) fun y hy gy => ?_
    repeat walk_at "st"
    refine (draw_ok g (by decide) (by decide)).mono fun c P5 hc => ?_
    repeat walk_at "st"
    have hxy : x ≠ y := fun z => by
      obtain ⟨a1, a2⟩ := List.getElem?_eq_some_iff.mp gx
      obtain ⟨b1, b2⟩ := List.getElem?_eq_some_iff.mp gy
      exact List.pairwise_iff_getElem.mp o.nd _ _ a1 b1 (by omega) ((a2.trans z).trans b2.symm)
    have b1 := o.bd x hx
    have b2 := o.bd y hy
    have step : ∀ v : Int × Int, (v = (x, y) ∨ v = (y, x)) → wo (pushM s v) fun a => wp (lP (some a)) P5 fun s' P' => Good P' ∧ s'.length = 0 + j + 1 ∧ (∀ w ∈ s', WOk 4 w) := fun v hwv => by
      refine wo_push (by omega) (wp_l (wo_some ⟨hc.2.2, by rw [List.length_append, hl]; rfl, fun u hu => ?_⟩))
      rcases List.mem_append.mp hu with hu | hu
      · exact hws u hu
      · rw [List.mem_singleton.mp hu]
        rcases hwv with rfl | rfl
        · exact ⟨b1.1, b1.2, b2.1, b2.2, hxy⟩
        · exact ⟨b2.1, b2.2, b1.1, b1.2, fun z => hxy z.symm⟩
    refine wp_if (fun hk => ?_) (fun hk => ?_)
    · repeat walk_at "st"
      exact step _ (.inl rfl)
    · repeat walk_at "st"
      exact step _ (.inr rfl)
  · obtain ⟨g, hl, hws⟩ := hi
    have hl : s.length = 5 := hl
    repeat walk_at "st"
    refine (draw_ok g (by decide) (by decide)).mono fun n P4 hn => ?_
    have hn1 := hn.1
    have hn2 := hn.2.1
    repeat walk_at "st"
    refine wo_rng1 (by omega) (by omega) ?_
    refine wp_loop (i := 0) (fun i (s' : List (Int × Int)) P => Good P ∧ s'.length = 5 + i ∧ (∀ w ∈ s', WOk 4 w)) ⟨hn.2.2, hl, hws⟩ (fun j k s' P3 hk hi => ?_) (fun s' P3 hi => ?_)
    · obtain ⟨g, hl', hws'⟩ := hi
      obtain ⟨rfl, hj⟩ := rangeI_get hk
      repeat walk_at "st"
      refine (two_places_ok g (by decide) (by decide)).mono fun w P5 hw5 => ?_
      repeat walk_at "st"
      refine wo_push (by omega) ?_
      repeat walk_at "st"
      refine ⟨hw5.2, by rw [List.length_append, hl']; show 5 + (0 + j) + 1 = _; omega, fun v hv => ?_⟩
      rcases List.mem_append.mp hv with hv | hv
      · exact hws' v hv
      · rw [List.mem_singleton.mp hv]; exact hw5.1
    · obtain ⟨g, hl', hws'⟩ := hi
      rw [rangeI_len] at hl'
      repeat walk_at "st"
      refine wo_atI (by decide) (by rw [o.len]; decide) fun x hx gx => ?_
      repeat walk_at "st"
      refine wo_atI (by decide) (by rw [o.len]; decide) fun y hy gy => ?_
      repeat walk_at "st"
      have hxy : x ≠ y := fun z => by
        obtain ⟨a1, a2⟩ := List.getElem?_eq_some_iff.mp gx
        obtain ⟨b1, b2⟩ := List.getElem?_eq_some_iff.mp gy
        exact List.pairwise_iff_getElem.mp o.nd _ _ a1 b1 (by decide) ((a2.trans z).trans b2.symm)
      have b1 := o.bd x hx
      have b2 := o.bd y hy
      refine ⟨g, ⟨(by decide : (2 : Int) ≤ 4), (by decide : (4 : Int) ≤ 8), hws', b1.1, b1.2, b2.1, b2.2, hxy⟩, rfl, ?_⟩
      show s'.length ≤ 7
      omega
end TM

set_option Elab.async false
set_option linter.all false
set_option maxRecDepth 100000
set_option maxHeartbeats 4000000
/-! Texts short enough, comprehensions and loops as equations. -/
namespace TM
open PySem PySem.Spec PyProof.Rows L2 MS
structure Sz (p : PyData) (n : Nat) : Prop where
  sml : sml p = true
  wt : wt p ≤ n
theorem Sz.int {i : Int} (h : i.natAbs < 1000000) : Sz (.int i) 42 := ⟨decide_eq_true (Nat.lt_trans h (by decide)), Nat.le_refl _⟩
theorem sz_all {B : Nat} : ∀ {xs : List PyData}, (∀ x ∈ xs, Sz x B) → smlAll xs = true ∧ wtAll xs ≤ xs.length * (B + 2)
  | [], _ => ⟨rfl, Nat.zero_le _⟩
  | x :: xs, h => by
    obtain ⟨h1, h2⟩ := sz_all (xs := xs) fun y hy => h y (List.mem_cons_of_mem _ hy)
    obtain ⟨a, b⟩ := h x (List.mem_cons_self ..)
    refine ⟨?_, ?_⟩
    · show (MS.sml x && smlAll xs) = true
      rw [a, h1]; rfl
    · show MS.wt x + 2 + wtAll xs ≤ (xs.length + 1) * (B + 2)
      rw [Nat.succ_mul]
      omega
theorem Sz.tup {B : Nat} {xs : List PyData} (h : ∀ x ∈ xs, Sz x B) : Sz (.tuple xs) (xs.length * (B + 2) + 3) := ⟨(sz_all h).1, Nat.add_le_add_right (sz_all h).2 3⟩
theorem Sz.lst {B : Nat} {xs : List PyData} (h : ∀ x ∈ xs, Sz x B) : Sz (.list xs) (xs.length * (B + 2) + 3) := ⟨(sz_all h).1, Nat.add_le_add_right (sz_all h).2 3⟩
theorem Sz.mono {p : PyData} {n k : Nat} (h : Sz p n) (hk : n ≤ k) : Sz p k := ⟨h.sml, Nat.le_trans h.wt hk⟩
theorem repr_ok {p : PyData} {n : Nat} {Q : Str → Prop} (h : Sz p n) (hd : p.depth ≤ 64) (hn : n ≤ 16777216) (q : Q p.shown) : wo (repr_ p) Q := by
  unfold repr_
  rw [okShow_of h.sml hd (Nat.le_trans h.wt hn)]
  exact wo_some q
section
variable {α β : Type}
theorem compGo_eq {c : α → Option Bool} {f : α → Option β} (p : α → Bool) (g : α → β) : ∀ {xs : List α}, (∀ x ∈ xs, c x = some (p x)) → (∀ x ∈ xs, p x = true → f x = some (g x)) → compGo c f xs = some ((xs.filter p).map g)
  | [], _, _ => rfl
  | x :: xs, hc, hf => by
    have ih := compGo_eq p g (xs := xs) (fun y hy => hc y (List.mem_cons_of_mem _ hy)) fun y hy => hf y (List.mem_cons_of_mem _ hy)
    show ((c x).bind fun k => cond k ((f x).bind fun y => (compGo c f xs).bind fun ys => some (y :: ys)) (compGo c f xs)) = _
    rw [hc x (List.mem_cons_self ..)]
    show cond (p x) _ _ = _
    cases k : p x with
    | true =>
      rw [cond_true, hf x (List.mem_cons_self ..) k, ih, List.filter_cons_of_pos k]
      rfl
    | false =>
      rw [cond_false, ih, List.filter_cons_of_neg (by rw [k]; decide)]
theorem compM_eq {c : α → Option Bool} {f : α → Option β} (p : α → Bool) (g : α → β) {xs : List α} (hz : xs.length ≤ 16777216) (hc : ∀ x ∈ xs, c x = some (p x)) (hf : ∀ x ∈ xs, p x = true → f x = some (g x)) : compM c f xs = some ((xs.filter p).map g) := by
  unfold compM
  rw [Nat.ble_eq_true_of_le hz]
  exact compGo_eq p g hc hf
theorem compM_all {f : α → Option β} (g : α → β) {xs : List α} (hz : xs.length ≤ 16777216) (hf : ∀ x ∈ xs, f x = some (g x)) : compM (fun _ => some true) f xs = some (xs.map g) := by
  rw [compM_eq (fun _ => true) g hz (fun _ _ => rfl) fun x hx _ => hf x hx]
  congr 2
  exact List.filter_eq_self.mpr fun _ _ => rfl
theorem extM_eq {xs ys : List α} (h : xs.length + ys.length ≤ 16777216) : extM xs ys = some (xs ++ ys) := by
  unfold extM
  rw [Nat.ble_eq_true_of_le h]
  rfl
theorem pushM_eq {xs : List α} {a : α} (h : xs.length < 16777216) : pushM xs a = some (xs ++ [a]) := by
  unfold pushM
  rw [show Nat.blt xs.length 16777216 = true by rw [Nat.blt_eq]; exact h]
  rfl
/-- a loop that gathers -/
theorem loopN_flat {f : α → List β → Option (List β)} (g : α → List β) : ∀ {xs : List α} {s0 : List β}, (∀ x ∈ xs, ∀ s : List β, s.length + (g x).length ≤ s0.length + (xs.flatMap g).length → f x s = some (s ++ g x)) → loopN f xs s0 = some (s0 ++ xs.flatMap g)
  | [], s0, _ => by rw [List.flatMap_nil, List.append_nil]; rfl
  | x :: xs, s0, h => by
    show ((f x s0).bind fun s' => loopN f xs s') = _
    rw [h x (List.mem_cons_self ..) s0 (by rw [List.flatMap_cons, List.length_append]; omega)]
    show loopN f xs (s0 ++ g x) = _
    rw [loopN_flat g (s0 := s0 ++ g x) fun y hy s hs => h y (List.mem_cons_of_mem _ hy) s (by rw [List.flatMap_cons, List.length_append]; rw [List.length_append] at hs; omega), List.flatMap_cons, List.append_assoc]
/-- the first that passes -/
theorem loopR_find {f : α → Unit → Option (Out Unit β)} (p : α → Bool) (g : α → β) : ∀ {xs : List α}, (∀ x ∈ xs, f x () = some (cond (p x) (.rt (g x)) (.nx ()))) → loopR f xs () = some (match xs.find? p with | some x => .rt (g x) | none => .nx ())
  | [], _ => rfl
  | x :: xs, h => by
    show ((f x ()).bind fun o => o.fin (fun s' => loopR f xs s') fun b => some (.rt b)) = _
    rw [h x (List.mem_cons_self ..)]
    cases k : p x with
    | true => rw [List.find?_cons_of_pos k]; rfl
    | false =>
      rw [List.find?_cons_of_neg (by rw [k]; decide)]
      exact loopR_find p g fun y hy => h y (List.mem_cons_of_mem _ hy)
theorem atT_nat {xs : List α} {k : Nat} {x : α} (h : xs[k]? = some x) : atT xs (k : Int) = some x := L2.atI_nat h
theorem enumI_get {xs : List α} {k : Int} {x : α} (h : (k, x) ∈ enumI xs) : ∃ n : Nat, k = n ∧ xs[n]? = some x := by
  unfold enumI at h
  obtain ⟨i, hi⟩ := List.getElem?_of_mem h
  rw [List.getElem?_mapIdx] at hi
  obtain ⟨a, e1, e2⟩ := Option.map_eq_some_iff.mp hi
  cases e2
  exact ⟨i, rfl, e1⟩
theorem enumI_len {xs : List α} : (enumI xs).length = xs.length := by unfold enumI; rw [List.length_mapIdx]
end

theorem wo_eq {α : Type} {t : Option α} {a : α} {Q : α → Prop} (h : t = some a) (q : Q a) : wo t Q := ⟨a, h, q⟩
theorem eq_wo {α : Type} {t : Option α} {a : α} (h : wo t fun b => b = a) : t = some a := by obtain ⟨b, e, rfl⟩ := h; exact e
theorem atT_last {α : Type} {v : List α} {x : α} : atT (v ++ [x]) (-1) = some x := by
  unfold atT L2.atI L2.ixN
  have hl : (v ++ [x]).length = v.length + 1 := by rw [List.length_append]; rfl
  rw [hl, if_neg (by decide), if_pos (by omega)]
  show (v ++ [x])[(-1 + ((v.length + 1 : Nat) : Int)).toNat]? = _
  rw [show (-1 + ((v.length + 1 : Nat) : Int)).toNat = v.length by omega]
  exact List.getElem?_concat_length
theorem flat_count {α β : Type} {f : α → List β} {p : α → Bool} {B : Nat} : ∀ {l : List α}, (∀ a ∈ l, (f a).length ≤ cond (p a) B 0) → (l.flatMap f).length ≤ l.countP p * B
  | [], _ => Nat.zero_le _
  | a :: l, h => by
    have h1 := h a (List.mem_cons_self ..)
    have h2 := flat_count (l := l) fun b hb => h b (List.mem_cons_of_mem _ hb)
    rw [List.flatMap_cons, List.length_append, List.countP_cons]
    cases k : p a with
    | true => rw [k] at h1; simp only [cond_true] at h1; simp only [if_true]; rw [Nat.succ_mul]; omega
    | false => rw [k] at h1; simp only [cond_false] at h1; simp only [Bool.false_eq_true, if_false]; rw [Nat.add_zero]; omega
theorem countP_split {α : Type} {p q r : α → Bool} : ∀ {l : List α}, (∀ a ∈ l, p a = true → r a = true ∧ q a = false) → (∀ a ∈ l, q a = true → r a = true) → l.countP p + l.countP q ≤ l.countP r
  | [], _, _ => Nat.le_refl _
  | a :: l, h1, h2 => by
    have ih := countP_split (l := l) (fun b hb => h1 b (List.mem_cons_of_mem _ hb)) fun b hb => h2 b (List.mem_cons_of_mem _ hb)
    have a1 := h1 a (List.mem_cons_self ..)
    have a2 := h2 a (List.mem_cons_self ..)
    rw [List.countP_cons, List.countP_cons, List.countP_cons]
    cases hp : p a <;> cases hq : q a <;> cases hr : r a <;> simp_all <;> omega
theorem enumI_snd {α : Type} {xs : List α} : (enumI xs).map (·.2) = xs := by
  unfold enumI
  refine List.ext_getElem? fun i => ?_
  rw [List.getElem?_map, List.getElem?_mapIdx]
  cases xs[i]? <;> rfl
theorem countP_enum {α : Type} {p : α → Bool} {xs : List α} : (enumI xs).countP (fun a => p a.2) = xs.countP p := by
  have : xs.countP p = ((enumI xs).map (·.2)).countP p := by rw [enumI_snd]
  rw [this, List.countP_map]
  rfl
theorem filter_flat {α β γ : Type} (p : α → Bool) (g : α → γ) (G : γ → List β) : ∀ l : List α, (((l.filter p).map g).flatMap G) = l.flatMap fun a => cond (p a) (G (g a)) []
  | [] => rfl
  | a :: l => by
    rw [List.flatMap_cons]
    cases k : p a with
    | true => rw [List.filter_cons_of_pos k, List.map_cons, List.flatMap_cons, filter_flat p g G l]; rfl
    | false => rw [List.filter_cons_of_neg (by rw [k]; decide), filter_flat p g G l]; rfl
end TM

set_option Elab.async false
set_option linter.all false
set_option maxRecDepth 100000
set_option maxHeartbeats 4000000
namespace MS
open PySem PySem.Spec PyProof.Rows L2

theorem star_Constant {c k p es} {env : Env} : starEach (.Constant c k p :: es) env = (false, eval (.Constant c k p) env) :: starEach es env := rfl
theorem star_Name {c p es} {env : Env} : starEach (.Name c p :: es) env = (false, eval (.Name c p) env) :: starEach es env := rfl
theorem star_Tuple {c k p es} {env : Env} : starEach (.Tuple c k p :: es) env = (false, eval (.Tuple c k p) env) :: starEach es env := rfl
theorem star_List {c p es} {env : Env} : starEach (.List c p :: es) env = (false, eval (.List c p) env) :: starEach es env := rfl
theorem star_Dict {c k p es} {env : Env} : starEach (.Dict c k p :: es) env = (false, eval (.Dict c k p) env) :: starEach es env := rfl
theorem star_BinOp {a b c p es} {env : Env} : starEach (.BinOp a b c p :: es) env = (false, eval (.BinOp a b c p) env) :: starEach es env := rfl
theorem star_UnaryOp {a b p es} {env : Env} : starEach (.UnaryOp a b p :: es) env = (false, eval (.UnaryOp a b p) env) :: starEach es env := rfl
theorem star_Call {a b c p es} {env : Env} : starEach (.Call a b c p :: es) env = (false, eval (.Call a b c p) env) :: starEach es env := rfl
theorem star_Subscript {a b p es} {env : Env} : starEach (.Subscript a b p :: es) env = (false, eval (.Subscript a b p) env) :: starEach es env := rfl
theorem star_Compare {a b c p es} {env : Env} : starEach (.Compare a b c p :: es) env = (false, eval (.Compare a b c p) env) :: starEach es env := rfl
theorem star_BoolOp {a b p es} {env : Env} : starEach (.BoolOp a b p :: es) env = (false, eval (.BoolOp a b p) env) :: starEach es env := rfl
theorem star_IfExp {a b c p es} {env : Env} : starEach (.IfExp a b c p :: es) env = (false, eval (.IfExp a b c p) env) :: starEach es env := rfl
theorem star_ListComp {a b c p es} {env : Env} : starEach (.ListComp a b c p :: es) env = (false, eval (.ListComp a b c p) env) :: starEach es env := rfl
theorem star_Attribute {a b p es} {env : Env} : starEach (.Attribute a b p :: es) env = (false, eval (.Attribute a b p) env) :: starEach es env := rfl
theorem star_DictComp {a b c d p es} {env : Env} : starEach (.DictComp a b c d p :: es) env = (false, eval (.DictComp a b c d p) env) :: starEach es env := rfl
/-! ### a def that may raise: its result is told by a tag -/
def mOk (m : MExp) : MExp := fun ρ S => (m ρ S).bind fun p => some (.tup [p.1], p.2)
def mEx (c f : Str) (m : MExp) : MExp := fun ρ S => (m ρ S).bind fun p => some (.ins 0 [c, f] [p.1], p.2)
section
variable (K : PySem.W.Frag) (mg : Str → Option Value)
/-- what is wanted behind a result -/
def RetX (Q : VK) (E : XK) (d : D) (H : Hp) (μ : Mu) : Prop :=
  (∀ d0, d = .tup [d0] → ∀ v, Rp K H μ v d0 → Q v H) ∧
  (∀ n c, d = .ins n [c] [] → ∀ C, mg c = some (.ref C) → E (.ref C) none H) ∧
  (∀ n c f d0, d = .ins n [c, f] [d0] → ∀ C dd v, mg c = some (.ref C) → H dd = some (.xd [(f, v)]) → Rp K H μ v d0 → E (.ref C) (some dd) H)
def EndX (W : WX) (D_ : Ends) : Fl → L2.St → Hp → Mu → Prop
  | .nx, σ, H, _ => D_.nx σ H
  | .bk, σ, H, _ => D_.bk σ H
  | .ct, σ, H, _ => D_.ct σ H
  | .rt d, σ, H, μ => RetX K mg D_.rt (fun c dd H' => W c dd σ H') d H μ
def tSX (W : WX) (m : MStm) : TS := fun D_ σ H => ∃ ρ S μ f ρ' S', Sim K H μ σ ρ S ∧ m ρ S = some (f, ρ', S') ∧ ∀ σ' H' μ', Grow H H' μ μ' → Sim K H' μ' σ' ρ' S' → EndX K mg W D_ f σ' H' μ'
def tEX (W : WX) (m : MExp) : TE := fun σ H Q => ∃ ρ S μ d S', Sim K H μ σ ρ S ∧ m ρ S = some (d, S') ∧ ∀ H' μ', Grow H H' μ μ' → StR K H' μ' S' → RetX K mg Q (fun c dd H' => W c dd σ H') d H' μ'
end
structure MSX (X : Cx) (st : Stmt) (m : MStm) : Prop where
  ps : ∀ W, Takes X W → PS X st (tSX X.K X.mg W m)
structure MSXs (X : Cx) (st : List Stmt) (m : MStm) : Prop where
  pss : ∀ W, Takes X W → PSs X st (tSX X.K X.mg W m)
structure MEX (X : Cx) (e : Expr) (m : MExp) : Prop where
  pe : ∀ W, Takes X W → PE X e (tEX X.K X.mg W m)
def NoRt (m : MStm) : Prop := ∀ ρ S d ρ' S', m ρ S ≠ some (.rt d, ρ', S')
theorem nr_asg {m : MExp} {g : MTg} : NoRt (mAsg m g) := fun ρ S d ρ' S' e => by
  obtain ⟨_, _, e⟩ := Option.bind_eq_some_iff.mp e
  obtain ⟨_, _, e⟩ := Option.bind_eq_some_iff.mp e
  cases e
theorem nr_drop {m : MExp} : NoRt (mDrop m) := fun ρ S d ρ' S' e => by
  obtain ⟨_, _, e⟩ := Option.bind_eq_some_iff.mp e
  cases e
theorem nr_par {i j : Nat} {m : MArg} : NoRt (mPar i j m) := fun ρ S d ρ' S' e => by
  obtain ⟨_, _, e⟩ := Option.bind_eq_some_iff.mp e
  split at e <;> cases e
theorem nr_aug {i : Nat} {f : DOp2} {m : MExp} : NoRt (mAug i f m) := fun ρ S d ρ' S' e => by
  unfold mAug at e
  split at e
  · obtain ⟨_, _, e⟩ := Option.bind_eq_some_iff.mp e
    obtain ⟨_, _, e⟩ := Option.bind_eq_some_iff.mp e
    cases e
  · cases e
section
variable {X : Cx} {st : Stmt} {rest : List Stmt} {m m' : MStm} {e : Expr} {me : MExp} {pos : Pos}
theorem msx_of (h : MS_ X st m) (nr : NoRt m) : MSX X st m := ⟨fun W tk => PS.imp h.ps fun D σ H ⟨ρ, S, μ, f, ρ', S', s, e, q⟩ => ⟨ρ, S, μ, f, ρ', S', s, e, fun σ' H' μ' g sm => by
  have := q σ' H' μ' g sm
  cases f with
  | rt d => exact absurd e (nr _ _ _ _ _)
  | nx => exact this
  | bk => exact this
  | ct => exact this⟩⟩
theorem msxs_nil : MSXs X [] mNx := ⟨fun W tk => PSs.imp pss_nil fun D σ H ⟨ρ, S, μ, f, ρ', S', s, e, q⟩ => by cases e; exact q σ H μ .refl s⟩
theorem msxs_cons (h : MSX X st m) (k : MSXs X rest m') : MSXs X (st :: rest) (mSeq m m') := ⟨fun W tk => PSs.imp (pss_cons (h.ps W tk) (k.pss W tk)) fun D σ H ⟨ρ, S, μ, f, ρ', S', s, e, q⟩ => by
  obtain ⟨⟨f1, ρ1, S1⟩, e1, e⟩ := Option.bind_eq_some_iff.mp e
  refine ⟨ρ, S, μ, f1, ρ1, S1, s, e1, fun σ1 H1 μ1 g1 s1 => ?_⟩
  cases f1 with
  | nx => exact ⟨ρ1, S1, μ1, f, ρ', S', s1, e, fun σ2 H2 μ2 g2 s2 => q σ2 H2 μ2 (g1.trans g2) s2⟩
  | bk => cases e; exact q σ1 H1 μ1 g1 s1
  | ct => cases e; exact q σ1 H1 μ1 g1 s1
  | rt d => cases e; exact q σ1 H1 μ1 g1 s1⟩
theorem msxs_one (h : MSX X st m) : MSXs X [st] m := ⟨fun W tk => pss_one (h.ps W tk)⟩
theorem msx_ret (h : ME X e me) : MSX X (.Return (some e) pos) (mRet (mOk me)) := ⟨fun W tk => PS.imp (ps_ret h.pe) fun D σ H ⟨ρ, S, μ, f, ρ', S', s, e, q⟩ => by
  obtain ⟨⟨d, S1⟩, e1, e⟩ := Option.bind_eq_some_iff.mp e
  obtain ⟨⟨d0, S0⟩, e0, e1⟩ := Option.bind_eq_some_iff.mp e1
  cases e1
  cases e
  exact ⟨ρ, S, μ, d0, _, s, e0, fun v H1 μ1 g1 s1 r1 => (q σ H1 μ1 g1 (s.grow g1 s1)).1 _ rfl v r1⟩⟩
/-- return e, e may raise -/
theorem msx_retX (h : MEX X e me) : MSX X (.Return (some e) pos) (mRet me) := ⟨fun W tk => PS.imp (ps_ret (h.pe W tk)) fun D σ H ⟨ρ, S, μ, f, ρ', S', s, e, q⟩ => by
  obtain ⟨⟨d, S1⟩, e1, e⟩ := Option.bind_eq_some_iff.mp e
  cases e
  exact ⟨ρ, S, μ, d, _, s, e1, fun H1 μ1 g1 s1 => q σ H1 μ1 g1 (s.grow g1 s1)⟩⟩
theorem msx_if {c : Expr} {a b : List Stmt} {t : MTst} (hc : MT X c t) (ha : MSXs X a m) (hb : MSXs X b m') : MSX X (.If c a b pos) (mIfS t m m') := ⟨fun W tk => PS.imp (ps_if hc.pt (ha.pss W tk) (hb.pss W tk)) fun D σ H ⟨ρ, S, μ, f, ρ', S', s, e, q⟩ => by
  obtain ⟨⟨k, S1⟩, e1, e⟩ := Option.bind_eq_some_iff.mp e
  refine ⟨ρ, S, μ, k, S1, s, e1, fun H1 μ1 g1 s1 => ?_⟩
  have q' : ∀ σ' H' μ', Grow H1 H' μ1 μ' → Sim X.K H' μ' σ' ρ' S' → EndX X.K X.mg W D f σ' H' μ' := fun σ2 H2 μ2 g2 s2 => q σ2 H2 μ2 (g1.trans g2) s2
  cases k with
  | true => exact iteT ⟨ρ, S1, μ1, f, ρ', S', s.grow g1 s1, e, q'⟩
  | false => exact iteF ⟨ρ, S1, μ1, f, ρ', S', s.grow g1 s1, e, q'⟩⟩
end
section
variable {X : Cx} {tg iter : Expr} {body : List Stmt} {i : MItr} {g : MTg} {b : MStm} {pos : Pos}
theorem tSX_for {K : PySem.W.Frag} {mg : Str → Option Value} {W : WX} {D_ : Ends} {σ : L2.St} {H : Hp} (h : tSX K mg W (mFor i g b) D_ σ H) : tFor (tI K i) (tG K g) (tSX K mg W b) D_ σ H := by
  obtain ⟨ρ, S, μ, f, ρ', S', st, e, q⟩ := h
  obtain ⟨⟨⟨ds, ok⟩, S1⟩, e1, e⟩ := Option.bind_eq_some_iff.mp e
  refine ⟨ρ, S, μ, (ds, ok), S1, st, e1, fun J H0 μ0 g0 s0 hJ => ?_⟩
  refine ⟨fun i m σ H => m = ds.length - i ∧ i ≤ ds.length ∧ ∃ ρ S μ, Sim K H μ σ ρ S ∧ Grow H0 H μ0 μ ∧ forL ok g b (ds.drop i) ρ S = some (f, ρ', S'), ⟨ds.length, by omega, by omega, ρ, S1, μ0, st.grow g0 s0, .refl, e⟩, ?_⟩
  rintro i m σ1 H1 ⟨rfl, hi, ρ1, S2, μ1, st1, g1, e2⟩
  by_cases hlt : i < ds.length
  · rw [List.drop_eq_getElem_cons hlt] at e2
    unfold forL at e2
    split at e2
    · rename_i hok
      obtain ⟨⟨ρ3, S3⟩, e3, e2⟩ := Option.bind_eq_some_iff.mp e2
      obtain ⟨⟨f4, ρ4, S4⟩, e4, e2⟩ := Option.bind_eq_some_iff.mp e2
      refine .inr ⟨hJ.go i H1 μ1 S2 g1 st1.st hok hlt, fun σ' H' => ∃ ρ S μ, Sim K H' μ σ' ρ S ∧ Grow H0 H' μ0 μ ∧ forL ok g b (ds.drop (i + 1)) ρ S = some (f, ρ', S'), fun σ' H' hN => ?_, fun x H' y => ?_⟩
      · exact ⟨ds.length - (i + 1), by omega, rfl, hlt, hN⟩
      · obtain ⟨g2, s2, r2⟩ := hJ.yld i H1 μ1 S2 x H' g1 st1.st hok y ds[i] (List.getElem?_eq_getElem hlt)
        refine ⟨ds[i], ρ1, S2, μ1, ρ3, S3, st1.grow g2 s2, r2, e3, fun σ3 H3 μ3 g3 st3 => ?_⟩
        refine ⟨ρ3, S3, μ3, f4, ρ4, S4, st3, e4, fun σ4 H4 μ4 g4 st4 => ?_⟩
        have gg : Grow H0 H4 μ0 μ4 := ((g1.trans g2).trans g3).trans g4
        cases f4 with
        | nx => exact ⟨ρ4, S4, μ4, st4, gg, e2⟩
        | ct => exact ⟨ρ4, S4, μ4, st4, gg, e2⟩
        | bk => cases e2; exact q σ4 H4 μ4 (g0.trans gg) st4
        | rt d => cases e2; exact q σ4 H4 μ4 (g0.trans gg) st4
    · cases e2
  · have ei : i = ds.length := by omega
    subst ei
    rw [List.drop_length] at e2
    unfold forL at e2
    split at e2
    · rename_i hok
      cases e2
      exact .inl ⟨hJ.stop H1 μ1 _ g1 st1.st hok, q σ1 H1 μ1 (g0.trans g1) st1⟩
    · cases e2
theorem msx_for (hp : PassesOwn (model X.prog X.w) X.A X.env X.xe) (hc : X.calm = true) (hi : MI X tg iter i) (hg : MG X tg g) (hb : MSXs X body b) (hs : ∀ x, foldedSetIterable iter X.env x = pure x := by intro _; rfl) : MSX X (.For tg iter body [] pos) (mFor i g b) :=
  ⟨fun W tk => PS.imp (ps_for hp hc hi.pi hg.pg (hb.pss W tk) hs) fun _ _ _ h => tSX_for h⟩
end
/-! ### raise C(e), C's __init__ keeps e in a field -/
/-- the promise of __init__(self, f): self.f = f -/
def spInit (C : Addr) (f : Str) : Sp := fun vs H Q _ => ∃ (a : Addr) (v : V), vs = [.ref a, v] ∧ H a = some (exo a C none) ∧ ∀ dx, H dx = none → dx ≠ a → Q .non (upd (upd H dx (exd dx [(f, v)])) a (exo a C (some dx)))
structure EC (P : Program) (w : World) (K : PySem.W.Frag) (mg : Str → Option Value) (base : Heap) (x f : Str) (C fI : Addr) (fd : FuncData) : Prop where
  T : OexC K C
  gC : mg x = some (.ref C)
  iC : PySem.W.findIn K (.ref C) "__init__" = some (some (.ref fI))
  tI : PySem.W.typeIn K (.ref fI) = some (.type "function")
  F1 : FnOk P w K mg base CX0 1 fI fd ["self", f] (spInit C f)
  b : Binds K fd ["self", f] []
theorem init_ok {P : Program} {w : World} {K : PySem.W.Frag} {mg : Str → Option Value} {base : Heap} {C fI : Addr} {fd : FuncData} {f qual : Str} {st : Stmt} {p1 p2 p3 p4 : Pos} (T : OexC K C) (no : PySem.W.findIn K (.ref C) f = some none) (F : Fun K "__init__" qual st fI fd)
    (sc : FnScope ["self", f] ["self", f] (defScope st)) (hb : defBody st = [.Assign [.Attribute (.Name "self" p1) f p2] (.Name f p3) p4])
    (hv : (defScope st).names.lookup f = some NameKind.local) (hdf : (f == ("__debug__" : Str)) = false) (hcd : (f == ("__classdict__" : Str)) = false) (hs : (defScope st).names.lookup ("self" : Str) = some NameKind.local)
    (hsw : ∀ env : Env, swapsWith (.Name f p3) (some (.Attribute (.Name "self" p1) f p2)) p4.line env = pure false) : FnOk P w K mg base CX0 1 fI fd ["self", f] (spInit C f) := by
  refine F.ok sc (fun vs H Q E h => ?_) fun cdv A outer s H vs Q E hr h => ⟨tOst K f (tVar 0) (tVar 1), ?_, ?_⟩
  · obtain ⟨a, v, rfl, _⟩ := h
    rfl
  · rw [hb]
    exact pss_one (ps_ost (pe_var (i := 0) rfl (.inl hs)) (pe_var (i := 1) rfl (.inl hv) hdf hcd) (hsw _))
  · obtain ⟨a, v, rfl, h1, h2⟩ := h
    exact ⟨v, rfl, .ref a, rfl, a, C, rfl, T, no, .inl ⟨h1, fun dx n ne => h2 dx n ne⟩⟩
theorem upd_del {H : Hp} {a d : Addr} {o o1 o2 u : HO} (h : H a = none) (hd : d ≠ a) : upd (del (upd (upd (upd H a o) d o1) a o2) a) d u = upd H d u := by
  funext b
  by_cases hb : b = d
  · subst hb; rw [upd_same, upd_same]
  · rw [upd_ne hb, upd_ne hb]
    by_cases ha : b = a
    · subst ha; rw [del_same, h]
    · rw [del_ne ha, upd_ne ha, upd_ne hb, upd_ne ha]
section
variable {X : Cx} {x f : Str} {C fI : Addr} {fd : FuncData} {e : Expr} {m : MExp} {p pos pos2 : Pos} {k : Nat}
theorem msx_raise (G : EC X.prog X.w X.K X.mg X.base x f C fI fd) (hc : X.calm = true) (hr : Room 2 X.A) (hg : Gl X x) (ha : ME X e m)
    (hdb : (x == ("__debug__" : Str)) = false := by decide) (he : starEach (e :: []) X.env = (false, eval e X.env) :: starEach [] X.env := by rfl) (hpl : (backTo pos (starEach [] X.env)).any (·.1) = false := by rfl) :
    MSX X (.Raise (some (.Call (.Name x p) [e] [] pos)) none pos2) (mRet (mEx x f m)) := ⟨fun W tk => by
  refine PS.imp (ps_raise hc tk (pmk_oex (ds := []) (dvs := []) G.T G.iC G.tI G.F1 hr G.b .nil pass0 hg G.gC (pa_cons ha.pe pa_nil he) hdb he hpl)) fun D σ H ⟨ρ, S, μ, f', ρ', S', s, e, q⟩ => ?_
  obtain ⟨⟨d, S1⟩, e1, e⟩ := Option.bind_eq_some_iff.mp e
  obtain ⟨⟨d0, S0⟩, e0, e1⟩ := Option.bind_eq_some_iff.mp e1
  cases e1
  cases e
  refine ⟨ρ, S, μ, d0, _, s, e0, fun v H1 μ1 g1 s1 r1 => ⟨by show 1 ≤ 1000; decide, fun a na => ⟨a, v, rfl, upd_same, fun dx nd ne => ?_⟩⟩⟩
  have nd1 : H1 dx = none := by rw [upd_ne ne] at nd; exact nd
  refine ⟨rfl, dx, [(f, v)], upd_same, by rw [upd_ne ne, upd_same], nd1, ?_⟩
  rw [upd_del na ne]
  have g2 := Grow.new (μ := μ1) (o := .xd [(f, v)]) nd1
  exact (q σ _ μ1 (g1.trans g2) ((s.grow g1 s1).grow g2 (s1.new nd1))).2.2 _ _ _ _ rfl C dx v G.gC upd_same (r1.grow g2)⟩
end
end MS

set_option Elab.async false
set_option linter.all false
set_option maxRecDepth 100000
set_option maxHeartbeats 4000000
namespace MS
open PySem PySem.Spec PyProof.Rows L2
section
variable {P : Program} {w : World} {K : PySem.W.Frag} {mg : Str → Option Value} {base : Heap}
/-- as FnG, for a def that may raise: F tells results by tags -/
structure FnX (P : Program) (w : World) (K : PySem.W.Frag) (mg : Str → Option Value) (base : Heap) (k : Nat) (f : Addr) (fd : FuncData) (ps : List Str) (F : DCall) : Prop where
  run : ∀ (A : Around) (outer : List Env) (s : Shared) (H : Hp) (args : Args) (us : List Value) (vs : List V) (Q : VK) (E : XK) (S : Store) (μ : Mu) (ds : List D) (d : D) (S' : Store), Room k A → A.guards = some [] → Env0 P w K mg base A outer s H →
    BindsTo s fd args (ps.zip us) → Vals vs us → vs.length = ps.length → StR K H μ S → RpA K H μ vs ds → F ds S = some (d, S') → (∀ H' μ', Grow H H' μ μ' → StR K H' μ' S' → RetX K mg Q E d H' μ') → codeAny (model P w) A (.call (.ref f) args) (CR (L2.CX P w) outer P w H s Q E) s
theorem FnX.mono {j k : Nat} {f : Addr} {fd : FuncData} {ps : List Str} {F : DCall} (h : FnX P w K mg base j f fd ps F) (l : j ≤ k) : FnX P w K mg base k f fd ps F :=
  ⟨fun A outer s H args us vs Q E S μ ds d S' hr => h.run A outer s H args us vs Q E S μ ds d S' (hr.mono l)⟩
/-- the context of a def that may raise -/
abbrev bodyXX (P : Program) (w : World) (K : PySem.W.Frag) (mg : Str → Option Value) (base : Heap) (N : List Str) (qual : Str) (st : Stmt) (f : Addr) (cdv : Value) (A : Around) (outer : List Env) (s : Shared) (H : Hp) (E : XK) : Cx := cxOf (L2.CX P w) P w K mg base N qual (defScope st) f cdv A outer s H E
/-- as den, a def without a return's value is told by its tag -/
def denX (np n : Nat) (m : MStm) : DCall := fun ds S => if ds.length = np then (match m (startD n ds) S with
  | some (.rt d, _, S') => some (d, S')
  | some (.nx, _, S') => some (.tup [.non], S')
  | _ => none) else none
theorem denX_len {np n : Nat} {m : MStm} {ds : List D} {S : Store} {r : D × Store} (e : denX np n m ds S = some r) : ds.length = np := by
  unfold denX at e
  split at e
  · assumption
  · cases e
theorem passesXX {P : Program} {w : World} {K : PySem.W.Frag} {mg : Str → Option Value} {base : Heap} {N : List Str} {qual : Str} {st : Stmt} {f : Addr} {cdv : Value} {A : Around} {outer : List Env} {s : Shared} {H : Hp} {E : XK} :
    PassesOwn (model (bodyXX P w K mg base N qual st f cdv A outer s H E).prog (bodyXX P w K mg base N qual st f cdv A outer s H E).w) (bodyXX P w K mg base N qual st f cdv A outer s H E).A (bodyXX P w K mg base N qual st f cdv A outer s H E).env (bodyXX P w K mg base N qual st f cdv A outer s H E).xe := passes_of rfl
theorem fnX_of {x qual : Str} {st : Stmt} {f : Addr} {fd : FuncData} {N ps : List Str} {k np : Nat} {m : MStm} {F : DCall} (hF : F = denX np N.length m) (fn : Fun K x qual st f fd) (sc : FnScope N ps (defScope st))
    (hbody : ∀ (cdv : Value) (A : Around) (outer : List Env) (s : Shared) (H : Hp) (E : XK), let X := bodyXX P w K mg base N qual st f cdv A outer s H E; Room k X.A → X.A.guards = some [] → MSXs X (defBody st) m) : FnX P w K mg base (k + 1) f fd ps F := by
  subst hF
  obtain ⟨oc, od, kV, doc, pm, an, cdv, ct, osl, rfl, lk, hcd⟩ := fn.ex
  refine ⟨fun A outer s H args us vs Q E S μ ds d S' hr hg he hb hv hl st' ra e q => ?_⟩
  have KX : K.In s.heap := he.mod.kin.keeps fun b o z => (he.bs b o z).1
  have kinds : ∀ y ∈ ps.zip us, (defScope st).names.lookup y.1 = some .local ∨ ((defScope st).names.lookup y.1 = some .cell ∧ ((cellsFrom (s.heap.objs.size + 1) (defScope st).names []).lookup y.1).isSome = true) := by
    rintro ⟨y, z⟩ hy
    rcases sc.par y (List.of_mem_zip hy).1 with c | c
    · exact .inl c
    · exact .inr ⟨c, PySem.W.cellsFrom_some _ _ _ (.inl c)⟩
  refine codeAny_call_function hr.depth (KX _ _ lk) rfl sc.co sc.gen rfl (PySem.W.codeRec_of KX hcd) (hb _ _ _ _ (wpAny_newFunctionEnv_cells sc.kind kinds fun env he' s1 ic => ?_))
  subst he'
  refine ⟨(he.mod.nolimit.keeps fun b o z => (he.bs b o z).1).keeps ic.toInCall.keep, codeAny_func ?_⟩
  have hm := hbody cdv A outer s H E (hr.deeper _) (by show (A.deeper _).guards = some []; exact hg)
  unfold denX at e
  split at e
  · have I0 : Inv (bodyXX P w K mg base N qual st f cdv A outer s H E) [] (L2.start N vs) H s1 := inv_start sc hr.hd he hl hv ic
    have rd : tSX K mg (fun cls d _ H => E cls d H) m { nx := fun _ H' => Q .non H', rt := Q } (L2.start N vs) H := by
      split at e
      · rename_i h1
        cases e
        exact ⟨_, S, μ, _, _, S', sim_start st' ra, h1, fun σ' H' μ' g sm => q H' μ' g sm.st⟩
      · rename_i h1
        cases e
        exact ⟨_, S, μ, _, _, S', sim_start st' ra, h1, fun σ' H' μ' g sm => (q H' μ' g sm.st).1 _ rfl _ .non⟩
      · cases e
    have tk : Takes (bodyXX P w K mg base N qual st f cdv A outer s H E) (fun cls d _ H => E cls d H) := takes_of rfl rfl rfl rfl
    refine wpAny_mono ((hm.pss _ tk).run [] s1 (L2.start N vs) H _ I0 rd) (fun fl s' hs => ?_) fun e s' hs => hs
    have done : ∀ {σ' : L2.St} {H' : Hp} {v : V} {u : Value}, Inv (bodyXX P w K mg base N qual st f cdv A outer s H E) [] σ' H' s' → RelV v u → Q v H' → CE outer P w H s Q u s' :=
      fun J rv z => ⟨_, _, J.os, J.bare, J.base, J.hok, rv, z⟩
    cases fl with
    | ret u => obtain ⟨v, σ', H', J, rv, z⟩ := hs; exact done J rv z
    | next => obtain ⟨σ', H', J, z⟩ := hs; exact done (v := .non) (u := .none) J rfl z
    | brk => obtain ⟨_, _, _, z⟩ := hs; exact z.elim
    | cont => obtain ⟨_, _, _, z⟩ := hs; exact z.elim
  · cases e
end
section
variable {X : Cx} {k : Nat} {f : Addr} {fd : FuncData} {ps : List Str} {F : DCall} {x : Str} {p pos : Pos} {e : Expr} {es : List Expr} {m : MArg} {W : WX}
theorem run_fnX {pins : List (Addr × Obj)} {σ : L2.St} {H : Hp} {s : Shared} {Q : VK} {us : List Value} {vs : List V} {S : Store} {μ : Mu} {ds : List D} {d : D} {S' : Store} (G : FnX X.prog X.w X.K X.mg X.base k f fd ps F) (hr : Room k X.A) (hgd : X.A.guards = some []) (hb : Binds X.K fd ps [])
    (hlen : ∀ ds S r, F ds S = some r → ds.length = ps.length) (tk : Takes X W) (I : Inv X pins σ H s) (r : Vals vs us) (st : StR X.K H μ S) (ra : RpA X.K H μ vs ds) (e : F ds S = some (d, S'))
    (q : ∀ H' μ', Grow H H' μ μ' → StR X.K H' μ' S' → RetX X.K X.mg Q (fun c dd H' => W c dd σ H') d H' μ') : wpAny (model X.prog X.w) X.A (call (.ref f) us) (EP X pins σ Q) X.xe s := by
  have hl : vs.length = ps.length := by rw [ra.length]; exact hlen _ _ _ e
  have hb' : BindsTo s fd ⟨us, []⟩ (ps.zip us) := by
    have := hb s us I.kIn (by rw [List.append_nil, ← r.length]; exact hl)
    rwa [List.append_nil] at this
  refine wpAny_call (codeAny_mono (G.run X.A X.stack s H ⟨us, []⟩ us vs Q (WE W σ) S μ ds d S' hr hgd I.env0 hb' r hl st ra e q) fun res s' hq => ?_)
  cases res with
  | error e => exact passAt tk σ pins H s e s' I hq
  | ok fl =>
    cases fl with
    | ret u => exact I.after hq
    | next => exact False.elim hq
    | brk => exact False.elim hq
    | cont => exact False.elim hq
theorem mex_call (G : FnX X.prog X.w X.K X.mg X.base k f fd ps F) (hr : Room k X.A) (hgd : X.A.guards = some []) (hg : Gl X x) (hm : X.mg x = some (.ref f)) (hk : PySem.W.keepIn X.K (.ref f) = true) (hb : Binds X.K fd ps [])
    (hlen : ∀ ds S r, F ds S = some r → ds.length = ps.length) (ha : MA X (e :: es) m) (hdb : (x == ("__debug__" : Str)) = false := by decide) (he : starEach (e :: es) X.env = (false, eval e X.env) :: starEach es X.env := by rfl)
    (hpl : (backTo pos (starEach es X.env)).any (·.1) = false := by rfl) : MEX X (.Call (.Name x p) (e :: es) [] pos) (mCall F m) := by
  refine ⟨fun W tk => ⟨fun pins s σ H Q I h => ?_⟩⟩
  obtain ⟨ρ, S, μ, d, S', st, e0, q⟩ := h
  obtain ⟨⟨ds, S1⟩, e1, e2⟩ := Option.bind_eq_some_iff.mp e0
  refine wpAny_Call_Name_kw (ld_glob I hg hm (PySem.W.callWith_K (h₀ := X.base) I.ok.mod.kin hk (thn (ha.pa.run pos pins s σ H (fun vs H1 => ∃ μ1, Grow H H1 μ μ1 ∧ StR X.K H1 μ1 S1 ∧ RpA X.K H1 μ1 vs ds) I ⟨ρ, S, μ, ds, S1, st, e1, fun vs H1 μ1 g1 s1 r1 => ⟨μ1, g1, s1, r1⟩⟩) fun us s1 h1 => ?_) he hpl) hdb)
  obtain ⟨vs, H1, I1, r, μ1, g1, st1, r1⟩ := h1
  exact ⟨I1.kIn, run_fnX G hr hgd hb hlen tk I1 r st1 r1 e2 fun H' μ' g s' => q H' μ' (g1.trans g) s'⟩
end
/-- [x, e] where e may raise -/
def mToldX (x : Str) (m : MExp) : MExp := fun ρ S => (m ρ S).bind fun p => match p.1 with
  | .tup [d] => some (.tup [.lst [.str x, d]], p.2)
  | d => some (d, p.2)
/-- e, which may raise, as a statement -/
def mDropX (m : MExp) : MStm := fun ρ S => (m ρ S).bind fun p => match p.1 with
  | .tup [_] => some (.nx, ρ, p.2)
  | d => some (.rt d, ρ, p.2)
def mSetX (i : Nat) (m : MExp) : MStm := fun ρ S => (m ρ S).bind fun p => match p.1 with
  | .tup [d] => some (.nx, ρ.set i (some d), p.2)
  | d => some (.rt d, ρ, p.2)
theorem told_some {x : Str} {d d' : D} {S S' : Store} (e : (match (d, S).1 with
  | .tup [d] => some (D.tup [.lst [.str x, d]], (d, S).2)
  | d => some (d, S)) = some (d', S')) : S' = S ∧ (∀ d0, d = .tup [d0] → d' = .tup [.lst [.str x, d0]]) ∧ (∀ n ks es, d = .ins n ks es → d' = d) := by
  split at e
  · rename_i d0 h
    cases e
    have h : d = .tup [d0] := h
    exact ⟨rfl, fun d1 h1 => by rw [h] at h1; cases h1; rfl, fun n ks es h1 => by rw [h] at h1; cases h1⟩
  · rename_i h
    cases e
    exact ⟨rfl, fun d1 h1 => absurd h1 (h d1), fun _ _ _ _ => rfl⟩
theorem drop_some {d : D} {ρ : Ev} {S : Store} {f : Fl} {ρ' : Ev} {S' : Store} (e : (match (d, S).1 with
  | .tup [_] => some (Fl.nx, ρ, (d, S).2)
  | d => some (.rt d, ρ, S)) = some (f, ρ', S')) : S' = S ∧ ρ' = ρ ∧ (∀ d0, d = .tup [d0] → f = .nx) ∧ (∀ n ks es, d = .ins n ks es → f = .rt d) := by
  split at e
  · rename_i d0 h
    cases e
    have h : d = .tup [d0] := h
    exact ⟨rfl, rfl, fun d1 h1 => rfl, fun n ks es h1 => by rw [h] at h1; cases h1⟩
  · rename_i h
    cases e
    exact ⟨rfl, rfl, fun d1 h1 => absurd h1 (h d1), fun _ _ _ _ => rfl⟩
theorem set_some {d : D} {ρ : Ev} {S : Store} {f : Fl} {ρ' : Ev} {S' : Store} {i : Nat} (e : (match (d, S).1 with
  | .tup [d0] => some (Fl.nx, ρ.set i (some d0), (d, S).2)
  | d => some (.rt d, ρ, S)) = some (f, ρ', S')) : S' = S ∧ (∀ d0, d = .tup [d0] → f = .nx ∧ ρ' = ρ.set i (some d0)) ∧ (∀ n ks es, d = .ins n ks es → f = .rt d ∧ ρ' = ρ) := by
  split at e
  · rename_i d0 h
    cases e
    have h : d = .tup [d0] := h
    exact ⟨rfl, fun d1 h1 => by rw [h] at h1; cases h1; exact ⟨rfl, rfl⟩, fun n ks es h1 => by rw [h] at h1; cases h1⟩
  · rename_i h
    cases e
    exact ⟨rfl, fun d1 h1 => absurd h1 (h d1), fun _ _ _ _ => ⟨rfl, rfl⟩⟩
section
variable {X : Cx} {e : Expr} {m : MExp} {pos pos' : Pos}
theorem mex_told {x : Str} {j : Nat} {p : Pos} (h : MEX X e m) (hs : starEach [.Constant (.str x) j p, e] X.env = (false, eval (.Constant (.str x) j p) X.env) :: starEach [e] X.env := by rfl) (hs2 : starEach [e] X.env = (false, eval e X.env) :: starEach [] X.env := by rfl) : MEX X (.List [.Constant (.str x) j p, e] pos) (mToldX x m) :=
  ⟨fun W tk => PE.imp (pe_lst (pa_cons pe_str (pa_cons (h.pe W tk) pa_nil hs2) hs)) fun σ H Q ⟨ρ, S, μ, d', S', st, e0, q⟩ => by
    obtain ⟨⟨d, S1⟩, e1, e2⟩ := Option.bind_eq_some_iff.mp e0
    obtain ⟨rfl, z1, z2⟩ := told_some e2
    refine ⟨ρ, S, μ, d, _, st, e1, fun H1 μ1 g1 s1 => ⟨fun d0 hd v rv => ?_, fun n c hd => ?_, fun n c f d0 hd => ?_⟩⟩
    · have z := z1 d0 hd
      subst z
      exact ⟨by show 2 ≤ sizeLine; decide, fun p hp => Aft.lstV (ds := [.str x, d0]) (vs := [.str x, v]) (fun v' H' μ' g2 s2 r2 => (q H' μ' (g1.trans g2) s2).1 _ rfl v' r2) s1 (.cons (.str x) (.cons rv .nil)) hp⟩
    · have z := z2 n _ _ hd
      rw [z] at q
      exact (q H1 μ1 g1 s1).2.1 n c hd
    · have z := z2 n _ _ hd
      rw [z] at q
      exact (q H1 μ1 g1 s1).2.2 n c f d0 hd⟩
theorem msx_dropX (h : MEX X e m) (hs : swapsWith e none pos.line X.env = pure false := by rfl) : MSX X (.Expr e pos) (mDropX m) := ⟨fun W tk => PS.imp (ps_expr (h.pe W tk) hs) fun D σ H ⟨ρ, S, μ, f, ρ', S', st, e0, q⟩ => by
  obtain ⟨⟨d, S1⟩, e1, e2⟩ := Option.bind_eq_some_iff.mp e0
  obtain ⟨rfl, rfl, z1, z2⟩ := drop_some e2
  refine ⟨_, S, μ, d, _, st, e1, fun H1 μ1 g1 s1 => ⟨fun d0 hd v rv => ?_, fun n c hd => ?_, fun n c f d0 hd => ?_⟩⟩
  · rw [z1 d0 hd] at q
    exact q σ H1 μ1 g1 (st.grow g1 s1)
  · rw [z2 n _ _ hd] at q
    exact (q σ H1 μ1 g1 (st.grow g1 s1)).2.1 n c hd
  · rw [z2 n _ _ hd] at q
    exact (q σ H1 μ1 g1 (st.grow g1 s1)).2.2 n c f d0 hd⟩
theorem msx_setX {i : Nat} {x : Str} (hN : X.N.Nodup) (hi : X.N[i]? = some x) (hx : Loc X.env.scope x) (h : MEX X e m) (hs : swapsWith e (some (.Name x pos')) pos.line X.env = pure false := by rfl)
    (hf : X.fn x = true ∨ X.env.scope.names.lookup x = some .local := by first | exact .inl rfl | exact .inr rfl | assumption) : MSX X (.Assign [.Name x pos'] e pos) (mSetX i m) := ⟨fun W tk => PS.imp (ps_set hN hi hx (h.pe W tk) hs hf) fun D σ H ⟨ρ, S, μ, f, ρ', S', st, e0, q⟩ => by
  obtain ⟨⟨d, S1⟩, e1, e2⟩ := Option.bind_eq_some_iff.mp e0
  obtain ⟨rfl, z1, z2⟩ := set_some e2
  refine ⟨_, S, μ, d, _, st, e1, fun H1 μ1 g1 s1 => ⟨fun d0 hd v rv => ?_, fun n c hd => ?_, fun n c f d0 hd => ?_⟩⟩
  · obtain ⟨y1, y2⟩ := z1 d0 hd
    subst y1; subst y2
    exact q _ H1 μ1 g1 ((st.grow g1 s1).set i rv)
  · obtain ⟨y1, y2⟩ := z2 n _ _ hd
    subst y1; subst y2
    exact (q σ H1 μ1 g1 (st.grow g1 s1)).2.1 n c hd
  · obtain ⟨y1, y2⟩ := z2 n _ _ hd
    subst y1; subst y2
    exact (q σ H1 μ1 g1 (st.grow g1 s1)).2.2 n c f d0 hd⟩
end
end MS

set_option Elab.async false
set_option linter.all false
set_option maxRecDepth 100000
set_option maxHeartbeats 4000000
namespace MS
open PySem PySem.Spec PyProof.Rows L2
theorem _root_.PySem.W.isCls_of_has {K : PySem.W.Frag} {C : Addr} (h : PySem.W.hasDictIn K C = true) : (PySem.W.clsIn K C).isSome = true := by
  obtain ⟨cd, hc, _⟩ := PySem.W.any_some h
  rw [hc]; rfl
theorem kit_of {K : PySem.W.Frag} {C : Addr} {T : String} (h : PySem.W.subIn K (.ref C) (.type T) = some true) (hm : PySem.W.kitMeta T = true) : PySem.W.kitOne K (.ref C) (.type T) = some true := by
  unfold PySem.W.kitOne PySem.W.kitCls
  rw [if_neg (by intro z; have := eq_of_beq z; cases this)]
  show (if PySem.W.kitMeta T = true then PySem.W.subIn K (.ref C) (.type T) else none) = _
  rw [if_pos hm]; exact h
/-! ### try: body / except C as e: return .. -/
/-- what the written part says of the class at C, whose instances have the field f -/
structure EF (K : PySem.W.Frag) (C : Addr) (f : Str) : Prop where
  cl : (PySem.W.clsIn K C).isSome = true
  ga : PySem.W.findIn K (.ref C) "__getattribute__" = some (some (.builtin "BaseException.__getattribute__"))
  gg : PySem.W.findIn K (.ref C) "__getattr__" = some none
  exC : PySem.W.subIn K (.ref C) (.type "BaseException") = some true
  hdC : PySem.W.hasDictIn K C = true
  ha : PySem.W.findIn K (.ref C) "__class__" = some (some (.builtin "object.__class__"))
  hn : PySem.W.specialIn K (.builtin "object.__class__") "__get__" = some (some (.builtin "getset_descriptor.__get__"))
  ht : PySem.W.takesIn K (.builtin "object.__class__") = some true
  hm : PySem.W.mroIn K C (.type "object") = some true
  no : PySem.W.findIn K (.ref C) f = some none
theorem EF.xf {K : PySem.W.Frag} {C : Addr} {f : Str} (h : EF K C f) : XfC K C := ⟨h.ga, h.gg, h.exC, h.hdC⟩
/-- isinstance(e, c), e the caught exception, which has its dict -/
def rIsX (K : PySem.W.Frag) (D a : Addr) (d : Option Addr) : List V → Hp → VK → Prop := fun xs H Q => ∃ (c : V) (cv : Value) (b : Bool) (dd : Addr) (fs : List (Str × V)), xs = [.ref a, c] ∧ (∀ u, RelV c u → u = cv) ∧ PySem.W.kitOne K (.ref D) cv = some b ∧ d = some dd ∧ H dd = some (.xd fs) ∧ Q (.bl b) H
theorem call_isX {X : Cx} {a D : Addr} {oe : Obj} {pn : List (Addr × Obj)} {f : Str} {d : Option Addr} (C : EF X.K D f) (hz : Zc (.ref D) d oe) (hf : ∃ vs, oe.data = .fields vs) : CallR (X.suite a ((a, oe) :: pn)) (.builtin "isinstance") (rIsX X.K D a d) := by
  intro pins s σ H xs us Q I r h
  obtain ⟨c, cv, b, dd, fs, rfl, hcv, e, ed, hdd, q⟩ := h
  cases r with
  | cons rx rr =>
    cases rr with
    | cons rt rr =>
      cases rr
      cases rx
      have ec := hcv _ rt
      subst ec
      subst ed
      obtain ⟨hget, _⟩ := I.pin (a, oe) (List.mem_append.mpr (.inl List.mem_cons_self))
      obtain ⟨vs, hv⟩ := hf
      have hx : ObjOk X.prog X.w H s.heap dd (.xd fs) := I.hok dd _ hdd
      obtain ⟨mA, hns, hr⟩ := hx
      obtain ⟨od, ho, hl⟩ := lookIn_ns hns
      have J : PySem.W.InstAt s.heap a oe D (some od) := ⟨hget, hz.1, by unfold PySem.W.notCls; rw [hv] <;> rfl, by rw [hz.2]; exact ho⟩
      exact PySem.W.kia_one (PySem.W.kitx_exc C.cl C.ga C.gg C.exC C.ha C.hn C.ht C.hm) I.kIn J e (fun z => nomatch z) fun tk => ⟨.bl b, H, I.kept (t' := tk) fun _ _ z => z, rfl, q⟩
/-- what an exception carries -/
def XdR (K : PySem.W.Frag) (H : Hp) (μ : Mu) (d : Option Addr) (fs : List (Str × D)) : Prop :=
  (d = none ∧ fs = []) ∨ ∃ (dd : Addr) (f : Str) (v : V) (d0 : D), d = some dd ∧ fs = [(f, d0)] ∧ H dd = some (.xd [(f, v)]) ∧ Rp K H μ v d0
def tSuE (K : PySem.W.Frag) (C a : Addr) (i : Nat) (cls : Value) (d : Option Addr) (h : List (Str × D) → Option D) : TE := fun σ H Q =>
  ∃ (fs : List (Str × D)) (S : Store) (μ : Mu) (d' : D), cls = .ref C ∧ σ[i]? = some (some (.ref a)) ∧ XdR K H μ d fs ∧ StR K H μ S ∧ h fs = some d' ∧ Aft K H μ d' S Q
def tSu (K : PySem.W.Frag) (C a : Addr) (i : Nat) (cls : Value) (d : Option Addr) (h : List (Str × D) → Option D) : TS := fun D_ σ H => tSuE K C a i cls d h σ H D_.rt
/-- the suite of a clause gives back what h says of the exception's fields -/
def SuOk (X : Cx) (C : Addr) (i : Nat) (suite : List Stmt) (h : List (Str × D) → Option D) : Prop :=
  ∀ (a : Addr) (oe : Obj) (cls : Value) (d : Option Addr) (pn : List (Addr × Obj)), Zc cls d oe → (∃ vs, oe.data = .fields vs) → PSs (X.suite a ((a, oe) :: pn)) suite (tSu X.K C a i cls d h)
def SuE (X : Cx) (C : Addr) (i : Nat) (e : Expr) (h : List (Str × D) → Option D) : Prop :=
  ∀ (a : Addr) (oe : Obj) (cls : Value) (d : Option Addr) (pn : List (Addr × Obj)), Zc cls d oe → (∃ vs, oe.data = .fields vs) → PE (X.suite a ((a, oe) :: pn)) e (tSuE X.K C a i cls d h)
section
variable {X : Cx} {C : Addr} {i : Nat} {e : Expr} {h : List (Str × D) → Option D} {pos : Pos}
theorem su_ret (he : SuE X C i e h) : SuOk X C i [.Return (some e) pos] h := fun a oe cls d pn hz hf => pss_one (PSs_of (ps_ret (he a oe cls d pn hz hf)))
where
  PSs_of {Y : Cx} {st : Stmt} {t : TS} (h : PS Y st t) : PS Y st t := h
/-- a constant text, number, .. -/
theorem sue_c {v : V} {d0 : D} (hc : ∀ Y : Cx, PE Y e (tC v)) (r : ∀ K H μ, Rp K H μ v d0) : SuE X C i e fun _ => some d0 := fun a oe cls d pn hz hf =>
  PE.imp (hc _) fun σ H Q ⟨fs, S, μ, d', e1, e2, x, s, e3, q⟩ => by cases e3; exact q v H μ .refl s (r _ _ _)
/-- [x] -/
theorem sue_one {x : Str} {j : Nat} {p : Pos} (hs : ∀ Y : Cx, starEach [.Constant (.str x) j p] Y.env = (false, eval (.Constant (.str x) j p) Y.env) :: starEach [] Y.env) : SuE X C i (.List [.Constant (.str x) j p] pos) fun _ => some (.lst [.str x]) := fun a oe cls d pn hz hf =>
  PE.imp (pe_lst (pa_cons pe_str pa_nil (hs _))) fun σ H Q ⟨fs, S, μ, d', e1, e2, xx, s, e3, q⟩ => by
    cases e3
    exact ⟨by show 1 ≤ sizeLine; decide, fun p hp => Aft.lstV (vs := [.str x]) q s (.cons (.str x) .nil) hp⟩
/-- [x, e.f] -/
theorem sue_fld {x f n : Str} {j : Nat} {p p1 p2 : Pos} (F : EF X.K C f) (hi : X.N[i]? = some n) (hl : X.env.scope.names.lookup n = some .local) (hd : (n == ("__debug__" : Str)) = false := by decide) (hcd : (n == ("__classdict__" : Str)) = false := by decide)
    (hs : starEach [.Constant (.str x) j p, .Attribute (.Name n p1) f p2] X.env = (false, eval (.Constant (.str x) j p) X.env) :: starEach [.Attribute (.Name n p1) f p2] X.env := by rfl) (hs2 : starEach [.Attribute (.Name n p1) f p2] X.env = (false, eval (.Attribute (.Name n p1) f p2) X.env) :: starEach [] X.env := by rfl)
    (hb : attributeBase (.Name n p1) f X.env (eval (.Name n p1) X.env) = eval (.Name n p1) X.env := by rfl) :
    SuE X C i (.List [.Constant (.str x) j p, .Attribute (.Name n p1) f p2] pos) fun fs => (fs.lookup f).map fun d => .lst [.str x, d] := fun a oe cls d pn hz hf =>
  PE.imp (pe_lst (pa_cons pe_str (pa_cons (pe_xf (X := X) F.xf F.no hz hf (pe_var (i := i) hi (.inl hl) hd hcd) hb) pa_nil hs2) hs)) fun σ H Q ⟨fs, S, μ, d', e1, e2, xx, s, e3, q⟩ => by
    subst e1
    obtain ⟨d0, e4, rfl⟩ := Option.map_eq_some_iff.mp e3
    rcases xx with ⟨rfl, rfl⟩ | ⟨dd, f', v, d1, rfl, rfl, hx, rv⟩
    · cases e4
    · refine ⟨.ref a, e2, rfl, rfl, dd, [(f', v)], v, rfl, hx, ?_, ?_⟩
      · by_cases hff : f = f'
        · subst hff; simp [List.lookup]
        · have : (f == f') = false := by simpa using hff
          simp [List.lookup, this] at e4
      · have : d0 = d1 := by
          by_cases hff : f = f'
          · subst hff; simp [List.lookup] at e4; exact e4.symm
          · have : (f == f') = false := by simpa using hff
            simp [List.lookup, this] at e4
        subst this
        exact ⟨by show 2 ≤ sizeLine; decide, fun p hp => Aft.lstV (vs := [.str x, v]) q s (.cons (.str x) (.cons rv .nil)) hp⟩
/-- A if isinstance(e, T) else B, which holds -/
theorem sue_is {n y : Str} {T : String} {f : Str} {ea eb : Expr} {p1 p2 p3 p4 p5 : Pos} (F : EF X.K C f) (hk : PySem.W.kitOne X.K (.ref C) (.type T) = some true) (hi : X.N[i]? = some n) (hl : X.env.scope.names.lookup n = some .local)
    (hg : Gl X "isinstance") (hm : X.mg "isinstance" = none) (hgT : Gl X y) (hmT : X.mg y = none) (hv : bootBuiltins y = some (.type T)) (ha : SuE X C i ea h) (hb : ∀ Y : Cx, ∃ t, PE Y eb t)
    (hd : (n == ("__debug__" : Str)) = false := by decide) (hcd : (n == ("__classdict__" : Str)) = false := by decide) (hdy : (y == ("__debug__" : Str)) = false := by decide) (hny : y ≠ "__name__" := by decide)
    (hs : starEach [.Name n p1, .Name y p2] X.env = (false, eval (.Name n p1) X.env) :: starEach [.Name y p2] X.env := by rfl) (hs2 : starEach [.Name y p2] X.env = [(false, eval (.Name y p2) X.env)] := by rfl) (hpl : (backTo p3 (starEach [.Name y p2] X.env)).any (·.1) = false := by rfl) :
    SuE X C i (.IfExp (.Call (.Name "isinstance" p4) [.Name n p1, .Name y p2] [] p3) ea eb p5) fun fs => if fs = [] then none else h fs := fun a oe cls d pn hz hf => by
  obtain ⟨tb, hb⟩ := hb (X.suite a ((a, oe) :: pn))
  by_cases hc : cls = .ref C
  · subst hc
    refine PE.imp (pe_ifExp (pt_val (pe_callB (call_isX (X := X) F hz hf) hg hm boot_isi (pa_cons (pe_var (i := i) hi (.inl hl) hd hcd) (pa_cons (pe_bltn (v := .ty T) hgT hmT hv rfl (hn := hny) (hd := hdy)) pa_nil hs2) hs) (by decide) (by decide) hs hpl)) (ha a oe _ d pn hz hf) hb) fun σ H Q ⟨fs, S, μ, d', e1, e2, xx, s, e3, q⟩ => ?_
    have e3 : (if fs = [] then none else h fs) = some d' := e3
    rcases id xx with ⟨rfl, rfl⟩ | ⟨dd, f', v, d1, ed, efs, hx, rv⟩
    · cases e3
    · rw [if_neg (by rw [efs]; simp)] at e3
      exact ⟨.ref a, e2, .ty T, .type T, true, dd, [(f', v)], rfl, fun u hu => hu, hk, ed, hx, true, rfl, iteT ⟨fs, S, μ, d', rfl, e2, xx, s, e3, q⟩⟩
  · exact ⟨fun pins s σ H Q I ⟨fs, S, μ, d', e1, _⟩ => absurd e1 hc⟩
end
/-! ### the statement -/
def mTry (mb : MStm) (c : Str) (i : Nat) (h : List (Str × D) → Option D) : MStm := fun ρ S => (mb ρ S).bind fun p => match p.1 with
  | .rt (.tup [d]) => some (.rt d, p.2.1, p.2.2)
  | .rt (.ins _ [c'] []) => if c' = c ∧ i < p.2.1.length then (h []).map fun d => (.rt d, p.2.1, p.2.2) else none
  | .rt (.ins _ [c', f] [d]) => if c' = c ∧ i < p.2.1.length then (h [(f, d)]).map fun d => (.rt d, p.2.1, p.2.2) else none
  | .rt _ => none
  | f => some (f, p.2.1, p.2.2)
section
variable {X : Cx} {C : Addr} {i : Nat} {x n : Str} {body suite : List Stmt} {b₀ : Stmt} {np pos pos' : Pos} {mb : MStm} {h : List (Str × D) → Option D}
def mTryO (mb : MStm) (c : Str) (d0 : D) : MStm := fun ρ S => (mb ρ S).bind fun p => match p.1 with
  | .rt (.tup [d]) => some (.rt d, p.2.1, p.2.2)
  | .rt (.ins _ [c'] []) => if c' = c then some (.rt d0, p.2.1, p.2.2) else none
  | .rt (.ins _ [c', _] [_]) => if c' = c then some (.rt d0, p.2.1, p.2.2) else none
  | .rt _ => none
  | f => some (f, p.2.1, p.2.2)
theorem mTry_wAs {K : PySem.W.Frag} {mg : Str → Option Value} {D_ : Ends} {σ : L2.St} {H : Hp} (gC : mg x = some (.ref C)) (hx : PySem.W.exmOne K (.ref C) (.ref C) = some true) (q : tS K (mTry mb x i h) D_ σ H) :
    tSX K mg (wAs K (.ref C) i (fun a cls d => tSu K C a i cls d h) (fun _ _ _ _ => False) D_) mb D_ σ H := by
  obtain ⟨ρ, S, μ, f, ρ', S', st, e, q⟩ := q
  obtain ⟨⟨f1, ρ1, S1⟩, e1, e⟩ := Option.bind_eq_some_iff.mp e
  refine ⟨ρ, S, μ, f1, ρ1, S1, st, e1, fun σ1 H1 μ1 g1 s1 => ?_⟩
  dsimp only at e
  cases f1 with
  | nx => cases e; exact q σ1 H1 μ1 g1 s1
  | bk => cases e; exact q σ1 H1 μ1 g1 s1
  | ct => cases e; exact q σ1 H1 μ1 g1 s1
  | rt d =>
    refine ⟨fun d0 hd v rv => ?_, fun m c hd C' hc => ?_, fun m c f0 d0 hd C' dd v hc hdd rv => ?_⟩
    · subst hd
      cases e
      exact q σ1 H1 μ1 g1 s1 v rv
    · subst hd
      have e5 : (if c = x ∧ i < ρ1.length then (h []).map fun d => (Fl.rt d, ρ1, S1) else none) = some (f, ρ', S') := e
      split at e5
      · rename_i hcx
        obtain ⟨hcx, hl1⟩ := hcx
        rw [s1.len] at hl1
        subst hcx
        rw [gC] at hc
        cases hc
        obtain ⟨d', e2, e6⟩ := Option.map_eq_some_iff.mp e5
        cases e6
        exact ⟨true, hx, fun _ a na => ⟨[], _, μ1, d', rfl, List.getElem?_set_self hl1, .inl ⟨rfl, rfl⟩, s1.st, e2, fun v' H2 μ2 g2 s2 r2 => q _ H2 μ2 (g1.trans g2) (s1.grow g2 s2) v' r2⟩, fun z => nomatch z⟩
      · cases e5
    · subst hd
      have e5 : (if c = x ∧ i < ρ1.length then (h [(f0, d0)]).map fun d => (Fl.rt d, ρ1, S1) else none) = some (f, ρ', S') := e
      split at e5
      · rename_i hcx
        obtain ⟨hcx, hl1⟩ := hcx
        rw [s1.len] at hl1
        subst hcx
        rw [gC] at hc
        cases hc
        obtain ⟨d', e2, e6⟩ := Option.map_eq_some_iff.mp e5
        cases e6
        exact ⟨true, hx, fun _ a na => ⟨[(f0, d0)], _, μ1, d', rfl, List.getElem?_set_self hl1, .inr ⟨dd, f0, v, d0, rfl, rfl, hdd, rv⟩, s1.st, e2, fun v' H2 μ2 g2 s2 r2 => q _ H2 μ2 (g1.trans g2) (s1.grow g2 s2) v' r2⟩, fun z => nomatch z⟩
      · cases e5
theorem ms_try_as1 (hs : X.stack = X.env :: X.outer) (hf : X.env.frame = some X.env.locals) (hN : X.N.Nodup) (hi : X.N[i]? = some n) (hln : X.env.kindOf n = some .local) (hg : Gl X x) (gC : X.mg x = some (.ref C)) (hx : PySem.W.exmOne X.K (.ref C) (.ref C) = some true)
    (hb : ∀ (pn : List (Addr × Obj)) (xe : Value → Shared → Prop), PassesOwn (model X.prog X.w) X.A X.env xe → MSXs (X.tr pn xe) body mb) (hsu : SuOk X C i (b₀ :: suite) h) (hd : (x == ("__debug__" : Str)) = false := by decide) :
    MS_ X (.Try body [.ExceptHandler (some (.Name x np)) (some n) (b₀ :: suite) pos'] [] [] pos) (mTry mb x i h) :=
  ⟨PS.imp (ps_try_as (i := i) (tb := fun W => tSX X.K X.mg W mb) (ts := fun a cls d => tSu X.K C a i cls d h) (Wout := fun _ _ _ _ => False) hs hf hN hi hln ⟨hg, hd, .inl gC⟩ takes0 (fun W pn xe tk hp => (hb pn xe hp).pss W tk) (fun a oe cls d pn hz hfv => hsu a oe cls d pn hz hfv)) fun D_ σ H q => mTry_wAs gC hx q⟩
/-- except C: without a name -/
theorem ms_try_only1 (hs : X.stack = X.env :: X.outer) (hf : X.env.frame = some X.env.locals) (hg : Gl X x) (gC : X.mg x = some (.ref C)) (hx : PySem.W.exmOne X.K (.ref C) (.ref C) = some true)
    (hb : ∀ (pn : List (Addr × Obj)) (xe : Value → Shared → Prop), PassesOwn (model X.prog X.w) X.A X.env xe → MSXs (X.tr pn xe) body mb) {e : Expr} {rp : Pos} {v : V} {d0 : D} (hc : ∀ Y : Cx, PE Y e (tC v)) (r : ∀ K H μ, Rp K H μ v d0) (hd : (x == ("__debug__" : Str)) = false := by decide) :
    MS_ X (.Try body [.ExceptHandler (some (.Name x np)) none [.Return (some e) rp] pos'] [] [] pos) (mTryO mb x d0) :=
  ⟨PS.imp (ps_try_only (tb := fun W => tSX X.K X.mg W mb) (ts := fun a cls d => tRet (tC v)) (Wout := fun _ _ _ _ => False) hs hf ⟨hg, hd, .inl gC⟩ takes0 (fun W pn xe tk hp => (hb pn xe hp).pss W tk) (fun a oe cls d pn hz hfv => pss_one (ps_ret (hc _)))) fun D_ σ H q => by
    obtain ⟨ρ, S, μ, f, ρ', S', st, e, q⟩ := q
    obtain ⟨⟨f1, ρ1, S1⟩, e1, e⟩ := Option.bind_eq_some_iff.mp e
    refine ⟨ρ, S, μ, f1, ρ1, S1, st, e1, fun σ1 H1 μ1 g1 s1 => ?_⟩
    dsimp only at e
    cases f1 with
    | nx => cases e; exact q σ1 H1 μ1 g1 s1
    | bk => cases e; exact q σ1 H1 μ1 g1 s1
    | ct => cases e; exact q σ1 H1 μ1 g1 s1
    | rt d =>
      refine ⟨fun d0 hd v rv => ?_, fun m c hd C' hc => ?_, fun m c f0 d0 hd C' dd v hc hdd rv => ?_⟩
      · subst hd
        cases e
        exact q σ1 H1 μ1 g1 s1 v rv
      · subst hd
        have e5 : (if c = x then some (Fl.rt d0, ρ1, S1) else none) = some (f, ρ', S') := e
        split at e5
        · rename_i hcx
          subst hcx
          rw [gC] at hc
          cases hc
          cases e5
          exact ⟨true, hx, fun _ a na => q _ H1 μ1 g1 s1 _ (r _ _ _), fun z => nomatch z⟩
        · cases e5
      · subst hd
        have e5 : (if c = x then some (Fl.rt _, ρ1, S1) else none) = some (f, ρ', S') := e
        split at e5
        · rename_i hcx
          subst hcx
          rw [gC] at hc
          cases hc
          cases e5
          exact ⟨true, hx, fun _ a na => q _ H1 μ1 g1 s1 _ (r _ _ _), fun z => nomatch z⟩
        · cases e5⟩
end
end MS

set_option Elab.async false
set_option linter.all false
set_option maxRecDepth 100000
set_option maxHeartbeats 4000000
namespace MS
open PySem PySem.Spec PyProof.Rows L2
/-! ### repr of data in which an empty dict may stand -/
def toPyX (S : Store) : Nat → D → Option PyData
  | 0, _ => none
  | _ + 1, .non => some .none
  | _ + 1, .bl b => some (.bool b)
  | _ + 1, .int i => some (.int i)
  | _ + 1, .str x => some (.str x)
  | n + 1, .tup ds => (ds.mapM (toPyX S n)).map .tuple
  | n + 1, .lr k => (lat S k).bind fun ds => (ds.mapM (toPyX S n)).map .list
  | n + 1, .lst ds => (ds.mapM (toPyX S n)).map .list
  | n + 1, .fl ds => (ds.mapM (toPyX S n)).map .list
  | _ + 1, .dk [] [] => some (.dict [])
  | _ + 1, _ => none
/-- what the machine's repr says of a value -/
structure RxOk (P : Program) (w : World) (h : Heap) (u : Value) (p : PyData) : Prop where
  rd : ∃ as, Reads h u p as
  rk : ∃ bs, ReadAtMost h p.depth bs ∧ ReprK P w bs h p.depth u p.shown
  top : ∀ a, u = .ref a → ∃ T idr, ShowsBy P w h a p T idr
structure RxAll (P : Program) (w : World) (h : Heap) (us : List Value) (ps : List PyData) : Prop where
  rd : ∃ as, ReadsAll h us ps as
  rk : ∃ bs, ReadAtMost h (PyData.depthAll ps) bs ∧ ReprAllK P w bs h (PyData.depthAll ps) us (PyData.shownAll ps)
section
variable {P : Program} {w : World} {h : Heap}
theorem RxAll.nil_ : RxAll P w h [] [] := ⟨⟨_, .nil⟩, [], (fun _ z => nomatch z), .nil⟩
theorem RxAll.cons_ {u : Value} {us : List Value} {p : PyData} {ps : List PyData} (a : RxOk P w h u p) (b : RxAll P w h us ps) : RxAll P w h (u :: us) (p :: ps) := by
  obtain ⟨as, r1⟩ := a.rd
  obtain ⟨cs, r2⟩ := b.rd
  obtain ⟨b1, m1, k1⟩ := a.rk
  obtain ⟨b2, m2, k2⟩ := b.rk
  refine ⟨⟨_, .cons r1 r2⟩, b1 ++ b2, fun c hc => ?_, ?_⟩
  · rcases List.mem_append.mp hc with z | z
    · exact (m1.mono (m := PyData.depthAll (p :: ps)) (by simp only [PyData.depthAll]; omega)) c z
    · exact (m2.mono (m := PyData.depthAll (p :: ps)) (by simp only [PyData.depthAll]; omega)) c z
  · show ReprAllK P w _ h _ _ (p.shown :: PyData.shownAll ps)
    refine .cons ((k1.more fun c z => List.mem_append_left _ z).level_le (by simp only [PyData.depthAll]; omega)) (k2.more_le (fun c z => List.mem_append_right _ z) (by simp only [PyData.depthAll]; omega))
theorem rx_list {a : Addr} {o : Obj} {its : List Value} {n : Nat} {ps : List PyData} (h1 : h.get? a = some o) (h2 : o.cls = .type "list") (h3 : o.data = .seq its.toArray n) (A : RxAll P w h its ps) (hz : (PyData.shown (.list ps)).length ≤ sizeLine) : RxOk P w h (.ref a) (.list ps) := by
  obtain ⟨as, r⟩ := A.rd
  obtain ⟨bs, hb, hk⟩ := A.rk
  have R : Reads h (.ref a) (.list ps) (a :: as) := .list h1 h2 h3 (by simpa using r)
  have na : a ∉ bs := not_mem_of_deeper R (by simp only [PyData.depth]; omega) hb
  have hz' : (listText (PyData.shownAll ps)).length ≤ sizeLine := by simpa only [PyData.shown] using hz
  refine ⟨⟨_, R⟩, ⟨a :: bs, ReadAtMost.cons R (by simp only [PyData.depth]; omega) hb, ?_⟩, fun b eb => ?_⟩
  · simp only [PyData.depth, PyData.shown]
    cases its with
    | nil => cases r; simp only [PyData.shownAll, listText_nil]; exact ReprK.listEmpty h1 h2 h3
    | cons x l => exact ReprK.list h1 h2 h3 na (by simpa using hk.length_eq) (fun i y e => hk.item i y (by simpa using e))
  · cases eb
    refine ⟨"list", "list.__repr__", F.slot_list_repr.toG, F.slot_list_str, F.slot_list_format, fun t k => ⟨o, k _ _ h1, h2⟩, fun A E t Q hg hu k hQ => ?_⟩
    simp only [PyData.depth] at hu
    simp only [PyData.shown] at hQ
    cases its with
    | nil =>
      cases r
      simp only [PyData.shownAll, listText_nil] at hQ
      exact call_list_repr_empty ⟨o, k _ _ h1, h2⟩ (k _ _ h1) h3 (hQ t.heap _ _ fun _ _ z => z)
    | cons x l => exact call_list_reprK h1 h2 h3 na (by simpa using hk.length_eq) (fun i y e => hk.item i y (by simpa using e)) hg (fun b _ => Clear.nil b) hu k hQ hz'
theorem rx_tuple {a : Addr} {o : Obj} {its : List Value} {n : Nat} {ps : List PyData} (h1 : h.get? a = some o) (h2 : o.cls = .type "tuple") (h3 : o.data = .seq its.toArray n) (A : RxAll P w h its ps) (hz : (PyData.shown (.tuple ps)).length ≤ sizeLine) : RxOk P w h (.ref a) (.tuple ps) := by
  obtain ⟨as, r⟩ := A.rd
  obtain ⟨bs, hb, hk⟩ := A.rk
  have R : Reads h (.ref a) (.tuple ps) as := .tuple h1 h2 h3 (by simpa using r)
  have na : a ∉ bs := not_mem_of_deeper R (by simp only [PyData.depth]; omega) hb
  have hz' : (tupleText (PyData.shownAll ps)).length ≤ sizeLine := by simpa only [PyData.shown] using hz
  refine ⟨⟨_, R⟩, ⟨a :: bs, ReadAtMost.cons R (by simp only [PyData.depth]; omega) hb, ?_⟩, fun b eb => ?_⟩
  · simp only [PyData.depth, PyData.shown]
    exact ReprK.tuple h1 h2 h3 na (by simpa using hk)
  · cases eb
    refine ⟨"tuple", "tuple.__repr__", F.slot_tuple_repr, F.slot_tuple_str, F.slot_tuple_format, fun t k => ⟨o, k _ _ h1, h2⟩, fun A E t Q hg hu k hQ => ?_⟩
    simp only [PyData.depth] at hu
    simp only [PyData.shown] at hQ
    exact call_tuple_reprK h1 h2 h3 na (by simpa using hk) hg (fun b _ => Clear.nil b) hu k hQ hz'
theorem rx_dict {a : Addr} {o : Obj} {n : Nat} (h1 : h.get? a = some o) (h2 : o.cls = .type "dict") (h3 : o.data = .dict #[] n) (hs : (a == sysModules) = false) : RxOk P w h (.ref a) (.dict []) := by
  have R : Reads h (.ref a) (.dict []) (a :: [] ++ []) := .dict (kvs := []) h1 h2 h3 .nil .nil
  have sh : PyData.shown (.dict []) = dictText [] := by simp only [PyData.shown, PyData.shownKv]
  have dp : PyData.depth (.dict []) = 0 + 1 := by simp only [PyData.depth, PyData.depthKv]
  refine ⟨⟨_, R⟩, ⟨[a], fun b hb => ?_, ?_⟩, fun b eb => ?_⟩
  · rw [List.mem_singleton.mp hb]
    exact ⟨_, _, R, Nat.le_refl _⟩
  · rw [sh, dp]
    exact ReprK.dict (as := []) h1 h2 h3 hs (fun z => nomatch z) .nil
  · cases eb
    refine ⟨"dict", "dict.__repr__", F.slot_dict_repr, F.slot_dict_str, F.slot_dict_format, fun t k => ⟨o, k _ _ h1, h2⟩, fun A E t Q hg hu k hQ => ?_⟩
    rw [dp] at hu
    rw [sh] at hQ
    exact call_dict_reprK (as := []) h1 h2 h3 hs (fun z => nomatch z) .nil hg (fun b _ => Clear.nil b) hu k hQ (by decide +kernel)
end
section
variable {X : Cx} {pins : List (Addr × Obj)} {σ : L2.St} {H : Hp} {s : Shared} {μ : Mu} {S : Store}
theorem rxAll_of {n : Nat} (ih : ∀ (d : D) (v : V) (u : Value) (p : PyData), toPyX S n d = some p → Rp X.K H μ v d → RelV v u → p.showable = true → p.shown.length ≤ sizeLine → RxOk X.prog X.w s.heap u p) :
    ∀ (ds : List D) (vs : List V) (us : List Value) (ps : List PyData), ds.mapM (toPyX S n) = some ps → RpA X.K H μ vs ds → Vals vs us → PyData.showableAll ps = true → (∀ t ∈ PyData.shownAll ps, t.length ≤ sizeLine) → RxAll X.prog X.w s.heap us ps
  | [], _, _, _, e, r, rv, _, _ => by
    cases r; cases rv
    rw [List.mapM_nil] at e
    cases e
    exact .nil_
  | d :: ds, _, _, _, e, r, rv, hs, hz => by
    cases r with
    | cons r1 r2 =>
      cases rv with
      | cons v1 v2 =>
        rw [List.mapM_cons] at e
        obtain ⟨p, e1, e⟩ := Option.bind_eq_some_iff.mp e
        obtain ⟨ps, e2, e⟩ := Option.bind_eq_some_iff.mp e
        cases e
        have hs : (p.showable && PyData.showableAll ps) = true := hs
        obtain ⟨h1, h2⟩ := Bool.and_eq_true_iff.mp hs
        have hz : ∀ t ∈ p.shown :: PyData.shownAll ps, t.length ≤ sizeLine := hz
        exact .cons_ (ih _ _ _ _ e1 r1 v1 h1 (hz _ List.mem_cons_self)) (rxAll_of ih ds _ _ _ e2 r2 v2 h2 fun t ht => hz t (List.mem_cons_of_mem _ ht))
theorem rx_of (I : Inv X pins σ H s) (st : StR X.K H μ S) : ∀ (n : Nat) (d : D) (v : V) (u : Value) (p : PyData), toPyX S n d = some p → Rp X.K H μ v d → RelV v u → p.showable = true → p.shown.length ≤ sizeLine → RxOk X.prog X.w s.heap u p := by
  intro n
  induction n with
  | zero => intro d v u p e; cases e
  | succ n ih =>
    intro d v u p e r rv hs hz
    have atom : ∀ {x : Value} {q : PyData}, (∀ a, x ≠ .ref a) → Reads s.heap x q [] → ReprIs X.prog X.w x q.shown → RxOk X.prog X.w s.heap x q := fun ne rd is => ⟨⟨_, rd⟩, ⟨[], fun _ z => (nomatch z), .of_is is _ _ _⟩, fun a ea => absurd ea (ne a)⟩
    have many : ∀ {ps : List PyData}, PyData.shown (.list ps) = listText (PyData.shownAll ps) := fun {ps} => by simp only [PyData.shown]
    have lists : ∀ {ds : List D} {a : Addr} {vs : List V} {ps : List PyData}, ds.mapM (toPyX S n) = some ps → SqL X.K H a vs → RpA X.K H μ vs ds → (PyData.list ps).showable = true → (PyData.list ps).shown.length ≤ sizeLine → RxOk X.prog X.w s.heap (.ref a) (.list ps) := fun {ds a vs ps} e1 q r2 hs hz => by
      obtain ⟨its, rw_, ⟨o, m, ho, hc, _, hd⟩, _⟩ := I.list q
      refine rx_list ho hc hd (rxAll_of ih _ _ _ _ e1 r2 rw_ hs fun t ht => ?_) hz
      rw [many] at hz
      exact Nat.le_trans (listText_mem_le ht) hz
    cases d with
    | non => cases e; cases r; cases rv; exact atom (fun a z => nomatch z) .none ReprIs.none
    | bl b => cases e; cases r; cases rv; exact atom (fun a z => nomatch z) (.bool b) (ReprIs.bool b)
    | int b =>
      cases e; cases r
      obtain ⟨t, rfl⟩ := rv
      exact atom (fun a z => nomatch z) (.int b t) (ReprIs.int t (by simpa [PyData.showable] using hs))
    | str b =>
      cases e; cases r
      obtain ⟨t, rfl⟩ := rv
      exact atom (fun a z => nomatch z) (.str b t) (ReprIs.str b t (by simpa only [PyData.shown] using hz))
    | tup ds =>
      obtain ⟨ps, e1, e2⟩ := Option.map_eq_some_iff.mp (show (ds.mapM (toPyX S n)).map PyData.tuple = some p from e)
      subst e2
      cases r with
      | tup h1 h2 =>
        cases rv
        obtain ⟨its, rw_, ⟨o, ho, hc, m, hd⟩, _⟩ := I.tuple (sq _ _ h1)
        refine rx_tuple ho hc hd (rxAll_of ih _ _ _ _ e1 h2 rw_ hs fun t ht => ?_) hz
        have hz' : (tupleText (PyData.shownAll ps)).length ≤ sizeLine := by simpa only [PyData.shown] using hz
        exact Nat.le_trans (tupleText_mem_le ht) hz'
    | lr k =>
      obtain ⟨ds, e0, e⟩ := Option.bind_eq_some_iff.mp (show ((lat S k).bind fun ds => (ds.mapM (toPyX S n)).map PyData.list) = some p from e)
      obtain ⟨ps, e1, e2⟩ := Option.map_eq_some_iff.mp e
      subst e2
      obtain ⟨a, vs, rfl, h1, h2⟩ := st.lat e0 r
      cases rv
      exact lists e1 h1 h2 hs hz
    | lst ds =>
      obtain ⟨ps, e1, e2⟩ := Option.map_eq_some_iff.mp (show (ds.mapM (toPyX S n)).map PyData.list = some p from e)
      subst e2
      cases r with
      | lst h1 h2 => cases rv; exact lists e1 h1.sqL h2 hs hz
    | fl ds =>
      obtain ⟨ps, e1, e2⟩ := Option.map_eq_some_iff.mp (show (ds.mapM (toPyX S n)).map PyData.list = some p from e)
      subst e2
      cases r with
      | fl h1 h2 => cases rv; exact lists e1 h1.sqL h2 hs hz
    | dk ks ds =>
      match ks, ds, e with
      | [], [], e =>
        cases e
        cases r with
        | dk h1 h2 h3 h4 =>
          cases h4
          cases rv
          obtain ⟨_, hsm, vs, kv, o, es, ep, ho, hx, hd, _, hp, _⟩ := dk_of I.hok h1
          cases kv
          have e0 : es = #[] := by
            have := hp.length
            exact Array.eq_empty_of_size_eq_zero (by simpa using this)
          subst e0
          exact rx_dict ho hx.1 hd hsm
    | _ => cases e
end
def okShowX (p : PyData) : Bool := p.showable && decide (p.depth ≤ 64) && decide (p.shown.length ≤ szl)
def cReprX : DCall := fun ds S => match ds with
  | [d] => (toPyX S 64 d).bind fun p => if okShowX p then some (.str p.shown, S) else none
  | _ => none
theorem c_reprX {X : Cx} (hg : X.A.guards = some []) (hu : X.A.units + 80 < cLine) : CallR X (.builtin "repr") (rCM X.K cReprX) := by
  intro pins s σ H xs us Q I r ⟨S, μ, ds, d, S', st, rr, e, q⟩
  unfold cReprX at e
  split at e
  · rename_i d0
    obtain ⟨p, e1, e⟩ := Option.bind_eq_some_iff.mp e
    split at e
    · rename_i hok
      cases e
      unfold okShowX at hok
      simp only [Bool.and_eq_true, decide_eq_true_eq] at hok
      obtain ⟨⟨h1, h3⟩, h4⟩ := hok
      have h4 : p.shown.length ≤ sizeLine := szl_le h4
      match xs, rr, us, r with
      | [v], .cons r1 .nil, [u], .cons ru .nil =>
        have R := rx_of I st 64 d0 v u p e1 r1 ru h1 h4
        have fin : ∀ (t : Tok) (h' : Heap) (tk : Nat), (∀ b o, s.heap.get? b = some o → h'.get? b = some o) → EP X pins σ Q (.str p.shown t) { s with heap := h', toks := tk } := fun t h' tk hk => ⟨.str p.shown, H, I.kept (t' := tk) hk, ⟨t, rfl⟩, q.id st (.str _)⟩
        by_cases hr : ∃ a, u = .ref a
        · obtain ⟨a, rfl⟩ := hr
          obtain ⟨T, idr, SB⟩ := R.top a rfl
          exact call_repr_slot (by omega) (SB.typeIs s fun _ _ z => z) SB.slotRepr (SB.call X.A.in1 _ s _ hg (by show X.A.units + 1 + p.depth < cLine; omega) (fun _ _ z => z) fun h' u' tk hk => ⟨_, _, rfl, fin _ _ _ hk⟩)
        · obtain ⟨as, rd⟩ := R.rd
          cases rd with
          | none => exact PySem.P.repr_of_none (fin _ _ _ fun _ _ z => z)
          | bool b => exact PySem.P.repr_of_bool (fin _ _ _ fun _ _ z => z)
          | int i t => exact PySem.P.repr_of_int (of_decide_eq_true h1) (fin _ _ _ fun _ _ z => z)
          | str x t => exact PySem.P.repr_of_str (fin _ _ _ fun _ _ z => z) h4
          | list => exact absurd ⟨_, rfl⟩ hr
          | tuple => exact absurd ⟨_, rfl⟩ hr
          | dict => exact absurd ⟨_, rfl⟩ hr
    · cases e
  · cases e
/-! ### t == () -/
def fEqX : DOp2 := fun x y S => match x, y with
  | .tup ds, .tup [] => some (.bl ds.isEmpty, S)
  | x, y => fEq x y S
theorem o_eqX {X : Cx} (hu : X.A.units + 64 < cLine) : OpR X (compareOp .Eq) (rM X.K fEqX) := by
  intro pins s σ H x y v u Q I rx ry ⟨S, μ, dx, dy, d, S', st, px, py, e, q⟩
  unfold fEqX at e
  split at e
  · rename_i es
    cases e
    cases px with
    | tup h1 h2 =>
      cases py with
      | tup k1 k2 =>
        cases k2
        cases rx; cases ry
        obtain ⟨its, rv, ht, _⟩ := I.tuple (sq _ _ h1)
        obtain ⟨its2, rv2, ht2, _⟩ := I.tuple (sq _ _ k1)
        cases rv2
        have hl := rv.length
        have hl2 := h2.length
        have er : es.isEmpty = ((List.range (min its.toArray.size (#[] : Array Value).size)).all (fun _ => true) && its.toArray.size == (#[] : Array Value).size) := by
          cases es with
          | nil =>
            cases its with
            | nil => rfl
            | cons _ _ => exact absurd (hl.symm.trans hl2) (by simp)
          | cons _ _ =>
            cases its with
            | nil => exact absurd (hl.symm.trans hl2) (by simp)
            | cons _ _ => simp
        show wpAny _ _ (richCompare .Eq _ _) _ _ _
        refine PySem.SeqAt.rcIn_tuples (items := its.toArray) (items2 := #[]) (e := fun _ => true) ht ht2 (by omega) (fun j _ h2 => absurd h2 (Nat.not_lt_zero _)) ?_
        rw [← er]
        exact ⟨.bl _, H, I, rfl, q.id st (.bl _)⟩
  · exact o_eq hu pins s σ H x y v u Q I rx ry ⟨S, μ, _, _, d, S', st, px, py, e, q⟩
end MS

set_option Elab.async false
set_option linter.all false
set_option maxRecDepth 100000
set_option maxHeartbeats 4000000
namespace TM
open PySem PySem.Spec PyProof.Rows L2 MS
/-! ### values of any kind: a datum itself, seen as a tuple, a number, .. where it is one -/
def asV : D → Option (List D)
  | .tup ds => some ds
  | _ => none
def asL : D → Option (List D)
  | .lst ds => some ds
  | _ => none
def asI : D → Option Int
  | .int i => some i
  | _ => none
def asB : D → Option Bool
  | .bl i => some i
  | _ => none
def asS : D → Option Str
  | .str i => some i
  | _ => none
def asT2 : D → Option (D × D)
  | .tup [a, b] => some (a, b)
  | _ => none
def asT3 : D → Option (D × D × D)
  | .tup [a, b, c] => some (a, b, c)
  | _ => none
def asT4 : D → Option (D × D × D × D)
  | .tup [a, b, c, d] => some (a, b, c, d)
  | _ => none
section
variable {α β γ δ σ τ : Type} {S0 S S' : Store} {p : Nat} {sl : List Sl} {m m1 m2 m3 : MExp} {r s1 s2 : MStm} {A : α → D} {B : β → D} {C : γ → D} {t t1 : Option α} {t2 : Option β} {t3 : Option γ}
theorem as_V : ∀ d b, asV d = some b → d = eV eD b := fun d b e => by
  unfold asV at e
  split at e
  · cases e; show _ = D.tup (b.map eD); rw [show (eD : D → D) = id from rfl, List.map_id]
  · cases e
theorem as_L : ∀ d b, asL d = some b → d = eL eD b := fun d b e => by
  unfold asL at e
  split at e
  · cases e; show _ = D.lst (b.map eD); rw [show (eD : D → D) = id from rfl, List.map_id]
  · cases e
theorem as_I : ∀ d b, asI d = some b → d = eI b := fun d b e => by
  unfold asI at e
  split at e <;> cases e; rfl
theorem as_B : ∀ d b, asB d = some b → d = eB b := fun d b e => by
  unfold asB at e
  split at e <;> cases e; rfl
theorem as_S : ∀ d b, asS d = some b → d = eS b := fun d b e => by
  unfold asS at e
  split at e <;> cases e; rfl
theorem as_T2 : ∀ d b, asT2 d = some b → d = eT2 eD eD b := fun d b e => by
  unfold asT2 at e
  split at e <;> cases e; rfl
theorem as_T3 : ∀ d b, asT3 d = some b → d = eT3 eD eD eD b := fun d b e => by
  unfold asT3 at e
  split at e <;> cases e; rfl
theorem as_T4 : ∀ d b, asT4 d = some b → d = eT4 eD eD eD eD b := fun d b e => by
  unfold asT4 at e
  split at e <;> cases e; rfl
theorem xe_view {as : D → Option β} {td : Option D} (hv : ∀ d b, as d = some b → d = B b) (h : XE S0 sl m td eD) : XE S0 sl m (td.bind as) B := fun ρ S s b e => by
  obtain ⟨d, e1, e⟩ := bnd e
  obtain ⟨S', q, a1⟩ := h ρ S s d e1
  exact ⟨S', by rw [q]; show some (d, S') = _; rw [hv d b e], a1⟩
theorem px_view {as : D → Option β} {td : PM D} (hv : ∀ d b, as d = some b → d = B b) (h : PX S0 p sl m td eD) : PX S0 p sl m (bP td fun d => lP (as d)) B := fun P ρ S s b P' e => by
  obtain ⟨d, P1, e1, e⟩ := bP_some e
  obtain ⟨e2, rfl⟩ := lP_some e
  obtain ⟨S', q, a1⟩ := h P ρ S s d _ e1
  exact ⟨S', by rw [q]; show some (d, S') = _; rw [hv d b e2], a1⟩
/-! isinstance -/
def isiT (T : String) (d : D) : Option Bool := cond (okTy [] d) (kitB (tyD d) T) none
theorem okTy_mono {d : D} (S : Store) (h : okTy [] d = true) : okTy S d = true := by
  cases d with
  | lr n => cases h
  | _ => exact h
theorem isi_eq {T : String} {d : D} {b : Bool} (S : Store) (h : isiT T d = some b) : (if okTy S d = true then (kitB (tyD d) T).map fun b => (D.bl b, S) else none) = some (.bl b, S) := by
  unfold isiT at h
  cases k : okTy [] d with
  | false => rw [k] at h; cases h
  | true =>
    rw [k] at h
    rw [if_pos (okTy_mono S k), show kitB (tyD d) T = some b from h]
    rfl
theorem xe_isi {T : String} {td : Option D} (h : XE S0 sl m td eD) : XE S0 sl (mIsi m T) (td.bind fun d => isiT T d) eB := fun ρ S s b e => by
  obtain ⟨d, e1, e⟩ := bnd e
  obtain ⟨S', q, a1⟩ := h ρ S s d e1
  refine ⟨S', ?_, a1⟩
  unfold mIsi
  rw [q]
  exact isi_eq S' e
theorem px_isi {T : String} {td : PM D} (h : PX S0 p sl m td eD) : PX S0 p sl (mIsi m T) (bP td fun d => lP (isiT T d)) eB := fun P ρ S s b P' e => by
  obtain ⟨d, P1, e1, e⟩ := bP_some e
  obtain ⟨e2, rfl⟩ := lP_some e
  obtain ⟨S', q, a1⟩ := h P ρ S s d _ e1
  refine ⟨S', ?_, a1⟩
  unfold mIsi
  rw [q]
  exact isi_eq S' e2
/-! repr -/
def reprD (d : D) : Option Str := (toPyX [] 64 d).bind fun p => cond (okShowX p) (some p.shown) none
theorem lat_nil {n : Nat} : lat [] n = none := by unfold lat; simp
theorem mapM_mono {f g : D → Option PyData} (h : ∀ d p, f d = some p → g d = some p) : ∀ (ds : List D) (ps : List PyData), ds.mapM f = some ps → ds.mapM g = some ps
  | [], _, e => by rw [List.mapM_nil] at e ⊢; exact e
  | d :: ds, ps, e => by
    rw [List.mapM_cons] at e ⊢
    obtain ⟨p, e1, e⟩ := Option.bind_eq_some_iff.mp e
    obtain ⟨qs, e2, e⟩ := Option.bind_eq_some_iff.mp e
    cases e
    rw [h _ _ e1]
    show (ds.mapM g).bind _ = _
    rw [mapM_mono h _ _ e2]
    rfl
theorem toPyX_mono (S : Store) : ∀ (n : Nat) (d : D) (p : PyData), toPyX [] n d = some p → toPyX S n d = some p := by
  intro n
  induction n with
  | zero => intro d p e; cases e
  | succ n ih =>
    intro d p e
    cases d with
    | lr k =>
      have e : ((lat [] k).bind fun ds => (ds.mapM (toPyX [] n)).map PyData.list) = some p := e
      rw [lat_nil] at e
      cases e
    | tup ds =>
      obtain ⟨ps, e1, e2⟩ := Option.map_eq_some_iff.mp (show (ds.mapM (toPyX [] n)).map PyData.tuple = some p from e)
      show (ds.mapM (toPyX S n)).map PyData.tuple = some p
      rw [mapM_mono ih _ _ e1]
      exact congrArg some e2
    | lst ds =>
      obtain ⟨ps, e1, e2⟩ := Option.map_eq_some_iff.mp (show (ds.mapM (toPyX [] n)).map PyData.list = some p from e)
      show (ds.mapM (toPyX S n)).map PyData.list = some p
      rw [mapM_mono ih _ _ e1]
      exact congrArg some e2
    | fl ds =>
      obtain ⟨ps, e1, e2⟩ := Option.map_eq_some_iff.mp (show (ds.mapM (toPyX [] n)).map PyData.list = some p from e)
      show (ds.mapM (toPyX S n)).map PyData.list = some p
      rw [mapM_mono ih _ _ e1]
      exact congrArg some e2
    | dk ks ds =>
      match ks, ds, e with
      | [], [], e => exact e
    | non => exact e
    | bl => exact e
    | int => exact e
    | str => exact e
    | dt => cases e
    | ins => cases e
    | fn => cases e
theorem g_reprD {d : D} : Gvs cReprX [d] (reprD d) eS := fun c e S => by
  refine ⟨S, ?_, .refl⟩
  obtain ⟨p, e1, e⟩ := bnd e
  show ((toPyX S 64 d).bind fun p => if okShowX p then some (D.str p.shown, S) else none) = _
  rw [toPyX_mono S _ _ _ e1]
  cases k : okShowX p with
  | true =>
    rw [k] at e
    cases e
    show (if okShowX p then some (D.str p.shown, S) else none) = _
    rw [if_pos k]
  | false => rw [k] at e; cases e
/-! a <= b <= c -/
theorem xe_chain {f g : DOp2} {k1 : α → β → Option Bool} {k2 : β → γ → Option Bool} (h1 : XE S0 sl m1 t1 A) (h2 : XE S0 sl m2 t2 B) (h3 : XE S0 sl m3 t3 C) (hf : Op2 f A B eB k1) (hg : Op2 g B C eB k2) :
    XE S0 sl (mChain f g m1 m2 m3) (t1.bind fun a => t2.bind fun b => (k1 a b).bind fun r => cond r (t3.bind fun c => k2 b c) (some false)) eB := fun ρ S s z e => by
  obtain ⟨a, e1, e⟩ := bnd e
  obtain ⟨b, e2, e⟩ := bnd e
  obtain ⟨x, e3, e⟩ := bnd e
  obtain ⟨S1, q1, a1⟩ := h1 ρ S s a e1
  obtain ⟨S2, q2, a2⟩ := h2 ρ S1 (s.grow a1) b e2
  have q3 := hf a b x S2 e3
  unfold mChain
  rw [q1]
  show ∃ S', (((m2 ρ S1).bind fun q => (f (A a) q.1 q.2).bind fun r => match r.1 with
    | .bl true => (m3 ρ r.2).bind fun t => g q.1 t.1 t.2
    | .bl false => some (D.bl false, r.2)
    | _ => none) = _) ∧ _
  rw [q2]
  show ∃ S', (((f (A a) (B b) S2).bind fun r => match r.1 with
    | .bl true => (m3 ρ r.2).bind fun t => g (B b) t.1 t.2
    | .bl false => some (D.bl false, r.2)
    | _ => none) = _) ∧ _
  rw [q3]
  cases x with
  | false => cases e; exact ⟨S2, rfl, a1.trans a2⟩
  | true =>
    obtain ⟨c, e4, e⟩ := bnd e
    obtain ⟨S3, q4, a3⟩ := h3 ρ S2 ((s.grow a1).grow a2) c e4
    refine ⟨S3, ?_, (a1.trans a2).trans a3⟩
    show ((m3 ρ S2).bind fun t => g (B b) t.1 t.2) = _
    rw [q4]
    exact hg b c z S3 e
/-! displays of any length -/
theorem xa_nil_ : XA S0 sl mNil (some ([] : List α)) (fun xs => xs.map A) := fun ρ S s c e => by cases e; exact ⟨S, rfl, .refl⟩
theorem xa_cons_ {mr : MArg} {tr : Option (List α)} (h : XE S0 sl m t A) (hr : XA S0 sl mr tr (fun xs => xs.map A)) : XA S0 sl (mCons m mr) (t.bind fun x => tr.bind fun xs => some (x :: xs)) (fun xs => xs.map A) := fun ρ S s c e => by
  obtain ⟨x, e1, e⟩ := bnd e
  obtain ⟨xs, e2, e⟩ := bnd e
  cases e
  obtain ⟨S1, q1, a1⟩ := h ρ S s x e1
  obtain ⟨S2, q2, a2⟩ := hr ρ S1 (s.grow a1) xs e2
  refine ⟨S2, ?_, a1.trans a2⟩
  unfold mCons
  rw [q1]
  show ((mr ρ S1).bind fun q => some (A x :: q.1, q.2)) = _
  rw [q2]
  rfl
theorem xe_lstA {mr : MArg} {tr : Option (List α)} (hr : XA S0 sl mr tr (fun xs => xs.map A)) : XE S0 sl (mLstV mr) (tr.bind fun xs => cond (Nat.ble xs.length 16777216) (some xs) none) (eL A) := fun ρ S s c e => by
  obtain ⟨xs, e1, e⟩ := bnd e
  cases k : Nat.ble xs.length 16777216 with
  | false => rw [k] at e; cases e
  | true =>
    rw [k] at e
    cases e
    obtain ⟨S1, q1, a1⟩ := hr ρ S s _ e1
    refine ⟨S1, ?_, a1⟩
    unfold mLstV
    rw [q1]
    show (if (c.map A).length ≤ szl then some (D.lst (c.map A), S1) else none) = _
    rw [if_pos (by rw [List.length_map]; exact Nat.le_of_ble_eq_true k)]
/-! {} , t == (), t * k -/
theorem xe_dict0 : XE S0 sl (mFz mDNewK) (some (D.dk [] [])) eD := fun ρ S s c e => by
  cases e
  refine ⟨(S ++ [MO.dk []]).set S.length .gone, ?_, All.app.wr (Nat.le_refl _)⟩
  unfold mFz mDNewK
  show fzD (S ++ [MO.dk []]) (.lr S.length) = _
  unfold fzD
  simp
theorem op_eqX : Op2 fEqX (eV A) (eV B) eB (fun xs ys => cond ys.isEmpty (some xs.isEmpty) none) := fun a b c S e => by
  cases b with
  | nil =>
    cases e
    show some (D.bl (a.map A).isEmpty, S) = _
    cases a <;> rfl
  | cons _ _ => cases e
def mulV {α : Type} (xs : List α) (k : Int) : Option (List α) := cond (!xs.isEmpty && decide (1 ≤ k) && decide (k ≤ 1000) && Nat.ble xs.length 1000) (some (List.replicate k.toNat xs).flatten) none
theorem op_mulWV : Op2 fMulW (eV A) eI (eV A) mulV := fun a b c S e => by
  unfold mulV at e
  cases k : (!a.isEmpty && decide (1 ≤ b) && decide (b ≤ 1000) && Nat.ble a.length 1000) with
  | false => rw [k] at e; cases e
  | true =>
    rw [k] at e
    cases e
    simp only [Bool.and_eq_true, Bool.not_eq_true', decide_eq_true_eq] at k
    obtain ⟨⟨⟨k1, k2⟩, k3⟩, k4⟩ := k
    show (if a.map A ≠ [] ∧ 1 ≤ b ∧ b ≤ 1000 ∧ (a.map A).length ≤ 1000 then some (D.tup (repD (a.map A) b), S) else none) = _
    rw [if_pos ⟨fun z => by simp at z; subst z; simp at k1, k2, k3, by rw [List.length_map]; exact Nat.le_of_ble_eq_true k4⟩]
    unfold repD
    congr 3
    rw [List.map_flatten, List.map_replicate]
/-! ### defs that may raise -/
end
/-- a result that may be an exception -/
inductive Rz (α : Type) where
  | ok (a : α) | ex (c f : Str) (d : D)
abbrev eZ {α : Type} (E : α → D) : Rz α → D
  | .ok a => .tup [E a]
  | .ex c f d => .ins 0 [c, f] [d]
def Rz.by {α β : Type} (f : α → Option β) (g : Str → Str → D → Option β) : Rz α → Option β
  | .ok a => f a
  | .ex c x d => g c x d
section
variable {α β γ δ σ τ : Type} {S0 S S' : Store} {p : Nat} {sl : List Sl} {m m1 m2 m3 : MExp} {r s1 s2 : MStm} {A : α → D} {B : β → D} {C : γ → D} {t t1 : Option α} {t2 : Option β} {t3 : Option γ}
theorem xe_ok (h : XE S0 sl m t A) : XE S0 sl (mOk m) (t.bind fun a => some (Rz.ok a)) (eZ A) := fun ρ S s b e => by
  obtain ⟨a, e1, e⟩ := bnd e
  cases e
  obtain ⟨S1, q, a1⟩ := h ρ S s a e1
  exact ⟨S1, by unfold mOk; rw [q]; rfl, a1⟩
theorem xe_ex {c f : Str} {td : Option D} (h : XE S0 sl m td eD) : XE S0 sl (mEx c f m) (td.bind fun d => some (Rz.ex c f d : Rz α)) (eZ A) := fun ρ S s b e => by
  obtain ⟨a, e1, e⟩ := bnd e
  cases e
  obtain ⟨S1, q, a1⟩ := h ρ S s a e1
  exact ⟨S1, by unfold mEx; rw [q]; rfl, a1⟩
/-- [x, e], e may raise -/
theorem xe_toldX {x : Str} {tz : Option (Rz α)} (h : XE S0 sl m tz (eZ A)) : XE S0 sl (mToldX x m) (tz.bind fun z => z.by (fun a => some (Rz.ok (D.lst [.str x, A a]))) fun c f d => some (Rz.ex c f d)) (eZ eD) := fun ρ S s b e => by
  obtain ⟨z, e1, e⟩ := bnd e
  obtain ⟨S1, q, a1⟩ := h ρ S s z e1
  refine ⟨S1, ?_, a1⟩
  unfold mToldX
  rw [q]
  cases z with
  | ok a => cases e; rfl
  | ex c f d => cases e; rfl
theorem sr_retX {tz : Option (Rz α)} (h : XE S0 sl m tz (eZ A)) : SR S0 sl (mRet m) tz (eZ A) := sr_ret h
/-- try: .. except C as e: return h of its field -/
theorem sr_try {i : Nat} {c f : Str} {h : List (Str × D) → Option D} {k : D → Option α} {mb : MStm} {tz : Option (Rz α)} (hi : i < sl.length) (hb : SR S0 sl mb tz (eZ A)) (hh : ∀ d a, k d = some a → h [(f, d)] = some (A a)) (hl : ∀ ρ S f' ρ' S', mb ρ S = some (f', ρ', S') → ρ'.length = ρ.length) :
    SR S0 sl (mTry mb c i h) (tz.bind fun z => z.by some fun c' f' d => cond (decide (c' = c) && decide (f' = f)) (k d) none) A := fun ρ S s b e => by
  obtain ⟨z, e1, e⟩ := bnd e
  obtain ⟨ρ', S', q, a1⟩ := hb ρ S s z e1
  have hlen : i < ρ'.length := by rw [hl _ _ _ _ _ q, s.len]; exact hi
  refine ⟨ρ', S', ?_, a1⟩
  unfold mTry
  rw [q]
  cases z with
  | ok a => cases e; rfl
  | ex c' f' d =>
    have e7 : (cond (decide (c' = c) && decide (f' = f)) (k d) none) = some b := e
    cases kk : (decide (c' = c) && decide (f' = f)) with
    | false => rw [kk] at e7; cases e7
    | true =>
      rw [kk] at e7
      simp only [Bool.and_eq_true, decide_eq_true_eq] at kk
      obtain ⟨rfl, rfl⟩ := kk
      show (if c' = c' ∧ i < ρ'.length then (h [(f', d)]).map fun d => (Fl.rt d, ρ', S') else none) = _
      rw [if_pos ⟨rfl, hlen⟩, hh d b e7]
      rfl
theorem gvsX_of {np n : Nat} {M : MStm} {ds : List D} (hl : ds.length = np) (h : ∀ S, SR S (ds.map Sl.val ++ List.replicate (n - ds.length) Sl.unk) M t A) : Gvs (denX np n M) ds t A := fun a e S => by
  obtain ⟨ρ', S', q, k⟩ := h S _ S sx_start a e
  refine ⟨S', ?_, k⟩
  unfold denX
  rw [if_pos hl, q]
/-- return [x, ..] of a def that may raise leaves the slots as they are -/
theorem len_ret {m : MExp} : ∀ ρ S f' ρ' S', mRet m ρ S = some (f', ρ', S') → ρ'.length = ρ.length := fun ρ S f' ρ' S' e => by
  obtain ⟨_, _, e⟩ := Option.bind_eq_some_iff.mp e
  cases e; rfl
end
end TM

set_option Elab.async false
set_option linter.all false
set_option maxRecDepth 100000
set_option maxHeartbeats 4000000
/-! Defs that many laws share: readings, typed functions. -/
namespace TM
open PySem PySem.Spec PyProof.Rows L2 MS

abbrev N_is_integer_within : List Str := ["value", "least", "most"]
def M_is_integer_within : MStm :=
  (mSeq (mIfS (mOr (mNot (mB (mIsi (mVar 0) "int"))) (mB (mIsi (mVar 0) "bool"))) (mRet (mC (.bl false))) mNx)
    (mRet (mChain fLe fLe (mVar 1) (mVar 0) (mVar 2))))
def F_is_integer_within : DCall := den 3 3 M_is_integer_within
abbrev N_is_place_pair : List Str := ["value", "places", "first", "second"]
def M_is_place_pair : MStm :=
  (mSeq (mIfS (mOr (mNot (mB (mIsi (mVar 0) "tuple"))) (mB (mBin fNe (mCall cLen (mCons (mVar 0) mNil)) (mC (.int 2))))) (mRet (mC (.bl false))) mNx)
    (mSeq (mAsg (mVar 0) (mgTup (mgCons (mName 2) (mgCons (mName 3) mgNil)) 2))
    (mSeq (mIfS (mOr (mNot (mB (mCall F_is_integer_within (mCons (mVar 2) (mCons (mC (.int 0)) (mCons (mBin fSub (mVar 1) (mC (.int 1))) mNil)))))) (mNot (mB (mCall F_is_integer_within (mCons (mVar 3) (mCons (mC (.int 0)) (mCons (mBin fSub (mVar 1) (mC (.int 1))) mNil))))))) (mRet (mC (.bl false))) mNx)
    (mRet (mBin fNe (mVar 2) (mVar 3))))))
def F_is_place_pair : DCall := den 2 4 M_is_place_pair
abbrev N_law_whole : List Str := ["value", "low", "high"]
def M_law_whole : MStm :=
  (mRet (mAndV (mIsi (mVar 0) "int") (mAndV (mNotV (mIsi (mVar 0) "bool")) (mChain fLe fLe (mVar 1) (mVar 0) (mVar 2)))))
def F_law_whole : DCall := den 3 3 M_law_whole
abbrev N_law_odd : List Str := ["pen", "some"]
def M_law_odd : MStm :=
  (mSeq (mAsg (mLstV (mCons (mC .non) (mCons (mC (.bl true)) (mCons (mC (.bl false)) (mCons (mNeg (mC (.int 1))) (mCons (mC (.int 0)) (mCons (mC (.int 1)) (mCons (mC (.int 2)) (mCons (mC (.int 3)) (mCons (mC (.int 8)) (mCons (mC (.int 9)) (mCons (mC (.int 24)) (mCons (mC (.str (Str.ofString ""))) (mCons (mC (.str (Str.ofString "0"))) (mCons (mC (.str (Str.ofString "first"))) (mCons (mTup mNil) (mCons (mLstV mNil) (mCons (mFz mDNewK) (mCons (mTup (mCons (mC (.int 0)) mNil)) (mCons (mTup (mCons (mC (.int 0)) (mCons (mC (.int 1)) mNil))) (mCons (mTup (mCons (mC (.int 0)) (mCons (mC (.int 1)) (mCons (mC (.int 2)) mNil)))) mNil))))))))))))))))))))) (mName 1))
    (mRet (mCall F_law_one_of (mCons (mVar 0) (mCons (mBin fAdd (mVar 1) (mLstV (mCons (mBin fPow (mC (.int 10)) (mC (.int 12))) (mCons (mBin fAdd (mBin fPow (mC (.int 10)) (mC (.int 12))) (mC (.int 1))) (mCons (mBin fSub (mNeg (mBin fPow (mC (.int 10)) (mC (.int 12)))) (mC (.int 1))) (mCons (mTup (mCons (mTup mNil) mNil)) (mCons (mLstV (mCons (mC (.int 1)) mNil)) (mCons (mTup (mCons (mC (.int 1)) (mCons (mTup mNil) mNil))) (mCons (mTup (mCons (mC .non) (mCons (mC (.int 0)) (mCons (mC (.int 0)) mNil)))) mNil))))))))) mNil)))))
def F_law_odd : DCall := den 1 2 M_law_odd
abbrev N_law_bent : List Str := ["pen", "value", "depth", "at", "option"]
def M_law_bent (R : DCall) : MStm :=
  (mSeq (mIfS (mOr (mNot (mB (mIsi (mVar 1) "tuple"))) (mOr (mB (mBin fEqX (mVar 1) (mTup mNil))) (mOr (mB (mBin fEq (mVar 2) (mC (.int 0)))) (mB (mBin fEq (mCall F_law_draw (mCons (mVar 0) (mCons (mC (.int 6)) mNil))) (mC (.int 0))))))) (mSeq (mAsg (mCall F_law_draw (mCons (mVar 0) (mCons (mC (.int 8)) mNil))) (mName 4))
    (mSeq (mIfS (mAnd (mB (mIsi (mVar 1) "int")) (mAnd (mNot (mB (mIsi (mVar 1) "bool"))) (mB (mBin fLt (mVar 4) (mC (.int 6)))))) (mRet (mBin fIx (mLstV (mCons (mBin fAdd (mVar 1) (mC (.int 1))) (mCons (mBin fSub (mVar 1) (mC (.int 1))) (mCons (mBin fEq (mVar 1) (mC (.int 1))) (mCons (mC (.int 0)) (mCons (mNeg (mC (.int 1))) (mCons (mBin fAdd (mVar 1) (mC (.int 1))) mNil))))))) (mVar 4))) mNx)
    (mSeq (mIfS (mAnd (mB (mIsi (mVar 1) "tuple")) (mB (mBin fLt (mVar 4) (mC (.int 6))))) (mRet (mBin fIx (mLstV (mCons (mSl (mVar 1) (mPart (mC (.int 1))) mNoPart) (mCons (mSl (mVar 1) mNoPart (mPart (mNeg (mC (.int 1))))) (mCons (mBin fAdd (mVar 1) (mSl (mVar 1) mNoPart (mPart (mC (.int 1))))) (mCons (mRevT (mVar 1)) (mCons (mCall (cFz cList) (mCons (mVar 1) mNil)) (mCons (mBin fAdd (mVar 1) (mTup (mCons (mC (.int 0)) mNil))) mNil))))))) (mVar 4))) mNx)
    (mRet (mCall F_law_odd (mCons (mVar 0) mNil)))))) mNx)
    (mSeq (mAsg (mCall F_law_draw (mCons (mVar 0) (mCons (mCall cLen (mCons (mVar 1) mNil)) mNil))) (mName 3))
    (mRet (mBin fAdd (mBin fAdd (mSl (mVar 1) mNoPart (mPart (mVar 3))) (mTup (mCons (mCall R (mCons (mVar 0) (mCons (mBin fIx (mVar 1) (mVar 3)) (mCons (mBin fSub (mVar 2) (mC (.int 1))) mNil)))) mNil))) (mSl (mVar 1) (mPart (mBin fAdd (mVar 3) (mC (.int 1)))) mNoPart)))))
def F_law_bentR : Nat → DCall
  | 0 => fun _ _ => none
  | n + 1 => den 3 5 (M_law_bent (F_law_bentR n))
abbrev F_law_bent : DCall := F_law_bentR 12
theorem F_law_bent_len : ∀ (n : Nat) (ds : List D) (S : Store) (r : D × Store), F_law_bentR n ds S = some r → ds.length = 3
  | 0, _, _, _, e => nomatch e
  | _ + 1, _, _, _, e => den_len e
abbrev N_law_is_pair : List Str := ["places", "value", "x"]
def M_law_is_pair : MStm :=
  (mSeq (mIfS (mOr (mNot (mB (mIsi (mVar 1) "tuple"))) (mB (mBin fNe (mCall cLen (mCons (mVar 1) mNil)) (mC (.int 2))))) (mRet (mC (.bl false))) mNx)
    (mRet (mAndV (mBin fEq (mFz (mLc (mItems (mVar 1)) (mName 2) (mNot (mB (mCall F_law_whole (mCons (mVar 2) (mCons (mC (.int 0)) (mCons (mBin fSub (mVar 0) (mC (.int 1))) mNil)))))) (mC (.int 1)) [2])) (mLstV mNil)) (mBin fNe (mBin fIx (mVar 1) (mC (.int 0))) (mBin fIx (mVar 1) (mC (.int 1)))))))
def F_law_is_pair : DCall := den 2 3 M_law_is_pair
abbrev N_law_is_tuple : List Str := ["value", "many"]
def M_law_is_tuple : MStm :=
  (mRet (mAndV (mIsi (mVar 0) "tuple") (mBin fEq (mCall cLen (mCons (mVar 0) mNil)) (mVar 1))))
def F_law_is_tuple : DCall := den 2 2 M_law_is_tuple
def t_is_integer_within (v_value : D) (v_least : Int) (v_most : Int) : Option Bool :=
  (((((((((some v_value)).bind fun x3 => isiT "int" x3)).bind fun x4 => some (!x4))).bind fun x5 => cond x5 (some true) (((some v_value)).bind fun x2 => isiT "bool" x2))).bind fun x1 => cond x1 (some false) (((some v_least)).bind fun x7 => ((((some v_value)).bind fun x6 => asI x6)).bind fun x8 => (some (decide (x7 ≤ x8))).bind fun x10 => cond x10 (((some v_most)).bind fun x9 => some (decide (x8 ≤ x9))) (some false)))
theorem s_is_integer_within (v_value : D) (v_least : Int) (v_most : Int) : Gvs F_is_integer_within [eD v_value, eI v_least, eI v_most] (t_is_integer_within v_value v_least v_most) eB := gvs_of rfl fun S0 => by
  unfold M_is_integer_within t_is_integer_within
  exact (sr_ifr (xt_or (xt_not (xt_B (xe_isi (T := "int") (xe_var eD rfl)))) (xt_B (xe_isi (T := "bool") (xe_var eD rfl)))) (sr_ret (xe_c eB rfl)) (sr_ret (xe_chain (xe_var eI rfl) (xe_view as_I (xe_var eD rfl)) (xe_var eI rfl) op_le op_le)))
def t_is_place_pair (v_value : D) (v_places : Int) : Option Bool :=
  (((((((((some v_value)).bind fun x6 => isiT "tuple" x6)).bind fun x7 => some (!x7))).bind fun x8 => cond x8 (some true) (((((((some v_value)).bind fun x2 => asV x2)).bind fun x3 => some (x3.length : Int))).bind fun x4 => ((some (2 : Int))).bind fun x5 => some (!decide (x4 = x5))))).bind fun x1 => cond x1 (some false) (((((some v_value)).bind fun x10 => asT2 x10)).bind fun x9 => (((((((((some x9.1)).bind fun x20 => ((some (0 : Int))).bind fun x21 => ((((some v_places)).bind fun x18 => ((some (1 : Int))).bind fun x19 => some (x18 - x19))).bind fun x22 => t_is_integer_within x20 x21 x22)).bind fun x23 => some (!x23))).bind fun x24 => cond x24 (some true) (((((some x9.2)).bind fun x14 => ((some (0 : Int))).bind fun x15 => ((((some v_places)).bind fun x12 => ((some (1 : Int))).bind fun x13 => some (x12 - x13))).bind fun x16 => t_is_integer_within x14 x15 x16)).bind fun x17 => some (!x17)))).bind fun x11 => cond x11 (some false) (((((some x9.1)).bind fun x25 => asI x25)).bind fun x27 => ((((some x9.2)).bind fun x26 => asI x26)).bind fun x28 => some (!decide (x27 = x28))))))
theorem s_is_place_pair (v_value : D) (v_places : Int) : Gvs F_is_place_pair [eD v_value, eI v_places] (t_is_place_pair v_value v_places) eB := gvs_of rfl fun S0 => by
  unfold M_is_place_pair t_is_place_pair
  exact (sr_ifr (xt_or (xt_not (xt_B (xe_isi (T := "tuple") (xe_var eD rfl)))) (xt_B (xe_bin (xe_call1 (xe_view as_V (xe_var eD rfl)) (fun _ => g_lenV)) (xe_c eI rfl) (op_ne_ faI (by decide))))) (sr_ret (xe_c eB rfl)) (sr_seqN (sn_asgG (xe_view as_T2 (xe_var eD rfl)) (fun x9 => (xg_tup (xgs_cons xg_name (xgs_cons xg_name xgs_nil)) rfl))) (fun x9 => (sr_ifr (xt_or (xt_not (xt_B (xe_call3 (xe_var eD rfl) (xe_c eI rfl) (xe_bin (xe_var eI rfl) (xe_c eI rfl) op_sub) (fun _ _ _ => s_is_integer_within _ _ _)))) (xt_not (xt_B (xe_call3 (xe_var eD rfl) (xe_c eI rfl) (xe_bin (xe_var eI rfl) (xe_c eI rfl) op_sub) (fun _ _ _ => s_is_integer_within _ _ _))))) (sr_ret (xe_c eB rfl)) (sr_ret (xe_bin (xe_view as_I (xe_var eD rfl)) (xe_view as_I (xe_var eD rfl)) (op_ne_ faI (by decide))))))))
def t_law_whole (v_value : D) (v_low : Int) (v_high : Int) : Option Bool :=
  (((((some v_value)).bind fun x9 => isiT "int" x9)).bind fun x10 => cond x10 (((((((some v_value)).bind fun x6 => isiT "bool" x6)).bind fun x7 => some (!x7))).bind fun x8 => cond x8 (((some v_low)).bind fun x2 => ((((some v_value)).bind fun x1 => asI x1)).bind fun x3 => (some (decide (x2 ≤ x3))).bind fun x5 => cond x5 (((some v_high)).bind fun x4 => some (decide (x3 ≤ x4))) (some false)) (some false)) (some false))
theorem s_law_whole (v_value : D) (v_low : Int) (v_high : Int) : Gvs F_law_whole [eD v_value, eI v_low, eI v_high] (t_law_whole v_value v_low v_high) eB := gvs_of rfl fun S0 => by
  unfold M_law_whole t_law_whole
  exact (sr_ret (xe_and (xe_isi (T := "int") (xe_var eD rfl)) (xe_and (xe_not (xe_isi (T := "bool") (xe_var eD rfl))) (xe_chain (xe_var eI rfl) (xe_view as_I (xe_var eD rfl)) (xe_var eI rfl) op_le op_le))))
def t_law_odd  : PM D :=
  (bP (lP (((((some D.non)).bind fun x65 => ((((((some true)).bind fun x2 => some (eB x2))).bind fun x63 => ((((((some false)).bind fun x3 => some (eB x3))).bind fun x61 => ((((((((some (1 : Int))).bind fun x4 => some (-x4))).bind fun x5 => some (eI x5))).bind fun x59 => ((((((some (0 : Int))).bind fun x6 => some (eI x6))).bind fun x57 => ((((((some (1 : Int))).bind fun x7 => some (eI x7))).bind fun x55 => ((((((some (2 : Int))).bind fun x8 => some (eI x8))).bind fun x53 => ((((((some (3 : Int))).bind fun x9 => some (eI x9))).bind fun x51 => ((((((some (8 : Int))).bind fun x10 => some (eI x10))).bind fun x49 => ((((((some (9 : Int))).bind fun x11 => some (eI x11))).bind fun x47 => ((((((some (24 : Int))).bind fun x12 => some (eI x12))).bind fun x45 => ((((((some (Str.ofString ""))).bind fun x13 => some (eS x13))).bind fun x43 => ((((((some (Str.ofString "0"))).bind fun x14 => some (eS x14))).bind fun x41 => ((((((some (Str.ofString "first"))).bind fun x15 => some (eS x15))).bind fun x39 => ((((((some ([] : (List D)))).bind fun x16 => some ((eV eD) x16))).bind fun x37 => ((((((some ([] : (List D)))).bind fun x17 => some ((eL eD) x17))).bind fun x35 => ((((some (D.dk [] []))).bind fun x33 => ((((((((some (0 : Int))).bind fun x18 => some [x18])).bind fun x19 => some ((eV eI) x19))).bind fun x31 => ((((((((some (0 : Int))).bind fun x20 => ((some (1 : Int))).bind fun x21 => some (x20, x21))).bind fun x22 => some ((eT2 eI eI) x22))).bind fun x29 => ((((((((some (0 : Int))).bind fun x23 => ((some (1 : Int))).bind fun x24 => ((some (2 : Int))).bind fun x25 => some (x23, x24, x25))).bind fun x26 => some ((eT3 eI eI eI) x26))).bind fun x27 => ((some ([] : List D))).bind fun x28 => some (x27 :: x28))).bind fun x30 => some (x29 :: x30))).bind fun x32 => some (x31 :: x32))).bind fun x34 => some (x33 :: x34))).bind fun x36 => some (x35 :: x36))).bind fun x38 => some (x37 :: x38))).bind fun x40 => some (x39 :: x40))).bind fun x42 => some (x41 :: x42))).bind fun x44 => some (x43 :: x44))).bind fun x46 => some (x45 :: x46))).bind fun x48 => some (x47 :: x48))).bind fun x50 => some (x49 :: x50))).bind fun x52 => some (x51 :: x52))).bind fun x54 => some (x53 :: x54))).bind fun x56 => some (x55 :: x56))).bind fun x58 => some (x57 :: x58))).bind fun x60 => some (x59 :: x60))).bind fun x62 => some (x61 :: x62))).bind fun x64 => some (x63 :: x64))).bind fun x66 => some (x65 :: x66))).bind fun x67 => cond (Nat.ble x67.length 16777216) (some x67) none)) fun x1 => (bP (lP (((some x1)).bind fun x110 => ((((((((((some (10 : Int))).bind fun x68 => ((some (12 : Int))).bind fun x69 => pow_ x68 x69)).bind fun x70 => some (eI x70))).bind fun x107 => ((((((((((some (10 : Int))).bind fun x71 => ((some (12 : Int))).bind fun x72 => pow_ x71 x72)).bind fun x73 => ((some (1 : Int))).bind fun x74 => some (x73 + x74))).bind fun x75 => some (eI x75))).bind fun x105 => ((((((((((((some (10 : Int))).bind fun x76 => ((some (12 : Int))).bind fun x77 => pow_ x76 x77)).bind fun x78 => some (-x78))).bind fun x79 => ((some (1 : Int))).bind fun x80 => some (x79 - x80))).bind fun x81 => some (eI x81))).bind fun x103 => ((((((((some ([] : (List D)))).bind fun x82 => some [x82])).bind fun x83 => some ((eV (eV eD)) x83))).bind fun x101 => ((((((((((some (1 : Int))).bind fun x85 => some (eI x85))).bind fun x86 => some [x86])).bind fun x87 => some ((eL eD) x87))).bind fun x99 => ((((((((some (1 : Int))).bind fun x88 => ((some ([] : (List D)))).bind fun x89 => some (x88, x89))).bind fun x90 => some ((eT2 eI (eV eD)) x90))).bind fun x97 => ((((((((some ())).bind fun x91 => ((some (0 : Int))).bind fun x92 => ((some (0 : Int))).bind fun x93 => some (x91, x92, x93))).bind fun x94 => some ((eT3 eN eI eI) x94))).bind fun x95 => ((some ([] : List D))).bind fun x96 => some (x95 :: x96))).bind fun x98 => some (x97 :: x98))).bind fun x100 => some (x99 :: x100))).bind fun x102 => some (x101 :: x102))).bind fun x104 => some (x103 :: x104))).bind fun x106 => some (x105 :: x106))).bind fun x108 => some (x107 :: x108))).bind fun x109 => cond (Nat.ble x109.length 16777216) (some x109) none)).bind fun x111 => extM x110 x111)) fun x112 => (t_law_one_of x112)))
theorem s_law_odd  : Gps F_law_odd [] (t_law_odd ) eD := gps_of rfl fun S0 p => by
  unfold M_law_odd t_law_odd
  exact (pr_seqN (pn_of fun _ => (sn_asg (xe_lstA (A := eD) (xa_cons_ (xe_c eD rfl) (xa_cons_ (xe_map (B := eD) (f := eB) (xe_c eB rfl) (fun _ => rfl)) (xa_cons_ (xe_map (B := eD) (f := eB) (xe_c eB rfl) (fun _ => rfl)) (xa_cons_ (xe_map (B := eD) (f := eI) (xe_neg (xe_c eI rfl)) (fun _ => rfl)) (xa_cons_ (xe_map (B := eD) (f := eI) (xe_c eI rfl) (fun _ => rfl)) (xa_cons_ (xe_map (B := eD) (f := eI) (xe_c eI rfl) (fun _ => rfl)) (xa_cons_ (xe_map (B := eD) (f := eI) (xe_c eI rfl) (fun _ => rfl)) (xa_cons_ (xe_map (B := eD) (f := eI) (xe_c eI rfl) (fun _ => rfl)) (xa_cons_ (xe_map (B := eD) (f := eI) (xe_c eI rfl) (fun _ => rfl)) (xa_cons_ (xe_map (B := eD) (f := eI) (xe_c eI rfl) (fun _ => rfl)) (xa_cons_ (xe_map (B := eD) (f := eI) (xe_c eI rfl) (fun _ => rfl)) (xa_cons_ (xe_map (B := eD) (f := eS) (xe_c eS rfl) (fun _ => rfl)) (xa_cons_ (xe_map (B := eD) (f := eS) (xe_c eS rfl) (fun _ => rfl)) (xa_cons_ (xe_map (B := eD) (f := eS) (xe_c eS rfl) (fun _ => rfl)) (xa_cons_ (xe_map (B := eD) (f := (eV eD)) (xe_tup0 (C := (eV eD)) ([] : (List D))  rfl) (fun _ => rfl)) (xa_cons_ (xe_map (B := eD) (f := (eL eD)) (xe_lst0 (C := (eL eD)) ([] : (List D))  rfl) (fun _ => rfl)) (xa_cons_ xe_dict0 (xa_cons_ (xe_map (B := eD) (f := (eV eI)) (xe_tup1 (C := (eV eI)) (fun x18 => [x18]) (xe_c eI rfl) (fun _ => rfl)) (fun _ => rfl)) (xa_cons_ (xe_map (B := eD) (f := (eT2 eI eI)) (xe_tup2 (C := (eT2 eI eI)) (fun x20 x21 => (x20, x21)) (xe_c eI rfl) (xe_c eI rfl) (fun _ _ => rfl)) (fun _ => rfl)) (xa_cons_ (xe_map (B := eD) (f := (eT3 eI eI eI)) (xe_tup3 (C := (eT3 eI eI eI)) (fun x23 x24 x25 => (x23, x24, x25)) (xe_c eI rfl) (xe_c eI rfl) (xe_c eI rfl) (fun _ _ _ => rfl)) (fun _ => rfl)) xa_nil_))))))))))))))))))))))) (fun x1 => (pr_ret (px_pcall1 rfl (px_of fun _ => (xe_bin (xe_var (eL eD) rfl) (xe_lstA (A := eD) (xa_cons_ (xe_map (B := eD) (f := eI) (xe_bin (xe_c eI rfl) (xe_c eI rfl) op_pow) (fun _ => rfl)) (xa_cons_ (xe_map (B := eD) (f := eI) (xe_bin (xe_bin (xe_c eI rfl) (xe_c eI rfl) op_pow) (xe_c eI rfl) op_add) (fun _ => rfl)) (xa_cons_ (xe_map (B := eD) (f := eI) (xe_bin (xe_neg (xe_bin (xe_c eI rfl) (xe_c eI rfl) op_pow)) (xe_c eI rfl) op_sub) (fun _ => rfl)) (xa_cons_ (xe_map (B := eD) (f := (eV (eV eD))) (xe_tup1 (C := (eV (eV eD))) (fun x82 => [x82]) (xe_tup0 (C := (eV eD)) ([] : (List D))  rfl) (fun _ => rfl)) (fun _ => rfl)) (xa_cons_ (xe_map (B := eD) (f := (eL eD)) (xe_lst1 (C := (eL eD)) (fun x86 => [x86]) (xe_map (B := eD) (f := eI) (xe_c eI rfl) (fun _ => rfl)) (fun _ => rfl)) (fun _ => rfl)) (xa_cons_ (xe_map (B := eD) (f := (eT2 eI (eV eD))) (xe_tup2 (C := (eT2 eI (eV eD))) (fun x88 x89 => (x88, x89)) (xe_c eI rfl) (xe_tup0 (C := (eV eD)) ([] : (List D))  rfl) (fun _ _ => rfl)) (fun _ => rfl)) (xa_cons_ (xe_map (B := eD) (f := (eT3 eN eI eI)) (xe_tup3 (C := (eT3 eN eI eI)) (fun x91 x92 x93 => (x91, x92, x93)) (xe_c eN rfl) (xe_c eI rfl) (xe_c eI rfl) (fun _ _ _ => rfl)) (fun _ => rfl)) xa_nil_)))))))) op_catL)) (fun _ => s_law_one_ofL _)))))
def t_law_bent : Nat → D → Int → PM D
  | 0, _, _ => fun _ => none
  | n + 1, v_value, v_depth => (bP (bP (lP (((((some v_value)).bind fun x12 => isiT "tuple" x12)).bind fun x13 => some (!x13))) fun x14 => (cond x14 (lP (some true)) (bP (lP (((((some v_value)).bind fun x8 => asV x8)).bind fun x9 => ((some ([] : (List D)))).bind fun x10 => cond x10.isEmpty (some x9.isEmpty) none)) fun x11 => (cond x11 (lP (some true)) (bP (lP (((some v_depth)).bind fun x5 => ((some (0 : Int))).bind fun x6 => some (decide (x5 = x6)))) fun x7 => (cond x7 (lP (some true)) (bP (bP (lP (some (6 : Int))) fun x2 => (t_law_draw x2)) fun x3 => (bP (lP (some (0 : Int))) fun x4 => (lP (some (decide (x3 = x4)))))))))))) fun x1 => (cond x1 (bP (bP (lP (some (8 : Int))) fun x16 => (t_law_draw x16)) fun x15 => (bP (lP (((((some v_value)).bind fun x23 => isiT "int" x23)).bind fun x24 => cond x24 (((((((some v_value)).bind fun x20 => isiT "bool" x20)).bind fun x21 => some (!x21))).bind fun x22 => cond x22 (((some x15)).bind fun x18 => ((some (6 : Int))).bind fun x19 => some (decide (x18 < x19))) (some false)) (some false))) fun x17 => (cond x17 (lP (((((((((((some v_value)).bind fun x25 => asI x25)).bind fun x26 => ((some (1 : Int))).bind fun x27 => some (x26 + x27))).bind fun x38 => some (eI x38))).bind fun x44 => ((((((((some v_value)).bind fun x28 => asI x28)).bind fun x29 => ((some (1 : Int))).bind fun x30 => some (x29 - x30))).bind fun x39 => some (eI x39))).bind fun x45 => ((((((((some v_value)).bind fun x31 => asI x31)).bind fun x32 => ((some (1 : Int))).bind fun x33 => some (decide (x32 = x33)))).bind fun x40 => some (eB x40))).bind fun x46 => ((((some (0 : Int))).bind fun x41 => some (eI x41))).bind fun x47 => ((((((some (1 : Int))).bind fun x34 => some (-x34))).bind fun x42 => some (eI x42))).bind fun x48 => ((((((((some v_value)).bind fun x35 => asI x35)).bind fun x36 => ((some (1 : Int))).bind fun x37 => some (x36 + x37))).bind fun x43 => some (eI x43))).bind fun x49 => some [x44, x45, x46, x47, x48, x49])).bind fun x50 => ((some x15)).bind fun x51 => atT x50 x51)) (bP (lP (((((some v_value)).bind fun x55 => isiT "tuple" x55)).bind fun x56 => cond x56 (((some x15)).bind fun x53 => ((some (6 : Int))).bind fun x54 => some (decide (x53 < x54))) (some false))) fun x52 => (cond x52 (lP (((((((((((some v_value)).bind fun x57 => asV x57)).bind fun x59 => ((((some (1 : Int))).bind fun x58 => some (some x58))).bind fun x60 => ((some none)).bind fun x61 => some (cutT x59 x60 x61))).bind fun x91 => some ((eV eD) x91))).bind fun x97 => ((((((((some v_value)).bind fun x62 => asV x62)).bind fun x65 => ((some none)).bind fun x66 => ((((((some (1 : Int))).bind fun x63 => some (-x63))).bind fun x64 => some (some x64))).bind fun x67 => some (cutT x65 x66 x67))).bind fun x92 => some ((eV eD) x92))).bind fun x98 => ((((((((some v_value)).bind fun x73 => asV x73)).bind fun x79 => ((((((some v_value)).bind fun x74 => asV x74)).bind fun x76 => ((some none)).bind fun x77 => ((((some (1 : Int))).bind fun x75 => some (some x75))).bind fun x78 => some (cutT x76 x77 x78))).bind fun x80 => extM x79 x80)).bind fun x93 => some ((eV eD) x93))).bind fun x99 => ((((((((some v_value)).bind fun x81 => asV x81)).bind fun x82 => some x82.reverse)).bind fun x94 => some ((eV eD) x94))).bind fun x100 => ((((((((some v_value)).bind fun x83 => asV x83)).bind fun x84 => some x84)).bind fun x95 => some ((eL eD) x95))).bind fun x101 => ((((((((some v_value)).bind fun x86 => asV x86)).bind fun x89 => ((((((some (0 : Int))).bind fun x87 => some (eI x87))).bind fun x88 => some [x88])).bind fun x90 => extM x89 x90)).bind fun x96 => some ((eV eD) x96))).bind fun x102 => some [x97, x98, x99, x100, x101, x102])).bind fun x103 => ((some x15)).bind fun x104 => atT x103 x104)) t_law_odd))))) (bP (bP (lP (((((some v_value)).bind fun x106 => asV x106)).bind fun x107 => some (x107.length : Int))) fun x108 => (t_law_draw x108)) fun x105 => (bP (bP (bP (lP (((((some v_value)).bind fun x109 => asV x109)).bind fun x111 => ((some none)).bind fun x112 => ((((some x105)).bind fun x110 => some (some x110))).bind fun x113 => some (cutT x111 x112 x113))) fun x122 => (bP (bP (bP (lP (((((some v_value)).bind fun x114 => asV x114)).bind fun x115 => ((some x105)).bind fun x116 => atT x115 x116)) fun x119 => (bP (lP (((some v_depth)).bind fun x117 => ((some (1 : Int))).bind fun x118 => some (x117 - x118))) fun x120 => (t_law_bent n x119 x120))) fun x121 => (lP (some [x121]))) fun x123 => (lP (extM x122 x123)))) fun x131 => (bP (lP (((((some v_value)).bind fun x124 => asV x124)).bind fun x128 => ((((((some x105)).bind fun x125 => ((some (1 : Int))).bind fun x126 => some (x125 + x126))).bind fun x127 => some (some x127))).bind fun x129 => ((some none)).bind fun x130 => some (cutT x128 x129 x130))) fun x132 => (lP (extM x131 x132)))) fun x133 => (lP (some ((eV eD) x133)))))))
theorem s_law_bent : ∀ (n : Nat) (v_value : D) (v_depth : Int), Gps (F_law_bentR n) [eD v_value, eI v_depth] (t_law_bent n v_value v_depth) eD
  | 0, _, _ => fun _ _ _ _ _ _ e => nomatch e
  | n + 1, v_value, v_depth => gps_of rfl fun S0 p => by
    unfold M_law_bent t_law_bent
    exact (pr_ifr (pt_or (pt_of fun _ => (xt_not (xt_B (xe_isi (T := "tuple") (xe_var eD rfl))))) (pt_or (pt_of fun _ => (xt_B (xe_bin (xe_view as_V (xe_var eD rfl)) (xe_tup0 (C := (eV eD)) ([] : (List D))  rfl) op_eqX))) (pt_or (pt_of fun _ => (xt_B (xe_bin (xe_var eI rfl) (xe_c eI rfl) (op_eq_ faI (by decide))))) (pt_B (px_bin (px_pcall1 rfl (px_of fun _ => (xe_c eI rfl)) (fun _ => s_law_draw _)) (px_of fun _ => (xe_c eI rfl)) (op_eq_ faI (by decide))))))) (pr_seqN (pn_asg (px_pcall1 rfl (px_of fun _ => (xe_c eI rfl)) (fun _ => s_law_draw _))) (fun x15 => (pr_ifr (pt_of fun _ => (xt_and (xt_B (xe_isi (T := "int") (xe_var eD rfl))) (xt_and (xt_not (xt_B (xe_isi (T := "bool") (xe_var eD rfl)))) (xt_B (xe_bin (xe_var eI rfl) (xe_c eI rfl) op_lt))))) (pr_of fun _ => (sr_ret (xe_bin (xe_lst6 (C := (eL eD)) (fun x44 x45 x46 x47 x48 x49 => [x44, x45, x46, x47, x48, x49]) (xe_map (B := eD) (f := eI) (xe_bin (xe_view as_I (xe_var eD rfl)) (xe_c eI rfl) op_add) (fun _ => rfl)) (xe_map (B := eD) (f := eI) (xe_bin (xe_view as_I (xe_var eD rfl)) (xe_c eI rfl) op_sub) (fun _ => rfl)) (xe_map (B := eD) (f := eB) (xe_bin (xe_view as_I (xe_var eD rfl)) (xe_c eI rfl) (op_eq_ faI (by decide))) (fun _ => rfl)) (xe_map (B := eD) (f := eI) (xe_c eI rfl) (fun _ => rfl)) (xe_map (B := eD) (f := eI) (xe_neg (xe_c eI rfl)) (fun _ => rfl)) (xe_map (B := eD) (f := eI) (xe_bin (xe_view as_I (xe_var eD rfl)) (xe_c eI rfl) op_add) (fun _ => rfl)) (fun _ _ _ _ _ _ => rfl)) (xe_var eI rfl) op_ixL))) (pr_ifr (pt_of fun _ => (xt_and (xt_B (xe_isi (T := "tuple") (xe_var eD rfl))) (xt_B (xe_bin (xe_var eI rfl) (xe_c eI rfl) op_lt)))) (pr_of fun _ => (sr_ret (xe_bin (xe_lst6 (C := (eL eD)) (fun x97 x98 x99 x100 x101 x102 => [x97, x98, x99, x100, x101, x102]) (xe_map (B := eD) (f := (eV eD)) (xe_slV (xe_view as_V (xe_var eD rfl)) (xp_some (xe_c eI rfl)) xp_none) (fun _ => rfl)) (xe_map (B := eD) (f := (eV eD)) (xe_slV (xe_view as_V (xe_var eD rfl)) xp_none (xp_some (xe_neg (xe_c eI rfl)))) (fun _ => rfl)) (xe_map (B := eD) (f := (eV eD)) (xe_bin (xe_view as_V (xe_var eD rfl)) (xe_slV (xe_view as_V (xe_var eD rfl)) xp_none (xp_some (xe_c eI rfl))) op_catV) (fun _ => rfl)) (xe_map (B := eD) (f := (eV eD)) (xe_revT (xe_view as_V (xe_var eD rfl))) (fun _ => rfl)) (xe_map (B := eD) (f := (eL eD)) (xe_call1 (xe_view as_V (xe_var eD rfl)) (fun _ => g_listV)) (fun _ => rfl)) (xe_map (B := eD) (f := (eV eD)) (xe_bin (xe_view as_V (xe_var eD rfl)) (xe_tup1 (C := (eV eD)) (fun x88 => [x88]) (xe_map (B := eD) (f := eI) (xe_c eI rfl) (fun _ => rfl)) (fun _ => rfl)) op_catV) (fun _ => rfl)) (fun _ _ _ _ _ _ => rfl)) (xe_var eI rfl) op_ixL))) (pr_ret (px_pcall0 rfl (s_law_odd))))))) (pr_seqN (pn_asg (px_pcall1 rfl (px_of fun _ => (xe_call1 (xe_view as_V (xe_var eD rfl)) (fun _ => g_lenV))) (fun _ => s_law_draw _))) (fun x105 => (pr_ret (px_map (B := eD) (f := (eV eD)) (px_bin (px_bin (px_of fun _ => (xe_slV (xe_view as_V (xe_var eD rfl)) xp_none (xp_some (xe_var eI rfl)))) (px_tup1 (C := (eV eD)) (fun x121 => [x121]) (px_pcall2 rfl (px_of fun _ => (xe_bin (xe_view as_V (xe_var eD rfl)) (xe_var eI rfl) op_ixV)) (px_of fun _ => (xe_bin (xe_var eI rfl) (xe_c eI rfl) op_sub)) (fun _ _ => s_law_bent n _ _)) (fun _ => rfl)) op_catV) (px_of fun _ => (xe_slV (xe_view as_V (xe_var eD rfl)) (xp_some (xe_bin (xe_var eI rfl) (xe_c eI rfl) op_add)) xp_none)) op_catV) (fun _ => rfl))))))
def t_law_is_pair (v_places : Int) (v_value : D) : Option Bool :=
  (((((((((some v_value)).bind fun x6 => isiT "tuple" x6)).bind fun x7 => some (!x7))).bind fun x8 => cond x8 (some true) (((((((some v_value)).bind fun x2 => asV x2)).bind fun x3 => some (x3.length : Int))).bind fun x4 => ((some (2 : Int))).bind fun x5 => some (!decide (x4 = x5))))).bind fun x1 => cond x1 (some false) (((((((((some v_value)).bind fun x22 => asV x22)).bind fun x30 => compM (fun a23 => (((((some a23)).bind fun x26 => ((some (0 : Int))).bind fun x27 => ((((some v_places)).bind fun x24 => ((some (1 : Int))).bind fun x25 => some (x24 - x25))).bind fun x28 => t_law_whole x26 x27 x28)).bind fun x29 => some (!x29))) (fun a23 => (some (1 : Int))) x30)).bind fun x31 => ((some ([] : (List Int)))).bind fun x32 => some (decide (x31 = x32)))).bind fun x33 => cond x33 (((((((((some v_value)).bind fun x9 => asV x9)).bind fun x10 => ((some (0 : Int))).bind fun x11 => atT x10 x11)).bind fun x15 => asI x15)).bind fun x20 => ((((((((some v_value)).bind fun x16 => asV x16)).bind fun x17 => ((some (1 : Int))).bind fun x18 => atT x17 x18)).bind fun x19 => asI x19)).bind fun x21 => some (!decide (x20 = x21))) (some false)))
theorem s_law_is_pair (v_places : Int) (v_value : D) : Gvs F_law_is_pair [eI v_places, eD v_value] (t_law_is_pair v_places v_value) eB := gvs_of rfl fun S0 => by
  unfold M_law_is_pair t_law_is_pair
  exact (sr_ifr (xt_or (xt_not (xt_B (xe_isi (T := "tuple") (xe_var eD rfl)))) (xt_B (xe_bin (xe_call1 (xe_view as_V (xe_var eD rfl)) (fun _ => g_lenV)) (xe_c eI rfl) (op_ne_ faI (by decide))))) (sr_ret (xe_c eB rfl)) (sr_ret (xe_and (xe_bin (xe_lc (xi_V (xe_view as_V (xe_var eD rfl))) (fun a23 => xg_name) (fun a23 => (xt_not (xt_B (xe_call3 (xe_var eD rfl) (xe_c eI rfl) (xe_bin (xe_var eI rfl) (xe_c eI rfl) op_sub) (fun _ _ _ => s_law_whole _ _ _))))) (fun a23 => (xe_c eI rfl))) (xe_lst0 (C := (eL eI)) ([] : (List Int))  rfl) (op_eq_ (faL faI) (by decide))) (xe_bin (xe_view as_I (xe_bin (xe_view as_V (xe_var eD rfl)) (xe_c eI rfl) op_ixV)) (xe_view as_I (xe_bin (xe_view as_V (xe_var eD rfl)) (xe_c eI rfl) op_ixV)) (op_ne_ faI (by decide))))))
def t_law_is_tuple (v_value : D) (v_many : Int) : Option Bool :=
  (((((some v_value)).bind fun x5 => isiT "tuple" x5)).bind fun x6 => cond x6 (((((((some v_value)).bind fun x1 => asV x1)).bind fun x2 => some (x2.length : Int))).bind fun x3 => ((some v_many)).bind fun x4 => some (decide (x3 = x4))) (some false))
theorem s_law_is_tuple (v_value : D) (v_many : Int) : Gvs F_law_is_tuple [eD v_value, eI v_many] (t_law_is_tuple v_value v_many) eB := gvs_of rfl fun S0 => by
  unfold M_law_is_tuple t_law_is_tuple
  exact (sr_ret (xe_and (xe_isi (T := "tuple") (xe_var eD rfl)) (xe_bin (xe_call1 (xe_view as_V (xe_var eD rfl)) (fun _ => g_lenV)) (xe_var eI rfl) (op_eq_ faI (by decide)))))
end TM

set_option Elab.async false
set_option linter.all false
set_option maxRecDepth 100000
set_option maxHeartbeats 4000000
/-! Values of any kind: what is drawn, bent, shown. -/
namespace TM
open PySem PySem.Spec PyProof.Rows L2 MS
/-! ### what may stand in a value -/
mutual
def anyD (B : Nat) : D → Bool
  | .non => true
  | .bl _ => true
  | .int i => decide (i.natAbs ≤ B)
  | .str _ => true
  | .tup ds => anyA B ds
  | .lst ds => anyA B ds
  | .dk ks ds => ks.isEmpty && ds.isEmpty
  | _ => false
def anyA (B : Nat) : List D → Bool
  | [] => true
  | d :: ds => anyD B d && anyA B ds
end
mutual
/-- how long it is when shown, at most -/
def wD : D → Nat
  | .str x => (reprText x).length
  | .tup ds => wA ds + 3
  | .lst ds => wA ds + 3
  | _ => 42
def wA : List D → Nat
  | [] => 0
  | d :: ds => wD d + 2 + wA ds
end
mutual
def dD : D → Nat
  | .tup ds => dA ds + 1
  | .lst ds => dA ds + 1
  | .dk _ _ => 1
  | _ => 0
def dA : List D → Nat
  | [] => 0
  | d :: ds => max (dD d) (dA ds)
end
mutual
def pyOf : D → PyData
  | .bl b => .bool b
  | .int i => .int i
  | .str x => .str x
  | .tup ds => .tuple (pyA ds)
  | .lst ds => .list (pyA ds)
  | .dk _ _ => .dict []
  | _ => .none
def pyA : List D → List PyData
  | [] => []
  | d :: ds => pyOf d :: pyA ds
end
theorem anyA_mem {B : Nat} : ∀ {ds : List D}, anyA B ds = true ↔ ∀ d ∈ ds, anyD B d = true
  | [] => ⟨fun _ _ z => (nomatch z), fun _ => rfl⟩
  | d :: ds => by
    unfold anyA
    rw [Bool.and_eq_true, anyA_mem (ds := ds)]
    exact ⟨fun h x hx => (List.mem_cons.mp hx).elim (fun e => e ▸ h.1) (h.2 x), fun h => ⟨h d (List.mem_cons_self ..), fun x hx => h x (List.mem_cons_of_mem _ hx)⟩⟩
mutual
theorem anyD_mono {B C : Nat} (h : B ≤ C) : ∀ d : D, anyD B d = true → anyD C d = true
  | .non, _ => rfl
  | .bl _, _ => rfl
  | .int i, e => decide_eq_true (Nat.le_trans (of_decide_eq_true e) h)
  | .str _, _ => rfl
  | .tup ds, e => anyA_mono h ds e
  | .lst ds, e => anyA_mono h ds e
  | .dk _ _, e => e
  | .lr _, e => nomatch e
  | .fl _, e => nomatch e
  | .dt _ _, e => nomatch e
  | .ins _ _ _, e => nomatch e
  | .fn _, e => nomatch e
theorem anyA_mono {B C : Nat} (h : B ≤ C) : ∀ ds : List D, anyA B ds = true → anyA C ds = true
  | [], _ => rfl
  | d :: ds, e => by
    have e : (anyD B d && anyA B ds) = true := e
    obtain ⟨a, b⟩ := Bool.and_eq_true_iff.mp e
    show (anyD C d && anyA C ds) = true
    rw [anyD_mono h d a, anyA_mono h ds b]; rfl
end
theorem wA_app : ∀ {xs ys : List D}, wA (xs ++ ys) = wA xs + wA ys
  | [], ys => by show wA ys = 0 + wA ys; omega
  | x :: xs, ys => by show wD x + 2 + wA (xs ++ ys) = wD x + 2 + wA xs + wA ys; rw [wA_app]; omega
theorem dA_le {n : Nat} : ∀ {ds : List D}, dA ds ≤ n ↔ ∀ d ∈ ds, dD d ≤ n
  | [] => ⟨fun _ _ z => (nomatch z), fun _ => Nat.zero_le _⟩
  | d :: ds => by
    show max (dD d) (dA ds) ≤ n ↔ _
    rw [Nat.max_le, dA_le (ds := ds)]
    exact ⟨fun h x hx => (List.mem_cons.mp hx).elim (fun e => e ▸ h.1) (h.2 x), fun h => ⟨h d (List.mem_cons_self ..), fun x hx => h x (List.mem_cons_of_mem _ hx)⟩⟩
theorem wA_mem {d : D} : ∀ {ds : List D}, d ∈ ds → wD d + 2 ≤ wA ds
  | x :: xs, h => by
    show wD d + 2 ≤ wD x + 2 + wA xs
    rcases List.mem_cons.mp h with rfl | h
    · omega
    · have := wA_mem h; omega
theorem wA_len : ∀ {ds : List D}, ds.length ≤ wA ds
  | [] => Nat.le_refl _
  | d :: ds => by show ds.length + 1 ≤ wD d + 2 + wA ds; have := wA_len (ds := ds); omega
/-! ### as plain data -/
theorem toPyX_all {n : Nat} : ∀ (ds : List D), (∀ d ∈ ds, toPyX [] n d = some (pyOf d)) → ds.mapM (toPyX [] n) = some (pyA ds)
  | [], _ => by rw [List.mapM_nil]; rfl
  | d :: ds, h => by
    rw [List.mapM_cons, h d (List.mem_cons_self ..)]
    show (ds.mapM (toPyX [] n)).bind _ = _
    rw [toPyX_all ds fun x hx => h x (List.mem_cons_of_mem _ hx)]
    rfl
theorem toPyX_any {B : Nat} : ∀ (n : Nat) (d : D), anyD B d = true → dD d < n → toPyX [] n d = some (pyOf d) := by
  intro n
  induction n with
  | zero => intro d _ h; omega
  | succ n ih =>
    intro d a h
    cases d with
    | non => rfl
    | bl => rfl
    | int => rfl
    | str => rfl
    | tup ds =>
      have h : dA ds + 1 < n + 1 := h
      show (ds.mapM (toPyX [] n)).map PyData.tuple = _
      rw [toPyX_all ds fun x hx => ih x (anyA_mem.mp a x hx) (by have := dA_le.mp (Nat.le_refl (dA ds)) x hx; omega)]
      rfl
    | lst ds =>
      have h : dA ds + 1 < n + 1 := h
      show (ds.mapM (toPyX [] n)).map PyData.list = _
      rw [toPyX_all ds fun x hx => ih x (anyA_mem.mp a x hx) (by have := dA_le.mp (Nat.le_refl (dA ds)) x hx; omega)]
      rfl
    | dk ks ds =>
      have a : (ks.isEmpty && ds.isEmpty) = true := a
      cases ks with
      | nil => cases ds with
        | nil => rfl
        | cons => cases a
      | cons => cases a
    | lr => cases a
    | fl => cases a
    | dt => cases a
    | ins => cases a
    | fn => cases a
mutual
theorem py_ok {B : Nat} (hB : B < 10 ^ 40) : ∀ d : D, anyD B d = true → (pyOf d).showable = true ∧ (pyOf d).depth ≤ dD d ∧ (pyOf d).shown.length ≤ wD d
  | .non, _ => ⟨rfl, Nat.le_refl _, by decide⟩
  | .bl b, _ => ⟨rfl, Nat.le_refl _, by cases b <;> decide⟩
  | .int i, a => by
    have a : i.natAbs ≤ B := of_decide_eq_true a
    have h' : i.natAbs < 10 ^ 40 := Nat.lt_of_le_of_lt a hB
    refine ⟨decide_eq_true ?_, Nat.le_refl _, ?_⟩
    · have := log2_lt (k := 1910) (Nat.lt_trans h' (by decide +kernel)) (by decide)
      omega
    · have := int_text_length_le10 (a := i) (k := 40) (by decide) h'
      show ((toString i : String) : Str).length ≤ 42
      rw [PySem.ofString_length]
      omega
  | .str x, _ => ⟨rfl, Nat.le_refl _, Nat.le_refl _⟩
  | .tup ds, a => by
    obtain ⟨h1, h2, h3⟩ := pyA_ok hB ds a
    refine ⟨h1, ?_, ?_⟩
    · show PyData.depthAll (pyA ds) + 1 ≤ dA ds + 1; omega
    · have := tupleText_le (PyData.shownAll (pyA ds))
      show (tupleText (PyData.shownAll (pyA ds))).length ≤ wA ds + 3
      omega
  | .lst ds, a => by
    obtain ⟨h1, h2, h3⟩ := pyA_ok hB ds a
    refine ⟨h1, ?_, ?_⟩
    · show PyData.depthAll (pyA ds) + 1 ≤ dA ds + 1; omega
    · have := listText_le (PyData.shownAll (pyA ds))
      show (listText (PyData.shownAll (pyA ds))).length ≤ wA ds + 3
      omega
  | .dk _ _, _ => ⟨rfl, Nat.le_refl _, by show (dictText []).length ≤ 42; decide +kernel⟩
  | .lr _, e => nomatch e
  | .fl _, e => nomatch e
  | .dt _ _, e => nomatch e
  | .ins _ _ _, e => nomatch e
  | .fn _, e => nomatch e
theorem pyA_ok {B : Nat} (hB : B < 10 ^ 40) : ∀ ds : List D, anyA B ds = true → PyData.showableAll (pyA ds) = true ∧ PyData.depthAll (pyA ds) ≤ dA ds ∧ piled (PyData.shownAll (pyA ds)) ≤ wA ds
  | [], _ => ⟨rfl, Nat.le_refl _, Nat.le_refl _⟩
  | d :: ds, e => by
    have e : (anyD B d && anyA B ds) = true := e
    obtain ⟨a, b⟩ := Bool.and_eq_true_iff.mp e
    obtain ⟨h1, h2, h3⟩ := py_ok hB d a
    obtain ⟨k1, k2, k3⟩ := pyA_ok hB ds b
    refine ⟨?_, ?_, ?_⟩
    · show ((pyOf d).showable && PyData.showableAll (pyA ds)) = true
      rw [h1, k1]; rfl
    · show max (pyOf d).depth (PyData.depthAll (pyA ds)) ≤ max (dD d) (dA ds)
      omega
    · show piled ((pyOf d).shown :: PyData.shownAll (pyA ds)) ≤ wD d + 2 + wA ds
      rw [piled_cons]
      omega
end
/-- a value: its numbers, its length when shown, its depth -/
structure An (B w m : Nat) (d : D) : Prop where
  any : anyD B d = true
  wt : wD d ≤ w
  dp : dD d ≤ m
theorem An.mono {B w m B' w' m' : Nat} {d : D} (h : An B w m d) (h1 : B ≤ B') (h2 : w ≤ w') (h3 : m ≤ m') : An B' w' m' d := ⟨anyD_mono h1 d h.any, Nat.le_trans h.wt h2, Nat.le_trans h.dp h3⟩
theorem reprD_eq {B w m : Nat} {d : D} (h : An B w m d) (hB : B < 10 ^ 40) (hw : w ≤ 16777216) (hm : m ≤ 60) : reprD d = some (pyOf d).shown := by
  obtain ⟨h1, h2, h3⟩ := py_ok hB d h.any
  have hd := h.dp
  have hwt := h.wt
  unfold reprD
  rw [toPyX_any 64 d h.any (by omega)]
  show cond (okShowX (pyOf d)) _ _ = _
  have : okShowX (pyOf d) = true := by
    unfold okShowX
    rw [h1, decide_eq_true (show (pyOf d).depth ≤ 64 by omega), decide_eq_true (show (pyOf d).shown.length ≤ szl by unfold szl; omega)]
    rfl
  rw [this]
  rfl
theorem An.int {B : Nat} {i : Int} (h : i.natAbs ≤ B) : An B 42 0 (.int i) := ⟨decide_eq_true h, Nat.le_refl _, Nat.le_refl _⟩
theorem An.bl {B : Nat} {b : Bool} : An B 42 0 (.bl b) := ⟨rfl, Nat.le_refl _, Nat.le_refl _⟩
theorem An.non {B : Nat} : An B 42 0 .non := ⟨rfl, Nat.le_refl _, Nat.le_refl _⟩
theorem An.dict {B : Nat} : An B 42 1 (.dk [] []) := ⟨rfl, Nat.le_refl _, Nat.le_refl _⟩
theorem wA_le {k : Nat} : ∀ {ds : List D}, (∀ d ∈ ds, wD d ≤ k) → wA ds ≤ ds.length * (k + 2)
  | [], _ => Nat.zero_le _
  | d :: ds, h => by
    have := wA_le (ds := ds) fun x hx => h x (List.mem_cons_of_mem _ hx)
    have h1 := h d (List.mem_cons_self ..)
    show wD d + 2 + wA ds ≤ (ds.length + 1) * (k + 2)
    rw [Nat.succ_mul]; omega
theorem An.tup {B k m n : Nat} {ds : List D} (h : ∀ d ∈ ds, An B k m d) (hn : ds.length ≤ n) : An B (n * (k + 2) + 3) (m + 1) (.tup ds) :=
  ⟨anyA_mem.mpr fun d hd => (h d hd).any, by
    have := wA_le fun d hd => (h d hd).wt
    have h2 := Nat.mul_le_mul_right (k + 2) hn
    show wA ds + 3 ≤ _; omega, Nat.succ_le_succ (dA_le.mpr fun d hd => (h d hd).dp)⟩
theorem An.lst {B k m n : Nat} {ds : List D} (h : ∀ d ∈ ds, An B k m d) (hn : ds.length ≤ n) : An B (n * (k + 2) + 3) (m + 1) (.lst ds) :=
  ⟨anyA_mem.mpr fun d hd => (h d hd).any, by
    have := wA_le fun d hd => (h d hd).wt
    have h2 := Nat.mul_le_mul_right (k + 2) hn
    show wA ds + 3 ≤ _; omega, Nat.succ_le_succ (dA_le.mpr fun d hd => (h d hd).dp)⟩
theorem An.toL {B w m : Nat} {ds : List D} (h : An B w m (.tup ds)) : An B w m (.lst ds) := ⟨h.any, h.wt, h.dp⟩
theorem An.sub {B w m : Nat} {ds es : List D} (h : An B w m (.tup ds)) (hs : ∀ d ∈ es, d ∈ ds) (hw : wA es ≤ wA ds) : An B w m (.tup es) :=
  ⟨anyA_mem.mpr fun d hd => anyA_mem.mp h.any d (hs d hd), Nat.le_trans (Nat.add_le_add_right hw 3) h.wt, by
    have h1 : dA ds + 1 ≤ m := h.dp
    show dA es + 1 ≤ m
    have := dA_le.mpr fun d hd => dA_le.mp (Nat.le_refl (dA ds)) d (hs d hd)
    omega⟩
theorem An.app {B w m w' m' : Nat} {ds es : List D} (h : An B w m (.tup ds)) (h' : An B w' m' (.tup es)) : An B (w + w') (max m m') (.tup (ds ++ es)) :=
  ⟨anyA_mem.mpr fun d hd => (List.mem_append.mp hd).elim (anyA_mem.mp h.any d) (anyA_mem.mp h'.any d), by
    have h1 : wA ds + 3 ≤ w := h.wt
    have h2 : wA es + 3 ≤ w' := h'.wt
    show wA (ds ++ es) + 3 ≤ _
    rw [wA_app]; omega, by
    have h1 : dA ds + 1 ≤ m := h.dp
    have h2 : dA es + 1 ≤ m' := h'.dp
    show dA (ds ++ es) + 1 ≤ _
    have := dA_le (n := max (dA ds) (dA es)).mpr fun d hd => (List.mem_append.mp hd).elim (fun z => Nat.le_trans (dA_le.mp (Nat.le_refl (dA ds)) d z) (Nat.le_max_left _ _)) (fun z => Nat.le_trans (dA_le.mp (Nat.le_refl (dA es)) d z) (Nat.le_max_right _ _))
    omega⟩
theorem An.mem {B w m : Nat} {ds : List D} {d : D} (h : An B w m (.tup ds)) (hd : d ∈ ds) : An B w m d :=
  ⟨anyA_mem.mp h.any d hd, by
    have h1 : wA ds + 3 ≤ w := h.wt
    have := wA_mem hd; omega, by
    have h1 : dA ds + 1 ≤ m := h.dp
    have := dA_le.mp (Nat.le_refl (dA ds)) d hd; omega⟩
theorem wA_drop : ∀ {ds : List D} (n : Nat), wA (ds.drop n) ≤ wA ds
  | ds, 0 => Nat.le_refl _
  | [], _ + 1 => Nat.le_refl _
  | d :: ds, n + 1 => by show wA (ds.drop n) ≤ wD d + 2 + wA ds; have := wA_drop (ds := ds) n; omega
theorem wA_take : ∀ {ds : List D} (n : Nat), wA (ds.take n) ≤ wA ds
  | ds, 0 => Nat.zero_le _
  | [], _ + 1 => Nat.le_refl _
  | d :: ds, n + 1 => by show wD d + 2 + wA (ds.take n) ≤ wD d + 2 + wA ds; have := wA_take (ds := ds) n; omega
theorem wA_cut {ds : List D} {a b : Option Int} : wA (cutT ds a b) ≤ wA ds := Nat.le_trans (wA_take _) (wA_drop _)
theorem mem_cut {α : Type} {ds : List α} {a b : Option Int} : ∀ x ∈ cutT ds a b, x ∈ ds := fun x hx => List.mem_of_mem_drop (List.mem_of_mem_take hx)
theorem wA_rev {ds : List D} : wA ds.reverse = wA ds := by
  induction ds with
  | nil => rfl
  | cons d ds ih =>
    rw [List.reverse_cons, wA_app, ih]
    show wA ds + (wD d + 2 + 0) = wD d + 2 + wA ds
    omega
theorem cut_to {α : Type} {ds : List α} {k : Nat} : cutT ds none (some (k : Int)) = ds.take k := by
  unfold cutT
  rw [HT.sIx_none, HT.sIx_nat, List.drop_zero, Nat.sub_zero]
  rcases Nat.le_total k ds.length with h | h
  · rw [Nat.min_eq_left h]
  · rw [Nat.min_eq_right h, List.take_length, List.take_of_length_le h]
theorem cut_from {α : Type} {ds : List α} {k : Nat} (h : k ≤ ds.length) : cutT ds (some (k : Int)) none = ds.drop k := by
  unfold cutT
  rw [HT.sIx_none, HT.sIx_nat, Nat.min_eq_left h]
  exact List.take_of_length_le (by rw [List.length_drop]; omega)
theorem wA_split {ds : List D} {k : Nat} {x : D} (h : ds[k]? = some x) : wA (ds.take k) + (wD x + 2) + wA (ds.drop (k + 1)) = wA ds := by
  obtain ⟨hl, e⟩ := List.getElem?_eq_some_iff.mp h
  have : ds = ds.take k ++ x :: ds.drop (k + 1) := by
    rw [← e, List.getElem_cons_drop]
    exact (List.take_append_drop k ds).symm
  conv => rhs; rw [this]
  rw [wA_app]
  show _ = wA (ds.take k) + (wD x + 2 + wA (ds.drop (k + 1)))
  omega
/-! ### isinstance -/
def plain : D → Bool
  | .non => true
  | .bl _ => true
  | .int _ => true
  | .str _ => true
  | .tup _ => true
  | .lst _ => true
  | .dk _ _ => true
  | _ => false
theorem plain_of {B : Nat} {d : D} (h : anyD B d = true) : plain d = true := by
  cases d <;> first | rfl | cases h
def isTup : D → Bool
  | .tup _ => true
  | _ => false
def isInt : D → Bool
  | .int _ => true
  | .bl _ => true
  | _ => false
def isBool : D → Bool
  | .bl _ => true
  | _ => false
def isStr : D → Bool
  | .str _ => true
  | _ => false
theorem isi_tuple {d : D} (h : plain d = true) : isiT "tuple" d = some (isTup d) := by
  cases d with
  | non => show kitB "NoneType" "tuple" = some false; decide +kernel
  | bl => show kitB "bool" "tuple" = some false; decide +kernel
  | int => show kitB "int" "tuple" = some false; decide +kernel
  | str => show kitB "str" "tuple" = some false; decide +kernel
  | tup => show kitB "tuple" "tuple" = some true; decide +kernel
  | lst => show kitB "list" "tuple" = some false; decide +kernel
  | dk => show kitB "dict" "tuple" = some false; decide +kernel
  | _ => cases h
theorem isi_int {d : D} (h : plain d = true) : isiT "int" d = some (isInt d) := by
  cases d with
  | non => show kitB "NoneType" "int" = some false; decide +kernel
  | bl => show kitB "bool" "int" = some true; decide +kernel
  | int => show kitB "int" "int" = some true; decide +kernel
  | str => show kitB "str" "int" = some false; decide +kernel
  | tup => show kitB "tuple" "int" = some false; decide +kernel
  | lst => show kitB "list" "int" = some false; decide +kernel
  | dk => show kitB "dict" "int" = some false; decide +kernel
  | _ => cases h
theorem isi_bool {d : D} (h : plain d = true) : isiT "bool" d = some (isBool d) := by
  cases d with
  | non => show kitB "NoneType" "bool" = some false; decide +kernel
  | bl => show kitB "bool" "bool" = some true; decide +kernel
  | int => show kitB "int" "bool" = some false; decide +kernel
  | str => show kitB "str" "bool" = some false; decide +kernel
  | tup => show kitB "tuple" "bool" = some false; decide +kernel
  | lst => show kitB "list" "bool" = some false; decide +kernel
  | dk => show kitB "dict" "bool" = some false; decide +kernel
  | _ => cases h
theorem isi_str {d : D} (h : plain d = true) : isiT "str" d = some (isStr d) := by
  cases d with
  | non => show kitB "NoneType" "str" = some false; decide +kernel
  | bl => show kitB "bool" "str" = some false; decide +kernel
  | int => show kitB "int" "str" = some false; decide +kernel
  | str => show kitB "str" "str" = some true; decide +kernel
  | tup => show kitB "tuple" "str" = some false; decide +kernel
  | lst => show kitB "list" "str" = some false; decide +kernel
  | dk => show kitB "dict" "str" = some false; decide +kernel
  | _ => cases h
/-! ### whole numbers within bounds, pairs of places -/
def inI : D → Int → Int → Bool
  | .int i, lo, hi => decide (lo ≤ i) && decide (i ≤ hi)
  | _, _, _ => false
theorem within_eq {d : D} {lo hi : Int} (h : plain d = true) : t_is_integer_within d lo hi = some (inI d lo hi) := by
  unfold t_is_integer_within
  simp only [Option.bind_some]
  rw [isi_int h, isi_bool h]
  cases d with
  | int i =>
    show cond (decide (lo ≤ i)) (some (decide (i ≤ hi))) (some false) = some (decide (lo ≤ i) && decide (i ≤ hi))
    cases decide (lo ≤ i) <;> rfl
  | _ => rfl
theorem whole_eq {d : D} {lo hi : Int} (h : plain d = true) : t_law_whole d lo hi = some (inI d lo hi) := by
  unfold t_law_whole
  simp only [Option.bind_some]
  rw [isi_int h, isi_bool h]
  cases d with
  | int i =>
    show cond (decide (lo ≤ i)) (some (decide (i ≤ hi))) (some false) = some (decide (lo ≤ i) && decide (i ≤ hi))
    cases decide (lo ≤ i) <;> rfl
  | _ => rfl
theorem inI_int {d : D} {lo hi : Int} (h : inI d lo hi = true) : ∃ i, d = .int i ∧ lo ≤ i ∧ i ≤ hi := by
  unfold inI at h
  split at h
  · rw [Bool.and_eq_true, decide_eq_true_eq, decide_eq_true_eq] at h
    exact ⟨_, rfl, h⟩
  · cases h
def neI : D → D → Bool
  | .int i, .int j => !decide (i = j)
  | _, _ => false
def pairI : D → Int → Bool
  | .tup [a, b], n => inI a 0 (n - 1) && inI b 0 (n - 1) && neI a b
  | _, _ => false
theorem is_tuple_eq {d : D} {n : Int} (h : plain d = true) : t_law_is_tuple d n = some (match d with | .tup ds => decide ((ds.length : Int) = n) | _ => false) := by
  unfold t_law_is_tuple
  simp only [Option.bind_some]
  rw [isi_tuple h]
  cases d <;> rfl
theorem pair_eq {B : Nat} {d : D} {n : Int} (h : anyD B d = true) : t_is_place_pair d n = some (pairI d n) := by
  unfold t_is_place_pair
  simp only [Option.bind_some]
  rw [isi_tuple (plain_of h)]
  cases d with
  | tup ds =>
    match ds, h with
    | [a, b], h =>
      have pa := plain_of (anyA_mem.mp h a (by simp))
      have pb := plain_of (anyA_mem.mp h b (by simp))
      simp only [isTup, asV, asT2, Option.bind_some, Bool.not_true, cond_false, List.length_cons, List.length_nil]
      rw [within_eq pa, within_eq pb]
      show _ = some (inI a 0 (n - 1) && inI b 0 (n - 1) && neI a b)
      cases ha : inI a 0 (n - 1) with
      | false => rfl
      | true =>
        cases hb : inI b 0 (n - 1) with
        | false => rfl
        | true =>
          obtain ⟨i, rfl, _⟩ := inI_int ha
          obtain ⟨j, rfl, _⟩ := inI_int hb
          rfl
    | [], _ => rfl
    | [_], _ => rfl
    | _ :: _ :: _ :: ds, _ =>
      simp only [isTup, asV, Option.bind_some, Bool.not_true, cond_false, List.length_cons]
      rw [decide_eq_false (by omega)]
      rfl
  | _ => rfl
theorem comp_nil {α : Type} {p : α → Bool} {c : α → Option Bool} {xs : List α} (hz : xs.length ≤ 16777216) (hc : ∀ x ∈ xs, c x = some (!p x)) : (compM c (fun _ => some (1 : Int)) xs).bind (fun ys => some (decide (ys = []))) = some (xs.all p) := by
  rw [compM_eq (fun x => !p x) (fun _ => 1) hz hc fun _ _ _ => rfl]
  show some (decide _) = _
  congr 1
  cases h : xs.all p with
  | true => exact decide_eq_true (List.map_eq_nil_iff.mpr (List.filter_eq_nil_iff.mpr fun x hx => by rw [List.all_eq_true.mp h x hx]; decide))
  | false =>
    refine decide_eq_false fun z => ?_
    have z := List.filter_eq_nil_iff.mp (List.map_eq_nil_iff.mp z)
    rw [List.all_eq_false] at h
    obtain ⟨x, hx, hp⟩ := h
    exact z x hx (by simp only [Bool.not_eq_true] at hp; rw [hp]; rfl)
theorem lpair_eq {B : Nat} {d : D} {n : Int} (h : anyD B d = true) : t_law_is_pair n d = some (pairI d n) := by
  unfold t_law_is_pair
  simp only [Option.bind_some]
  rw [isi_tuple (plain_of h)]
  cases d with
  | tup ds =>
    match ds, h with
    | [a, b], h =>
      have pa := plain_of (anyA_mem.mp h a (by simp))
      have pb := plain_of (anyA_mem.mp h b (by simp))
      simp only [isTup, asV, Option.bind_some, Bool.not_true, cond_false, List.length_cons, List.length_nil]
      show Option.bind (Option.bind (compM _ _ _) _) _ = _
      rw [comp_nil (p := fun x => inI x 0 (n - 1)) (by show 2 ≤ _; decide) (fun x hx => by
        have : plain x = true := plain_of (anyA_mem.mp h x hx)
        show (t_law_whole x 0 (n - 1)).bind _ = _
        rw [whole_eq this]
        rfl)]
      show cond ([a, b].all fun x => inI x 0 (n - 1)) _ _ = _
      show cond (inI a 0 (n - 1) && (inI b 0 (n - 1) && true)) _ _ = _
      show _ = some (inI a 0 (n - 1) && inI b 0 (n - 1) && neI a b)
      cases ha : inI a 0 (n - 1) with
      | false => rfl
      | true =>
        cases hb : inI b 0 (n - 1) with
        | false => rfl
        | true =>
          obtain ⟨i, rfl, _⟩ := inI_int ha
          obtain ⟨j, rfl, _⟩ := inI_int hb
          rfl
    | [], _ => rfl
    | [_], _ => rfl
    | _ :: _ :: _ :: ds, _ =>
      simp only [isTup, asV, Option.bind_some, Bool.not_true, cond_false, List.length_cons]
      rw [decide_eq_false (by omega)]
      rfl
  | _ => rfl
end TM

set_option Elab.async false
set_option linter.all false
set_option maxRecDepth 100000
set_option maxHeartbeats 4000000
namespace TM
open PySem PySem.Spec PyProof.Rows L2 MS
local macro_rules | `(tactic| walk_at "st") => `(tactic| first
  | with_reducible refine wp_b ?_ | with_reducible refine wp_l ?_ | with_reducible refine wo_b ?_ | with_reducible refine wo_some ?_)
def B0 : Nat := 10 ^ 12 + 1
def oddA : List D := [.non, .bl true, .bl false, .int (-1), .int 0, .int 1, .int 2, .int 3, .int 8, .int 9, .int 24, .str (Str.ofString ""), .str (Str.ofString "0"), .str (Str.ofString "first"), .tup [], .lst [], .dk [] [], .tup [.int 0], .tup [.int 0, .int 1], .tup [.int 0, .int 1, .int 2]]
def oddB : List D := [.int (10 ^ 12), .int (10 ^ 12 + 1), .int (-(10 ^ 12) - 1), .tup [.tup []], .lst [.int 1], .tup [.int 1, .tup []], .tup [.non, .int 0, .int 0]]
def anb (x : D) : Bool := anyD B0 x && (decide (wD x ≤ 300) && decide (dD x ≤ 2))
theorem odd_all : (oddA ++ oddB).all anb = true := by decide +kernel
theorem odd_An {x : D} (h : x ∈ oddA ++ oddB) : An B0 300 2 x := by
  have := List.all_eq_true.mp odd_all x h
  unfold anb at this
  simp only [Bool.and_eq_true, decide_eq_true_eq] at this
  exact ⟨this.1, this.2.1, this.2.2⟩
theorem odd_ok {P : Pn} (h : Good P) : wp t_law_odd P fun v P' => An B0 300 2 v ∧ Good P' := by
  unfold t_law_odd
  refine wp_b (wp_l (wo_eq (a := oddA) (by rfl) ?_))
  refine wp_b (wp_l (wo_eq (a := oddA ++ oddB) (by rfl) ?_))
  exact (one_of_ok h (by decide) (by decide)).mono fun x P' hx => ⟨odd_An hx.1, hx.2⟩
theorem cutT_len {α : Type} {xs : List α} {a b : Option Int} : (cutT xs a b).length ≤ xs.length := by
  unfold cutT
  rw [List.length_take, List.length_drop]
  omega
theorem or_wp {P : Pn} {α : Type} {k : Bool} {t : PM Bool} {f : Bool → PM α} {Q : α → Pn → Prop} (h1 : k = true → wp (f true) P Q) (h2 : k = false → wp t P fun b P1 => wp (f b) P1 Q) : wp (bP (cond k (lP (some true)) t) f) P Q := by
  refine wp_b ?_
  cases k with
  | true => exact wp_l (wo_some (h1 rfl))
  | false => exact h2 rfl
theorem ext_len {α : Type} {xs ys : List α} (h : xs.length + ys.length ≤ 16777216) {Q : List α → Prop} (q : Q (xs ++ ys)) : wo (extM xs ys) Q := wo_eq (extM_eq h) q
theorem bent_ok : ∀ (n : Nat) {P : Pn} {v : D} {k : Int} {B w m : Nat}, Good P → An B w m v → B0 ≤ B → k < n → 0 ≤ k → w ≤ 1000000 → wp (t_law_bent n v k) P fun v' P' => An (B + 1) (2 * w + 400) (m + 3) v' ∧ Good P' := by
  intro n
  induction n with
  | zero => intro P v k B w m g a hB hk hk0; omega
  | succ n ih =>
    intro P v k B w m g a hB hk hk0 hl
    have pl := plain_of a.any
    unfold t_law_bent
    refine wp_b (wp.mono (Q := fun b P1 => Good P1 ∧ (b = false → ∃ ds, v = .tup ds ∧ ds ≠ [] ∧ 1 ≤ k)) ?_ fun b P1 hb => wp_if (fun _ => ?_) (fun hb0 => ?_))
    · repeat walk_at "st"
      refine wo_eq (isi_tuple pl) ?_
      repeat walk_at "st"
      refine wp_if (fun h => wp_l (wo_some ⟨g, fun z => nomatch z⟩)) (fun h => ?_)
      cases v with
      | tup ds =>
        repeat walk_at "st"
        refine wo_eq (a := ds) rfl ?_
        repeat walk_at "st"
        refine wo_if (fun _ => ?_) (fun z => nomatch z)
        repeat walk_at "st"
        refine wp_if (fun h => wp_l (wo_some ⟨g, fun z => nomatch z⟩)) (fun h1 => ?_)
        repeat walk_at "st"
        refine wp_if (fun h => wp_l (wo_some ⟨g, fun z => nomatch z⟩)) (fun h2 => ?_)
        repeat walk_at "st"
        refine (draw_ok g (by decide) (by decide)).mono fun d P2 hd => ?_
        repeat walk_at "st"
        refine ⟨hd.2.2, fun _ => ⟨ds, rfl, (fun z => by subst z; cases h1), ?_⟩⟩
        have h2 : decide (k = 0) = false := h2
        have := of_decide_eq_false h2
        omega
      | _ => cases h
    · repeat walk_at "st"
      refine (draw_ok hb.1 (by decide) (by decide)).mono fun o P2 ho => ?_
      have hodd : wp t_law_odd P2 fun v' P' => An (B + 1) (2 * w + 400) (m + 3) v' ∧ Good P' := (odd_ok ho.2.2).mono fun x P3 hx => ⟨hx.1.mono (by omega) (by omega) (by omega), hx.2⟩
      have g2 := ho.2.2
      repeat walk_at "st"
      refine wo_eq (isi_int pl) ?_
      repeat walk_at "st"
      refine wo_if (fun h => ?_) (fun h => ?_)
      · repeat walk_at "st"
        refine wo_eq (isi_bool pl) ?_
        repeat walk_at "st"
        refine wo_if (fun h2 => ?_) (fun h2 => ?_)
        · cases v with
          | int i =>
            have hi : i.natAbs ≤ B := of_decide_eq_true a.any
            repeat walk_at "st"
            refine wp_if (fun h3 => ?_) (fun h3 => ?_)
            · have h3 := of_decide_eq_true h3
              refine wp_l ?_
              repeat walk_at "st"
              refine wo_eq (a := i) rfl ?_
              repeat walk_at "st"
              refine wo_eq (a := i) rfl ?_
              repeat walk_at "st"
              refine wo_eq (a := i) rfl ?_
              repeat walk_at "st"
              refine wo_eq (a := i) rfl ?_
              repeat walk_at "st"
              refine wo_atI ho.1 h3 fun x hx _ => ⟨?_, g2⟩
              have bnd : ∀ {j : Int}, j.natAbs ≤ B + 1 → An (B + 1) (2 * w + 400) (m + 3) (.int j) := fun hj => (An.int hj).mono (Nat.le_refl _) (by omega) (by omega)
              simp only [List.mem_cons, List.not_mem_nil, or_false] at hx
              rcases hx with rfl | rfl | rfl | rfl | rfl | rfl
              · exact bnd (by omega)
              · exact bnd (by omega)
              · exact An.bl.mono (Nat.le_refl _) (by omega) (by omega)
              · exact bnd (by omega)
              · exact bnd (by omega)
              · exact bnd (by omega)
            · repeat walk_at "st"
              refine wo_eq (isi_tuple pl) ?_
              refine wo_if (fun z => nomatch z) (fun _ => ?_)
              repeat walk_at "st"
              exact hodd
          | bl => cases h2
          | _ => cases h
        · repeat walk_at "st"
          refine wp_if (fun z => nomatch z) (fun _ => ?_)
          repeat walk_at "st"
          refine wo_eq (isi_tuple pl) ?_
          refine wo_if (fun z => ?_) (fun _ => ?_)
          · cases v <;> first | (simp [isInt] at h; done) | (simp [isTup] at z; done)
          · repeat walk_at "st"
            exact hodd
      · repeat walk_at "st"
        refine wp_if (fun z => nomatch z) (fun _ => ?_)
        repeat walk_at "st"
        refine wo_eq (isi_tuple pl) ?_
        refine wo_if (fun z => ?_) (fun _ => ?_)
        · cases v with
          | tup ds =>
            have hw : wA ds + 3 ≤ w := a.wt
            have hlen := wA_len (ds := ds)
            repeat walk_at "st"
            refine wp_if (fun h3 => ?_) (fun h3 => ?_)
            · have h3 := of_decide_eq_true h3
              refine wp_l ?_
              repeat walk_at "st"
              refine wo_eq (a := ds) rfl ?_
              repeat walk_at "st"
              refine wo_eq (a := ds) rfl ?_
              repeat walk_at "st"
              refine wo_eq (a := ds) rfl ?_
              repeat walk_at "st"
              refine wo_eq (a := ds) rfl ?_
              have hc := cutT_len (xs := ds) (a := none) (b := some 1)
              repeat walk_at "st"
              refine ext_len ?_ ?_
              · omega
              repeat walk_at "st"
              refine wo_eq (a := ds) rfl ?_
              repeat walk_at "st"
              refine wo_eq (a := ds) rfl ?_
              repeat walk_at "st"
              refine wo_eq (a := ds) rfl ?_
              refine ext_len ?_ ?_
              · show ds.length + 1 ≤ _; omega
              repeat walk_at "st"
              refine wo_atI ho.1 h3 fun x hx _ => ⟨?_, g2⟩
              have up : ∀ {d : D} {w' m' : Nat}, An B w' m' d → w' ≤ 2 * w + 400 → m' ≤ m + 3 → An (B + 1) (2 * w + 400) (m + 3) d := fun a h1 h2 => a.mono (by omega) h1 h2
              have eid : ∀ l : List D, l.map eD = l := fun l => List.map_id l
              simp only [List.mem_cons, List.not_mem_nil, or_false] at hx
              rcases hx with rfl | rfl | rfl | rfl | rfl | rfl
              · show An _ _ _ (.tup ((cutT ds (some 1) none).map eD))
                rw [eid]; exact up (a.sub mem_cut wA_cut) (by omega) (by omega)
              · show An _ _ _ (.tup ((cutT ds none (some (-1))).map eD))
                rw [eid]; exact up (a.sub mem_cut wA_cut) (by omega) (by omega)
              · show An _ _ _ (.tup ((ds ++ cutT ds none (some 1)).map eD))
                rw [eid]; exact up (a.app (a.sub mem_cut wA_cut)) (by omega) (by omega)
              · show An _ _ _ (.tup (ds.reverse.map eD))
                rw [eid]; exact up (a.sub (fun d hd => List.mem_reverse.mp hd) (by rw [wA_rev]; exact Nat.le_refl _)) (by omega) (by omega)
              · show An _ _ _ (.lst (ds.map eD))
                rw [eid]; exact up a.toL (by omega) (by omega)
              · show An _ _ _ (.tup ((ds ++ [D.int 0]).map eD))
                rw [eid]; exact up (a.app (An.tup (n := 1) (k := 42) (m := 0) (ds := [D.int 0]) (fun d hd => by rw [List.mem_singleton.mp hd]; exact An.int (Nat.zero_le _)) (Nat.le_refl _))) (by omega) (by omega)
            · repeat walk_at "st"
              exact hodd
          | _ => cases z
        · repeat walk_at "st"
          exact hodd
    · obtain ⟨ds, rfl, hne, hk1⟩ := hb.2 hb0
      have hw : wA ds + 3 ≤ w := a.wt
      have hlen := wA_len (ds := ds)
      have hpos : 0 < ds.length := List.length_pos_iff.mpr hne
      repeat walk_at "st"
      refine wo_eq (a := ds) rfl ?_
      repeat walk_at "st"
      refine (draw_ok hb.1 (by omega) (by omega)).mono fun at_ P2 hat => ?_
      obtain ⟨ha0, ha1, g2⟩ := hat
      obtain ⟨j, rfl⟩ := Int.eq_ofNat_of_zero_le ha0
      have hj : j < ds.length := by omega
      repeat walk_at "st"
      refine wo_eq (a := ds) rfl ?_
      repeat walk_at "st"
      refine wo_eq (a := ds) rfl ?_
      repeat walk_at "st"
      refine wo_eq (atT_nat (List.getElem?_eq_getElem hj)) ?_
      repeat walk_at "st"
      have hx : ds[j] ∈ ds := List.getElem_mem hj
      have ax := a.mem hx
      have hsp := wA_split (List.getElem?_eq_getElem hj)
      have dm : dA ds + 1 ≤ m := a.dp
      have dx := dA_le.mp (Nat.le_refl (dA ds)) _ hx
      refine (ih (B := B) (w := wD ds[j]) (m := m - 1) g2 ⟨ax.any, Nat.le_refl _, by omega⟩ hB (by omega) (by omega) (by omega)).mono fun y P3 hy => ?_
      obtain ⟨ay, g3⟩ := hy
      repeat walk_at "st"
      rw [cut_to]
      have ht : (ds.take j).length ≤ ds.length := by rw [List.length_take]; omega
      refine ext_len (by show _ + 1 ≤ _; omega) ?_
      repeat walk_at "st"
      refine wo_eq (a := ds) rfl ?_
      repeat walk_at "st"
      have ec : cutT ds (some ((j : Int) + 1)) none = ds.drop (j + 1) := cut_from (k := j + 1) (by omega)
      rw [ec]
      have hd : (ds.drop (j + 1)).length ≤ ds.length := by rw [List.length_drop]; omega
      refine ext_len (by rw [List.length_append]; show (ds.take j).length + 1 + _ ≤ _; omega) ?_
      repeat walk_at "st"
      refine ⟨?_, g3⟩
      show An _ _ _ (.tup ((ds.take j ++ [y] ++ ds.drop (j + 1)).map eD))
      rw [show (ds.take j ++ [y] ++ ds.drop (j + 1)).map eD = ds.take j ++ [y] ++ ds.drop (j + 1) from List.map_id _]
      have hy1 := ay.wt
      have hy2 := ay.dp
      refine ⟨anyA_mem.mpr fun d hd => ?_, ?_, ?_⟩
      · rcases List.mem_append.mp hd with hd | hd
        · rcases List.mem_append.mp hd with hd | hd
          · exact anyD_mono (Nat.le_succ _) _ (anyA_mem.mp a.any d (List.mem_of_mem_take hd))
          · rw [List.mem_singleton.mp hd]; exact ay.any
        · exact anyD_mono (Nat.le_succ _) _ (anyA_mem.mp a.any d (List.mem_of_mem_drop hd))
      · show wA (ds.take j ++ [y] ++ ds.drop (j + 1)) + 3 ≤ _
        rw [wA_app, wA_app]
        show wA (ds.take j) + (wD y + 2 + 0) + wA (ds.drop (j + 1)) + 3 ≤ _
        omega
      · show dA (ds.take j ++ [y] ++ ds.drop (j + 1)) + 1 ≤ _
        refine Nat.succ_le_succ (dA_le.mpr fun d hd => ?_)
        rcases List.mem_append.mp hd with hd | hd
        · rcases List.mem_append.mp hd with hd | hd
          · have := dA_le.mp (Nat.le_refl (dA ds)) d (List.mem_of_mem_take hd); omega
          · rw [List.mem_singleton.mp hd]; omega
        · have := dA_le.mp (Nat.le_refl (dA ds)) d (List.mem_of_mem_drop hd); omega
end TM

set_option Elab.async false
set_option linter.all false
set_option maxRecDepth 100000
set_option maxHeartbeats 4000000
namespace K01
open PySem PySem.Spec PyProof.Rows L2 MS TM
abbrev N_has_mine_frame : List Str := ["value", "places", "ways", "inlet", "outlet"]
def M_has_mine_frame : MStm :=
  (mSeq (mIfS (mOr (mNot (mB (mIsi (mVar 0) "tuple"))) (mB (mBin fNe (mCall cLen (mCons (mVar 0) mNil)) (mC (.int 4))))) (mRet (mC (.bl false))) mNx)
    (mSeq (mAsg (mVar 0) (mgTup (mgCons (mName 1) (mgCons (mName 2) (mgCons (mName 3) (mgCons (mName 4) mgNil)))) 4))
    (mSeq (mIfS (mNot (mB (mCall F_is_integer_within (mCons (mVar 1) (mCons (mC (.int 2)) (mCons (mC (.int 8)) mNil)))))) (mRet (mC (.bl false))) mNx)
    (mSeq (mIfS (mOr (mNot (mB (mIsi (mVar 2) "tuple"))) (mNot (mB (mChain fLe fLe (mC (.int 1)) (mCall cLen (mCons (mVar 2) mNil)) (mC (.int 12)))))) (mRet (mC (.bl false))) mNx)
    (mRet (mCall F_is_place_pair (mCons (mTup (mCons (mVar 3) (mCons (mVar 4) mNil))) (mCons (mVar 1) mNil))))))))
def F_has_mine_frame : DCall := den 1 5 M_has_mine_frame
-- level 3, calls ['is_integer_within', 'is_place_pair']

abbrev N_require_mine : List Str := ["value", "index", "way"]
def M_require_mine : MStm :=
  (mSeq (mIfS (mNot (mB (mCall F_has_mine_frame (mCons (mVar 0) mNil)))) (mRet (mEx (Str.ofString "InvalidMine") (Str.ofString "index") (mC .non))) mNx)
    (mSeq (mFor (mEnum (mCons (mBin fIx (mVar 0) (mC (.int 1))) mNil)) (mgTup (mgCons (mName 1) (mgCons (mName 2) mgNil)) 2) (mIfS (mNot (mB (mCall F_is_place_pair (mCons (mVar 2) (mCons (mBin fIx (mVar 0) (mC (.int 0))) mNil))))) (mRet (mEx (Str.ofString "InvalidMine") (Str.ofString "index") (mVar 1))) mNx))
    (mRet (mOk (mVar 0)))))
def F_require_mine : DCall := denX 1 3 M_require_mine
-- level 4, calls ['has_mine_frame', 'is_place_pair']

abbrev N_law_due : List Str := ["value", "wrong", "at", "way"]
def M_law_due : MStm :=
  (mSeq (mIfS (mOr (mNot (mB (mCall F_law_is_tuple (mCons (mVar 0) (mCons (mC (.int 4)) mNil))))) (mOr (mNot (mB (mCall F_law_whole (mCons (mBin fIx (mVar 0) (mC (.int 0))) (mCons (mC (.int 2)) (mCons (mC (.int 8)) mNil)))))) (mNot (mB (mCall F_law_is_pair (mCons (mBin fIx (mVar 0) (mC (.int 0))) (mCons (mSl (mVar 0) (mPart (mC (.int 2))) mNoPart) mNil))))))) (mRet (mLstV (mCons (mC (.str (Str.ofString "index"))) (mCons (mC .non) mNil)))) mNx)
    (mSeq (mIfS (mOr (mNot (mB (mIsi (mBin fIx (mVar 0) (mC (.int 1))) "tuple"))) (mNot (mB (mChain fLe fLe (mC (.int 1)) (mCall cLen (mCons (mBin fIx (mVar 0) (mC (.int 1))) mNil)) (mC (.int 12)))))) (mRet (mLstV (mCons (mC (.str (Str.ofString "index"))) (mCons (mC .non) mNil)))) mNx)
    (mSeq (mAsg (mFz (mLc (mEnum (mCons (mBin fIx (mVar 0) (mC (.int 1))) mNil)) (mgTup (mgCons (mName 2) (mgCons (mName 3) mgNil)) 2) (mNot (mB (mCall F_law_is_pair (mCons (mBin fIx (mVar 0) (mC (.int 0))) (mCons (mVar 3) mNil))))) (mVar 2) [2, 3])) (mName 1))
    (mRet (mIf (mB (mBin fNe (mVar 1) (mLstV mNil))) (mLstV (mCons (mC (.str (Str.ofString "index"))) (mCons (mBin fIx (mVar 1) (mC (.int 0))) mNil))) (mLstV (mCons (mC (.str (Str.ofString "told"))) (mCons (mVar 0) mNil))))))))
def F_law_due : DCall := den 1 4 M_law_due
-- level 3, calls ['_law_is_pair', '_law_is_tuple', '_law_whole']

abbrev N_law_required : List Str := ["value", "e"]
def M_law_required : MStm :=
  (mTry (mRet (mToldX (Str.ofString "told") (mCall F_require_mine (mCons (mVar 0) mNil)))) (Str.ofString "InvalidMine") 1 (fun fs => if fs = [] then none else ((fs.lookup (Str.ofString "index")).map fun d => D.lst [.str (Str.ofString "index"), d])))
def F_law_required : DCall := den 1 2 M_law_required
-- level 5, calls ['require_mine']

abbrev N_law : List Str := ["script", "pen", "turn", "mine", "some", "value", "before"]
def M_law : MStm :=
  (mSeq (mAsg (mCall F_law_pen (mCons (mVar 0) mNil)) (mName 1))
    (mSeq (mFor (mRange1 (mCons (mCall cMax (mCons (mC (.int 3)) (mCons (mCall cMin (mCons (mC (.int 8)) (mCons (mCall cLen (mCons (mVar 0) mNil)) mNil))) mNil))) mNil)) (mName 2) (mSeq (mAsg (mCall F_law_mine (mCons (mVar 1) (mCons (mBin fAdd (mC (.int 2)) (mCall F_law_draw (mCons (mVar 1) (mCons (mC (.int 7)) mNil)))) (mCons (mC (.int 12)) mNil)))) (mName 3))
    (mSeq (mAsg (mLstV (mCons (mVar 3) (mCons (mCall F_law_bent (mCons (mVar 1) (mCons (mVar 3) (mCons (mC (.int 3)) mNil)))) (mCons (mCall F_law_bent (mCons (mVar 1) (mCons (mCall F_law_bent (mCons (mVar 1) (mCons (mVar 3) (mCons (mC (.int 3)) mNil)))) (mCons (mC (.int 3)) mNil)))) (mCons (mCall F_law_odd (mCons (mVar 1) mNil)) mNil))))) (mName 4))
    (mSeq (mAsg (mBin fAdd (mVar 4) (mLstV (mCons (mTup (mCons (mBin fIx (mVar 3) (mC (.int 0))) (mCons (mBin fMulW (mBin fIx (mVar 3) (mC (.int 1))) (mC (.int 13))) (mCons (mBin fIx (mVar 3) (mC (.int 2))) (mCons (mBin fIx (mVar 3) (mC (.int 3))) mNil))))) (mCons (mTup (mCons (mBin fIx (mVar 3) (mC (.int 0))) (mCons (mTup mNil) (mCons (mBin fIx (mVar 3) (mC (.int 2))) (mCons (mBin fIx (mVar 3) (mC (.int 3))) mNil))))) (mCons (mCall (cFz cList) (mCons (mVar 3) mNil)) mNil))))) (mName 4))
    (mFor (mItems (mVar 4)) (mName 5) (mSeq (mAsg (mCall cReprX (mCons (mVar 5) mNil)) (mName 6))
    (mIfS (mOr (mB (mBin fNe (mCall cReprX (mCons (mCall F_law_required (mCons (mVar 5) mNil)) mNil)) (mCall cReprX (mCons (mCall F_law_due (mCons (mVar 5) mNil)) mNil)))) (mB (mBin fNe (mCall cReprX (mCons (mVar 5) mNil)) (mVar 6)))) (mRet (mC (.bl false))) mNx)))))))
    (mRet (mC (.bl true)))))
def F_law : DCall := den 1 7 M_law
-- level 18, calls ['_law_bent', '_law_draw', '_law_due', '_law_mine', '_law_odd', '_law_pen', '_law_required']

end K01

set_option Elab.async false
set_option linter.all false
set_option maxRecDepth 100000
set_option maxHeartbeats 4000000
namespace K01
open PySem PySem.Spec PyProof.Rows L2 MS TM
def t_has_mine_frame (v_value : D) : Option Bool :=
  (((((((((some v_value)).bind fun x6 => isiT "tuple" x6)).bind fun x7 => some (!x7))).bind fun x8 => cond x8 (some true) (((((((some v_value)).bind fun x2 => asV x2)).bind fun x3 => some (x3.length : Int))).bind fun x4 => ((some (4 : Int))).bind fun x5 => some (!decide (x4 = x5))))).bind fun x1 => cond x1 (some false) (((((some v_value)).bind fun x10 => asT4 x10)).bind fun x9 => (((((((some x9.1)).bind fun x12 => ((some (2 : Int))).bind fun x13 => ((some (8 : Int))).bind fun x14 => t_is_integer_within x12 x13 x14)).bind fun x15 => some (!x15))).bind fun x11 => cond x11 (some false) (((((((((some x9.2.1)).bind fun x24 => isiT "tuple" x24)).bind fun x25 => some (!x25))).bind fun x26 => cond x26 (some true) (((((some (1 : Int))).bind fun x19 => ((((((some x9.2.1)).bind fun x17 => asV x17)).bind fun x18 => some (x18.length : Int))).bind fun x20 => (some (decide (x19 ≤ x20))).bind fun x22 => cond x22 (((some (12 : Int))).bind fun x21 => some (decide (x20 ≤ x21))) (some false))).bind fun x23 => some (!x23)))).bind fun x16 => cond x16 (some false) (((((((some x9.2.2.1)).bind fun x27 => ((some x9.2.2.2)).bind fun x28 => some (x27, x28))).bind fun x29 => some ((eT2 eD eD) x29))).bind fun x31 => ((((some x9.1)).bind fun x30 => asI x30)).bind fun x32 => t_is_place_pair x31 x32)))))
theorem s_has_mine_frame (v_value : D) : Gvs F_has_mine_frame [eD v_value] (t_has_mine_frame v_value) eB := gvs_of rfl fun S0 => by
  unfold M_has_mine_frame t_has_mine_frame
  exact (sr_ifr (xt_or (xt_not (xt_B (xe_isi (T := "tuple") (xe_var eD rfl)))) (xt_B (xe_bin (xe_call1 (xe_view as_V (xe_var eD rfl)) (fun _ => g_lenV)) (xe_c eI rfl) (op_ne_ faI (by decide))))) (sr_ret (xe_c eB rfl)) (sr_seqN (sn_asgG (xe_view as_T4 (xe_var eD rfl)) (fun x9 => (xg_tup (xgs_cons xg_name (xgs_cons xg_name (xgs_cons xg_name (xgs_cons xg_name xgs_nil)))) rfl))) (fun x9 => (sr_ifr (xt_not (xt_B (xe_call3 (xe_var eD rfl) (xe_c eI rfl) (xe_c eI rfl) (fun _ _ _ => s_is_integer_within _ _ _)))) (sr_ret (xe_c eB rfl)) (sr_ifr (xt_or (xt_not (xt_B (xe_isi (T := "tuple") (xe_var eD rfl)))) (xt_not (xt_B (xe_chain (xe_c eI rfl) (xe_call1 (xe_view as_V (xe_var eD rfl)) (fun _ => g_lenV)) (xe_c eI rfl) op_le op_le)))) (sr_ret (xe_c eB rfl)) (sr_ret (xe_call2 (xe_map (B := eD) (f := (eT2 eD eD)) (xe_tup2 (C := (eT2 eD eD)) (fun x27 x28 => (x27, x28)) (xe_var eD rfl) (xe_var eD rfl) (fun _ _ => rfl)) (fun _ => rfl)) (xe_view as_I (xe_var eD rfl)) (fun _ _ => s_is_place_pair _ _))))))))

def t_require_mine (v_value : D) : Option (Rz D) :=
  (((((((some v_value)).bind fun x2 => t_has_mine_frame x2)).bind fun x3 => some (!x3))).bind fun x1 => cond x1 (((some D.non)).bind fun x4 => some (Rz.ex (Str.ofString "InvalidMine") (Str.ofString "index") x4)) (((((((((((((some v_value)).bind fun x6 => asV x6)).bind fun x7 => ((some (1 : Int))).bind fun x8 => atT x7 x8)).bind fun x9 => asV x9)).bind fun x10 => some (enumI x10))).bind fun x12 => loopR (fun a11 (s5 : Unit) => (((((((some a11.2)).bind fun x18 => ((((((((some v_value)).bind fun x14 => asV x14)).bind fun x15 => ((some (0 : Int))).bind fun x16 => atT x15 x16)).bind fun x17 => asI x17)).bind fun x19 => t_is_place_pair x18 x19)).bind fun x20 => some (!x20))).bind fun x13 => cond x13 (((((((some a11.1)).bind fun x21 => some (eI x21))).bind fun x22 => some (Rz.ex (Str.ofString "InvalidMine") (Str.ofString "index") x22))).bind fun x23 => some (Out.rt x23)) ((((some ()).bind fun _ => some ())).bind fun x24 => some (Out.nx x24)))) x12 ())).bind fun o27 => o27.fin (fun s25 => (((some v_value)).bind fun x26 => some (Rz.ok x26))) some))
theorem s_require_mine (v_value : D) : Gvs F_require_mine [eD v_value] (t_require_mine v_value) (eZ eD) := gvsX_of rfl fun S0 => by
  unfold M_require_mine t_require_mine
  exact (sr_ifr (xt_not (xt_B (xe_call1 (xe_var eD rfl) (fun _ => s_has_mine_frame _)))) (sr_ret (xe_ex (xe_c eD rfl))) (sr_seqB (sb_for (slσ := fun s5 : Unit => [.val (eD v_value), .unk, .unk]) (xi_enumV (xe_view as_V (xe_bin (xe_view as_V (xe_var eD rfl)) (xe_c eI rfl) op_ixV))) (.keep (.keep (.keep .nil))) (fun s5 a11 => (xg_tup (xgs_cons xg_name (xgs_cons xg_name xgs_nil)) rfl)) (fun s5 a11 => (sb_if (xt_not (xt_B (xe_call2 (xe_var eD rfl) (xe_view as_I (xe_bin (xe_view as_V (xe_var eD rfl)) (xe_c eI rfl) op_ixV)) (fun _ _ => s_is_place_pair _ _)))) (sb_R (sr_ret (xe_ex (xe_map (B := eD) (f := eI) (xe_var eI rfl) (fun _ => rfl))))) (sb_N (sn_st (f := fun _ => ()) (sl' := fun s5 : Unit => [.val (eD v_value), .unk, .unk]) sn_nx (fun _ => (.keep (.drop (.drop .nil))))))))) (fun s25 => (sr_ret (xe_ok (xe_var eD rfl))))))

def t_law_due (v_value : D) : Option D :=
  (((((((((some v_value)).bind fun x23 => ((some (4 : Int))).bind fun x24 => t_law_is_tuple x23 x24)).bind fun x25 => some (!x25))).bind fun x26 => cond x26 (some true) (((((((((((some v_value)).bind fun x15 => asV x15)).bind fun x16 => ((some (0 : Int))).bind fun x17 => atT x16 x17)).bind fun x18 => ((some (2 : Int))).bind fun x19 => ((some (8 : Int))).bind fun x20 => t_law_whole x18 x19 x20)).bind fun x21 => some (!x21))).bind fun x22 => cond x22 (some true) (((((((((((some v_value)).bind fun x2 => asV x2)).bind fun x3 => ((some (0 : Int))).bind fun x4 => atT x3 x4)).bind fun x5 => asI x5)).bind fun x12 => ((((((((some v_value)).bind fun x6 => asV x6)).bind fun x8 => ((((some (2 : Int))).bind fun x7 => some (some x7))).bind fun x9 => ((some none)).bind fun x10 => some (cutT x8 x9 x10))).bind fun x11 => some ((eV eD) x11))).bind fun x13 => t_law_is_pair x12 x13)).bind fun x14 => some (!x14))))).bind fun x1 => cond x1 (((((((some (Str.ofString "index"))).bind fun x28 => some (eS x28))).bind fun x29 => ((some D.non)).bind fun x30 => some [x29, x30])).bind fun x31 => some ((eL eD) x31)) (((((((((((((some v_value)).bind fun x43 => asV x43)).bind fun x44 => ((some (1 : Int))).bind fun x45 => atT x44 x45)).bind fun x46 => isiT "tuple" x46)).bind fun x47 => some (!x47))).bind fun x48 => cond x48 (some true) (((((some (1 : Int))).bind fun x38 => ((((((((((some v_value)).bind fun x33 => asV x33)).bind fun x34 => ((some (1 : Int))).bind fun x35 => atT x34 x35)).bind fun x36 => asV x36)).bind fun x37 => some (x37.length : Int))).bind fun x39 => (some (decide (x38 ≤ x39))).bind fun x41 => cond x41 (((some (12 : Int))).bind fun x40 => some (decide (x39 ≤ x40))) (some false))).bind fun x42 => some (!x42)))).bind fun x32 => cond x32 (((((((some (Str.ofString "index"))).bind fun x50 => some (eS x50))).bind fun x51 => ((some D.non)).bind fun x52 => some [x51, x52])).bind fun x53 => some ((eL eD) x53)) (((((((((((((some v_value)).bind fun x55 => asV x55)).bind fun x56 => ((some (1 : Int))).bind fun x57 => atT x56 x57)).bind fun x58 => asV x58)).bind fun x59 => some (enumI x59))).bind fun x68 => compM (fun a60 => (((((((((((some v_value)).bind fun x61 => asV x61)).bind fun x62 => ((some (0 : Int))).bind fun x63 => atT x62 x63)).bind fun x64 => asI x64)).bind fun x65 => ((some a60.2)).bind fun x66 => t_law_is_pair x65 x66)).bind fun x67 => some (!x67))) (fun a60 => (some a60.1)) x68)).bind fun x54 => (((((some x54)).bind fun x69 => ((some ([] : (List Int)))).bind fun x70 => some (!decide (x69 = x70)))).bind fun x87 => cond x87 (((((((some (Str.ofString "index"))).bind fun x75 => some (eS x75))).bind fun x79 => ((((((some x54)).bind fun x76 => ((some (0 : Int))).bind fun x77 => atT x76 x77)).bind fun x78 => some (eI x78))).bind fun x80 => some [x79, x80])).bind fun x81 => some ((eL eD) x81)) (((((((some (Str.ofString "told"))).bind fun x83 => some (eS x83))).bind fun x84 => ((some v_value)).bind fun x85 => some [x84, x85])).bind fun x86 => some ((eL eD) x86))))))
theorem s_law_due (v_value : D) : Gvs F_law_due [eD v_value] (t_law_due v_value) eD := gvs_of rfl fun S0 => by
  unfold M_law_due t_law_due
  exact (sr_ifr (xt_or (xt_not (xt_B (xe_call2 (xe_var eD rfl) (xe_c eI rfl) (fun _ _ => s_law_is_tuple _ _)))) (xt_or (xt_not (xt_B (xe_call3 (xe_bin (xe_view as_V (xe_var eD rfl)) (xe_c eI rfl) op_ixV) (xe_c eI rfl) (xe_c eI rfl) (fun _ _ _ => s_law_whole _ _ _)))) (xt_not (xt_B (xe_call2 (xe_view as_I (xe_bin (xe_view as_V (xe_var eD rfl)) (xe_c eI rfl) op_ixV)) (xe_map (B := eD) (f := (eV eD)) (xe_slV (xe_view as_V (xe_var eD rfl)) (xp_some (xe_c eI rfl)) xp_none) (fun _ => rfl)) (fun _ _ => s_law_is_pair _ _)))))) (sr_ret (xe_map (B := eD) (f := (eL eD)) (xe_lst2 (C := (eL eD)) (fun x29 x30 => [x29, x30]) (xe_map (B := eD) (f := eS) (xe_c eS rfl) (fun _ => rfl)) (xe_c eD rfl) (fun _ _ => rfl)) (fun _ => rfl))) (sr_ifr (xt_or (xt_not (xt_B (xe_isi (T := "tuple") (xe_bin (xe_view as_V (xe_var eD rfl)) (xe_c eI rfl) op_ixV)))) (xt_not (xt_B (xe_chain (xe_c eI rfl) (xe_call1 (xe_view as_V (xe_bin (xe_view as_V (xe_var eD rfl)) (xe_c eI rfl) op_ixV)) (fun _ => g_lenV)) (xe_c eI rfl) op_le op_le)))) (sr_ret (xe_map (B := eD) (f := (eL eD)) (xe_lst2 (C := (eL eD)) (fun x51 x52 => [x51, x52]) (xe_map (B := eD) (f := eS) (xe_c eS rfl) (fun _ => rfl)) (xe_c eD rfl) (fun _ _ => rfl)) (fun _ => rfl))) (sr_seqN (sn_asg (xe_lc (xi_enumV (xe_view as_V (xe_bin (xe_view as_V (xe_var eD rfl)) (xe_c eI rfl) op_ixV))) (fun a60 => (xg_tup (xgs_cons xg_name (xgs_cons xg_name xgs_nil)) rfl)) (fun a60 => (xt_not (xt_B (xe_call2 (xe_view as_I (xe_bin (xe_view as_V (xe_var eD rfl)) (xe_c eI rfl) op_ixV)) (xe_var eD rfl) (fun _ _ => s_law_is_pair _ _))))) (fun a60 => (xe_var eI rfl)))) (fun x54 => (sr_ret (xe_if (xt_B (xe_bin (xe_var (eL eI) rfl) (xe_lst0 (C := (eL eI)) ([] : (List Int))  rfl) (op_ne_ (faL faI) (by decide)))) (xe_map (B := eD) (f := (eL eD)) (xe_lst2 (C := (eL eD)) (fun x79 x80 => [x79, x80]) (xe_map (B := eD) (f := eS) (xe_c eS rfl) (fun _ => rfl)) (xe_map (B := eD) (f := eI) (xe_bin (xe_var (eL eI) rfl) (xe_c eI rfl) op_ixL) (fun _ => rfl)) (fun _ _ => rfl)) (fun _ => rfl)) (xe_map (B := eD) (f := (eL eD)) (xe_lst2 (C := (eL eD)) (fun x84 x85 => [x84, x85]) (xe_map (B := eD) (f := eS) (xe_c eS rfl) (fun _ => rfl)) (xe_var eD rfl) (fun _ _ => rfl)) (fun _ => rfl))))))))

def t_law_required (v_value : D) : Option D :=
  (((((((some v_value)).bind fun x1 => t_require_mine x1)).bind fun x2 => x2.by (fun a => some (Rz.ok (D.lst [.str (Str.ofString "told"), eD a]))) fun c f d => some (Rz.ex c f d))).bind fun x3 => x3.by some fun c f d => cond (decide (c = Str.ofString "InvalidMine") && decide (f = Str.ofString "index")) ((fun d => some (D.lst [.str (Str.ofString "index"), d])) d) none)
theorem s_law_required (v_value : D) : Gvs F_law_required [eD v_value] (t_law_required v_value) eD := gvs_of rfl fun S0 => by
  unfold M_law_required t_law_required
  exact (sr_try (i := 1) (f := Str.ofString "index") (k := fun d => some (D.lst [.str (Str.ofString "index"), d])) (by simp) (sr_ret (xe_toldX (xe_call1 (xe_var eD rfl) (fun _ => s_require_mine _)))) (fun d a e => by cases e; rfl) len_ret)

def t_law (v_script : List Int) : PM Bool :=
  (bP (bP (lP (((((some (3 : Int))).bind fun x5 => ((((some (8 : Int))).bind fun x3 => ((((some v_script)).bind fun x2 => some (x2.length : Int))).bind fun x4 => some (if x4 < x3 then x4 else x3))).bind fun x6 => some (if x6 > x5 then x6 else x5))).bind fun x7 => rng1 x7)) fun x9 => (loopRP (fun a8 (s1 : Unit) => (bP (bP (bP (lP (some (2 : Int))) fun x12 => (bP (bP (lP (some (7 : Int))) fun x11 => (t_law_draw x11)) fun x13 => (lP (some (x12 + x13))))) fun x14 => (bP (lP (some (12 : Int))) fun x15 => (t_law_mine x14 x15))) fun x10 => (bP (bP (lP (((some x10)).bind fun x17 => some ((eT4 eI (eV (eT2 eI eI)) eI eI) x17))) fun x26 => (bP (bP (lP (((some x10)).bind fun x18 => some ((eT4 eI (eV (eT2 eI eI)) eI eI) x18))) fun x19 => (bP (lP (some (3 : Int))) fun x20 => (t_law_bent 12 x19 x20))) fun x27 => (bP (bP (bP (lP (((some x10)).bind fun x21 => some ((eT4 eI (eV (eT2 eI eI)) eI eI) x21))) fun x22 => (bP (lP (some (3 : Int))) fun x23 => (t_law_bent 12 x22 x23))) fun x24 => (bP (lP (some (3 : Int))) fun x25 => (t_law_bent 12 x24 x25))) fun x28 => (bP t_law_odd fun x29 => (lP (some [x26, x27, x28, x29])))))) fun x16 => (lP (((((some x16)).bind fun x57 => ((((((((((some x10)).bind fun x31 => some x31.1)).bind fun x37 => ((((((some x10)).bind fun x32 => some x32.2.1)).bind fun x33 => ((some (13 : Int))).bind fun x34 => mulV x33 x34)).bind fun x38 => ((((some x10)).bind fun x35 => some x35.2.2.1)).bind fun x39 => ((((some x10)).bind fun x36 => some x36.2.2.2)).bind fun x40 => some (x37, x38, x39, x40))).bind fun x41 => some ((eT4 eI (eV (eT2 eI eI)) eI eI) x41))).bind fun x54 => ((((((((some x10)).bind fun x42 => some x42.1)).bind fun x45 => ((some ([] : (List D)))).bind fun x46 => ((((some x10)).bind fun x43 => some x43.2.2.1)).bind fun x47 => ((((some x10)).bind fun x44 => some x44.2.2.2)).bind fun x48 => some (x45, x46, x47, x48))).bind fun x49 => some ((eT4 eI (eV eD) eI eI) x49))).bind fun x55 => ((((((((((some x10)).bind fun x50 => some ((eT4 eI (eV (eT2 eI eI)) eI eI) x50))).bind fun x51 => asV x51)).bind fun x52 => some x52)).bind fun x53 => some ((eL eD) x53))).bind fun x56 => some [x54, x55, x56])).bind fun x58 => extM x57 x58)).bind fun x30 => (((((some x30)).bind fun x61 => loopR (fun a60 (s59 : Unit) => (((((some a60)).bind fun x63 => reprD x63)).bind fun x62 => (((((((((((some a60)).bind fun x69 => t_law_required x69)).bind fun x70 => reprD x70)).bind fun x74 => ((((((some a60)).bind fun x72 => t_law_due x72)).bind fun x73 => reprD x73)).bind fun x75 => some (!decide (x74 = x75)))).bind fun x76 => cond x76 (some true) (((((some a60)).bind fun x65 => reprD x65)).bind fun x66 => ((some x62)).bind fun x67 => some (!decide (x66 = x67))))).bind fun x64 => cond x64 (((some false)).bind fun x77 => some (Out.rt x77)) ((((some ()).bind fun _ => some ())).bind fun x78 => some (Out.nx x78))))) x61 ())).bind fun o80 => o80.fin (fun s79 => some (Out.nx ())) fun b => some (Out.rt b))))))) x9 ())) fun o82 => (o82.by (fun s81 => (lP (some true))) fun b => lP (some b)))
theorem s_law (v_script : List Int) (a : Bool) (P' : Pn) (h : t_law v_script (penOf v_script) = some (a, P')) : ∃ S', F_law [eF_ v_script] [] = some (.bl a, S') := by
  unfold t_law at h
  unfold F_law M_law
  refine law_start (fun S0 p => ?_) h
  exact (pr_seqB (pb_for (slσ := fun s1 : Unit => [.val (eF_ v_script), .val (.lr p), .unk, .unk, .unk, .unk, .unk]) (pi_of fun _ => (xi_range1 (xe_call2 (xe_c eI rfl) (xe_call2 (xe_c eI rfl) (xe_call1 (xe_var eF_ rfl) (fun _ => g_lenF)) (fun _ _ => g_min)) (fun _ _ => g_max)))) (.keep (.keep (.keep (.keep (.keep (.keep (.keep .nil))))))) (fun s1 a8 _ => xg_name) (fun s1 a8 => (pb_seqN (pn_asg (px_pcall2 rfl (px_bin (px_of fun _ => (xe_c eI rfl)) (px_pcall1 rfl (px_of fun _ => (xe_c eI rfl)) (fun _ => s_law_draw _)) op_add) (px_of fun _ => (xe_c eI rfl)) (fun _ _ => s_law_mine _ _))) (fun x10 => (pb_seqN (pn_asg (px_lst4 (C := (eL eD)) (fun x26 x27 x28 x29 => [x26, x27, x28, x29]) (px_of fun _ => (xe_map (B := eD) (f := (eT4 eI (eV (eT2 eI eI)) eI eI)) (xe_var (eT4 eI (eV (eT2 eI eI)) eI eI) rfl) (fun _ => rfl))) (px_pcall2 rfl (px_of fun _ => (xe_map (B := eD) (f := (eT4 eI (eV (eT2 eI eI)) eI eI)) (xe_var (eT4 eI (eV (eT2 eI eI)) eI eI) rfl) (fun _ => rfl))) (px_of fun _ => (xe_c eI rfl)) (fun _ _ => s_law_bent 12 _ _)) (px_pcall2 rfl (px_pcall2 rfl (px_of fun _ => (xe_map (B := eD) (f := (eT4 eI (eV (eT2 eI eI)) eI eI)) (xe_var (eT4 eI (eV (eT2 eI eI)) eI eI) rfl) (fun _ => rfl))) (px_of fun _ => (xe_c eI rfl)) (fun _ _ => s_law_bent 12 _ _)) (px_of fun _ => (xe_c eI rfl)) (fun _ _ => s_law_bent 12 _ _)) (px_pcall0 rfl (s_law_odd)) (fun _ _ _ _ => rfl))) (fun x16 => (pb_of fun _ => (sb_seqN (sn_asg (xe_bin (xe_var (eL eD) rfl) (xe_lst3 (C := (eL eD)) (fun x54 x55 x56 => [x54, x55, x56]) (xe_map (B := eD) (f := (eT4 eI (eV (eT2 eI eI)) eI eI)) (xe_tup4 (C := (eT4 eI (eV (eT2 eI eI)) eI eI)) (fun x37 x38 x39 x40 => (x37, x38, x39, x40)) (xe_ixF (B := eI) (f := fun x31 => x31.1) (xe_var (eT4 eI (eV (eT2 eI eI)) eI eI) rfl) (fun _ _ => rfl)) (xe_bin (xe_ixF (B := (eV (eT2 eI eI))) (f := fun x32 => x32.2.1) (xe_var (eT4 eI (eV (eT2 eI eI)) eI eI) rfl) (fun _ _ => rfl)) (xe_c eI rfl) op_mulWV) (xe_ixF (B := eI) (f := fun x35 => x35.2.2.1) (xe_var (eT4 eI (eV (eT2 eI eI)) eI eI) rfl) (fun _ _ => rfl)) (xe_ixF (B := eI) (f := fun x36 => x36.2.2.2) (xe_var (eT4 eI (eV (eT2 eI eI)) eI eI) rfl) (fun _ _ => rfl)) (fun _ _ _ _ => rfl)) (fun _ => rfl)) (xe_map (B := eD) (f := (eT4 eI (eV eD) eI eI)) (xe_tup4 (C := (eT4 eI (eV eD) eI eI)) (fun x45 x46 x47 x48 => (x45, x46, x47, x48)) (xe_ixF (B := eI) (f := fun x42 => x42.1) (xe_var (eT4 eI (eV (eT2 eI eI)) eI eI) rfl) (fun _ _ => rfl)) (xe_tup0 (C := (eV eD)) ([] : (List D))  rfl) (xe_ixF (B := eI) (f := fun x43 => x43.2.2.1) (xe_var (eT4 eI (eV (eT2 eI eI)) eI eI) rfl) (fun _ _ => rfl)) (xe_ixF (B := eI) (f := fun x44 => x44.2.2.2) (xe_var (eT4 eI (eV (eT2 eI eI)) eI eI) rfl) (fun _ _ => rfl)) (fun _ _ _ _ => rfl)) (fun _ => rfl)) (xe_map (B := eD) (f := (eL eD)) (xe_call1 (xe_view as_V (xe_map (B := eD) (f := (eT4 eI (eV (eT2 eI eI)) eI eI)) (xe_var (eT4 eI (eV (eT2 eI eI)) eI eI) rfl) (fun _ => rfl))) (fun _ => g_listV)) (fun _ => rfl)) (fun _ _ _ => rfl)) op_catL)) (fun x30 => (sb_st (f := fun s79 => ()) (sl' := fun s1 : Unit => [.val (eF_ v_script), .val (.lr p), .unk, .unk, .unk, .unk, .unk]) (sb_for (slσ := fun s59 : Unit => [.val (eF_ v_script), .val (.lr p), .val (eI a8), .val ((eT4 eI (eV (eT2 eI eI)) eI eI) x10), .val ((eL eD) x30), .unk, .unk]) (xi_L (xe_var (eL eD) rfl)) (.keep (.keep (.keep (.keep (.keep (.keep (.keep .nil))))))) (fun s59 a60 => xg_name) (fun s59 a60 => (sb_seqN (sn_asg (xe_call1 (xe_var eD rfl) (fun _ => g_reprD))) (fun x62 => (sb_if (xt_or (xt_B (xe_bin (xe_call1 (xe_call1 (xe_var eD rfl) (fun _ => s_law_required _)) (fun _ => g_reprD)) (xe_call1 (xe_call1 (xe_var eD rfl) (fun _ => s_law_due _)) (fun _ => g_reprD)) op_neS)) (xt_B (xe_bin (xe_call1 (xe_var eD rfl) (fun _ => g_reprD)) (xe_var eS rfl) op_neS))) (sb_R (sr_ret (xe_c eB rfl))) (sb_N (sn_st (f := fun _ => ()) (sl' := fun s59 : Unit => [.val (eF_ v_script), .val (.lr p), .val (eI a8), .val ((eT4 eI (eV (eT2 eI eI)) eI eI) x10), .val ((eL eD) x30), .unk, .unk]) sn_nx (fun _ => (.keep (.keep (.keep (.keep (.keep (.drop (.drop .nil))))))))))))))) (fun s79 => (.keep (.keep (.drop (.drop (.drop (.keep (.keep .nil)))))))))))))))))) (fun s81 => (pr_of fun _ => (sr_ret (xe_c eB rfl)))))

end K01

set_option Elab.async false
set_option linter.all false
set_option maxRecDepth 100000
set_option maxHeartbeats 4000000
namespace K01
open PySem PySem.Spec PyProof.Rows L2 MS TM
local macro_rules | `(tactic| walk_at "st") => `(tactic| first
  | with_reducible refine wp_b ?_ | with_reducible refine wp_l ?_ | with_reducible refine wo_b ?_ | with_reducible refine wo_some ?_)
def num : D → Int
  | .int i => i
  | _ => 0
def waysI : D → Bool
  | .tup l => decide (1 ≤ (l.length : Int)) && decide ((l.length : Int) ≤ 12)
  | _ => false
def frameI : D → Bool
  | .tup [p, ws, i, o] => inI p 2 8 && (waysI ws && pairI (.tup [i, o]) (num p))
  | _ => false
theorem pair_any {B : Nat} {i o : D} (hi : anyD B i = true) (ho : anyD B o = true) : anyD B (.tup [i, o]) = true := anyA_mem.mpr fun d hd => by
  simp only [List.mem_cons, List.not_mem_nil, or_false] at hd
  rcases hd with rfl | rfl
  · exact hi
  · exact ho
theorem frame_eq {B : Nat} {v : D} (h : anyD B v = true) : t_has_mine_frame v = some (frameI v) := eq_wo (by
  have pl := plain_of h
  unfold t_has_mine_frame
  repeat walk_at "st"
  refine wo_eq (isi_tuple pl) ?_
  repeat walk_at "st"
  refine wo_if (fun h1 => ?_) (fun h1 => ?_)
  · repeat walk_at "st"
    refine wo_if (fun _ => wo_some ?_) (fun z => nomatch z)
    cases v <;> first | rfl | cases h1
  · cases v with
    | tup ds =>
      repeat walk_at "st"
      refine wo_eq (a := ds) rfl ?_
      repeat walk_at "st"
      match ds, h with
      | [], _ => exact wo_some rfl
      | [_], _ => exact wo_some rfl
      | [_, _], _ => exact wo_some rfl
      | [_, _, _], _ => exact wo_some rfl
      | _ :: _ :: _ :: _ :: _ :: ds, _ =>
        refine wo_if (fun _ => wo_some rfl) (fun z => ?_)
        simp only [List.length_cons, Bool.not_eq_false', decide_eq_true_eq] at z
        omega
      | [p, ws, i, o], h =>
        have hp := anyA_mem.mp h p (by simp)
        have hw := anyA_mem.mp h ws (by simp)
        have hi := anyA_mem.mp h i (by simp)
        have ho := anyA_mem.mp h o (by simp)
        refine wo_if (fun z => nomatch z) (fun _ => ?_)
        repeat walk_at "st"
        refine wo_eq (a := (p, ws, i, o)) rfl ?_
        repeat walk_at "st"
        refine wo_eq (within_eq (plain_of hp)) ?_
        repeat walk_at "st"
        show wo _ fun a => a = (inI p 2 8 && (waysI ws && pairI (.tup [i, o]) (num p)))
        refine wo_if (fun z => wo_some (by rw [Bool.not_eq_true'] at z; rw [z]; rfl)) (fun hin => ?_)
        rw [Bool.not_eq_false'] at hin
        rw [hin, Bool.true_and]
        obtain ⟨n, rfl, _, _⟩ := inI_int hin
        repeat walk_at "st"
        refine wo_eq (isi_tuple (plain_of hw)) ?_
        repeat walk_at "st"
        refine wo_if (fun z => ?_) (fun z => ?_)
        · repeat walk_at "st"
          refine wo_if (fun _ => wo_some ?_) (fun z => nomatch z)
          cases ws <;> first | rfl | cases z
        · cases ws with
          | tup l =>
            repeat walk_at "st"
            refine wo_eq (a := l) rfl ?_
            repeat walk_at "st"
            refine wo.mono (Q := fun b => b = waysI (.tup l)) ?_ fun b hb => ?_
            · refine wo_if (fun a1 => ?_) (fun a1 => ?_)
              · repeat walk_at "st"
                show _ = (decide (1 ≤ (l.length : Int)) && _)
                rw [a1]; rfl
              · repeat walk_at "st"
                show _ = (decide (1 ≤ (l.length : Int)) && _)
                rw [a1]; rfl
            · subst hb
              repeat walk_at "st"
              refine wo_if (fun z => wo_some (by rw [Bool.not_eq_true'] at z; rw [z]; rfl)) (fun z => ?_)
              rw [Bool.not_eq_false'] at z
              rw [z, Bool.true_and]
              repeat walk_at "st"
              refine wo_eq (a := n) rfl ?_
              exact wo_eq (pair_eq (B := B) (d := .tup [i, o]) (pair_any hi ho)) rfl
          | _ => cases z
    | _ => cases h1)
def bad (n : Int) (a : Int × D) : Bool := !pairI a.2 n
/-- what is due -/
def res (v : D) : D := cond (frameI v) (match v with
  | .tup [.int n, .tup l, _, _] => (match (enumI l).find? (bad n) with
    | none => .lst [.str (Str.ofString "told"), v]
    | some a => .lst [.str (Str.ofString "index"), .int a.1])
  | _ => .non) (.lst [.str (Str.ofString "index"), .non])
theorem frame_true {v : D} (h : frameI v = true) : ∃ n l i o, v = .tup [.int n, .tup l, i, o] ∧ 2 ≤ n ∧ n ≤ 8 ∧ 1 ≤ l.length ∧ l.length ≤ 12 ∧ pairI (.tup [i, o]) n = true := by
  unfold frameI at h
  split at h
  · rename_i p ws i o
    simp only [Bool.and_eq_true] at h
    obtain ⟨h1, h2, h3⟩ := h
    obtain ⟨n, rfl, a, b⟩ := inI_int h1
    unfold waysI at h2
    split at h2
    · simp only [Bool.and_eq_true, decide_eq_true_eq] at h2
      exact ⟨n, _, i, o, rfl, a, b, by omega, by omega, h3⟩
    · cases h2
  · cases h
theorem enum_any {B : Nat} {l : List D} {a : Int × D} (h : anyA B l = true) (ha : a ∈ enumI l) : anyD B a.2 = true := by
  obtain ⟨n, _, e⟩ := enumI_get (k := a.1) (x := a.2) ha
  exact anyA_mem.mp h _ (List.mem_of_getElem? e)
theorem required_eq {B : Nat} {v : D} (h : anyD B v = true) : t_law_required v = some (res v) := eq_wo (by
  unfold t_law_required
  repeat walk_at "st"
  unfold t_require_mine
  repeat walk_at "st"
  refine wo_eq (frame_eq h) ?_
  repeat walk_at "st"
  refine wo_if (fun z => ?_) (fun z => ?_)
  · rw [Bool.not_eq_true'] at z
    repeat walk_at "st"
    show wo (some _) _
    refine wo_some ?_
    show wo (some _) _
    refine wo_some ?_
    unfold res
    rw [z]; rfl
  · rw [Bool.not_eq_false'] at z
    obtain ⟨n, l, i, o, rfl, _, _, _, h12, _⟩ := frame_true z
    have hl : anyA B l = true := anyA_mem.mp h (.tup l) (by simp)
    repeat walk_at "st"
    refine wo_eq (a := [.int n, .tup l, i, o]) rfl ?_
    repeat walk_at "st"
    refine wo_eq (a := .tup l) rfl ?_
    repeat walk_at "st"
    refine wo_eq (a := l) rfl ?_
    repeat walk_at "st"
    refine wo_eq (loopR_find (bad n) (fun a => Rz.ex (Str.ofString "InvalidMine") (Str.ofString "index") (.int a.1)) fun a ha => eq_wo ?_) ?_
    · repeat walk_at "st"
      refine wo_eq (a := [.int n, .tup l, i, o]) rfl ?_
      repeat walk_at "st"
      refine wo_eq (a := .int n) rfl ?_
      repeat walk_at "st"
      refine wo_eq (a := n) rfl ?_
      refine wo_eq (pair_eq (enum_any hl ha)) ?_
      repeat walk_at "st"
      show wo _ fun b => b = cond (!pairI a.2 n) _ _
      refine wo_if (fun z => ?_) (fun z => ?_)
      · rw [z]; exact wo_some rfl
      · rw [z]; exact wo_some rfl
    · have eres : res (.tup [.int n, .tup l, i, o]) = (match (enumI l).find? (bad n) with
        | none => .lst [.str (Str.ofString "told"), .tup [.int n, .tup l, i, o]]
        | some a => .lst [.str (Str.ofString "index"), .int a.1]) := by
        unfold res
        rw [z]
        rfl
      rw [eres]
      cases (enumI l).find? (bad n) with
      | none =>
        refine wo_eq rfl ?_
        refine wo_eq rfl ?_
        exact wo_eq rfl rfl
      | some a =>
        refine wo_eq rfl ?_
        refine wo_eq rfl ?_
        exact wo_eq rfl rfl)
theorem find_filter {α : Type} (p : α → Bool) : ∀ l : List α, (l.filter p).head? = l.find? p
  | [] => rfl
  | a :: l => by
    cases k : p a with
    | true => rw [List.filter_cons_of_pos k, List.find?_cons_of_pos k]; rfl
    | false => rw [List.filter_cons_of_neg (by rw [k]; decide), List.find?_cons_of_neg (by rw [k]; decide), find_filter p l]
theorem due_eq {B : Nat} {v : D} (h : anyD B v = true) : t_law_due v = some (res v) := eq_wo (by
  have pl := plain_of h
  have none_ : ∀ (t : D), frameI v = false → t = .lst [.str (Str.ofString "index"), .non] → t = res v := fun t hf e => by unfold res; rw [hf, e]; rfl
  unfold t_law_due
  repeat walk_at "st"
  refine wo_eq (is_tuple_eq pl) ?_
  repeat walk_at "st"
  cases v with
  | tup ds =>
    by_cases hl : (ds.length : Int) = 4
    · match ds, hl, h, none_ with
      | [p, ws, i, o], _, h, none_ =>
        have hp := anyA_mem.mp h p (by simp)
        have hw := anyA_mem.mp h ws (by simp)
        have hi := anyA_mem.mp h i (by simp)
        have ho := anyA_mem.mp h o (by simp)
        refine wo_if (fun z => nomatch z) (fun _ => ?_)
        repeat walk_at "st"
        refine wo_eq (a := [p, ws, i, o]) rfl ?_
        repeat walk_at "st"
        refine wo_eq (a := p) rfl ?_
        repeat walk_at "st"
        refine wo_eq (whole_eq (plain_of hp)) ?_
        repeat walk_at "st"
        refine wo_if (fun z => ?_) (fun hin => ?_)
        · rw [Bool.not_eq_true'] at z
          repeat walk_at "st"
          refine wo_if (fun _ => ?_) (fun z => nomatch z)
          repeat walk_at "st"
          exact none_ _ (by show (inI p 2 8 && (waysI ws && pairI (.tup [i, o]) (num p))) = false; rw [z]; rfl) rfl
        rw [Bool.not_eq_false'] at hin
        obtain ⟨n, rfl, _, _⟩ := inI_int hin
        repeat walk_at "st"
        refine wo_eq (a := [.int n, ws, i, o]) rfl ?_
        repeat walk_at "st"
        refine wo_eq (a := .int n) rfl ?_
        repeat walk_at "st"
        refine wo_eq (a := n) rfl ?_
        repeat walk_at "st"
        refine wo_eq (a := [.int n, ws, i, o]) rfl ?_
        repeat walk_at "st"
        refine wo_eq (lpair_eq (B := B) (d := .tup [i, o]) (pair_any hi ho)) ?_
        repeat walk_at "st"
        refine wo_if (fun z => ?_) (fun hpr => ?_)
        · rw [Bool.not_eq_true'] at z
          repeat walk_at "st"
          exact none_ _ (by show (inI (.int n) 2 8 && (waysI ws && pairI (.tup [i, o]) n)) = false; rw [z]; simp) rfl
        rw [Bool.not_eq_false'] at hpr
        repeat walk_at "st"
        refine wo_eq (a := [.int n, ws, i, o]) rfl ?_
        repeat walk_at "st"
        refine wo_eq (a := ws) rfl ?_
        repeat walk_at "st"
        refine wo_eq (isi_tuple (plain_of hw)) ?_
        repeat walk_at "st"
        have fr : frameI (.tup [.int n, ws, i, o]) = waysI ws := by
          show (inI (.int n) 2 8 && (waysI ws && pairI (.tup [i, o]) n)) = _
          rw [hin, hpr]; simp
        refine wo_if (fun z => ?_) (fun z => ?_)
        · repeat walk_at "st"
          refine wo_if (fun _ => ?_) (fun z => nomatch z)
          repeat walk_at "st"
          refine none_ _ ?_ rfl
          rw [fr]
          cases ws <;> first | rfl | cases z
        · cases ws with
          | tup l =>
            repeat walk_at "st"
            refine wo_eq (a := [.int n, .tup l, i, o]) rfl ?_
            repeat walk_at "st"
            refine wo_eq (a := .tup l) rfl ?_
            repeat walk_at "st"
            refine wo_eq (a := l) rfl ?_
            repeat walk_at "st"
            refine wo.mono (Q := fun b => b = waysI (.tup l)) ?_ fun b hb => ?_
            · refine wo_if (fun a1 => ?_) (fun a1 => ?_)
              · repeat walk_at "st"
                show _ = (decide (1 ≤ (l.length : Int)) && _)
                rw [a1]; rfl
              · repeat walk_at "st"
                show _ = (decide (1 ≤ (l.length : Int)) && _)
                rw [a1]; rfl
            · subst hb
              repeat walk_at "st"
              refine wo_if (fun z => ?_) (fun hwy => ?_)
              · rw [Bool.not_eq_true'] at z
                repeat walk_at "st"
                exact none_ _ (by rw [fr, z]) rfl
              rw [Bool.not_eq_false'] at hwy
              have h12 : l.length ≤ 12 := by
                have := hwy
                unfold waysI at this
                simp only [Bool.and_eq_true, decide_eq_true_eq] at this
                omega
              repeat walk_at "st"
              refine wo_eq (a := [.int n, .tup l, i, o]) rfl ?_
              repeat walk_at "st"
              refine wo_eq (a := .tup l) rfl ?_
              repeat walk_at "st"
              refine wo_eq (a := l) rfl ?_
              repeat walk_at "st"
              refine wo_eq (compM_eq (bad n) (fun a => a.1) (by rw [enumI_len]; omega) (fun a ha => eq_wo ?_) (fun _ _ _ => rfl)) ?_
              · repeat walk_at "st"
                refine wo_eq (a := [.int n, .tup l, i, o]) rfl ?_
                repeat walk_at "st"
                refine wo_eq (a := .int n) rfl ?_
                repeat walk_at "st"
                refine wo_eq (a := n) rfl ?_
                refine wo_eq (lpair_eq (enum_any hw ha)) ?_
                repeat walk_at "st"
                rfl
              · repeat walk_at "st"
                have eres : res (.tup [.int n, .tup l, i, o]) = (match (enumI l).find? (bad n) with
                  | none => .lst [.str (Str.ofString "told"), .tup [.int n, .tup l, i, o]]
                  | some a => .lst [.str (Str.ofString "index"), .int a.1]) := by
                  unfold res
                  rw [fr, hwy]
                  rfl
                rw [eres, ← find_filter]
                cases (enumI l).filter (bad n) with
                | nil =>
                  refine wo_if (fun z => nomatch z) (fun _ => ?_)
                  repeat walk_at "st"
                  rfl
                | cons a as =>
                  refine wo_if (fun _ => ?_) (fun z => nomatch z)
                  repeat walk_at "st"
                  refine wo_eq (a := a.1) (TM.atT_nat (k := 0) rfl) ?_
                  repeat walk_at "st"
                  rfl
          | _ => cases z
    · refine wo_if (fun _ => ?_) (fun z => ?_)
      · repeat walk_at "st"
        refine wo_if (fun _ => ?_) (fun z => nomatch z)
        repeat walk_at "st"
        refine none_ _ ?_ rfl
        unfold frameI
        split
        · rename_i e
          cases e
          exact absurd rfl hl
        · rfl
      · have z : (!decide ((ds.length : Int) = 4)) = false := z
        rw [decide_eq_false hl] at z
        cases z
  | _ =>
    refine wo_if (fun _ => ?_) (fun z => nomatch z)
    repeat walk_at "st"
    refine wo_if (fun _ => ?_) (fun z => nomatch z)
    repeat walk_at "st"
    exact none_ _ rfl rfl)
end K01

set_option Elab.async false
set_option linter.all false
set_option maxRecDepth 100000
set_option maxHeartbeats 4000000
namespace K01
open PySem PySem.Spec PyProof.Rows L2 MS TM
local macro_rules | `(tactic| walk_at "st") => `(tactic| first
  | with_reducible refine wp_b ?_ | with_reducible refine wp_l ?_ | with_reducible refine wo_b ?_ | with_reducible refine wo_some ?_)
theorem ne_self {α : Type} [DecidableEq α] {a : α} (h : (!decide (a = a)) = true) : False := by
  rw [decide_eq_true rfl] at h
  cases h
theorem loopR_unit {α β : Type} {f : α → Unit → Option (Out Unit β)} : ∀ {xs : List α}, (∀ x ∈ xs, f x () = some (.nx ())) → loopR f xs () = some (.nx ())
  | [], _ => rfl
  | x :: xs, h => by
    show ((f x ()).bind fun o => o.fin (fun s' => loopR f xs s') fun b => some (.rt b)) = _
    rw [h x (List.mem_cons_self ..)]
    exact loopR_unit fun y hy => h y (List.mem_cons_of_mem _ hy)
/-- small enough to be shown -/
abbrev Sm (d : D) : Prop := An (10 ^ 13) 1000000 40 d
theorem res_any {v : D} (h : Sm v) : An (10 ^ 13) 1000100 41 (res v) := by
  have two : ∀ {x : Str} {d : D}, (reprText x).length ≤ 42 → An (10 ^ 13) 1000000 40 d → An (10 ^ 13) 1000100 41 (.lst [.str x, d]) := fun {x d} hx a => ⟨by
    show (true && (anyD _ d && true)) = true
    rw [a.any]; rfl, by
    have := a.wt
    show (reprText x).length + 2 + (wD d + 2 + 0) + 3 ≤ _
    omega, by
    have := a.dp
    show max 0 (max (dD d) 0) + 1 ≤ _
    omega⟩
  have sm : ∀ {i : Int}, i.natAbs ≤ 12 → An (10 ^ 13) 1000000 40 (.int i) := fun h => (An.int (B := 10 ^ 13) (by omega)).mono (Nat.le_refl _) (by decide) (by decide)
  unfold res
  cases hf : frameI v with
  | false => exact two (by decide +kernel) (An.non.mono (Nat.le_refl _) (by decide) (by decide))
  | true =>
    obtain ⟨n, l, i, o, rfl, _, _, _, h12, _⟩ := frame_true hf
    show An _ _ _ (match (enumI l).find? (bad n) with
      | none => D.lst [.str (Str.ofString "told"), .tup [.int n, .tup l, i, o]]
      | some a => .lst [.str (Str.ofString "index"), .int a.1])
    cases e : (enumI l).find? (bad n) with
    | none => exact two (by decide +kernel) h
    | some a =>
      obtain ⟨k, e1, e2⟩ := enumI_get (k := a.1) (x := a.2) (List.mem_of_find?_eq_some e)
      have := (List.getElem?_eq_some_iff.mp e2).1
      exact two (by decide +kernel) (sm (by omega))
abbrev eM (M : Mi) : D := eT4 eI (eV (eT2 eI eI)) eI eI M
theorem pair_An {a b : Int} (h1 : a.natAbs ≤ 1000) (h2 : b.natAbs ≤ 1000) : An B0 91 1 (.tup [.int a, .int b]) := An.tup (n := 2) (k := 42) (m := 0) (fun d hd => by
  simp only [List.mem_cons, List.not_mem_nil, or_false] at hd
  rcases hd with rfl | rfl
  · exact An.int (Nat.le_trans h1 (by decide))
  · exact An.int (Nat.le_trans h2 (by decide))) (Nat.le_refl _)
theorem ways_An {ws : List (Int × Int)} {n : Nat} (h : ∀ w ∈ ws, w.1.natAbs ≤ 1000 ∧ w.2.natAbs ≤ 1000) (hn : ws.length ≤ n) : An B0 (n * 93 + 3) 2 (.tup (ws.map (eT2 eI eI))) := An.tup (k := 91) (m := 1) (fun d hd => by
  obtain ⟨w, hw, rfl⟩ := List.mem_map.mp hd
  exact pair_An (h w hw).1 (h w hw).2) (by rw [List.length_map]; exact hn)
theorem four_An {a b c d : D} {w : Nat} (ha : An B0 w 2 a) (hb : An B0 w 2 b) (hc : An B0 w 2 c) (hd : An B0 w 2 d) : An B0 (4 * (w + 2) + 3) 3 (.tup [a, b, c, d]) := An.tup (n := 4) (fun x hx => by
  simp only [List.mem_cons, List.not_mem_nil, or_false] at hx
  rcases hx with rfl | rfl | rfl | rfl
  · exact ha
  · exact hb
  · exact hc
  · exact hd) (Nat.le_refl _)
theorem mulV_eq {α : Type} {xs : List α} {k : Int} (h1 : 1 ≤ xs.length) (h2 : 1 ≤ k) (h3 : k ≤ 1000) (h4 : xs.length ≤ 1000) : mulV xs k = some (List.replicate k.toNat xs).flatten := by
  unfold mulV
  have e1 : xs.isEmpty = false := by cases xs <;> first | rfl | (simp at h1)
  rw [e1, decide_eq_true h2, decide_eq_true h3, Nat.ble_eq_true_of_le h4]
  rfl
theorem law_true (xs : List Int) : wp (t_law xs) (penOf xs) fun a _ => a = true := by
  unfold t_law
  repeat walk_at "st"
  refine wo_rng1 (by split <;> omega) (by split <;> split <;> omega) ?_
  refine wp_loopR (i := 0) (fun _ _ P => Good P) (fun _ _ => False) (good_pen xs) (fun j x s P hx g => ?_) (fun s P g => ?_) (fun _ _ h => h.elim)
  · repeat walk_at "st"
    refine (draw_ok g (by decide) (by decide)).mono fun d P1 hd => ?_
    have hd1 := hd.1
    have hd2 := hd.2.1
    repeat walk_at "st"
    refine (mine_ok hd.2.2 (by omega) (by omega) (by decide) (by decide)).mono fun M P2 hM => ?_
    obtain ⟨g2, ok, _, hlen, _, _, hlow⟩ := hM
    have h1 := ok.lo
    have h2 := ok.hi
    have hways : ∀ w ∈ M.2.1, w.1.natAbs ≤ 1000 ∧ w.2.natAbs ≤ 1000 := fun w hw => by
      obtain ⟨a1, a2, a3, a4, _⟩ := ok.ways w hw
      omega
    obtain ⟨e1, e2, e3, e4, _⟩ := ok.ends
    have int2 : ∀ {i : Int} {w : Nat}, i.natAbs ≤ 1000 → 42 ≤ w → An B0 w 2 (.int i) := fun h hw => (An.int (Nat.le_trans h (by decide))).mono (Nat.le_refl _) hw (by decide)
    have hwl : M.2.1.length ≤ 20 := by omega
    have aM : An B0 8000 3 (eM M) := (four_An (w := 1863) (int2 (by omega) (by decide)) (ways_An (n := 20) hways hwl) (int2 (by omega) (by decide)) (int2 (by omega) (by decide))).mono (Nat.le_refl _) (by decide) (Nat.le_refl _)
    repeat walk_at "st"
    refine (bent_ok 12 g2 aM (Nat.le_refl _) (by decide) (by decide) (by decide)).mono fun v1 P3 hv1 => ?_
    obtain ⟨a1, g3⟩ := hv1
    repeat walk_at "st"
    refine (bent_ok 12 g3 aM (Nat.le_refl _) (by decide) (by decide) (by decide)).mono fun v2 P4 hv2 => ?_
    obtain ⟨a2, g4⟩ := hv2
    repeat walk_at "st"
    refine (bent_ok 12 g4 a2 (Nat.le_succ _) (by decide) (by decide) (by decide)).mono fun v3 P5 hv3 => ?_
    obtain ⟨a3, g5⟩ := hv3
    repeat walk_at "st"
    refine (odd_ok g5).mono fun v4 P6 hv4 => ?_
    obtain ⟨a4, g6⟩ := hv4
    repeat walk_at "st"
    refine wo_eq (mulV_eq (by omega) (by decide) (by decide) (by omega)) ?_
    repeat walk_at "st"
    refine wo_eq (a := [D.int M.1, D.tup (M.2.1.map (eT2 eI eI)), D.int M.2.2.1, D.int M.2.2.2]) rfl ?_
    repeat walk_at "st"
    refine wo_eq (extM_eq (by show 4 + 3 ≤ _; decide)) ?_
    repeat walk_at "st"
    refine wo_eq (loopR_unit fun v hv => eq_wo ?_) ?_
    · have up : ∀ {B w m : Nat} {d : D}, An B w m d → B ≤ 10 ^ 13 → w ≤ 1000000 → m ≤ 40 → Sm d := fun a h1 h2 h3 => a.mono h1 h2 h3
      have a13 : ∀ w ∈ (List.replicate 13 M.2.1).flatten, w.1.natAbs ≤ 1000 ∧ w.2.natAbs ≤ 1000 := fun w hw => by
        obtain ⟨l, h1, h2⟩ := List.mem_flatten.mp hw
        rw [(List.mem_replicate.mp h1).2] at h2
        exact hways w h2
      have l13 : (List.replicate 13 M.2.1).flatten.length ≤ 260 := by
        simp
        omega
      have bi : M.2.2.1.natAbs ≤ 1000 := by omega
      have bo : M.2.2.2.natAbs ≤ 1000 := by omega
      have sv : Sm v := by
        rcases List.mem_append.mp hv with hv | hv
        · simp only [List.mem_cons, List.not_mem_nil, or_false] at hv
          rcases hv with rfl | rfl | rfl | rfl
          · exact up aM (by decide +kernel) (by decide) (by decide)
          · exact up a1 (by decide +kernel) (by decide) (by decide)
          · exact up a3 (by decide +kernel) (by decide) (by decide)
          · exact up a4 (by decide +kernel) (by decide) (by decide)
        · simp only [List.mem_cons, List.not_mem_nil, or_false] at hv
          rcases hv with rfl | rfl | rfl
          · exact up (four_An (w := 24183) (int2 (by omega) (by decide)) (ways_An (n := 260) a13 l13) (int2 bi (by decide)) (int2 bo (by decide))) (by decide +kernel) (by decide) (by decide)
          · exact up (four_An (w := 100) (int2 (by omega) (by decide)) (An.mono (An.tup (B := B0) (n := 0) (k := 0) (m := 0) (ds := []) (fun _ z => nomatch z) (Nat.le_refl _)) (Nat.le_refl _) (by decide) (by decide)) (int2 bi (by decide)) (int2 bo (by decide))) (by decide +kernel) (by decide) (by decide)
          · exact up (An.toL aM) (by decide +kernel) (by decide) (by decide)
      have rv := res_any sv
      have hB : (10 ^ 13 : Nat) < 10 ^ 40 := by decide +kernel
      repeat walk_at "st"
      refine wo_eq (reprD_eq sv hB (by decide) (by decide)) ?_
      repeat walk_at "st"
      refine wo_eq (required_eq sv.any) ?_
      refine wo_eq (reprD_eq rv hB (by decide) (by decide)) ?_
      repeat walk_at "st"
      refine wo_eq (due_eq sv.any) ?_
      refine wo_eq (reprD_eq rv hB (by decide) (by decide)) ?_
      repeat walk_at "st"
      refine wo_if (fun h => (ne_self h).elim) (fun _ => ?_)
      repeat walk_at "st"
      refine wo_eq (reprD_eq sv hB (by decide) (by decide)) ?_
      repeat walk_at "st"
      refine wo_if (fun h => (ne_self h).elim) (fun _ => ?_)
      repeat walk_at "st"
      rfl
    · refine wo_eq rfl ?_
      exact g6
  · exact wp_l (wo_some rfl)
theorem law_ok : LawOk 63 F_law := fun ns hn => by
  obtain ⟨a, P', e, h⟩ := law_true ns
  subst h
  exact s_law ns true P' e
end K01

set_option Elab.async false
set_option linter.all false
set_option maxRecDepth 100000
set_option maxHeartbeats 4000000
namespace K01
open PySem PySem.Spec PyProof.Rows L2 MS TM
def topS (i : Nat) : Stmt := PySem.Challenge.pw_windways_k01_mines_required.main.body.getD i (.Pass ⟨0, 0, 0, 0⟩)
abbrev ss_is_integer_within : Stmt := topS 8
theorem sc_is_integer_within : FnScope N_is_integer_within ["value", "least", "most"] (defScope ss_is_integer_within) := ⟨rfl, rfl, rfl, by decide +kernel, rfl, by decide +kernel, by decide +kernel⟩
abbrev ss_is_place_pair : Stmt := topS 7
theorem sc_is_place_pair : FnScope N_is_place_pair ["value", "places"] (defScope ss_is_place_pair) := ⟨rfl, rfl, rfl, by decide +kernel, rfl, by decide +kernel, by decide +kernel⟩
abbrev ss_has_mine_frame : Stmt := topS 6
theorem sc_has_mine_frame : FnScope N_has_mine_frame ["value"] (defScope ss_has_mine_frame) := ⟨rfl, rfl, rfl, by decide +kernel, rfl, by decide +kernel, by decide +kernel⟩
abbrev ss_require_mine : Stmt := topS 5
theorem sc_require_mine : FnScope N_require_mine ["value"] (defScope ss_require_mine) := ⟨rfl, rfl, rfl, by decide +kernel, rfl, by decide +kernel, by decide +kernel⟩
abbrev ss_law_pen : Stmt := topS 10
theorem sc_law_pen : FnScope N_law_pen ["script"] (defScope ss_law_pen) := ⟨rfl, rfl, rfl, by decide +kernel, rfl, by decide +kernel, by decide +kernel⟩
abbrev ss_law_fresh : Stmt := topS 11
theorem sc_law_fresh : FnScope N_law_fresh ["pen"] (defScope ss_law_fresh) := ⟨rfl, rfl, rfl, by decide +kernel, rfl, by decide +kernel, by decide +kernel⟩
abbrev ss_law_draw : Stmt := topS 12
theorem sc_law_draw : FnScope N_law_draw ["pen", "bound"] (defScope ss_law_draw) := ⟨rfl, rfl, rfl, by decide +kernel, rfl, by decide +kernel, by decide +kernel⟩
abbrev ss_law_one_of : Stmt := topS 13
theorem sc_law_one_of : FnScope N_law_one_of ["pen", "some"] (defScope ss_law_one_of) := ⟨rfl, rfl, rfl, by decide +kernel, rfl, by decide +kernel, by decide +kernel⟩
abbrev ss_law_whole : Stmt := topS 14
theorem sc_law_whole : FnScope N_law_whole ["value", "low", "high"] (defScope ss_law_whole) := ⟨rfl, rfl, rfl, by decide +kernel, rfl, by decide +kernel, by decide +kernel⟩
abbrev ss_law_odd : Stmt := topS 15
theorem sc_law_odd : FnScope N_law_odd ["pen"] (defScope ss_law_odd) := ⟨rfl, rfl, rfl, by decide +kernel, rfl, by decide +kernel, by decide +kernel⟩
abbrev ss_law_bent : Stmt := topS 16
theorem sc_law_bent : FnScope N_law_bent ["pen", "value", "depth"] (defScope ss_law_bent) := ⟨rfl, rfl, rfl, by decide +kernel, rfl, by decide +kernel, by decide +kernel⟩
abbrev ss_law_two_places : Stmt := topS 17
theorem sc_law_two_places : FnScope N_law_two_places ["pen", "places"] (defScope ss_law_two_places) := ⟨rfl, rfl, rfl, by decide +kernel, rfl, by decide +kernel, by decide +kernel⟩
abbrev ss_law_mine : Stmt := topS 18
theorem sc_law_mine : FnScope N_law_mine ["pen", "most", "many"] (defScope ss_law_mine) := ⟨rfl, rfl, rfl, by decide +kernel, rfl, by decide +kernel, by decide +kernel⟩
abbrev ss_law_is_pair : Stmt := topS 19
theorem sc_law_is_pair : FnScope N_law_is_pair ["places", "value"] (defScope ss_law_is_pair) := ⟨rfl, rfl, rfl, by decide +kernel, rfl, by decide +kernel, by decide +kernel⟩
abbrev ss_law_is_tuple : Stmt := topS 20
theorem sc_law_is_tuple : FnScope N_law_is_tuple ["value", "many"] (defScope ss_law_is_tuple) := ⟨rfl, rfl, rfl, by decide +kernel, rfl, by decide +kernel, by decide +kernel⟩
abbrev ss_law_due : Stmt := topS 21
theorem sc_law_due : FnScope N_law_due ["value"] (defScope ss_law_due) := ⟨rfl, rfl, rfl, by decide +kernel, rfl, by decide +kernel, by decide +kernel⟩
abbrev ss_law_required : Stmt := topS 22
theorem sc_law_required : FnScope N_law_required ["value"] (defScope ss_law_required) := ⟨rfl, rfl, rfl, by decide +kernel, rfl, by decide +kernel, by decide +kernel⟩
abbrev ss_law : Stmt := topS 23
theorem sc_law : FnScope N_law ["script"] (defScope ss_law) := ⟨rfl, rfl, rfl, by decide +kernel, rfl, by decide +kernel, by decide +kernel⟩
section
variable {P : Program} {w : World} {K : PySem.W.Frag} {mg : Str → Option Value} {base : Heap}
theorem ok_is_integer_within {f : Addr} {fd : FuncData} (fn : Fun K "is_integer_within" "is_integer_within" ss_is_integer_within f fd) (n_bool : mg "bool" = none) (n_int : mg "int" = none) (n_isinstance : mg "isinstance" = none) : FnG P w K mg base 1 f fd ["value", "least", "most"] F_is_integer_within := by
  refine fnG_of fn sc_is_integer_within fun cdv A outer s H hr hgd => ⟨M_is_integer_within, ?_, den_does⟩
  have hu := hr.units
  have hud := L2.hu_of hr
  have hu80 := room80 hr
  have hu65 := Nat.lt_of_le_of_lt (Nat.add_le_add_left (show 65 ≤ 80 by decide) _) hu80
  exact (mss_cons (ms_if (MW.mt (mw_or (mt_not (mt_val (me_isi (T := "int") (by rfl) n_isinstance (by rfl) n_int MS.boot_int (mv 0)))) (mw_or1 (mt_val (me_isi (T := "bool") (by rfl) n_isinstance (by rfl) n_bool MS.boot_bool (mv 0)))))) (mss_one (ms_ret me_bl)) mss_nil)
    (mss_one (ms_ret (me_chain o_le o_le (mv 1) (mv 0) (mv 2)))))
theorem ok_is_place_pair {f : Addr} {fd : FuncData} (fn : Fun K "is_place_pair" "is_place_pair" ss_is_place_pair f fd) {a_is_integer_within : Addr} {d_is_integer_within : FuncData} (f_is_integer_within : Fun K "is_integer_within" "is_integer_within" ss_is_integer_within a_is_integer_within d_is_integer_within) (g_is_integer_within : FnG P w K mg base 1 a_is_integer_within d_is_integer_within ["value", "least", "most"] F_is_integer_within) (m_is_integer_within : mg "is_integer_within" = some (.ref a_is_integer_within)) (b_is_integer_within : Binds K d_is_integer_within ["value", "least", "most"] []) (n_isinstance : mg "isinstance" = none) (n_len : mg "len" = none) (n_tuple : mg "tuple" = none) : FnG P w K mg base 2 f fd ["value", "places"] F_is_place_pair := by
  refine fnG_of fn sc_is_place_pair fun cdv A outer s H hr hgd => ⟨M_is_place_pair, ?_, den_does⟩
  have hu := hr.units
  have hud := L2.hu_of hr
  have hu80 := room80 hr
  have hu65 := Nat.lt_of_le_of_lt (Nat.add_le_add_left (show 65 ≤ 80 by decide) _) hu80
  exact (mss_cons (ms_if (MW.mt (mw_or (mt_not (mt_val (me_isi (T := "tuple") (by rfl) n_isinstance (by rfl) n_tuple MS.boot_tuple (mv 0)))) (mw_or1 (mt_cmp (o_ne hu) (me_callB c_len (by rfl) n_len MS.boot_len (ma_cons (mv 0) ma_nil star_Name)) me_int (nomark _))))) (mss_one (ms_ret me_bl)) mss_nil)
    (mss_cons (ms_asg (mv 0) (mg_tup rfl (mgs_cons (mg_name (i := 2) sc_is_place_pair.nd rfl (by first | exact Or.inl rfl | exact Or.inr rfl)) (mgs_cons (mg_name (i := 3) sc_is_place_pair.nd rfl (by first | exact Or.inl rfl | exact Or.inr rfl)) mgs_nil))))
    (mss_cons (ms_if (MW.mt (mw_or (mt_not (mt_val (me_call (g_is_integer_within.mono (by decide)) hr hgd (by rfl) m_is_integer_within f_is_integer_within.kp b_is_integer_within (fun _ _ _ => den_len) (ma_cons (mv 2) (ma_cons me_int (ma_cons (me_op o_sub (mv 1) me_int) ma_nil star_BinOp) star_Constant) star_Name)))) (mw_or1 (mt_not (mt_val (me_call (g_is_integer_within.mono (by decide)) hr hgd (by rfl) m_is_integer_within f_is_integer_within.kp b_is_integer_within (fun _ _ _ => den_len) (ma_cons (mv 3) (ma_cons me_int (ma_cons (me_op o_sub (mv 1) me_int) ma_nil star_BinOp) star_Constant) star_Name))))))) (mss_one (ms_ret me_bl)) mss_nil)
    (mss_one (ms_ret (me_cmp (o_ne hu) (mv 2) (mv 3) (nomark _)))))))
theorem ok_has_mine_frame {f : Addr} {fd : FuncData} (fn : Fun K "has_mine_frame" "has_mine_frame" ss_has_mine_frame f fd) {a_is_integer_within : Addr} {d_is_integer_within : FuncData} (f_is_integer_within : Fun K "is_integer_within" "is_integer_within" ss_is_integer_within a_is_integer_within d_is_integer_within) (g_is_integer_within : FnG P w K mg base 1 a_is_integer_within d_is_integer_within ["value", "least", "most"] F_is_integer_within) (m_is_integer_within : mg "is_integer_within" = some (.ref a_is_integer_within)) (b_is_integer_within : Binds K d_is_integer_within ["value", "least", "most"] []) {a_is_place_pair : Addr} {d_is_place_pair : FuncData} (f_is_place_pair : Fun K "is_place_pair" "is_place_pair" ss_is_place_pair a_is_place_pair d_is_place_pair) (g_is_place_pair : FnG P w K mg base 2 a_is_place_pair d_is_place_pair ["value", "places"] F_is_place_pair) (m_is_place_pair : mg "is_place_pair" = some (.ref a_is_place_pair)) (b_is_place_pair : Binds K d_is_place_pair ["value", "places"] []) (n_isinstance : mg "isinstance" = none) (n_len : mg "len" = none) (n_tuple : mg "tuple" = none) {t_MOST_PLACES : Tok} (k_MOST_PLACES : mg "MOST_PLACES" = some (.int (8) t_MOST_PLACES)) {t_MOST_WAYS : Tok} (k_MOST_WAYS : mg "MOST_WAYS" = some (.int (12) t_MOST_WAYS)) : FnG P w K mg base 3 f fd ["value"] F_has_mine_frame := by
  refine fnG_of fn sc_has_mine_frame fun cdv A outer s H hr hgd => ⟨M_has_mine_frame, ?_, den_does⟩
  have hu := hr.units
  have hud := L2.hu_of hr
  have hu80 := room80 hr
  have hu65 := Nat.lt_of_le_of_lt (Nat.add_le_add_left (show 65 ≤ 80 by decide) _) hu80
  exact (mss_cons (ms_if (MW.mt (mw_or (mt_not (mt_val (me_isi (T := "tuple") (by rfl) n_isinstance (by rfl) n_tuple MS.boot_tuple (mv 0)))) (mw_or1 (mt_cmp (o_ne hu) (me_callB c_len (by rfl) n_len MS.boot_len (ma_cons (mv 0) ma_nil star_Name)) me_int (nomark _))))) (mss_one (ms_ret me_bl)) mss_nil)
    (mss_cons (ms_asg (mv 0) (mg_tup rfl (mgs_cons (mg_name (i := 1) sc_has_mine_frame.nd rfl (by first | exact Or.inl rfl | exact Or.inr rfl)) (mgs_cons (mg_name (i := 2) sc_has_mine_frame.nd rfl (by first | exact Or.inl rfl | exact Or.inr rfl)) (mgs_cons (mg_name (i := 3) sc_has_mine_frame.nd rfl (by first | exact Or.inl rfl | exact Or.inr rfl)) (mgs_cons (mg_name (i := 4) sc_has_mine_frame.nd rfl (by first | exact Or.inl rfl | exact Or.inr rfl)) mgs_nil))))))
    (mss_cons (ms_if (mt_not (mt_val (me_call (g_is_integer_within.mono (by decide)) hr hgd (by rfl) m_is_integer_within f_is_integer_within.kp b_is_integer_within (fun _ _ _ => den_len) (ma_cons (mv 1) (ma_cons me_int (ma_cons (me_globI (by rfl) k_MOST_PLACES) ma_nil star_Name) star_Constant) star_Name)))) (mss_one (ms_ret me_bl)) mss_nil)
    (mss_cons (ms_if (MW.mt (mw_or (mt_not (mt_val (me_isi (T := "tuple") (by rfl) n_isinstance (by rfl) n_tuple MS.boot_tuple (mv 2)))) (mw_or1 (mt_not (mt_chain o_le o_le me_int (me_callB c_len (by rfl) n_len MS.boot_len (ma_cons (mv 2) ma_nil star_Name)) (me_globI (by rfl) k_MOST_WAYS)))))) (mss_one (ms_ret me_bl)) mss_nil)
    (mss_one (ms_ret (me_call (g_is_place_pair.mono (by decide)) hr hgd (by rfl) m_is_place_pair f_is_place_pair.kp b_is_place_pair (fun _ _ _ => den_len) (ma_cons (me_tup (ma_cons (mv 3) (ma_cons (mv 4) ma_nil star_Name) star_Name)) (ma_cons (mv 1) ma_nil star_Name) star_Tuple))))))))
theorem ok_require_mine {f : Addr} {fd : FuncData} (fn : Fun K "require_mine" "require_mine" ss_require_mine f fd) {a_has_mine_frame : Addr} {d_has_mine_frame : FuncData} (f_has_mine_frame : Fun K "has_mine_frame" "has_mine_frame" ss_has_mine_frame a_has_mine_frame d_has_mine_frame) (g_has_mine_frame : FnG P w K mg base 3 a_has_mine_frame d_has_mine_frame ["value"] F_has_mine_frame) (m_has_mine_frame : mg "has_mine_frame" = some (.ref a_has_mine_frame)) (b_has_mine_frame : Binds K d_has_mine_frame ["value"] []) {a_is_place_pair : Addr} {d_is_place_pair : FuncData} (f_is_place_pair : Fun K "is_place_pair" "is_place_pair" ss_is_place_pair a_is_place_pair d_is_place_pair) (g_is_place_pair : FnG P w K mg base 2 a_is_place_pair d_is_place_pair ["value", "places"] F_is_place_pair) (m_is_place_pair : mg "is_place_pair" = some (.ref a_is_place_pair)) (b_is_place_pair : Binds K d_is_place_pair ["value", "places"] []) (n_enumerate : mg "enumerate" = none) {C_InvalidMine I_InvalidMine : Addr} {D_InvalidMine : FuncData} (E_InvalidMine : EC P w K mg base "InvalidMine" "index" C_InvalidMine I_InvalidMine D_InvalidMine) : FnX P w K mg base 4 f fd ["value"] F_require_mine := by
  refine fnX_of (m := M_require_mine) (np := 1) (N := N_require_mine) rfl fn sc_require_mine fun cdv A outer s H E hr hgd => ?_
  have hu := hr.units
  have hud := L2.hu_of hr
  have hu80 := room80 hr
  have hu65 := Nat.lt_of_le_of_lt (Nat.add_le_add_left (show 65 ≤ 80 by decide) _) hu80
  exact (msxs_cons (msx_if (mt_not (mt_val (me_call (g_has_mine_frame.mono (by decide)) hr hgd (by rfl) m_has_mine_frame f_has_mine_frame.kp b_has_mine_frame (fun _ _ _ => den_len) (ma_cons (mv 0) ma_nil star_Name)))) (msxs_one (msx_raise E_InvalidMine rfl (hr.mono (by decide)) (by rfl) me_non)) msxs_nil)
    (msxs_cons (msx_for passesXX rfl (mi_enum (by rfl) n_enumerate (ma_cons (me_ix (mv 0) me_int (fun _ _ => rfl)) ma_nil star_Subscript)) (mg_tup rfl (mgs_cons (mg_name (i := 1) sc_require_mine.nd rfl (by first | exact Or.inl rfl | exact Or.inr rfl)) (mgs_cons (mg_name (i := 2) sc_require_mine.nd rfl (by first | exact Or.inl rfl | exact Or.inr rfl)) mgs_nil))) (msxs_one (msx_if (mt_not (mt_val (me_call (g_is_place_pair.mono (by decide)) hr hgd (by rfl) m_is_place_pair f_is_place_pair.kp b_is_place_pair (fun _ _ _ => den_len) (ma_cons (mv 2) (ma_cons (me_ix (mv 0) me_int (fun _ _ => rfl)) ma_nil star_Subscript) star_Name)))) (msxs_one (msx_raise E_InvalidMine rfl (hr.mono (by decide)) (by rfl) (mv 1))) msxs_nil)))
    (msxs_one (msx_ret (mv 0)))))
theorem ok_law_pen {f : Addr} {fd : FuncData} (fn : Fun K "_law_pen" "_law_pen" ss_law_pen f fd) (n_list : mg "list" = none) : FnG P w K mg base 1 f fd ["script"] F_law_pen := by
  refine fnG_of fn sc_law_pen fun cdv A outer s H hr hgd => ⟨M_law_pen, ?_, den_does⟩
  have hu := hr.units
  have hud := L2.hu_of hr
  have hu80 := room80 hr
  have hu65 := Nat.lt_of_le_of_lt (Nat.add_le_add_left (show 65 ≤ 80 by decide) _) hu80
  exact (mss_one (ms_ret (me_lst (ma_cons (me_callTy (c_fz c_list) (by rfl) n_list MS.boot_list (ma_cons (me_slice (mv 0) mp_none (mp_some me_int)) ma_nil star_Subscript)) (ma_cons me_int (ma_cons me_int ma_nil star_Constant) star_Constant) star_Call))))
theorem ok_law_fresh {f : Addr} {fd : FuncData} (fn : Fun K "_law_fresh" "_law_fresh" ss_law_fresh f fd) (n_int : mg "int" = none) (n_len : mg "len" = none) (n_range : mg "range" = none) : FnG P w K mg base 1 f fd ["pen"] F_law_fresh := by
  refine fnG_of fn sc_law_fresh fun cdv A outer s H hr hgd => ⟨M_law_fresh, ?_, den_does⟩
  have hu := hr.units
  have hud := L2.hu_of hr
  have hu80 := room80 hr
  have hu65 := Nat.lt_of_le_of_lt (Nat.add_le_add_left (show 65 ≤ 80 by decide) _) hu80
  exact (mss_cons (ms_par (i := 6) (j := 7) rfl sc_law_fresh.nd rfl rfl (by decide) rfl rfl (ma_cons (me_ix (mv 0) me_int (fun _ _ => rfl)) (ma_cons (me_ix (mv 0) me_int (fun _ _ => rfl)) ma_nil)))
    (mss_cons (ms_asg (me_op o_add (mv 6) me_int) (mg_sub (mv 0) me_int))
    (mss_cons (ms_set (i := 1) sc_law_fresh.nd rfl (by first | exact Or.inl rfl | exact Or.inr rfl) (me_ifExp (mt_cmp (o_ne hu) (mv 7) (me_lstV ma_nil) (nomark _)) (me_ix (mv 7) (me_op o_mod (me_callTy c_int (by rfl) n_int MS.boot_int (ma_cons (mv 6) ma_nil star_Name)) (me_callB c_len (by rfl) n_len MS.boot_len (ma_cons (mv 7) ma_nil star_Name))) (fun _ _ => rfl)) me_int))
    (mss_cons (ms_if (MW.mt (mw_and (mt_cmp o_lt (mv 6) (me_callB c_len (by rfl) n_len MS.boot_len (ma_cons (mv 7) ma_nil star_Name)) (nomark _)) (mw_and1 (mt_cmp o_ge (mv 1) (me_op o_pow me_int me_int) (nomark _))))) (mss_one (ms_ret (me_op o_sub (mv 1) (me_op o_pow me_int me_int)))) mss_nil)
    (mss_cons (ms_set (i := 2) sc_law_fresh.nd rfl (by first | exact Or.inl rfl | exact Or.inr rfl) me_int)
    (mss_cons (ms_set (i := 3) sc_law_fresh.nd rfl (by first | exact Or.inl rfl | exact Or.inr rfl) (me_op o_mod (me_callTy c_int (by rfl) n_int MS.boot_int (ma_cons (me_op o_add (me_op o_add (me_op o_mul (mv 1) me_int) (me_op o_mul me_int (mv 6))) me_int) ma_nil star_BinOp)) (mv 2)))
    (mss_cons (ms_set (i := 4) sc_law_fresh.nd rfl (by first | exact Or.inl rfl | exact Or.inr rfl) (mv 3))
    (mss_cons (ms_for PassesOwn.never rfl (mi_range1 (by rfl) n_range (ma_cons me_int ma_nil star_Constant)) (mg_name (i := 5) sc_law_fresh.nd rfl (by first | exact Or.inl rfl | exact Or.inr rfl)) (mss_cons (ms_set (i := 3) sc_law_fresh.nd rfl (by first | exact Or.inl rfl | exact Or.inr rfl) (me_op o_mod (me_callTy c_int (by rfl) n_int MS.boot_int (ma_cons (me_op o_add (me_op o_add (me_op o_mul (mv 3) (mv 3)) (me_op o_mul (me_op o_mul me_int (me_op o_add (mv 5) me_int)) (me_op o_add (mv 6) me_int))) (mv 1)) ma_nil star_BinOp)) (mv 2)))
    (mss_one (ms_set (i := 4) sc_law_fresh.nd rfl (by first | exact Or.inl rfl | exact Or.inr rfl) (me_op o_add (me_op o_mul (mv 4) (mv 2)) (mv 3))))))
    (mss_one (ms_ret (mv 4)))))))))))
theorem ok_law_draw {f : Addr} {fd : FuncData} (fn : Fun K "_law_draw" "_law_draw" ss_law_draw f fd) {a_law_fresh : Addr} {d_law_fresh : FuncData} (f_law_fresh : Fun K "_law_fresh" "_law_fresh" ss_law_fresh a_law_fresh d_law_fresh) (g_law_fresh : FnG P w K mg base 1 a_law_fresh d_law_fresh ["pen"] F_law_fresh) (m_law_fresh : mg "_law_fresh" = some (.ref a_law_fresh)) (b_law_fresh : Binds K d_law_fresh ["pen"] []) (n_int : mg "int" = none) : FnG P w K mg base 2 f fd ["pen", "bound"] F_law_draw := by
  refine fnG_of fn sc_law_draw fun cdv A outer s H hr hgd => ⟨M_law_draw, ?_, den_does⟩
  have hu := hr.units
  have hud := L2.hu_of hr
  have hu80 := room80 hr
  have hu65 := Nat.lt_of_le_of_lt (Nat.add_le_add_left (show 65 ≤ 80 by decide) _) hu80
  exact (mss_cons (ms_if (mt_cmp o_lt (me_ix (mv 0) me_int (fun _ _ => rfl)) (mv 1) (nomark _)) (mss_one (ms_asg (me_call (g_law_fresh.mono (by decide)) hr hgd (by rfl) m_law_fresh f_law_fresh.kp b_law_fresh (fun _ _ _ => den_len) (ma_cons (mv 0) ma_nil star_Name)) (mg_sub (mv 0) me_int))) mss_nil)
    (mss_cons (ms_set (i := 2) sc_law_draw.nd rfl (by first | exact Or.inl rfl | exact Or.inr rfl) (me_op o_mod (me_callTy c_int (by rfl) n_int MS.boot_int (ma_cons (me_ix (mv 0) me_int (fun _ _ => rfl)) ma_nil star_Subscript)) (mv 1)))
    (mss_cons (ms_asg (me_op o_divW (me_callTy c_int (by rfl) n_int MS.boot_int (ma_cons (me_ix (mv 0) me_int (fun _ _ => rfl)) ma_nil star_Subscript)) (mv 1)) (mg_sub (mv 0) me_int))
    (mss_one (ms_ret (mv 2))))))
theorem ok_law_one_of {f : Addr} {fd : FuncData} (fn : Fun K "_law_one_of" "_law_one_of" ss_law_one_of f fd) {a_law_draw : Addr} {d_law_draw : FuncData} (f_law_draw : Fun K "_law_draw" "_law_draw" ss_law_draw a_law_draw d_law_draw) (g_law_draw : FnG P w K mg base 2 a_law_draw d_law_draw ["pen", "bound"] F_law_draw) (m_law_draw : mg "_law_draw" = some (.ref a_law_draw)) (b_law_draw : Binds K d_law_draw ["pen", "bound"] []) (n_len : mg "len" = none) : FnG P w K mg base 3 f fd ["pen", "some"] F_law_one_of := by
  refine fnG_of fn sc_law_one_of fun cdv A outer s H hr hgd => ⟨M_law_one_of, ?_, den_does⟩
  have hu := hr.units
  have hud := L2.hu_of hr
  have hu80 := room80 hr
  have hu65 := Nat.lt_of_le_of_lt (Nat.add_le_add_left (show 65 ≤ 80 by decide) _) hu80
  exact (mss_one (ms_ret (me_ix (mv 1) (me_call (g_law_draw.mono (by decide)) hr hgd (by rfl) m_law_draw f_law_draw.kp b_law_draw (fun _ _ _ => den_len) (ma_cons (mv 0) (ma_cons (me_callB c_len (by rfl) n_len MS.boot_len (ma_cons (mv 1) ma_nil star_Name)) ma_nil star_Call) star_Name)) (fun _ _ => rfl))))
theorem ok_law_whole {f : Addr} {fd : FuncData} (fn : Fun K "_law_whole" "_law_whole" ss_law_whole f fd) (n_bool : mg "bool" = none) (n_int : mg "int" = none) (n_isinstance : mg "isinstance" = none) : FnG P w K mg base 1 f fd ["value", "low", "high"] F_law_whole := by
  refine fnG_of fn sc_law_whole fun cdv A outer s H hr hgd => ⟨M_law_whole, ?_, den_does⟩
  have hu := hr.units
  have hud := L2.hu_of hr
  have hu80 := room80 hr
  have hu65 := Nat.lt_of_le_of_lt (Nat.add_le_add_left (show 65 ≤ 80 by decide) _) hu80
  exact (mss_one (ms_ret (me_and (me_isi (T := "int") (by rfl) n_isinstance (by rfl) n_int MS.boot_int (mv 0)) (me_and (me_not (me_isi (T := "bool") (by rfl) n_isinstance (by rfl) n_bool MS.boot_bool (mv 0))) (me_one (me_chain o_le o_le (mv 1) (mv 0) (mv 2)))))))
theorem ok_law_odd {f : Addr} {fd : FuncData} (fn : Fun K "_law_odd" "_law_odd" ss_law_odd f fd) {a_law_one_of : Addr} {d_law_one_of : FuncData} (f_law_one_of : Fun K "_law_one_of" "_law_one_of" ss_law_one_of a_law_one_of d_law_one_of) (g_law_one_of : FnG P w K mg base 3 a_law_one_of d_law_one_of ["pen", "some"] F_law_one_of) (m_law_one_of : mg "_law_one_of" = some (.ref a_law_one_of)) (b_law_one_of : Binds K d_law_one_of ["pen", "some"] []) : FnG P w K mg base 4 f fd ["pen"] F_law_odd := by
  refine fnG_of fn sc_law_odd fun cdv A outer s H hr hgd => ⟨M_law_odd, ?_, den_does⟩
  have hu := hr.units
  have hud := L2.hu_of hr
  have hu80 := room80 hr
  have hu65 := Nat.lt_of_le_of_lt (Nat.add_le_add_left (show 65 ≤ 80 by decide) _) hu80
  exact (mss_cons (ms_set (i := 1) sc_law_odd.nd rfl (by first | exact Or.inl rfl | exact Or.inr rfl) (me_lstV (ma_cons me_non (ma_cons me_bl (ma_cons me_bl (ma_cons (me_neg me_int) (ma_cons me_int (ma_cons me_int (ma_cons me_int (ma_cons me_int (ma_cons me_int (ma_cons me_int (ma_cons me_int (ma_cons me_str (ma_cons me_str (ma_cons me_str (ma_cons (me_tup ma_nil) (ma_cons (me_lstV ma_nil) (ma_cons (me_fz me_dnewK) (ma_cons (me_tup (ma_cons me_int ma_nil star_Constant)) (ma_cons (me_tup (ma_cons me_int (ma_cons me_int ma_nil star_Constant) star_Constant)) (ma_cons (me_tup (ma_cons me_int (ma_cons me_int (ma_cons me_int ma_nil star_Constant) star_Constant) star_Constant)) ma_nil star_Tuple) star_Tuple) star_Tuple) star_Dict) star_List) star_Tuple) star_Constant) star_Constant) star_Constant) star_Constant) star_Constant) star_Constant) star_Constant) star_Constant) star_Constant) star_Constant) star_UnaryOp) star_Constant) star_Constant) star_Constant)))
    (mss_one (ms_ret (me_call (g_law_one_of.mono (by decide)) hr hgd (by rfl) m_law_one_of f_law_one_of.kp b_law_one_of (fun _ _ _ => den_len) (ma_cons (mv 0) (ma_cons (me_op o_add (mv 1) (me_lstV (ma_cons (me_op o_pow me_int me_int) (ma_cons (me_op o_add (me_op o_pow me_int me_int) me_int) (ma_cons (me_op o_sub (me_neg (me_op o_pow me_int me_int)) me_int) (ma_cons (me_tup (ma_cons (me_tup ma_nil) ma_nil star_Tuple)) (ma_cons (me_lstV (ma_cons me_int ma_nil star_Constant)) (ma_cons (me_tup (ma_cons me_int (ma_cons (me_tup ma_nil) ma_nil star_Tuple) star_Constant)) (ma_cons (me_tup (ma_cons me_non (ma_cons me_int (ma_cons me_int ma_nil star_Constant) star_Constant) star_Constant)) ma_nil star_Tuple) star_Tuple) star_List) star_Tuple) star_BinOp) star_BinOp) star_BinOp))) ma_nil star_BinOp) star_Name)))))
theorem okR_law_bent {f : Addr} {fd : FuncData} (fn : Fun K "_law_bent" "_law_bent" ss_law_bent f fd) (m_law_bent : mg "_law_bent" = some (.ref f)) (b_law_bent : Binds K fd ["pen", "value", "depth"] []) {a_law_draw : Addr} {d_law_draw : FuncData} (f_law_draw : Fun K "_law_draw" "_law_draw" ss_law_draw a_law_draw d_law_draw) (g_law_draw : FnG P w K mg base 2 a_law_draw d_law_draw ["pen", "bound"] F_law_draw) (m_law_draw : mg "_law_draw" = some (.ref a_law_draw)) (b_law_draw : Binds K d_law_draw ["pen", "bound"] []) {a_law_odd : Addr} {d_law_odd : FuncData} (f_law_odd : Fun K "_law_odd" "_law_odd" ss_law_odd a_law_odd d_law_odd) (g_law_odd : FnG P w K mg base 4 a_law_odd d_law_odd ["pen"] F_law_odd) (m_law_odd : mg "_law_odd" = some (.ref a_law_odd)) (b_law_odd : Binds K d_law_odd ["pen"] []) (n_bool : mg "bool" = none) (n_int : mg "int" = none) (n_isinstance : mg "isinstance" = none) (n_len : mg "len" = none) (n_list : mg "list" = none) (n_tuple : mg "tuple" = none) : ∀ n : Nat, FnG P w K mg base (5 + n) f fd ["pen", "value", "depth"] (F_law_bentR n)
  | 0 => ⟨fun _ _ _ _ _ _ _ _ _ _ _ _ _ _ _ _ _ _ _ _ _ e _ => nomatch e⟩
  | n + 1 => by
    have g_law_bent := okR_law_bent fn m_law_bent b_law_bent f_law_draw g_law_draw m_law_draw b_law_draw f_law_odd g_law_odd m_law_odd b_law_odd n_bool n_int n_isinstance n_len n_list n_tuple n
    have f_law_bent := fn
    refine fnG_of (k := 5 + n) fn sc_law_bent fun cdv A outer s H hr hgd => ⟨M_law_bent (F_law_bentR n), ?_, den_does⟩
    have hu := hr.units
    have hud := L2.hu_of hr
    have hu80 := room80 hr
    have hu65 := Nat.lt_of_le_of_lt (Nat.add_le_add_left (show 65 ≤ 80 by decide) _) hu80
    exact (mss_cons (ms_if (MW.mt (mw_or (mt_not (mt_val (me_isi (T := "tuple") (by rfl) n_isinstance (by rfl) n_tuple MS.boot_tuple (mv 1)))) (mw_or (mt_cmp (o_eqX hu) (mv 1) (me_tup ma_nil) (nomark _)) (mw_or (mt_cmp (o_eq hu) (mv 2) me_int (nomark _)) (mw_or1 (mt_cmp (o_eq hu) (me_call (g_law_draw.mono (by omega)) hr hgd (by rfl) m_law_draw f_law_draw.kp b_law_draw (fun _ _ _ => den_len) (ma_cons (mv 0) (ma_cons me_int ma_nil star_Constant) star_Name)) me_int (nomark _))))))) (mss_cons (ms_set (i := 4) sc_law_bent.nd rfl (by first | exact Or.inl rfl | exact Or.inr rfl) (me_call (g_law_draw.mono (by omega)) hr hgd (by rfl) m_law_draw f_law_draw.kp b_law_draw (fun _ _ _ => den_len) (ma_cons (mv 0) (ma_cons me_int ma_nil star_Constant) star_Name)))
    (mss_cons (ms_if (MW.mt (mw_and (mt_val (me_isi (T := "int") (by rfl) n_isinstance (by rfl) n_int MS.boot_int (mv 1))) (mw_and (mt_not (mt_val (me_isi (T := "bool") (by rfl) n_isinstance (by rfl) n_bool MS.boot_bool (mv 1)))) (mw_and1 (mt_cmp o_lt (mv 4) me_int (nomark _)))))) (mss_one (ms_ret (me_ix (me_lstV (ma_cons (me_op o_add (mv 1) me_int) (ma_cons (me_op o_sub (mv 1) me_int) (ma_cons (me_cmp (o_eq hu) (mv 1) me_int (nomark _)) (ma_cons me_int (ma_cons (me_neg me_int) (ma_cons (me_op o_add (mv 1) me_int) ma_nil star_BinOp) star_UnaryOp) star_Constant) star_Compare) star_BinOp) star_BinOp)) (mv 4) (fun _ _ => rfl)))) mss_nil)
    (mss_cons (ms_if (MW.mt (mw_and (mt_val (me_isi (T := "tuple") (by rfl) n_isinstance (by rfl) n_tuple MS.boot_tuple (mv 1))) (mw_and1 (mt_cmp o_lt (mv 4) me_int (nomark _))))) (mss_one (ms_ret (me_ix (me_lstV (ma_cons (me_slice (mv 1) (mp_some me_int) mp_none) (ma_cons (me_slice (mv 1) mp_none (mp_some (me_neg me_int))) (ma_cons (me_op o_add (mv 1) (me_slice (mv 1) mp_none (mp_some me_int))) (ma_cons (me_revT (mv 1)) (ma_cons (me_callTy (c_fz c_list) (by rfl) n_list MS.boot_list (ma_cons (mv 1) ma_nil star_Name)) (ma_cons (me_op o_add (mv 1) (me_tup (ma_cons me_int ma_nil star_Constant))) ma_nil star_BinOp) star_Call) star_Subscript) star_BinOp) star_Subscript) star_Subscript)) (mv 4) (fun _ _ => rfl)))) mss_nil)
    (mss_one (ms_ret (me_call (g_law_odd.mono (by omega)) hr hgd (by rfl) m_law_odd f_law_odd.kp b_law_odd (fun _ _ _ => den_len) (ma_cons (mv 0) ma_nil star_Name))))))) mss_nil)
    (mss_cons (ms_set (i := 3) sc_law_bent.nd rfl (by first | exact Or.inl rfl | exact Or.inr rfl) (me_call (g_law_draw.mono (by omega)) hr hgd (by rfl) m_law_draw f_law_draw.kp b_law_draw (fun _ _ _ => den_len) (ma_cons (mv 0) (ma_cons (me_callB c_len (by rfl) n_len MS.boot_len (ma_cons (mv 1) ma_nil star_Name)) ma_nil star_Call) star_Name)))
    (mss_one (ms_ret (me_op o_add (me_op o_add (me_slice (mv 1) mp_none (mp_some (mv 3))) (me_tup (ma_cons (me_call (g_law_bent.mono (by omega)) hr hgd (by rfl) m_law_bent f_law_bent.kp b_law_bent (F_law_bent_len _) (ma_cons (mv 0) (ma_cons (me_ix (mv 1) (mv 3) (fun _ _ => rfl)) (ma_cons (me_op o_sub (mv 2) me_int) ma_nil star_BinOp) star_Subscript) star_Name)) ma_nil star_Call))) (me_slice (mv 1) (mp_some (me_op o_add (mv 3) me_int)) mp_none))))))
theorem ok_law_bent {f : Addr} {fd : FuncData} (fn : Fun K "_law_bent" "_law_bent" ss_law_bent f fd) (m_law_bent : mg "_law_bent" = some (.ref f)) (b_law_bent : Binds K fd ["pen", "value", "depth"] []) {a_law_draw : Addr} {d_law_draw : FuncData} (f_law_draw : Fun K "_law_draw" "_law_draw" ss_law_draw a_law_draw d_law_draw) (g_law_draw : FnG P w K mg base 2 a_law_draw d_law_draw ["pen", "bound"] F_law_draw) (m_law_draw : mg "_law_draw" = some (.ref a_law_draw)) (b_law_draw : Binds K d_law_draw ["pen", "bound"] []) {a_law_odd : Addr} {d_law_odd : FuncData} (f_law_odd : Fun K "_law_odd" "_law_odd" ss_law_odd a_law_odd d_law_odd) (g_law_odd : FnG P w K mg base 4 a_law_odd d_law_odd ["pen"] F_law_odd) (m_law_odd : mg "_law_odd" = some (.ref a_law_odd)) (b_law_odd : Binds K d_law_odd ["pen"] []) (n_bool : mg "bool" = none) (n_int : mg "int" = none) (n_isinstance : mg "isinstance" = none) (n_len : mg "len" = none) (n_list : mg "list" = none) (n_tuple : mg "tuple" = none) : FnG P w K mg base 17 f fd ["pen", "value", "depth"] F_law_bent := okR_law_bent fn m_law_bent b_law_bent f_law_draw g_law_draw m_law_draw b_law_draw f_law_odd g_law_odd m_law_odd b_law_odd n_bool n_int n_isinstance n_len n_list n_tuple 12
theorem ok_law_two_places {f : Addr} {fd : FuncData} (fn : Fun K "_law_two_places" "_law_two_places" ss_law_two_places f fd) {a_law_draw : Addr} {d_law_draw : FuncData} (f_law_draw : Fun K "_law_draw" "_law_draw" ss_law_draw a_law_draw d_law_draw) (g_law_draw : FnG P w K mg base 2 a_law_draw d_law_draw ["pen", "bound"] F_law_draw) (m_law_draw : mg "_law_draw" = some (.ref a_law_draw)) (b_law_draw : Binds K d_law_draw ["pen", "bound"] []) (n_int : mg "int" = none) : FnG P w K mg base 3 f fd ["pen", "places"] F_law_two_places := by
  refine fnG_of fn sc_law_two_places fun cdv A outer s H hr hgd => ⟨M_law_two_places, ?_, den_does⟩
  have hu := hr.units
  have hud := L2.hu_of hr
  have hu80 := room80 hr
  have hu65 := Nat.lt_of_le_of_lt (Nat.add_le_add_left (show 65 ≤ 80 by decide) _) hu80
  exact (mss_cons (ms_set (i := 2) sc_law_two_places.nd rfl (by first | exact Or.inl rfl | exact Or.inr rfl) (me_call (g_law_draw.mono (by decide)) hr hgd (by rfl) m_law_draw f_law_draw.kp b_law_draw (fun _ _ _ => den_len) (ma_cons (mv 0) (ma_cons (mv 1) ma_nil star_Name) star_Name)))
    (mss_one (ms_ret (me_tup (ma_cons (mv 2) (ma_cons (me_op o_mod (me_callTy c_int (by rfl) n_int MS.boot_int (ma_cons (me_op o_add (me_op o_add (mv 2) me_int) (me_call (g_law_draw.mono (by decide)) hr hgd (by rfl) m_law_draw f_law_draw.kp b_law_draw (fun _ _ _ => den_len) (ma_cons (mv 0) (ma_cons (me_op o_sub (mv 1) me_int) ma_nil star_BinOp) star_Name))) ma_nil star_BinOp)) (mv 1)) ma_nil star_BinOp) star_Name)))))
theorem ok_law_mine {f : Addr} {fd : FuncData} (fn : Fun K "_law_mine" "_law_mine" ss_law_mine f fd) {a_law_draw : Addr} {d_law_draw : FuncData} (f_law_draw : Fun K "_law_draw" "_law_draw" ss_law_draw a_law_draw d_law_draw) (g_law_draw : FnG P w K mg base 2 a_law_draw d_law_draw ["pen", "bound"] F_law_draw) (m_law_draw : mg "_law_draw" = some (.ref a_law_draw)) (b_law_draw : Binds K d_law_draw ["pen", "bound"] []) {a_law_one_of : Addr} {d_law_one_of : FuncData} (f_law_one_of : Fun K "_law_one_of" "_law_one_of" ss_law_one_of a_law_one_of d_law_one_of) (g_law_one_of : FnG P w K mg base 3 a_law_one_of d_law_one_of ["pen", "some"] F_law_one_of) (m_law_one_of : mg "_law_one_of" = some (.ref a_law_one_of)) (b_law_one_of : Binds K d_law_one_of ["pen", "some"] []) {a_law_two_places : Addr} {d_law_two_places : FuncData} (f_law_two_places : Fun K "_law_two_places" "_law_two_places" ss_law_two_places a_law_two_places d_law_two_places) (g_law_two_places : FnG P w K mg base 3 a_law_two_places d_law_two_places ["pen", "places"] F_law_two_places) (m_law_two_places : mg "_law_two_places" = some (.ref a_law_two_places)) (b_law_two_places : Binds K d_law_two_places ["pen", "places"] []) (n_len : mg "len" = none) (n_min : mg "min" = none) (n_range : mg "range" = none) (n_tuple : mg "tuple" = none) : FnG P w K mg base 4 f fd ["pen", "most", "many"] F_law_mine := by
  refine fnG_of fn sc_law_mine fun cdv A outer s H hr hgd => ⟨M_law_mine, ?_, den_does⟩
  have hu := hr.units
  have hud := L2.hu_of hr
  have hu80 := room80 hr
  have hu65 := Nat.lt_of_le_of_lt (Nat.add_le_add_left (show 65 ≤ 80 by decide) _) hu80
  exact (mss_cons (ms_set (i := 3) sc_law_mine.nd rfl (by first | exact Or.inl rfl | exact Or.inr rfl) (me_call (g_law_one_of.mono (by decide)) hr hgd (by rfl) m_law_one_of f_law_one_of.kp b_law_one_of (fun _ _ _ => den_len) (ma_cons (mv 0) (ma_cons (me_lstV (ma_cons me_int (ma_cons me_int (ma_cons (mv 1) (ma_cons (mv 1) (ma_cons (me_op o_add me_int (me_call (g_law_draw.mono (by decide)) hr hgd (by rfl) m_law_draw f_law_draw.kp b_law_draw (fun _ _ _ => den_len) (ma_cons (mv 0) (ma_cons (me_op o_sub (mv 1) me_int) ma_nil star_BinOp) star_Name))) ma_nil star_BinOp) star_Name) star_Name) star_Constant) star_Constant)) ma_nil star_List) star_Name)))
    (mss_cons (ms_par (i := 3) (j := 6) rfl sc_law_mine.nd rfl rfl (by decide) rfl rfl (ma_cons (me_callB (c_min rfl) (by rfl) n_min MS.boot_min (ma_cons (mv 3) (ma_cons (me_op o_add (mv 2) me_int) ma_nil star_BinOp) star_Name)) (ma_cons (me_lst ma_nil) ma_nil)))
    (mss_cons (ms_for PassesOwn.never rfl (mi_range2 (by rfl) n_range (ma_cons me_int (ma_cons (mv 3) ma_nil star_Name) star_Constant)) (mg_name (i := 4) sc_law_mine.nd rfl (by first | exact Or.inl rfl | exact Or.inr rfl)) (mss_cons (ms_set (i := 7) sc_law_mine.nd rfl (by first | exact Or.inl rfl | exact Or.inr rfl) (me_tup (ma_cons (mv 4) (ma_cons (me_call (g_law_draw.mono (by decide)) hr hgd (by rfl) m_law_draw f_law_draw.kp b_law_draw (fun _ _ _ => den_len) (ma_cons (mv 0) (ma_cons (mv 4) ma_nil star_Name) star_Name)) ma_nil star_Call) star_Name)))
    (mss_one (ms_expr (me_app (mv 6) (ma_cons (me_ifExp (mt_cmp (o_eq hu) (me_call (g_law_draw.mono (by decide)) hr hgd (by rfl) m_law_draw f_law_draw.kp b_law_draw (fun _ _ _ => den_len) (ma_cons (mv 0) (ma_cons me_int ma_nil star_Constant) star_Name)) me_int (nomark _)) (mv 7) (me_revT (mv 7))) ma_nil star_IfExp))))))
    (mss_cons (ms_for PassesOwn.never rfl (mi_range1 (by rfl) n_range (ma_cons (me_call (g_law_draw.mono (by decide)) hr hgd (by rfl) m_law_draw f_law_draw.kp b_law_draw (fun _ _ _ => den_len) (ma_cons (mv 0) (ma_cons (me_op o_add (me_op o_sub (mv 2) (me_callB c_len (by rfl) n_len MS.boot_len (ma_cons (mv 6) ma_nil star_Name))) me_int) ma_nil star_BinOp) star_Name)) ma_nil star_Call)) (mg_name (i := 5) sc_law_mine.nd rfl (by first | exact Or.inl rfl | exact Or.inr rfl)) (mss_one (ms_expr (me_app (mv 6) (ma_cons (me_call (g_law_two_places.mono (by decide)) hr hgd (by rfl) m_law_two_places f_law_two_places.kp b_law_two_places (fun _ _ _ => den_len) (ma_cons (mv 0) (ma_cons (mv 3) ma_nil star_Name) star_Name)) ma_nil star_Call)))))
    (mss_cons (ms_asg (me_call (g_law_two_places.mono (by decide)) hr hgd (by rfl) m_law_two_places f_law_two_places.kp b_law_two_places (fun _ _ _ => den_len) (ma_cons (mv 0) (ma_cons (mv 3) ma_nil star_Name) star_Name)) (mg_tup rfl (mgs_cons (mg_name (i := 8) sc_law_mine.nd rfl (by first | exact Or.inl rfl | exact Or.inr rfl)) (mgs_cons (mg_name (i := 9) sc_law_mine.nd rfl (by first | exact Or.inl rfl | exact Or.inr rfl)) mgs_nil))))
    (mss_one (ms_ret (me_tup (ma_cons (mv 3) (ma_cons (me_callTy c_tuple (by rfl) n_tuple MS.boot_tuple (ma_cons (mv 6) ma_nil star_Name)) (ma_cons (mv 8) (ma_cons (mv 9) ma_nil star_Name) star_Name) star_Call) star_Name)))))))))
theorem ok_law_is_pair {f : Addr} {fd : FuncData} (fn : Fun K "_law_is_pair" "_law_is_pair" ss_law_is_pair f fd) {a_law_whole : Addr} {d_law_whole : FuncData} (f_law_whole : Fun K "_law_whole" "_law_whole" ss_law_whole a_law_whole d_law_whole) (g_law_whole : FnG P w K mg base 1 a_law_whole d_law_whole ["value", "low", "high"] F_law_whole) (m_law_whole : mg "_law_whole" = some (.ref a_law_whole)) (b_law_whole : Binds K d_law_whole ["value", "low", "high"] []) (n_isinstance : mg "isinstance" = none) (n_len : mg "len" = none) (n_tuple : mg "tuple" = none) : FnG P w K mg base 2 f fd ["places", "value"] F_law_is_pair := by
  refine fnG_of fn sc_law_is_pair fun cdv A outer s H hr hgd => ⟨M_law_is_pair, ?_, den_does⟩
  have hu := hr.units
  have hud := L2.hu_of hr
  have hu80 := room80 hr
  have hu65 := Nat.lt_of_le_of_lt (Nat.add_le_add_left (show 65 ≤ 80 by decide) _) hu80
  exact (mss_cons (ms_if (MW.mt (mw_or (mt_not (mt_val (me_isi (T := "tuple") (by rfl) n_isinstance (by rfl) n_tuple MS.boot_tuple (mv 1)))) (mw_or1 (mt_cmp (o_ne hu) (me_callB c_len (by rfl) n_len MS.boot_len (ma_cons (mv 1) ma_nil star_Name)) me_int (nomark _))))) (mss_one (ms_ret me_bl)) mss_nil)
    (mss_one (ms_ret (me_and (me_cmp (o_eq hu) (me_fz (me_lc (own := [("x", 2)]) (e := (mC (.int 1))) (is := [2]) rfl sc_law_is_pair.nd (mi_items (mv 1)) (blkOk_by (own := [("x", 2)]) (N := N_law_is_pair) (sc := defScope ss_law_is_pair) (by decide +kernel)) (fun _ _ _ _ _ => (mgl_name (i := 2) sc_law_is_pair.nd rfl (by first | exact Or.inl rfl | exact Or.inr rfl))) (fun _ _ _ _ _ => (mts_one (mt_not (mt_val (me_call (g_law_whole.mono (by decide)) hr hgd (by rfl) m_law_whole f_law_whole.kp b_law_whole (fun _ _ _ => den_len) (ma_cons (mv 2) (ma_cons me_int (ma_cons (me_op o_sub (mv 0) me_int) ma_nil star_BinOp) star_Constant) star_Name)))))) (fun _ _ _ _ _ => me_int) (by decide))) (me_lstV ma_nil) (nomark _)) (me_one (me_cmp (o_ne hu) (me_ix (mv 1) me_int (fun _ _ => rfl)) (me_ix (mv 1) me_int (fun _ _ => rfl)) (nomark _)))))))
theorem ok_law_is_tuple {f : Addr} {fd : FuncData} (fn : Fun K "_law_is_tuple" "_law_is_tuple" ss_law_is_tuple f fd) (n_isinstance : mg "isinstance" = none) (n_len : mg "len" = none) (n_tuple : mg "tuple" = none) : FnG P w K mg base 1 f fd ["value", "many"] F_law_is_tuple := by
  refine fnG_of fn sc_law_is_tuple fun cdv A outer s H hr hgd => ⟨M_law_is_tuple, ?_, den_does⟩
  have hu := hr.units
  have hud := L2.hu_of hr
  have hu80 := room80 hr
  have hu65 := Nat.lt_of_le_of_lt (Nat.add_le_add_left (show 65 ≤ 80 by decide) _) hu80
  exact (mss_one (ms_ret (me_and (me_isi (T := "tuple") (by rfl) n_isinstance (by rfl) n_tuple MS.boot_tuple (mv 0)) (me_one (me_cmp (o_eq hu) (me_callB c_len (by rfl) n_len MS.boot_len (ma_cons (mv 0) ma_nil star_Name)) (mv 1) (nomark _))))))
theorem ok_law_due {f : Addr} {fd : FuncData} (fn : Fun K "_law_due" "_law_due" ss_law_due f fd) {a_law_is_pair : Addr} {d_law_is_pair : FuncData} (f_law_is_pair : Fun K "_law_is_pair" "_law_is_pair" ss_law_is_pair a_law_is_pair d_law_is_pair) (g_law_is_pair : FnG P w K mg base 2 a_law_is_pair d_law_is_pair ["places", "value"] F_law_is_pair) (m_law_is_pair : mg "_law_is_pair" = some (.ref a_law_is_pair)) (b_law_is_pair : Binds K d_law_is_pair ["places", "value"] []) {a_law_is_tuple : Addr} {d_law_is_tuple : FuncData} (f_law_is_tuple : Fun K "_law_is_tuple" "_law_is_tuple" ss_law_is_tuple a_law_is_tuple d_law_is_tuple) (g_law_is_tuple : FnG P w K mg base 1 a_law_is_tuple d_law_is_tuple ["value", "many"] F_law_is_tuple) (m_law_is_tuple : mg "_law_is_tuple" = some (.ref a_law_is_tuple)) (b_law_is_tuple : Binds K d_law_is_tuple ["value", "many"] []) {a_law_whole : Addr} {d_law_whole : FuncData} (f_law_whole : Fun K "_law_whole" "_law_whole" ss_law_whole a_law_whole d_law_whole) (g_law_whole : FnG P w K mg base 1 a_law_whole d_law_whole ["value", "low", "high"] F_law_whole) (m_law_whole : mg "_law_whole" = some (.ref a_law_whole)) (b_law_whole : Binds K d_law_whole ["value", "low", "high"] []) (n_enumerate : mg "enumerate" = none) (n_isinstance : mg "isinstance" = none) (n_len : mg "len" = none) (n_tuple : mg "tuple" = none) : FnG P w K mg base 3 f fd ["value"] F_law_due := by
  refine fnG_of fn sc_law_due fun cdv A outer s H hr hgd => ⟨M_law_due, ?_, den_does⟩
  have hu := hr.units
  have hud := L2.hu_of hr
  have hu80 := room80 hr
  have hu65 := Nat.lt_of_le_of_lt (Nat.add_le_add_left (show 65 ≤ 80 by decide) _) hu80
  exact (mss_cons (ms_if (MW.mt (mw_or (mt_not (mt_val (me_call (g_law_is_tuple.mono (by decide)) hr hgd (by rfl) m_law_is_tuple f_law_is_tuple.kp b_law_is_tuple (fun _ _ _ => den_len) (ma_cons (mv 0) (ma_cons me_int ma_nil star_Constant) star_Name)))) (mw_or (mt_not (mt_val (me_call (g_law_whole.mono (by decide)) hr hgd (by rfl) m_law_whole f_law_whole.kp b_law_whole (fun _ _ _ => den_len) (ma_cons (me_ix (mv 0) me_int (fun _ _ => rfl)) (ma_cons me_int (ma_cons me_int ma_nil star_Constant) star_Constant) star_Subscript)))) (mw_or1 (mt_not (mt_val (me_call (g_law_is_pair.mono (by decide)) hr hgd (by rfl) m_law_is_pair f_law_is_pair.kp b_law_is_pair (fun _ _ _ => den_len) (ma_cons (me_ix (mv 0) me_int (fun _ _ => rfl)) (ma_cons (me_slice (mv 0) (mp_some me_int) mp_none) ma_nil star_Subscript) star_Subscript)))))))) (mss_one (ms_ret (me_lstV (ma_cons me_str (ma_cons me_non ma_nil star_Constant) star_Constant)))) mss_nil)
    (mss_cons (ms_if (MW.mt (mw_or (mt_not (mt_val (me_isi (T := "tuple") (by rfl) n_isinstance (by rfl) n_tuple MS.boot_tuple (me_ix (mv 0) me_int (fun _ _ => rfl))))) (mw_or1 (mt_not (mt_chain o_le o_le me_int (me_callB c_len (by rfl) n_len MS.boot_len (ma_cons (me_ix (mv 0) me_int (fun _ _ => rfl)) ma_nil star_Subscript)) me_int))))) (mss_one (ms_ret (me_lstV (ma_cons me_str (ma_cons me_non ma_nil star_Constant) star_Constant)))) mss_nil)
    (mss_cons (ms_setLcF (j := 1) (own := [("at", 2), ("way", 3)]) (e := (mVar 2)) (is := [2, 3]) rfl sc_law_due.nd rfl rfl (sw_true rfl rfl rfl (by decide +kernel)) (mi_enum (by rfl) n_enumerate (ma_cons (me_ix (mv 0) me_int (fun _ _ => rfl)) ma_nil star_Subscript)) (blkOk_by (own := [("at", 2), ("way", 3)]) (N := N_law_due) (sc := defScope ss_law_due) (by decide +kernel)) (fun _ _ _ _ _ => (mgl_tup rfl (mgsl_cons (mgl_name (i := 2) sc_law_due.nd rfl (by first | exact Or.inl rfl | exact Or.inr rfl)) (mgsl_cons (mgl_name (i := 3) sc_law_due.nd rfl (by first | exact Or.inl rfl | exact Or.inr rfl)) mgsl_nil)))) (fun _ _ _ _ _ => (mts_one (mt_not (mt_val (me_call (g_law_is_pair.mono (by decide)) hr hgd (by rfl) m_law_is_pair f_law_is_pair.kp b_law_is_pair (fun _ _ _ => den_len) (ma_cons (me_ix (mv 0) me_int (fun _ _ => rfl)) (ma_cons (mv 3) ma_nil star_Name) star_Subscript)))))) (fun _ _ _ _ _ => (mv 2)) (by decide))
    (mss_one (ms_ret (me_ifExp (mt_cmp (o_ne hu) (mv 1) (me_lstV ma_nil) (nomark _)) (me_lstV (ma_cons me_str (ma_cons (me_ix (mv 1) me_int (fun _ _ => rfl)) ma_nil star_Subscript) star_Constant)) (me_lstV (ma_cons me_str (ma_cons (mv 0) ma_nil star_Name) star_Constant))))))))
theorem ok_law_required {f : Addr} {fd : FuncData} (fn : Fun K "_law_required" "_law_required" ss_law_required f fd) {a_require_mine : Addr} {d_require_mine : FuncData} (f_require_mine : Fun K "require_mine" "require_mine" ss_require_mine a_require_mine d_require_mine) (g_require_mine : FnX P w K mg base 4 a_require_mine d_require_mine ["value"] F_require_mine) (m_require_mine : mg "require_mine" = some (.ref a_require_mine)) (b_require_mine : Binds K d_require_mine ["value"] []) (n_ValueError : mg "ValueError" = none) (n_isinstance : mg "isinstance" = none) {C_InvalidMine : Addr} (gC_InvalidMine : mg "InvalidMine" = some (.ref C_InvalidMine)) (EF_InvalidMine : EF K C_InvalidMine "index") (xm_InvalidMine : PySem.W.exmOne K (.ref C_InvalidMine) (.ref C_InvalidMine) = some true) (kt_InvalidMine : PySem.W.kitOne K (.ref C_InvalidMine) (.type "ValueError") = some true) : FnG P w K mg base 5 f fd ["value"] F_law_required := by
  refine fnG_of fn sc_law_required fun cdv A outer s H hr hgd => ⟨M_law_required, ?_, den_does⟩
  have hu := hr.units
  have hud := L2.hu_of hr
  have hu80 := room80 hr
  have hu65 := Nat.lt_of_le_of_lt (Nat.add_le_add_left (show 65 ≤ 80 by decide) _) hu80
  exact (mss_one (ms_try_as1 (i := 1) rfl rfl sc_law_required.nd rfl rfl (by rfl) gC_InvalidMine xm_InvalidMine (fun pn xe hp => (msxs_one (msx_retX (mex_told (mex_call (g_require_mine.mono (by decide)) hr hgd (by rfl) m_require_mine f_require_mine.kp b_require_mine (fun _ _ _ => denX_len) (ma_cons (mv 0) ma_nil star_Name)))))) (su_ret (sue_is (i := 1) (h := fun fs => (fs.lookup (Str.ofString "index")).map fun d => D.lst [.str (Str.ofString "index"), d]) (T := "ValueError") EF_InvalidMine kt_InvalidMine rfl rfl (by rfl) n_isinstance (by rfl) n_ValueError (by decide +kernel) (sue_fld EF_InvalidMine rfl rfl) (fun Y => ⟨_, pe_lst (pa_cons pe_str pa_nil)⟩)))))
theorem ok_law {f : Addr} {fd : FuncData} (fn : Fun K "law" "law" ss_law f fd) {a_law_bent : Addr} {d_law_bent : FuncData} (f_law_bent : Fun K "_law_bent" "_law_bent" ss_law_bent a_law_bent d_law_bent) (g_law_bent : FnG P w K mg base 17 a_law_bent d_law_bent ["pen", "value", "depth"] F_law_bent) (m_law_bent : mg "_law_bent" = some (.ref a_law_bent)) (b_law_bent : Binds K d_law_bent ["pen", "value", "depth"] []) {a_law_draw : Addr} {d_law_draw : FuncData} (f_law_draw : Fun K "_law_draw" "_law_draw" ss_law_draw a_law_draw d_law_draw) (g_law_draw : FnG P w K mg base 2 a_law_draw d_law_draw ["pen", "bound"] F_law_draw) (m_law_draw : mg "_law_draw" = some (.ref a_law_draw)) (b_law_draw : Binds K d_law_draw ["pen", "bound"] []) {a_law_due : Addr} {d_law_due : FuncData} (f_law_due : Fun K "_law_due" "_law_due" ss_law_due a_law_due d_law_due) (g_law_due : FnG P w K mg base 3 a_law_due d_law_due ["value"] F_law_due) (m_law_due : mg "_law_due" = some (.ref a_law_due)) (b_law_due : Binds K d_law_due ["value"] []) {a_law_mine : Addr} {d_law_mine : FuncData} (f_law_mine : Fun K "_law_mine" "_law_mine" ss_law_mine a_law_mine d_law_mine) (g_law_mine : FnG P w K mg base 4 a_law_mine d_law_mine ["pen", "most", "many"] F_law_mine) (m_law_mine : mg "_law_mine" = some (.ref a_law_mine)) (b_law_mine : Binds K d_law_mine ["pen", "most", "many"] []) {a_law_odd : Addr} {d_law_odd : FuncData} (f_law_odd : Fun K "_law_odd" "_law_odd" ss_law_odd a_law_odd d_law_odd) (g_law_odd : FnG P w K mg base 4 a_law_odd d_law_odd ["pen"] F_law_odd) (m_law_odd : mg "_law_odd" = some (.ref a_law_odd)) (b_law_odd : Binds K d_law_odd ["pen"] []) {a_law_pen : Addr} {d_law_pen : FuncData} (f_law_pen : Fun K "_law_pen" "_law_pen" ss_law_pen a_law_pen d_law_pen) (g_law_pen : FnG P w K mg base 1 a_law_pen d_law_pen ["script"] F_law_pen) (m_law_pen : mg "_law_pen" = some (.ref a_law_pen)) (b_law_pen : Binds K d_law_pen ["script"] []) {a_law_required : Addr} {d_law_required : FuncData} (f_law_required : Fun K "_law_required" "_law_required" ss_law_required a_law_required d_law_required) (g_law_required : FnG P w K mg base 5 a_law_required d_law_required ["value"] F_law_required) (m_law_required : mg "_law_required" = some (.ref a_law_required)) (b_law_required : Binds K d_law_required ["value"] []) (n_len : mg "len" = none) (n_list : mg "list" = none) (n_max : mg "max" = none) (n_min : mg "min" = none) (n_range : mg "range" = none) (n_repr : mg "repr" = none) : FnG P w K mg base 18 f fd ["script"] F_law := by
  refine fnG_of fn sc_law fun cdv A outer s H hr hgd => ⟨M_law, ?_, den_does⟩
  have hu := hr.units
  have hud := L2.hu_of hr
  have hu80 := room80 hr
  have hu65 := Nat.lt_of_le_of_lt (Nat.add_le_add_left (show 65 ≤ 80 by decide) _) hu80
  exact (mss_cons (ms_set (i := 1) sc_law.nd rfl (by first | exact Or.inl rfl | exact Or.inr rfl) (me_call (g_law_pen.mono (by decide)) hr hgd (by rfl) m_law_pen f_law_pen.kp b_law_pen (fun _ _ _ => den_len) (ma_cons (mv 0) ma_nil star_Name)))
    (mss_cons (ms_for PassesOwn.never rfl (mi_range1 (by rfl) n_range (ma_cons (me_callB (c_max rfl) (by rfl) n_max MS.boot_max (ma_cons me_int (ma_cons (me_callB (c_min rfl) (by rfl) n_min MS.boot_min (ma_cons me_int (ma_cons (me_callB c_len (by rfl) n_len MS.boot_len (ma_cons (mv 0) ma_nil star_Name)) ma_nil star_Call) star_Constant)) ma_nil star_Call) star_Constant)) ma_nil star_Call)) (mg_name (i := 2) sc_law.nd rfl (by first | exact Or.inl rfl | exact Or.inr rfl)) (mss_cons (ms_set (i := 3) sc_law.nd rfl (by first | exact Or.inl rfl | exact Or.inr rfl) (me_call (g_law_mine.mono (by decide)) hr hgd (by rfl) m_law_mine f_law_mine.kp b_law_mine (fun _ _ _ => den_len) (ma_cons (mv 1) (ma_cons (me_op o_add me_int (me_call (g_law_draw.mono (by decide)) hr hgd (by rfl) m_law_draw f_law_draw.kp b_law_draw (fun _ _ _ => den_len) (ma_cons (mv 1) (ma_cons me_int ma_nil star_Constant) star_Name))) (ma_cons me_int ma_nil star_Constant) star_BinOp) star_Name)))
    (mss_cons (ms_set (i := 4) sc_law.nd rfl (by first | exact Or.inl rfl | exact Or.inr rfl) (me_lstV (ma_cons (mv 3) (ma_cons (me_call (g_law_bent.mono (by omega)) hr hgd (by rfl) m_law_bent f_law_bent.kp b_law_bent (F_law_bent_len _) (ma_cons (mv 1) (ma_cons (mv 3) (ma_cons me_int ma_nil star_Constant) star_Name) star_Name)) (ma_cons (me_call (g_law_bent.mono (by omega)) hr hgd (by rfl) m_law_bent f_law_bent.kp b_law_bent (F_law_bent_len _) (ma_cons (mv 1) (ma_cons (me_call (g_law_bent.mono (by omega)) hr hgd (by rfl) m_law_bent f_law_bent.kp b_law_bent (F_law_bent_len _) (ma_cons (mv 1) (ma_cons (mv 3) (ma_cons me_int ma_nil star_Constant) star_Name) star_Name)) (ma_cons me_int ma_nil star_Constant) star_Call) star_Name)) (ma_cons (me_call (g_law_odd.mono (by decide)) hr hgd (by rfl) m_law_odd f_law_odd.kp b_law_odd (fun _ _ _ => den_len) (ma_cons (mv 1) ma_nil star_Name)) ma_nil star_Call) star_Call) star_Call) star_Name)))
    (mss_cons (ms_set (i := 4) sc_law.nd rfl (by first | exact Or.inl rfl | exact Or.inr rfl) (me_op o_add (mv 4) (me_lstV (ma_cons (me_tup (ma_cons (me_ix (mv 3) me_int (fun _ _ => rfl)) (ma_cons (me_op o_mulW (me_ix (mv 3) me_int (fun _ _ => rfl)) me_int) (ma_cons (me_ix (mv 3) me_int (fun _ _ => rfl)) (ma_cons (me_ix (mv 3) me_int (fun _ _ => rfl)) ma_nil star_Subscript) star_Subscript) star_BinOp) star_Subscript)) (ma_cons (me_tup (ma_cons (me_ix (mv 3) me_int (fun _ _ => rfl)) (ma_cons (me_tup ma_nil) (ma_cons (me_ix (mv 3) me_int (fun _ _ => rfl)) (ma_cons (me_ix (mv 3) me_int (fun _ _ => rfl)) ma_nil star_Subscript) star_Subscript) star_Tuple) star_Subscript)) (ma_cons (me_callTy (c_fz c_list) (by rfl) n_list MS.boot_list (ma_cons (mv 3) ma_nil star_Name)) ma_nil star_Call) star_Tuple) star_Tuple))))
    (mss_one (ms_for PassesOwn.never rfl (mi_items (mv 4)) (mg_name (i := 5) sc_law.nd rfl (by first | exact Or.inl rfl | exact Or.inr rfl)) (mss_cons (ms_set (i := 6) sc_law.nd rfl (by first | exact Or.inl rfl | exact Or.inr rfl) (me_callB (c_reprX hgd hu80) (by rfl) n_repr MS.boot_repr (ma_cons (mv 5) ma_nil star_Name)))
    (mss_one (ms_if (MW.mt (mw_or (mt_cmp (o_ne hu) (me_callB (c_reprX hgd hu80) (by rfl) n_repr MS.boot_repr (ma_cons (me_call (g_law_required.mono (by decide)) hr hgd (by rfl) m_law_required f_law_required.kp b_law_required (fun _ _ _ => den_len) (ma_cons (mv 5) ma_nil star_Name)) ma_nil star_Call)) (me_callB (c_reprX hgd hu80) (by rfl) n_repr MS.boot_repr (ma_cons (me_call (g_law_due.mono (by decide)) hr hgd (by rfl) m_law_due f_law_due.kp b_law_due (fun _ _ _ => den_len) (ma_cons (mv 5) ma_nil star_Name)) ma_nil star_Call)) (nomark _)) (mw_or1 (mt_cmp (o_ne hu) (me_callB (c_reprX hgd hu80) (by rfl) n_repr MS.boot_repr (ma_cons (mv 5) ma_nil star_Name)) (mv 6) (nomark _))))) (mss_one (ms_ret me_bl)) mss_nil)))))))))
    (mss_one (ms_ret me_bl))))
end
abbrev i_InvalidMine : Stmt := inClass (topS 1) 0
theorem sci_InvalidMine : FnScope ["self", "index"] ["self", "index"] (defScope i_InvalidMine) := ⟨rfl, rfl, rfl, by decide +kernel, rfl, by decide +kernel, by decide +kernel⟩
theorem all_mk {l : PySem.W.OpenLaw} {w : World} {K : PySem.W.Frag} {h : Heap} {mg : Str → Option Value} {fa : Addr} (X : K.In h) (G : h.Ns mainGlobals mg) (hfa : mg "law" = some (.ref fa))
    {e_is_integer_within : Addr} {o_is_integer_within q_is_integer_within w_is_integer_within x_is_integer_within y_is_integer_within z_is_integer_within : Value} {i_is_integer_within j_is_integer_within : Option Addr} {v_is_integer_within : Array (Option Value)} (a1_is_integer_within : PySem.W.nsIn K mainGlobals "is_integer_within" = some (some (.ref e_is_integer_within))) (a2_is_integer_within : K.lookup e_is_integer_within = some ⟨o_is_integer_within, i_is_integer_within, .func (PySem.W.fnOf "is_integer_within" "is_integer_within" (defArgs ss_is_integer_within) (defBody ss_is_integer_within) (defScope ss_is_integer_within) .none q_is_integer_within w_is_integer_within x_is_integer_within j_is_integer_within y_is_integer_within z_is_integer_within), v_is_integer_within⟩) (a3_is_integer_within : PySem.W.codeIn K y_is_integer_within "is_integer_within" = true) (a4_is_integer_within : PySem.W.keepIn K (.ref e_is_integer_within) = true)
    {e_is_place_pair : Addr} {o_is_place_pair q_is_place_pair w_is_place_pair x_is_place_pair y_is_place_pair z_is_place_pair : Value} {i_is_place_pair j_is_place_pair : Option Addr} {v_is_place_pair : Array (Option Value)} (a1_is_place_pair : PySem.W.nsIn K mainGlobals "is_place_pair" = some (some (.ref e_is_place_pair))) (a2_is_place_pair : K.lookup e_is_place_pair = some ⟨o_is_place_pair, i_is_place_pair, .func (PySem.W.fnOf "is_place_pair" "is_place_pair" (defArgs ss_is_place_pair) (defBody ss_is_place_pair) (defScope ss_is_place_pair) .none q_is_place_pair w_is_place_pair x_is_place_pair j_is_place_pair y_is_place_pair z_is_place_pair), v_is_place_pair⟩) (a3_is_place_pair : PySem.W.codeIn K y_is_place_pair "is_place_pair" = true) (a4_is_place_pair : PySem.W.keepIn K (.ref e_is_place_pair) = true)
    {e_has_mine_frame : Addr} {o_has_mine_frame q_has_mine_frame w_has_mine_frame x_has_mine_frame y_has_mine_frame z_has_mine_frame : Value} {i_has_mine_frame j_has_mine_frame : Option Addr} {v_has_mine_frame : Array (Option Value)} (a1_has_mine_frame : PySem.W.nsIn K mainGlobals "has_mine_frame" = some (some (.ref e_has_mine_frame))) (a2_has_mine_frame : K.lookup e_has_mine_frame = some ⟨o_has_mine_frame, i_has_mine_frame, .func (PySem.W.fnOf "has_mine_frame" "has_mine_frame" (defArgs ss_has_mine_frame) (defBody ss_has_mine_frame) (defScope ss_has_mine_frame) .none q_has_mine_frame w_has_mine_frame x_has_mine_frame j_has_mine_frame y_has_mine_frame z_has_mine_frame), v_has_mine_frame⟩) (a3_has_mine_frame : PySem.W.codeIn K y_has_mine_frame "has_mine_frame" = true) (a4_has_mine_frame : PySem.W.keepIn K (.ref e_has_mine_frame) = true)
    {e_require_mine : Addr} {o_require_mine q_require_mine w_require_mine x_require_mine y_require_mine z_require_mine : Value} {i_require_mine j_require_mine : Option Addr} {v_require_mine : Array (Option Value)} (a1_require_mine : PySem.W.nsIn K mainGlobals "require_mine" = some (some (.ref e_require_mine))) (a2_require_mine : K.lookup e_require_mine = some ⟨o_require_mine, i_require_mine, .func (PySem.W.fnOf "require_mine" "require_mine" (defArgs ss_require_mine) (defBody ss_require_mine) (defScope ss_require_mine) .none q_require_mine w_require_mine x_require_mine j_require_mine y_require_mine z_require_mine), v_require_mine⟩) (a3_require_mine : PySem.W.codeIn K y_require_mine "require_mine" = true) (a4_require_mine : PySem.W.keepIn K (.ref e_require_mine) = true)
    {e_law_pen : Addr} {o_law_pen q_law_pen w_law_pen x_law_pen y_law_pen z_law_pen : Value} {i_law_pen j_law_pen : Option Addr} {v_law_pen : Array (Option Value)} (a1_law_pen : PySem.W.nsIn K mainGlobals "_law_pen" = some (some (.ref e_law_pen))) (a2_law_pen : K.lookup e_law_pen = some ⟨o_law_pen, i_law_pen, .func (PySem.W.fnOf "_law_pen" "_law_pen" (defArgs ss_law_pen) (defBody ss_law_pen) (defScope ss_law_pen) .none q_law_pen w_law_pen x_law_pen j_law_pen y_law_pen z_law_pen), v_law_pen⟩) (a3_law_pen : PySem.W.codeIn K y_law_pen "_law_pen" = true) (a4_law_pen : PySem.W.keepIn K (.ref e_law_pen) = true)
    {e_law_fresh : Addr} {o_law_fresh q_law_fresh w_law_fresh x_law_fresh y_law_fresh z_law_fresh : Value} {i_law_fresh j_law_fresh : Option Addr} {v_law_fresh : Array (Option Value)} (a1_law_fresh : PySem.W.nsIn K mainGlobals "_law_fresh" = some (some (.ref e_law_fresh))) (a2_law_fresh : K.lookup e_law_fresh = some ⟨o_law_fresh, i_law_fresh, .func (PySem.W.fnOf "_law_fresh" "_law_fresh" (defArgs ss_law_fresh) (defBody ss_law_fresh) (defScope ss_law_fresh) .none q_law_fresh w_law_fresh x_law_fresh j_law_fresh y_law_fresh z_law_fresh), v_law_fresh⟩) (a3_law_fresh : PySem.W.codeIn K y_law_fresh "_law_fresh" = true) (a4_law_fresh : PySem.W.keepIn K (.ref e_law_fresh) = true)
    {e_law_draw : Addr} {o_law_draw q_law_draw w_law_draw x_law_draw y_law_draw z_law_draw : Value} {i_law_draw j_law_draw : Option Addr} {v_law_draw : Array (Option Value)} (a1_law_draw : PySem.W.nsIn K mainGlobals "_law_draw" = some (some (.ref e_law_draw))) (a2_law_draw : K.lookup e_law_draw = some ⟨o_law_draw, i_law_draw, .func (PySem.W.fnOf "_law_draw" "_law_draw" (defArgs ss_law_draw) (defBody ss_law_draw) (defScope ss_law_draw) .none q_law_draw w_law_draw x_law_draw j_law_draw y_law_draw z_law_draw), v_law_draw⟩) (a3_law_draw : PySem.W.codeIn K y_law_draw "_law_draw" = true) (a4_law_draw : PySem.W.keepIn K (.ref e_law_draw) = true)
    {e_law_one_of : Addr} {o_law_one_of q_law_one_of w_law_one_of x_law_one_of y_law_one_of z_law_one_of : Value} {i_law_one_of j_law_one_of : Option Addr} {v_law_one_of : Array (Option Value)} (a1_law_one_of : PySem.W.nsIn K mainGlobals "_law_one_of" = some (some (.ref e_law_one_of))) (a2_law_one_of : K.lookup e_law_one_of = some ⟨o_law_one_of, i_law_one_of, .func (PySem.W.fnOf "_law_one_of" "_law_one_of" (defArgs ss_law_one_of) (defBody ss_law_one_of) (defScope ss_law_one_of) .none q_law_one_of w_law_one_of x_law_one_of j_law_one_of y_law_one_of z_law_one_of), v_law_one_of⟩) (a3_law_one_of : PySem.W.codeIn K y_law_one_of "_law_one_of" = true) (a4_law_one_of : PySem.W.keepIn K (.ref e_law_one_of) = true)
    {e_law_whole : Addr} {o_law_whole q_law_whole w_law_whole x_law_whole y_law_whole z_law_whole : Value} {i_law_whole j_law_whole : Option Addr} {v_law_whole : Array (Option Value)} (a1_law_whole : PySem.W.nsIn K mainGlobals "_law_whole" = some (some (.ref e_law_whole))) (a2_law_whole : K.lookup e_law_whole = some ⟨o_law_whole, i_law_whole, .func (PySem.W.fnOf "_law_whole" "_law_whole" (defArgs ss_law_whole) (defBody ss_law_whole) (defScope ss_law_whole) .none q_law_whole w_law_whole x_law_whole j_law_whole y_law_whole z_law_whole), v_law_whole⟩) (a3_law_whole : PySem.W.codeIn K y_law_whole "_law_whole" = true) (a4_law_whole : PySem.W.keepIn K (.ref e_law_whole) = true)
    {e_law_odd : Addr} {o_law_odd q_law_odd w_law_odd x_law_odd y_law_odd z_law_odd : Value} {i_law_odd j_law_odd : Option Addr} {v_law_odd : Array (Option Value)} (a1_law_odd : PySem.W.nsIn K mainGlobals "_law_odd" = some (some (.ref e_law_odd))) (a2_law_odd : K.lookup e_law_odd = some ⟨o_law_odd, i_law_odd, .func (PySem.W.fnOf "_law_odd" "_law_odd" (defArgs ss_law_odd) (defBody ss_law_odd) (defScope ss_law_odd) .none q_law_odd w_law_odd x_law_odd j_law_odd y_law_odd z_law_odd), v_law_odd⟩) (a3_law_odd : PySem.W.codeIn K y_law_odd "_law_odd" = true) (a4_law_odd : PySem.W.keepIn K (.ref e_law_odd) = true)
    {e_law_bent : Addr} {o_law_bent q_law_bent w_law_bent x_law_bent y_law_bent z_law_bent : Value} {i_law_bent j_law_bent : Option Addr} {v_law_bent : Array (Option Value)} (a1_law_bent : PySem.W.nsIn K mainGlobals "_law_bent" = some (some (.ref e_law_bent))) (a2_law_bent : K.lookup e_law_bent = some ⟨o_law_bent, i_law_bent, .func (PySem.W.fnOf "_law_bent" "_law_bent" (defArgs ss_law_bent) (defBody ss_law_bent) (defScope ss_law_bent) .none q_law_bent w_law_bent x_law_bent j_law_bent y_law_bent z_law_bent), v_law_bent⟩) (a3_law_bent : PySem.W.codeIn K y_law_bent "_law_bent" = true) (a4_law_bent : PySem.W.keepIn K (.ref e_law_bent) = true)
    {e_law_two_places : Addr} {o_law_two_places q_law_two_places w_law_two_places x_law_two_places y_law_two_places z_law_two_places : Value} {i_law_two_places j_law_two_places : Option Addr} {v_law_two_places : Array (Option Value)} (a1_law_two_places : PySem.W.nsIn K mainGlobals "_law_two_places" = some (some (.ref e_law_two_places))) (a2_law_two_places : K.lookup e_law_two_places = some ⟨o_law_two_places, i_law_two_places, .func (PySem.W.fnOf "_law_two_places" "_law_two_places" (defArgs ss_law_two_places) (defBody ss_law_two_places) (defScope ss_law_two_places) .none q_law_two_places w_law_two_places x_law_two_places j_law_two_places y_law_two_places z_law_two_places), v_law_two_places⟩) (a3_law_two_places : PySem.W.codeIn K y_law_two_places "_law_two_places" = true) (a4_law_two_places : PySem.W.keepIn K (.ref e_law_two_places) = true)
    {e_law_mine : Addr} {o_law_mine q_law_mine w_law_mine x_law_mine y_law_mine z_law_mine : Value} {i_law_mine j_law_mine : Option Addr} {v_law_mine : Array (Option Value)} (a1_law_mine : PySem.W.nsIn K mainGlobals "_law_mine" = some (some (.ref e_law_mine))) (a2_law_mine : K.lookup e_law_mine = some ⟨o_law_mine, i_law_mine, .func (PySem.W.fnOf "_law_mine" "_law_mine" (defArgs ss_law_mine) (defBody ss_law_mine) (defScope ss_law_mine) .none q_law_mine w_law_mine x_law_mine j_law_mine y_law_mine z_law_mine), v_law_mine⟩) (a3_law_mine : PySem.W.codeIn K y_law_mine "_law_mine" = true) (a4_law_mine : PySem.W.keepIn K (.ref e_law_mine) = true)
    {e_law_is_pair : Addr} {o_law_is_pair q_law_is_pair w_law_is_pair x_law_is_pair y_law_is_pair z_law_is_pair : Value} {i_law_is_pair j_law_is_pair : Option Addr} {v_law_is_pair : Array (Option Value)} (a1_law_is_pair : PySem.W.nsIn K mainGlobals "_law_is_pair" = some (some (.ref e_law_is_pair))) (a2_law_is_pair : K.lookup e_law_is_pair = some ⟨o_law_is_pair, i_law_is_pair, .func (PySem.W.fnOf "_law_is_pair" "_law_is_pair" (defArgs ss_law_is_pair) (defBody ss_law_is_pair) (defScope ss_law_is_pair) .none q_law_is_pair w_law_is_pair x_law_is_pair j_law_is_pair y_law_is_pair z_law_is_pair), v_law_is_pair⟩) (a3_law_is_pair : PySem.W.codeIn K y_law_is_pair "_law_is_pair" = true) (a4_law_is_pair : PySem.W.keepIn K (.ref e_law_is_pair) = true)
    {e_law_is_tuple : Addr} {o_law_is_tuple q_law_is_tuple w_law_is_tuple x_law_is_tuple y_law_is_tuple z_law_is_tuple : Value} {i_law_is_tuple j_law_is_tuple : Option Addr} {v_law_is_tuple : Array (Option Value)} (a1_law_is_tuple : PySem.W.nsIn K mainGlobals "_law_is_tuple" = some (some (.ref e_law_is_tuple))) (a2_law_is_tuple : K.lookup e_law_is_tuple = some ⟨o_law_is_tuple, i_law_is_tuple, .func (PySem.W.fnOf "_law_is_tuple" "_law_is_tuple" (defArgs ss_law_is_tuple) (defBody ss_law_is_tuple) (defScope ss_law_is_tuple) .none q_law_is_tuple w_law_is_tuple x_law_is_tuple j_law_is_tuple y_law_is_tuple z_law_is_tuple), v_law_is_tuple⟩) (a3_law_is_tuple : PySem.W.codeIn K y_law_is_tuple "_law_is_tuple" = true) (a4_law_is_tuple : PySem.W.keepIn K (.ref e_law_is_tuple) = true)
    {e_law_due : Addr} {o_law_due q_law_due w_law_due x_law_due y_law_due z_law_due : Value} {i_law_due j_law_due : Option Addr} {v_law_due : Array (Option Value)} (a1_law_due : PySem.W.nsIn K mainGlobals "_law_due" = some (some (.ref e_law_due))) (a2_law_due : K.lookup e_law_due = some ⟨o_law_due, i_law_due, .func (PySem.W.fnOf "_law_due" "_law_due" (defArgs ss_law_due) (defBody ss_law_due) (defScope ss_law_due) .none q_law_due w_law_due x_law_due j_law_due y_law_due z_law_due), v_law_due⟩) (a3_law_due : PySem.W.codeIn K y_law_due "_law_due" = true) (a4_law_due : PySem.W.keepIn K (.ref e_law_due) = true)
    {e_law_required : Addr} {o_law_required q_law_required w_law_required x_law_required y_law_required z_law_required : Value} {i_law_required j_law_required : Option Addr} {v_law_required : Array (Option Value)} (a1_law_required : PySem.W.nsIn K mainGlobals "_law_required" = some (some (.ref e_law_required))) (a2_law_required : K.lookup e_law_required = some ⟨o_law_required, i_law_required, .func (PySem.W.fnOf "_law_required" "_law_required" (defArgs ss_law_required) (defBody ss_law_required) (defScope ss_law_required) .none q_law_required w_law_required x_law_required j_law_required y_law_required z_law_required), v_law_required⟩) (a3_law_required : PySem.W.codeIn K y_law_required "_law_required" = true) (a4_law_required : PySem.W.keepIn K (.ref e_law_required) = true)
    {e_law : Addr} {o_law q_law w_law x_law y_law z_law : Value} {i_law j_law : Option Addr} {v_law : Array (Option Value)} (a1_law : PySem.W.nsIn K mainGlobals "law" = some (some (.ref e_law))) (a2_law : K.lookup e_law = some ⟨o_law, i_law, .func (PySem.W.fnOf "law" "law" (defArgs ss_law) (defBody ss_law) (defScope ss_law) .none q_law w_law x_law j_law y_law z_law), v_law⟩) (a3_law : PySem.W.codeIn K y_law "law" = true) (a4_law : PySem.W.keepIn K (.ref e_law) = true)
    (a5_ValueError : PySem.W.nsIn K mainGlobals "ValueError" = some none)
    (a5_bool : PySem.W.nsIn K mainGlobals "bool" = some none)
    (a5_enumerate : PySem.W.nsIn K mainGlobals "enumerate" = some none)
    (a5_int : PySem.W.nsIn K mainGlobals "int" = some none)
    (a5_isinstance : PySem.W.nsIn K mainGlobals "isinstance" = some none)
    (a5_len : PySem.W.nsIn K mainGlobals "len" = some none)
    (a5_list : PySem.W.nsIn K mainGlobals "list" = some none)
    (a5_max : PySem.W.nsIn K mainGlobals "max" = some none)
    (a5_min : PySem.W.nsIn K mainGlobals "min" = some none)
    (a5_range : PySem.W.nsIn K mainGlobals "range" = some none)
    (a5_repr : PySem.W.nsIn K mainGlobals "repr" = some none)
    (a5_tuple : PySem.W.nsIn K mainGlobals "tuple" = some none)
    {t_MOST_PLACES : Tok} (a6_MOST_PLACES : PySem.W.nsIn K mainGlobals "MOST_PLACES" = some (some (.int (8) t_MOST_PLACES)))
    {t_MOST_WAYS : Tok} (a6_MOST_WAYS : PySem.W.nsIn K mainGlobals "MOST_WAYS" = some (some (.int (12) t_MOST_WAYS)))
    {C_InvalidMine I_InvalidMine N_InvalidMine : Addr} {nm_InvalidMine qn_InvalidMine : Str} {bs_InvalidMine sb_InvalidMine : List Value} {sn_InvalidMine : List Str} {ab_InvalidMine : Bool} {cl_InvalidMine : Option Bool} {dd_InvalidMine : Option Addr} {ka_InvalidMine kb_InvalidMine kc_InvalidMine kd_InvalidMine ke_InvalidMine : Option Value} {oc_InvalidMine kv_InvalidMine dc_InvalidMine pm_InvalidMine cv_InvalidMine ct_InvalidMine : Value} {od_InvalidMine an_InvalidMine : Option Addr} {os_InvalidMine : Array (Option Value)} (z1_InvalidMine : PySem.W.nsIn K mainGlobals "InvalidMine" = some (some (.ref C_InvalidMine))) (z2_InvalidMine : K.lookup C_InvalidMine = some (excClassObj nm_InvalidMine qn_InvalidMine C_InvalidMine N_InvalidMine bs_InvalidMine [.type "ValueError", .type "Exception", .type "BaseException", .type "object"] true sn_InvalidMine sb_InvalidMine ab_InvalidMine cl_InvalidMine dd_InvalidMine ka_InvalidMine kb_InvalidMine kc_InvalidMine kd_InvalidMine ke_InvalidMine "ValueError.__new__")) (z3_InvalidMine : PySem.W.findIn K (.ref C_InvalidMine) "__setattr__" = some (some (.builtin "object.__setattr__"))) (z4_InvalidMine : PySem.W.findIn K (.ref C_InvalidMine) "__getattribute__" = some (some (.builtin "BaseException.__getattribute__"))) (z5_InvalidMine : PySem.W.findIn K (.ref C_InvalidMine) "__getattr__" = some none) (z6_InvalidMine : PySem.W.findIn K (.ref C_InvalidMine) "index" = some none) (z7_InvalidMine : PySem.W.findIn K (.ref C_InvalidMine) "__init__" = some (some (.ref I_InvalidMine))) (z8_InvalidMine : PySem.W.typeIn K (.ref I_InvalidMine) = some (.type "function")) (z9_InvalidMine : K.lookup I_InvalidMine = some ⟨oc_InvalidMine, od_InvalidMine, .func (PySem.W.fnOf "__init__" "InvalidMine.__init__" (defArgs i_InvalidMine) (defBody i_InvalidMine) (defScope i_InvalidMine) .none kv_InvalidMine dc_InvalidMine pm_InvalidMine an_InvalidMine cv_InvalidMine ct_InvalidMine), os_InvalidMine⟩) (z10_InvalidMine : PySem.W.codeIn K cv_InvalidMine "InvalidMine.__init__" = true) (z11_InvalidMine : PySem.W.keepIn K (.ref I_InvalidMine) = true) (z12_InvalidMine : PySem.W.keepIn K (.ref C_InvalidMine) = true) (z13_InvalidMine : PySem.W.subIn K (.ref C_InvalidMine) (.type "BaseException") = some true) (z14_InvalidMine : PySem.W.typeIn K (.ref C_InvalidMine) = some (.type "type")) (z15_InvalidMine : PySem.W.hasDictIn K C_InvalidMine = true) (z16_InvalidMine : PySem.W.subIn K (.ref C_InvalidMine) (.ref C_InvalidMine) = some true) (z17_InvalidMine : PySem.W.findIn K (.ref C_InvalidMine) "__class__" = some (some (.builtin "object.__class__"))) (z18_InvalidMine : PySem.W.mroIn K C_InvalidMine (.type "object") = some true) (z19_InvalidMine : PySem.W.subIn K (.ref C_InvalidMine) (.type "ValueError") = some true) (z20_InvalidMine : PySem.W.specialIn K (.builtin "object.__class__") "__get__" = some (some (.builtin "getset_descriptor.__get__"))) (z21_InvalidMine : PySem.W.takesIn K (.builtin "object.__class__") = some true) :
    ∃ fd : FuncData, (∀ (s : Shared) (v : Value), BindsTo s fd ⟨[v], []⟩ [("script", v)]) ∧ ∀ base : Heap, K.In base → base.Ns mainGlobals mg → FnG l.prog w K mg base 18 fa fd ["script"] F_law := by
  have h0 := hfa.symm.trans (PySem.W.mg_of X G a1_law)
  cases h0
  have f_is_integer_within := fun_mk (st := ss_is_integer_within) a2_is_integer_within a3_is_integer_within a4_is_integer_within
  have b_is_integer_within := f_is_integer_within.binds (ps := ["value", "least", "most"]) fun _ _ _ _ _ _ us hl => match us, hl with | [_, _, _], _ => rfl
  have m_is_integer_within := PySem.W.mg_of X G a1_is_integer_within
  have f_is_place_pair := fun_mk (st := ss_is_place_pair) a2_is_place_pair a3_is_place_pair a4_is_place_pair
  have b_is_place_pair := f_is_place_pair.binds (ps := ["value", "places"]) fun _ _ _ _ _ _ us hl => match us, hl with | [_, _], _ => rfl
  have m_is_place_pair := PySem.W.mg_of X G a1_is_place_pair
  have f_has_mine_frame := fun_mk (st := ss_has_mine_frame) a2_has_mine_frame a3_has_mine_frame a4_has_mine_frame
  have b_has_mine_frame := f_has_mine_frame.binds (ps := ["value"]) fun _ _ _ _ _ _ us hl => match us, hl with | [_], _ => rfl
  have m_has_mine_frame := PySem.W.mg_of X G a1_has_mine_frame
  have f_require_mine := fun_mk (st := ss_require_mine) a2_require_mine a3_require_mine a4_require_mine
  have b_require_mine := f_require_mine.binds (ps := ["value"]) fun _ _ _ _ _ _ us hl => match us, hl with | [_], _ => rfl
  have m_require_mine := PySem.W.mg_of X G a1_require_mine
  have f_law_pen := fun_mk (st := ss_law_pen) a2_law_pen a3_law_pen a4_law_pen
  have b_law_pen := f_law_pen.binds (ps := ["script"]) fun _ _ _ _ _ _ us hl => match us, hl with | [_], _ => rfl
  have m_law_pen := PySem.W.mg_of X G a1_law_pen
  have f_law_fresh := fun_mk (st := ss_law_fresh) a2_law_fresh a3_law_fresh a4_law_fresh
  have b_law_fresh := f_law_fresh.binds (ps := ["pen"]) fun _ _ _ _ _ _ us hl => match us, hl with | [_], _ => rfl
  have m_law_fresh := PySem.W.mg_of X G a1_law_fresh
  have f_law_draw := fun_mk (st := ss_law_draw) a2_law_draw a3_law_draw a4_law_draw
  have b_law_draw := f_law_draw.binds (ps := ["pen", "bound"]) fun _ _ _ _ _ _ us hl => match us, hl with | [_, _], _ => rfl
  have m_law_draw := PySem.W.mg_of X G a1_law_draw
  have f_law_one_of := fun_mk (st := ss_law_one_of) a2_law_one_of a3_law_one_of a4_law_one_of
  have b_law_one_of := f_law_one_of.binds (ps := ["pen", "some"]) fun _ _ _ _ _ _ us hl => match us, hl with | [_, _], _ => rfl
  have m_law_one_of := PySem.W.mg_of X G a1_law_one_of
  have f_law_whole := fun_mk (st := ss_law_whole) a2_law_whole a3_law_whole a4_law_whole
  have b_law_whole := f_law_whole.binds (ps := ["value", "low", "high"]) fun _ _ _ _ _ _ us hl => match us, hl with | [_, _, _], _ => rfl
  have m_law_whole := PySem.W.mg_of X G a1_law_whole
  have f_law_odd := fun_mk (st := ss_law_odd) a2_law_odd a3_law_odd a4_law_odd
  have b_law_odd := f_law_odd.binds (ps := ["pen"]) fun _ _ _ _ _ _ us hl => match us, hl with | [_], _ => rfl
  have m_law_odd := PySem.W.mg_of X G a1_law_odd
  have f_law_bent := fun_mk (st := ss_law_bent) a2_law_bent a3_law_bent a4_law_bent
  have b_law_bent := f_law_bent.binds (ps := ["pen", "value", "depth"]) fun _ _ _ _ _ _ us hl => match us, hl with | [_, _, _], _ => rfl
  have m_law_bent := PySem.W.mg_of X G a1_law_bent
  have f_law_two_places := fun_mk (st := ss_law_two_places) a2_law_two_places a3_law_two_places a4_law_two_places
  have b_law_two_places := f_law_two_places.binds (ps := ["pen", "places"]) fun _ _ _ _ _ _ us hl => match us, hl with | [_, _], _ => rfl
  have m_law_two_places := PySem.W.mg_of X G a1_law_two_places
  have f_law_mine := fun_mk (st := ss_law_mine) a2_law_mine a3_law_mine a4_law_mine
  have b_law_mine := f_law_mine.binds (ps := ["pen", "most", "many"]) fun _ _ _ _ _ _ us hl => match us, hl with | [_, _, _], _ => rfl
  have m_law_mine := PySem.W.mg_of X G a1_law_mine
  have f_law_is_pair := fun_mk (st := ss_law_is_pair) a2_law_is_pair a3_law_is_pair a4_law_is_pair
  have b_law_is_pair := f_law_is_pair.binds (ps := ["places", "value"]) fun _ _ _ _ _ _ us hl => match us, hl with | [_, _], _ => rfl
  have m_law_is_pair := PySem.W.mg_of X G a1_law_is_pair
  have f_law_is_tuple := fun_mk (st := ss_law_is_tuple) a2_law_is_tuple a3_law_is_tuple a4_law_is_tuple
  have b_law_is_tuple := f_law_is_tuple.binds (ps := ["value", "many"]) fun _ _ _ _ _ _ us hl => match us, hl with | [_, _], _ => rfl
  have m_law_is_tuple := PySem.W.mg_of X G a1_law_is_tuple
  have f_law_due := fun_mk (st := ss_law_due) a2_law_due a3_law_due a4_law_due
  have b_law_due := f_law_due.binds (ps := ["value"]) fun _ _ _ _ _ _ us hl => match us, hl with | [_], _ => rfl
  have m_law_due := PySem.W.mg_of X G a1_law_due
  have f_law_required := fun_mk (st := ss_law_required) a2_law_required a3_law_required a4_law_required
  have b_law_required := f_law_required.binds (ps := ["value"]) fun _ _ _ _ _ _ us hl => match us, hl with | [_], _ => rfl
  have m_law_required := PySem.W.mg_of X G a1_law_required
  have f_law := fun_mk (st := ss_law) a2_law a3_law a4_law
  have b_law := f_law.binds (ps := ["script"]) fun _ _ _ _ _ _ us hl => match us, hl with | [_], _ => rfl
  have n_ValueError := PySem.W.mg_none_of X G a5_ValueError
  have n_bool := PySem.W.mg_none_of X G a5_bool
  have n_enumerate := PySem.W.mg_none_of X G a5_enumerate
  have n_int := PySem.W.mg_none_of X G a5_int
  have n_isinstance := PySem.W.mg_none_of X G a5_isinstance
  have n_len := PySem.W.mg_none_of X G a5_len
  have n_list := PySem.W.mg_none_of X G a5_list
  have n_max := PySem.W.mg_none_of X G a5_max
  have n_min := PySem.W.mg_none_of X G a5_min
  have n_range := PySem.W.mg_none_of X G a5_range
  have n_repr := PySem.W.mg_none_of X G a5_repr
  have n_tuple := PySem.W.mg_none_of X G a5_tuple
  have k_MOST_PLACES := PySem.W.mg_of X G a6_MOST_PLACES
  have k_MOST_WAYS := PySem.W.mg_of X G a6_MOST_WAYS
  have T_InvalidMine : OexC K C_InvalidMine := ⟨⟨nm_InvalidMine, qn_InvalidMine, N_InvalidMine, bs_InvalidMine, _, sn_InvalidMine, sb_InvalidMine, ab_InvalidMine, cl_InvalidMine, dd_InvalidMine, ka_InvalidMine, kb_InvalidMine, kc_InvalidMine, kd_InvalidMine, ke_InvalidMine, z2_InvalidMine, by decide +kernel⟩, z3_InvalidMine, z13_InvalidMine, z14_InvalidMine, z12_InvalidMine⟩
  have gC_InvalidMine := PySem.W.mg_of X G z1_InvalidMine
  have fi_InvalidMine := fun_mk (st := i_InvalidMine) z9_InvalidMine z10_InvalidMine z11_InvalidMine
  have bi_InvalidMine := fi_InvalidMine.binds (ps := ["self", "index"]) fun _ _ _ _ _ _ us hl => match us, hl with | [_, _], _ => rfl
  have EF_InvalidMine : EF K C_InvalidMine "index" := ⟨PySem.W.isCls_of_has z15_InvalidMine, z4_InvalidMine, z5_InvalidMine, z13_InvalidMine, z15_InvalidMine, z17_InvalidMine, z20_InvalidMine, z21_InvalidMine, z18_InvalidMine, z6_InvalidMine⟩
  have xm_InvalidMine := PySem.W.exm_ref z13_InvalidMine z15_InvalidMine z14_InvalidMine z16_InvalidMine
  have kt_InvalidMine : PySem.W.kitOne K (.ref C_InvalidMine) (.type "ValueError") = some true := kit_of z19_InvalidMine (by decide +kernel)
  refine ⟨PySem.W.fnOf "law" "law" (defArgs ss_law) (defBody ss_law) (defScope ss_law) .none q_law w_law x_law j_law y_law z_law, fun s v => .of_eq rfl, fun base _ _ => ?_⟩
  have E_InvalidMine : EC l.prog w K mg base "InvalidMine" "index" C_InvalidMine I_InvalidMine _ := ⟨T_InvalidMine, gC_InvalidMine, z7_InvalidMine, z8_InvalidMine, init_ok T_InvalidMine z6_InvalidMine fi_InvalidMine sci_InvalidMine rfl rfl rfl rfl rfl (fun _ => rfl), bi_InvalidMine⟩
  have g_is_integer_within : FnG l.prog w K mg base 1 e_is_integer_within _ ["value", "least", "most"] F_is_integer_within := ok_is_integer_within f_is_integer_within n_bool n_int n_isinstance
  have g_is_place_pair : FnG l.prog w K mg base 2 e_is_place_pair _ ["value", "places"] F_is_place_pair := ok_is_place_pair f_is_place_pair f_is_integer_within g_is_integer_within m_is_integer_within b_is_integer_within n_isinstance n_len n_tuple
  have g_has_mine_frame : FnG l.prog w K mg base 3 e_has_mine_frame _ ["value"] F_has_mine_frame := ok_has_mine_frame f_has_mine_frame f_is_integer_within g_is_integer_within m_is_integer_within b_is_integer_within f_is_place_pair g_is_place_pair m_is_place_pair b_is_place_pair n_isinstance n_len n_tuple k_MOST_PLACES k_MOST_WAYS
  have g_require_mine : FnX l.prog w K mg base 4 e_require_mine _ ["value"] F_require_mine := ok_require_mine f_require_mine f_has_mine_frame g_has_mine_frame m_has_mine_frame b_has_mine_frame f_is_place_pair g_is_place_pair m_is_place_pair b_is_place_pair n_enumerate E_InvalidMine
  have g_law_pen : FnG l.prog w K mg base 1 e_law_pen _ ["script"] F_law_pen := ok_law_pen f_law_pen n_list
  have g_law_fresh : FnG l.prog w K mg base 1 e_law_fresh _ ["pen"] F_law_fresh := ok_law_fresh f_law_fresh n_int n_len n_range
  have g_law_draw : FnG l.prog w K mg base 2 e_law_draw _ ["pen", "bound"] F_law_draw := ok_law_draw f_law_draw f_law_fresh g_law_fresh m_law_fresh b_law_fresh n_int
  have g_law_one_of : FnG l.prog w K mg base 3 e_law_one_of _ ["pen", "some"] F_law_one_of := ok_law_one_of f_law_one_of f_law_draw g_law_draw m_law_draw b_law_draw n_len
  have g_law_whole : FnG l.prog w K mg base 1 e_law_whole _ ["value", "low", "high"] F_law_whole := ok_law_whole f_law_whole n_bool n_int n_isinstance
  have g_law_odd : FnG l.prog w K mg base 4 e_law_odd _ ["pen"] F_law_odd := ok_law_odd f_law_odd f_law_one_of g_law_one_of m_law_one_of b_law_one_of
  have g_law_bent : FnG l.prog w K mg base 17 e_law_bent _ ["pen", "value", "depth"] F_law_bent := ok_law_bent f_law_bent m_law_bent b_law_bent f_law_draw g_law_draw m_law_draw b_law_draw f_law_odd g_law_odd m_law_odd b_law_odd n_bool n_int n_isinstance n_len n_list n_tuple
  have g_law_two_places : FnG l.prog w K mg base 3 e_law_two_places _ ["pen", "places"] F_law_two_places := ok_law_two_places f_law_two_places f_law_draw g_law_draw m_law_draw b_law_draw n_int
  have g_law_mine : FnG l.prog w K mg base 4 e_law_mine _ ["pen", "most", "many"] F_law_mine := ok_law_mine f_law_mine f_law_draw g_law_draw m_law_draw b_law_draw f_law_one_of g_law_one_of m_law_one_of b_law_one_of f_law_two_places g_law_two_places m_law_two_places b_law_two_places n_len n_min n_range n_tuple
  have g_law_is_pair : FnG l.prog w K mg base 2 e_law_is_pair _ ["places", "value"] F_law_is_pair := ok_law_is_pair f_law_is_pair f_law_whole g_law_whole m_law_whole b_law_whole n_isinstance n_len n_tuple
  have g_law_is_tuple : FnG l.prog w K mg base 1 e_law_is_tuple _ ["value", "many"] F_law_is_tuple := ok_law_is_tuple f_law_is_tuple n_isinstance n_len n_tuple
  have g_law_due : FnG l.prog w K mg base 3 e_law_due _ ["value"] F_law_due := ok_law_due f_law_due f_law_is_pair g_law_is_pair m_law_is_pair b_law_is_pair f_law_is_tuple g_law_is_tuple m_law_is_tuple b_law_is_tuple f_law_whole g_law_whole m_law_whole b_law_whole n_enumerate n_isinstance n_len n_tuple
  have g_law_required : FnG l.prog w K mg base 5 e_law_required _ ["value"] F_law_required := ok_law_required f_law_required f_require_mine g_require_mine m_require_mine b_require_mine n_ValueError n_isinstance gC_InvalidMine EF_InvalidMine xm_InvalidMine kt_InvalidMine
  have g_law : FnG l.prog w K mg base 18 fa _ ["script"] F_law := ok_law f_law f_law_bent g_law_bent m_law_bent b_law_bent f_law_draw g_law_draw m_law_draw b_law_draw f_law_due g_law_due m_law_due b_law_due f_law_mine g_law_mine m_law_mine b_law_mine f_law_odd g_law_odd m_law_odd b_law_odd f_law_pen g_law_pen m_law_pen b_law_pen f_law_required g_law_required m_law_required b_law_required n_len n_list n_max n_min n_range n_repr
  exact g_law
end K01
open PySem PySem.W PyProof.Rows
set_option maxHeartbeats 0 in
theorem PySem.Challenge.cw_windways_k01_mines_required_holds : PySem.Challenge.rw_windways_k01_mines_required.Holds := by
  w_on; o_law; k_head; (case hw => w_witness2)
  k_fill
  refine MS.walkG (l := PySem.Challenge.rw_windways_k01_mines_required) (n := 63) (k := 18) (x := "script") rfl (by decide) rfl ⟨rfl, by decide, by decide⟩ (fun w h Y => PySem.W.kIn_of Y) K01.law_ok ?F
  case F =>
    intro w mg fa h KX G hmg
    refine' K01.all_mk KX G hmg ?a1_is_integer_within ?a2_is_integer_within ?a3_is_integer_within ?a4_is_integer_within ?a1_is_place_pair ?a2_is_place_pair ?a3_is_place_pair ?a4_is_place_pair ?a1_has_mine_frame ?a2_has_mine_frame ?a3_has_mine_frame ?a4_has_mine_frame ?a1_require_mine ?a2_require_mine ?a3_require_mine ?a4_require_mine ?a1_law_pen ?a2_law_pen ?a3_law_pen ?a4_law_pen ?a1_law_fresh ?a2_law_fresh ?a3_law_fresh ?a4_law_fresh ?a1_law_draw ?a2_law_draw ?a3_law_draw ?a4_law_draw ?a1_law_one_of ?a2_law_one_of ?a3_law_one_of ?a4_law_one_of ?a1_law_whole ?a2_law_whole ?a3_law_whole ?a4_law_whole ?a1_law_odd ?a2_law_odd ?a3_law_odd ?a4_law_odd ?a1_law_bent ?a2_law_bent ?a3_law_bent ?a4_law_bent ?a1_law_two_places ?a2_law_two_places ?a3_law_two_places ?a4_law_two_places ?a1_law_mine ?a2_law_mine ?a3_law_mine ?a4_law_mine ?a1_law_is_pair ?a2_law_is_pair ?a3_law_is_pair ?a4_law_is_pair ?a1_law_is_tuple ?a2_law_is_tuple ?a3_law_is_tuple ?a4_law_is_tuple ?a1_law_due ?a2_law_due ?a3_law_due ?a4_law_due ?a1_law_required ?a2_law_required ?a3_law_required ?a4_law_required ?a1_law ?a2_law ?a3_law ?a4_law ?a5_ValueError ?a5_bool ?a5_enumerate ?a5_int ?a5_isinstance ?a5_len ?a5_list ?a5_max ?a5_min ?a5_range ?a5_repr ?a5_tuple ?a6_MOST_PLACES ?a6_MOST_WAYS ?z1_InvalidMine ?z2_InvalidMine ?z3_InvalidMine ?z4_InvalidMine ?z5_InvalidMine ?z6_InvalidMine ?z7_InvalidMine ?z8_InvalidMine ?z9_InvalidMine ?z10_InvalidMine ?z11_InvalidMine ?z12_InvalidMine ?z13_InvalidMine ?z14_InvalidMine ?z15_InvalidMine ?z16_InvalidMine ?z17_InvalidMine ?z18_InvalidMine ?z19_InvalidMine ?z20_InvalidMine ?z21_InvalidMine
    (case a1_is_integer_within => k_is); (case a2_is_integer_within => k_is); (case a3_is_integer_within => k_is); (case a4_is_integer_within => k_is); (case a1_is_place_pair => k_is); (case a2_is_place_pair => k_is); (case a3_is_place_pair => k_is); (case a4_is_place_pair => k_is); (case a1_has_mine_frame => k_is); (case a2_has_mine_frame => k_is); (case a3_has_mine_frame => k_is); (case a4_has_mine_frame => k_is); (case a1_require_mine => k_is); (case a2_require_mine => k_is); (case a3_require_mine => k_is); (case a4_require_mine => k_is); (case a1_law_pen => k_is); (case a2_law_pen => k_is); (case a3_law_pen => k_is); (case a4_law_pen => k_is); (case a1_law_fresh => k_is); (case a2_law_fresh => k_is); (case a3_law_fresh => k_is); (case a4_law_fresh => k_is); (case a1_law_draw => k_is); (case a2_law_draw => k_is); (case a3_law_draw => k_is); (case a4_law_draw => k_is); (case a1_law_one_of => k_is); (case a2_law_one_of => k_is); (case a3_law_one_of => k_is); (case a4_law_one_of => k_is); (case a1_law_whole => k_is); (case a2_law_whole => k_is); (case a3_law_whole => k_is); (case a4_law_whole => k_is); (case a1_law_odd => k_is); (case a2_law_odd => k_is); (case a3_law_odd => k_is); (case a4_law_odd => k_is); (case a1_law_bent => k_is); (case a2_law_bent => k_is); (case a3_law_bent => k_is); (case a4_law_bent => k_is); (case a1_law_two_places => k_is); (case a2_law_two_places => k_is); (case a3_law_two_places => k_is); (case a4_law_two_places => k_is); (case a1_law_mine => k_is); (case a2_law_mine => k_is); (case a3_law_mine => k_is); (case a4_law_mine => k_is); (case a1_law_is_pair => k_is); (case a2_law_is_pair => k_is); (case a3_law_is_pair => k_is); (case a4_law_is_pair => k_is); (case a1_law_is_tuple => k_is); (case a2_law_is_tuple => k_is); (case a3_law_is_tuple => k_is); (case a4_law_is_tuple => k_is); (case a1_law_due => k_is); (case a2_law_due => k_is); (case a3_law_due => k_is); (case a4_law_due => k_is); (case a1_law_required => k_is); (case a2_law_required => k_is); (case a3_law_required => k_is); (case a4_law_required => k_is); (case a1_law => k_is); (case a2_law => k_is); (case a3_law => k_is); (case a4_law => k_is); (case a5_ValueError => k_is); (case a5_bool => k_is); (case a5_enumerate => k_is); (case a5_int => k_is); (case a5_isinstance => k_is); (case a5_len => k_is); (case a5_list => k_is); (case a5_max => k_is); (case a5_min => k_is); (case a5_range => k_is); (case a5_repr => k_is); (case a5_tuple => k_is); (case a6_MOST_PLACES => k_is); (case a6_MOST_WAYS => k_is); (case z1_InvalidMine => k_is); (case z2_InvalidMine => k_is); (case z3_InvalidMine => k_is); (case z4_InvalidMine => k_is); (case z5_InvalidMine => k_is); (case z6_InvalidMine => k_is); (case z7_InvalidMine => k_is); (case z8_InvalidMine => k_is); (case z9_InvalidMine => k_is); (case z10_InvalidMine => k_is); (case z11_InvalidMine => k_is); (case z12_InvalidMine => k_is); (case z13_InvalidMine => k_is); (case z14_InvalidMine => k_is); (case z15_InvalidMine => k_is); (case z16_InvalidMine => k_is); (case z17_InvalidMine => k_is); (case z18_InvalidMine => k_is); (case z19_InvalidMine => k_is); (case z20_InvalidMine => k_is); (case z21_InvalidMine => k_is)

